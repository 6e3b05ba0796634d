import PyProof.Rows.All
import Wide.All
import OpenK.AllK
import Wide.FinOn
import PyProof.EqAt
import PyProof.EqKinds
import PyProof.TupleCall
import PyProof.ListStr
import PyProof.EnumFor
import PyProof.EnumMake
import PyProof.EnumStmt
import PyProof.StrLawsTight
import PyProof.StrLawsReplace
import PyProof.StrCalls6
import PyProof.ToksMono
import PyProof.StationsW
import PyProof.RulesTry
import PyProof.ExcInit
import PyProof.ExcClass3
import OpenK.KOwn
import PyProof.ExcBaseAll.ValueError
import PyProof.RulesAs
import PyProof.NsDelKeeps
import KE.KIsAll
import PyProof.ExcArgsOwn
import PyProof.InstStoreFacts
import KE.KIntText
import PyProof.FString
import PyProof.CompMap
import PySem.Challenge.RW_tintrow_k60_folds
set_option Elab.async false
set_option linter.all false
set_option maxRecDepth 100000
namespace L2
open PySem PySem.Spec PyProof.Rows

/-- a key: an int or a str -/
abbrev Key := Sum Int Str
def keyIs : Key → Value → Bool
  | .inl k, v => Value.isInt k v
  | .inr x, v => Value.isStrOf x v
def keyH (w : World) : Key → Int
  | .inl k => hashInt k
  | .inr x => hashStr w x
theorem keyIs_shape : ∀ {k : Key} {v : Value}, keyIs k v = true → (∃ i t, k = Sum.inl i ∧ v = Value.int i t) ∨ (∃ x t, k = Sum.inr x ∧ v = Value.str x t)
  | .inl i, v, h => by
    obtain ⟨t, e⟩ := Value.isInt_shape (k := i) (v := v) h
    exact .inl ⟨i, t, rfl, e⟩
  | .inr x, v, h => by
    obtain ⟨t, e⟩ := Value.isStrOf_shape (x := x) (v := v) h
    exact .inr ⟨x, t, rfl, e⟩
theorem key_ll (a b : Int) : decide ((Sum.inl a : Key) = Sum.inl b) = (a == b) := by
  by_cases e : a = b
  · subst e; simp
  · have h : ¬ (Sum.inl a : Key) = Sum.inl b := fun q => e (Sum.inl.inj q)
    rw [decide_eq_false h]
    exact (beq_eq_false_iff_ne.mpr e).symm
theorem key_rr (a b : Str) : decide ((Sum.inr a : Key) = Sum.inr b) = decide (a = b) := by
  by_cases e : a = b
  · subst e; simp
  · have h : ¬ (Sum.inr a : Key) = Sum.inr b := fun q => e (Sum.inr.inj q)
    rw [decide_eq_false h, decide_eq_false e]
theorem key_lr (a : Int) (b : Str) : decide ((Sum.inl a : Key) = Sum.inr b) = false := decide_eq_false (fun q => nomatch q)
theorem key_rl (a : Str) (b : Int) : decide ((Sum.inr a : Key) = Sum.inl b) = false := decide_eq_false (fun q => nomatch q)

def mixKind (prog : Program) (w : World) : PySem.KeyKind prog w Key where
  is := keyIs
  hash := keyH w
  inj := fun v a b ha hb => by
    rcases keyIs_shape ha with ⟨i, t, rfl, rfl⟩ | ⟨x, t, rfl, rfl⟩
    · rcases keyIs_shape hb with ⟨j, u, rfl, e⟩ | ⟨y, u, rfl, e⟩
      · injection e with e1 _; rw [e1]
      · exact nomatch e
    · rcases keyIs_shape hb with ⟨j, u, rfl, e⟩ | ⟨y, u, rfl, e⟩
      · exact nomatch e
      · injection e with e1 _; rw [e1]
  byValue := fun k v h => by
    rcases keyIs_shape h with ⟨i, t, rfl, rfl⟩ | ⟨x, t, rfl, rfl⟩ <;> rfl
  pyHash := fun hv h => by
    rcases keyIs_shape hv with ⟨i, t, rfl, rfl⟩ | ⟨x, t, rfl, rfl⟩
    · exact wpAny_pyHash_int h
    · exact wpAny_pyHash_str h
  eqBool := fun hu hv h => by
    rcases keyIs_shape hu with ⟨i, t, rfl, rfl⟩ | ⟨x, t, rfl, rfl⟩
    · rcases keyIs_shape hv with ⟨j, u, rfl, rfl⟩ | ⟨y, u, rfl, rfl⟩
      · rw [key_ll] at h; exact wpAny_eqBool_int h
      · rw [key_lr] at h; exact SeqAt.EqAt.int_str i t y u _ _ _ _ h
    · rcases keyIs_shape hv with ⟨j, u, rfl, rfl⟩ | ⟨y, u, rfl, rfl⟩
      · rw [key_rl] at h; exact SeqAt.EqAt.str_int x t j u _ _ _ _ h
      · rw [key_rr] at h; exact wpAny_eqBool_str h
  «strs» := fun k x t v h => by
    rcases keyIs_shape h with ⟨i, u, rfl, e⟩ | ⟨y, u, rfl, e⟩
    · exact nomatch e
    · injection e with e1 _
      subst e1
      cases v <;> rfl

end L2

namespace L2
open PySem PySem.Spec PyProof.Rows

/-- a value, without the heap -/
inductive V where
  | non | bl (b : Bool) | int (i : Int) | str (x : Str) | byt (b : Array UInt8) | flt (b : UInt64) | ref (a : Addr) | ty (n : String)
  deriving DecidableEq

def RelV : V → Value → Prop
  | .non, u => u = Value.none
  | .bl b, u => u = Value.bool b
  | .int i, u => ∃ t, u = Value.int i t
  | .str x, u => ∃ t, u = Value.str x t
  | .byt b, u => ∃ t, u = Value.bytes b t
  | .flt b, u => ∃ t, u = Value.float b t
  | .ref a, u => u = Value.ref a
  | .ty n, u => u = Value.type n

abbrev Vals : List V → List Value → Prop := Paired RelV
theorem Vals.length {xs : List V} {us : List Value} (r : Vals xs us) : xs.length = us.length := Paired.length r
theorem Vals.get : ∀ {xs : List V} {us : List Value} {i : Nat} {x : V}, Vals xs us → xs[i]? = some x → ∃ u, us[i]? = some u ∧ RelV x u
  | _, _, _, _, .nil, e => by simp at e
  | _, _, 0, _, .cons r _, e => by simp at e; subst e; exact ⟨_, rfl, r⟩
  | _, _, i + 1, x, .cons _ t, e => by
    obtain ⟨u, h1, h2⟩ := Vals.get (i := i) (x := x) t (by simpa using e)
    exact ⟨u, by simpa using h1, h2⟩
theorem Vals.set {x : V} {u : Value} (r : RelV x u) : ∀ {xs : List V} {us : List Value} (i : Nat), Vals xs us → Vals (xs.set i x) (us.set i u)
  | _, _, _, .nil => .nil
  | _, _, 0, .cons _ t => .cons r t
  | _, _, i + 1, .cons q t => .cons q (Vals.set r i t)
theorem Vals.append : ∀ {xs ys : List V} {us ws : List Value}, Vals xs us → Vals ys ws → Vals (xs ++ ys) (us ++ ws)
  | _, _, _, _, .nil, s => s
  | _, _, _, _, .cons r t, s => .cons r (Vals.append t s)
theorem Vals.take : ∀ {xs : List V} {us : List Value} (n : Nat), Vals xs us → Vals (xs.take n) (us.take n)
  | _, _, 0, _ => .nil
  | _, _, _ + 1, .nil => .nil
  | _, _, n + 1, .cons r t => .cons r (Vals.take n t)
theorem Vals.drop : ∀ {xs : List V} {us : List Value} (n : Nat), Vals xs us → Vals (xs.drop n) (us.drop n)
  | _, _, 0, r => r
  | _, _, _ + 1, .nil => .nil
  | _, _, n + 1, .cons _ t => Vals.drop n t
def RelO : Option V → Option Value → Prop
  | some v, some u => RelV v u
  | none, none => True
  | _, _ => False
def KV {κ : Type} : List (κ × V) → List (κ × Value) → Prop := Paired fun (p : κ × V) (q : κ × Value) => p.1 = q.1 ∧ RelV p.2 q.2

/-- a key of a dict (00_mix): an int or a text -/
def kV : Key → V
  | .inl i => .int i
  | .inr x => .str x

/-- what stands at a tracked address -/
inductive HO where
  /-- a list -/
  | lst (xs : List V)
  /-- a tuple (never changes) -/
  | tup (xs : List V)
  /-- a dict whose keys are ints and texts; one whose keys are tuples of ints and texts (the empty one is both) -/
  | dK (kvs : List (Key × V)) | dT (kvs : List (List Key × V))
  /-- a set of ints: its members, its size -/
  | set (S : Int → Bool) (n : Nat)
  /-- an instance of the class at C, its dict at dx, its attributes -/
  | ins (C dx : Addr) (fs : List (Str × V))
  /-- the dict of the instance at x -/
  | own (x : Addr)
  /-- the dict of an exception -/
  | xd (fs : List (Str × V))
  /-- a bound method, f of x -/
  | met (f x : Addr)
  /-- a range object lo, lo + 1, .. below hi -/
  | rng (lo hi : Int)
  /-- a thing that is known to the object (the script; a dict while a loop walks it): read, never written while it is so -/
  | frz (o : Obj) (u : HO)
  /-- a code object's table -/
  | tbl (ps : Array Value)
  /-- any other thing, by what is true of its one object (a def of one's own: SetO a S n := HO.ext fun h => ..) -/
  | ext (φ : Heap → Prop)

abbrev Hp := Addr → Option HO
def upd (H : Hp) (a : Addr) (o : HO) : Hp := fun b => if b = a then some o else H b
theorem upd_same {H : Hp} {a : Addr} {o : HO} : upd H a o a = some o := by unfold upd; rw [if_pos rfl]
theorem upd_ne {H : Hp} {a b : Addr} {o : HO} (h : b ≠ a) : upd H a o b = H b := by unfold upd; rw [if_neg h]
/-- two objects of different content stand apart -/
theorem ne_of {H : Hp} {a b : Addr} {o u : HO} (h : H a = some o) (h' : H b = some u) (d : o ≠ u) : a ≠ b := by
  intro e; subst e; rw [h] at h'; exact d (Option.some.inj h')
theorem ne_of_none {H : Hp} {a b : Addr} {o : HO} (h : H a = some o) (h' : H b = none) : a ≠ b := by
  intro e; subst e; rw [h] at h'; cases h'

section
variable (P : Program) (w : World)
def ObjOk (H : Hp) (h : Heap) (a : Addr) : HO → Prop
  | .lst xs => xs.length ≤ sizeLine ∧ ∃ (its : List Value) (n : Nat), Vals xs its ∧ h.get? a = some { cls := .type "list", data := .seq its.toArray n }
  | .tup xs => xs.length ≤ sizeLine ∧ ∃ its : List Value, Vals xs its ∧ IsTup h a its.toArray
  | .dK kvs => kvs.length ≤ sizeLine ∧ (a == sysModules) = false ∧ ∃ vs, KV kvs vs ∧ h.DictOf (mixKind P w) a vs
  | .dT kvs => kvs.length ≤ sizeLine ∧ (a == sysModules) = false ∧ ∃ xs : List (List Key × Addr × Value),
      Paired (fun (p : List Key × V) (q : List Key × Addr × Value) => p.1 = q.1 ∧ H q.2.1 = some (.tup (p.1.map kV)) ∧ RelV p.2 q.2.2) kvs xs ∧
      ∃ o es ep, h.get? a = some o ∧ o.ExactDict ∧ o.data = .dict es ep ∧ es.toList = xs.map (entryOfKey (tupleKind (mixKind P w))) ∧ (xs.map (·.1)).Nodup
  | .set S n => h.SetOf (intKind P w) a S n
  | .ins C dx fs => H dx = some (.own a) ∧ fs.length ≤ 1000 ∧ dx ≠ a ∧ h.get? a = some (PySem.W.instObj C dx) ∧
      ∃ mA, h.Ns1 dx mA ∧ (∀ f, RelO (fs.lookup f) (mA f)) ∧ PySem.Within mA (fs.map (·.1))
  | .own _ => ∃ o, h.get? a = some o
  | .xd fs => ∃ mA, h.Ns1 a mA ∧ ∀ f, RelO (fs.lookup f) (mA f)
  | .rng lo hi => ∃ t u v, h.get? a = some { cls := .type "range", data := .fields #[.int lo t, .int hi u, .int 1 v] }
  | .frz o u => h.get? a = some o ∧ ObjOk H h a u
  | .tbl ps => h.get? a = some { cls := .none, data := .fields ps }
  | .met f x => h.get? a = some (PySem.W.methodObj (.ref f) (.ref x))
  | .ext φ => φ h ∧ (∃ o, h.get? a = some o) ∧ ∀ h1 h2 : Heap, φ h1 → (∀ o, h1.get? a = some o → h2.get? a = some o) → φ h2
/-- the abstract heap is held -/
def HOk (H : Hp) (h : Heap) : Prop := ∀ a o, H a = some o → ObjOk P w H h a o
end

section
variable {P : Program} {w : World} {H H' : Hp} {h h' : Heap} {a : Addr} {o : HO}
theorem ObjOk.lt (x : ObjOk P w H h a o) : a < h.objs.size := by
  cases o with
  | lst xs => obtain ⟨_, _, _, _, e⟩ := x; exact Heap.lt_size e
  | tup xs => obtain ⟨_, _, _, p⟩ := x; exact p.lt
  | dK kvs => obtain ⟨_, _, _, _, o, _, _, e, _⟩ := x; exact Heap.lt_size e
  | dT kvs => obtain ⟨_, _, _, _, o, _, _, e, _⟩ := x; exact Heap.lt_size e
  | set S n => obtain ⟨o, _, _, _, e, _⟩ := x; exact Heap.lt_size e
  | ins C dx fs => obtain ⟨_, _, _, e, _⟩ := x; exact Heap.lt_size e
  | own y => obtain ⟨_, e⟩ := x; exact Heap.lt_size e
  | xd fs => obtain ⟨_, ⟨_, _, _, e, _⟩, _⟩ := x; exact Heap.lt_size e
  | rng lo hi => obtain ⟨_, _, _, e⟩ := x; exact Heap.lt_size e
  | frz ob u => obtain ⟨e, _⟩ := x; exact Heap.lt_size e
  | tbl ps => exact Heap.lt_size (show h.get? a = some _ from x)
  | met f y => exact Heap.lt_size (show h.get? a = some _ from x)
  | ext φ => obtain ⟨_, ⟨_, e⟩, _⟩ := x; exact Heap.lt_size e
theorem Paired.mapP {α β : Type} {F G : α → β → Prop} : ∀ {l₁ : List α} {l₂ : List β}, Paired F l₁ l₂ → (∀ a b, F a b → G a b) → Paired G l₁ l₂
  | _, _, .nil, _ => .nil
  | _, _, .cons r t, f => .cons (f _ _ r) (Paired.mapP t f)
/-- what an object's description leans on: its own object, its own dict, the tuples -/
theorem ObjOk.stay (x : ObjOk P w H h a o) (k : ∀ b u, (b = a ∨ H b = some (.own a)) → h.get? b = some u → h'.get? b = some u)
    (ho : ∀ b, H b = some (.own a) → H' b = some (.own a)) (ht : ∀ b xs, H b = some (.tup xs) → H' b = some (.tup xs)) : ObjOk P w H' h' a o := by
  induction o with
  | lst xs => obtain ⟨z, its, n, r, e⟩ := x; exact ⟨z, its, n, r, k _ _ (.inl rfl) e⟩
  | tup xs => obtain ⟨z, its, r, ob, e, c⟩ := x; exact ⟨z, its, r, ob, k _ _ (.inl rfl) e, c⟩
  | dK kvs => obtain ⟨z, y, vs, r, ob, es, ep, e, c⟩ := x; exact ⟨z, y, vs, r, ob, es, ep, k _ _ (.inl rfl) e, c⟩
  | dT kvs =>
    obtain ⟨z, y, xs, r, ob, es, ep, e, c⟩ := x
    exact ⟨z, y, xs, Paired.mapP r fun p q z => ⟨z.1, ht _ _ z.2.1, z.2.2⟩, ob, es, ep, k _ _ (.inl rfl) e, c⟩
  | set S n => obtain ⟨ob, es, ep, t, e, c⟩ := x; exact ⟨ob, es, ep, t, k _ _ (.inl rfl) e, c⟩
  | ins C dx fs =>
    obtain ⟨d, z, ne, e, mA, ⟨od, es, ep, e2, c⟩, r⟩ := x
    exact ⟨ho _ d, z, ne, k _ _ (.inl rfl) e, mA, ⟨od, es, ep, k _ _ (.inr d) e2, c⟩, r⟩
  | own y => obtain ⟨ob, e⟩ := x; exact ⟨ob, k _ _ (.inl rfl) e⟩
  | xd fs => obtain ⟨mA, ⟨od, es, ep, e, c⟩, r⟩ := x; exact ⟨mA, ⟨od, es, ep, k _ _ (.inl rfl) e, c⟩, r⟩
  | rng lo hi => obtain ⟨t, u, v, e⟩ := x; exact ⟨t, u, v, k _ _ (.inl rfl) e⟩
  | frz ob u ih => obtain ⟨e, q⟩ := x; exact ⟨k _ _ (.inl rfl) e, ih q⟩
  | tbl ps =>
    have e : h.get? a = some { cls := .none, data := .fields ps } := x
    show h'.get? a = some { cls := .none, data := .fields ps }
    exact k a _ (.inl rfl) e
  | met f y =>
    have e : h.get? a = some (PySem.W.methodObj (.ref f) (.ref y)) := x
    show h'.get? a = some (PySem.W.methodObj (.ref f) (.ref y))
    exact k a _ (.inl rfl) e
  | ext φ => obtain ⟨p, ⟨o, e⟩, st⟩ := x; exact ⟨st _ _ p fun o q => k _ _ (.inl rfl) q, ⟨o, k _ _ (.inl rfl) e⟩, st⟩
theorem HOk.lt (x : HOk P w H h) (e : H a = some o) : a < h.objs.size := (x a o e).lt
theorem HOk.fresh (x : HOk P w H h) (e : h.objs.size ≤ a) : H a = none := by
  cases q : H a with
  | none => rfl
  | some u => exact absurd (Nat.lt_of_lt_of_le (x.lt q) e) (Nat.lt_irrefl _)
/-- every object of the heap is kept -/
theorem HOk.kept (x : HOk P w H h) (k : ∀ b u, h.get? b = some u → h'.get? b = some u) : HOk P w H h' := fun a o e =>
  (x a o e).stay (fun b u _ q => k b u q) (fun _ q => q) fun _ _ q => q
/-- a new object is laid and tracked -/
theorem HOk.laid (x : HOk P w H h) (k : ∀ b u, h.get? b = some u → h'.get? b = some u) (hp : h.objs.size ≤ a) (new : ObjOk P w (upd H a o) h' a o) : HOk P w (upd H a o) h' := fun b u e => by
  have hn := x.fresh hp
  by_cases hb : b = a
  · subst hb; rw [upd_same] at e; cases e; exact new
  · rw [upd_ne hb] at e
    exact (x b u e).stay (fun c v _ q => k c v q) (fun c q => by rw [upd_ne (ne_of_none q hn)]; exact q) fun c xs q => by rw [upd_ne (ne_of_none q hn)]; exact q
end

/-- what may be read as u: it is u, or a known u -/
def Rd (H : Hp) (a : Addr) (u : HO) : Prop := H a = some u ∨ ∃ o, H a = some (.frz o u)
theorem Rd.ok {P : Program} {w : World} {H : Hp} {h : Heap} {a : Addr} {u : HO} (r : Rd H a u) (x : HOk P w H h) : ObjOk P w H h a u := by
  rcases r with r | ⟨o, r⟩
  · exact x a u r
  · obtain ⟨_, q⟩ := x a _ r
    exact q
/-- what may be written -/
def Mut : Option HO → Prop
  | some (.lst _) => True
  | some (.dK _) => True
  | some (.dT _) => True
  | some (.set _ _) => True
  | some (.ins _ _ _) => True
  | some (.ext _) => True
  | _ => False
section
variable {P : Program} {w : World} {H : Hp} {h h' : Heap} {x e : Addr} {o' : HO}
/-- the object at e is changed: x itself, or the dict of the instance x -/
theorem HOk.write (ok : HOk P w H h) (mu : Mut (H x)) (he : e = x ∨ H e = some (.own x)) (k : ∀ b u, b ≠ e → h.get? b = some u → h'.get? b = some u) (heo : ∃ u, h'.get? e = some u)
    (new : ObjOk P w (upd H x o') h' x o') : HOk P w (upd H x o') h' := fun b u q => by
  have nown : ∀ c y, H c = some (.own y) → c ≠ x := fun c y r z => by subst z; rw [r] at mu; exact mu
  have ntup : ∀ c xs, H c = some (.tup xs) → c ≠ x := fun c xs r z => by subst z; rw [r] at mu; exact mu
  by_cases hb : b = x
  · subst hb; rw [upd_same] at q; cases q; exact new
  · rw [upd_ne hb] at q
    by_cases hbe : b = e
    · have q' : H b = some (.own x) := by
        rcases he with z | z
        · exact absurd (hbe.trans z) hb
        · rw [hbe]; exact z
      rw [q] at q'; cases q'
      obtain ⟨v, hv⟩ := heo
      exact ⟨v, by rw [hbe]; exact hv⟩
    · refine (ok b u q).stay (fun c v hc r => k c v ?_ r) (fun c r => by rw [upd_ne (nown c b r)]; exact r) fun c xs r => by rw [upd_ne (ntup c xs r)]; exact r
      rcases hc with rfl | hc
      · exact hbe
      · rintro rfl
        rcases he with z | z
        · exact nown c b hc z
        · rw [hc] at z; cases z; exact hb rfl
end

structure Un (fs ex : List Addr) (H H' : Hp) (h h' : Heap) : Prop where
  keep : ∀ b o, h.get? b = some o → H b = none → b ∉ fs → b ∉ ex → h'.get? b = some o
  slot : ∀ b o, h.get? b = some o → H b = none → b ∈ fs → b ∉ ex → ∃ sl, h'.get? b = some { o with slots := sl }
  free : ∀ b o, h.get? b = some o → H b = none → b ∉ ex → H' b = none
  there : ∀ b o, h.get? b = some o → b ∉ ex → ∃ o', h'.get? b = some o'
  tups : ∀ b xs, H b = some (.tup xs) → H' b = some (.tup xs)
  frzs : ∀ b o u, H b = some (.frz o u) → H' b = some (.frz o u)
  tbls : ∀ b ps, H b = some (.tbl ps) → ∃ more, H' b = some (.tbl (ps ++ more))
section
variable {fs fs' ex ex' : List Addr} {H H1 H2 : Hp} {h h1 h2 h' : Heap} {a x e : Addr} {o : HO}
theorem Un.any (u : Un fs ex H H1 h h1) {b : Addr} {ob : Obj} (q : h.get? b = some ob) (n : H b = none) (hx : b ∉ ex) : ∃ sl, h1.get? b = some { ob with slots := sl } := by
  by_cases hb : b ∈ fs
  · exact u.slot b ob q n hb hx
  · exact ⟨ob.slots, u.keep b ob q n hb hx⟩
theorem Un.kept (k : ∀ b u, h.get? b = some u → h'.get? b = some u) : Un fs ex H H h h' :=
  ⟨fun b ob q _ _ _ => k b ob q, fun b ob q _ _ _ => ⟨ob.slots, k b ob q⟩, fun _ _ _ n _ => n, fun b ob q _ => ⟨ob, k b ob q⟩, fun _ _ q => q, fun _ _ _ q => q, fun _ ps q => ⟨#[], by rw [q]; simp⟩⟩
theorem Un.refl : Un fs ex H H h h := Un.kept fun _ _ q => q
theorem Un.laid (k : ∀ b u, h.get? b = some u → h'.get? b = some u) (hp : h.objs.size ≤ a) (hn : H a = none) : Un fs ex H (upd H a o) h h' where
  keep := fun b u q _ _ _ => k b u q
  slot := fun b u q _ _ _ => ⟨u.slots, k b u q⟩
  free := fun b u q n _ => by rw [upd_ne (Nat.ne_of_lt (Nat.lt_of_lt_of_le (Heap.lt_size q) hp))]; exact n
  there := fun b u q _ => ⟨u, k b u q⟩
  tups := fun b xs q => by rw [upd_ne (ne_of_none q hn)]; exact q
  frzs := fun b u xs q => by rw [upd_ne (ne_of_none q hn)]; exact q
  tbls := fun b ps q => ⟨#[], by rw [upd_ne (ne_of_none q hn), q]; simp⟩
theorem Un.write (mu : Mut (H x)) (he : e = x ∨ H e = some (.own x)) (k : ∀ b u, b ≠ e → h.get? b = some u → h'.get? b = some u) (heo : ∃ u, h'.get? e = some u) : Un fs ex H (upd H x o) h h' := by
  have hx : ∀ b, H b = none → b ≠ x := fun b n z => by subst z; rw [n] at mu; exact mu
  have hb : ∀ b, H b = none → b ≠ e := fun b n z => by
    subst z
    rcases he with r | r
    · exact hx b n r
    · rw [n] at r; cases r
  have hm : ∀ b u, H b = some u → ¬ Mut (some u) → b ≠ x := fun b u q nm z => by subst z; rw [q] at mu; exact nm mu
  refine ⟨fun b u q n _ _ => k b u (hb b n) q, fun b u q n _ _ => ⟨u.slots, k b u (hb b n) q⟩, fun b u q n _ => by rw [upd_ne (hx b n)]; exact n, fun b u q _ => ?_,
    fun b xs q => by rw [upd_ne (hm b _ q fun z => z)]; exact q, fun b u xs q => by rw [upd_ne (hm b _ q fun z => z)]; exact q, fun b ps q => ⟨#[], by rw [upd_ne (hm b _ q fun z => z), q]; simp⟩⟩
  by_cases hbe : b = e
  · subst hbe; exact heo
  · exact ⟨u, k b u hbe q⟩
end

def trk (h : Heap) (H : Hp) : List Addr := (List.range h.objs.size).filter fun a => (H a).isSome
def hidT (h : Heap) (H : Hp) : Heap := PySem.W.hideAll h (trk h H)
theorem hidT_size (h : Heap) (H : Hp) : (hidT h H).objs.size = h.objs.size := PySem.W.hideAll_size _ _
theorem hidT_get {h : Heap} {H : Hp} {b : Addr} {o : Obj} (e : h.get? b = some o) (n : H b = none) : (hidT h H).get? b = some o :=
  PySem.W.hideAll_get _ e fun hm => by
    have q : (H b).isSome = true := (List.mem_filter.mp hm).2
    rw [n] at q; simp at q
theorem of_hidT {h : Heap} {H : Hp} {b : Addr} {o : Obj} (e : (hidT h H).get? b = some o) : h.get? b = some o ∧ H b = none := by
  have e' : h.get? b = some o := PySem.W.of_hideAll (trk h H) e
  refine ⟨e', ?_⟩
  cases q : H b with
  | none => rfl
  | some x =>
    have hm : b ∈ trk h H := List.mem_filter.mpr ⟨List.mem_range.mpr (Heap.lt_size e'), by simp [q]⟩
    have z : (hidT h H).get? b = none := PySem.W.hideAll_none (trk h H) hm
    rw [z] at e; cases e

end L2

namespace L2
open PySem PySem.Spec PyProof.Rows

/-- the module's facts, over the base: the heap at the law's entry without what is tracked there -/
structure Mod (K : PySem.W.Frag) (mg : Str → Option Value) (base : Heap) : Prop where
  kin : K.In base
  glob : base.Ns mainGlobals mg
  blt : ∃ mb, base.Ns builtinsNs mb ∧ ∀ x : Str, x ≠ "__name__" → mb x = bootBuiltins x
  nolimit : base.NoLimit

/-- the context: a def's body (or a comprehension's block) running. base: fixed through the whole law; s₀, H₀: the entry; outer: the frames whose slots others may change (a def's callers); stack: all frames that run;
   ex: iterators that were made ahead of the entry and are walked here (a comprehension's); fn: the names whose cells were made at the entry (a def: all; a comprehension's block: its own); calm: not within an except suite; pn: pins that every state bears; xe: what is wanted of an exception that leaves the code -/
structure Cx where
  prog : Program
  w : World
  K : PySem.W.Frag
  mg : Str → Option Value
  base : Heap
  A : Around
  N : List Str
  s₀ : Shared
  H₀ : Hp
  env : Env
  outer : List Env
  stack : List Env
  ex : List Addr
  fn : Str → Bool
  calm : Bool
  pn : List (Addr × Obj)
  xe : Value → Shared → Prop
/-- the callers' frames -/
def frs (l : List Env) : List Addr := l.filterMap (·.frame)
abbrev Cx.fs (X : Cx) : List Addr := frs X.outer

def Vis (sc : Scope) (x : Str) : Prop := sc.names.lookup x = some .local ∨ sc.names.lookup x = some .cell ∨ sc.names.lookup x = some .free
def Loc (sc : Scope) (x : Str) : Prop := sc.names.lookup x = some .local ∨ sc.names.lookup x = some .cell
def Look (env : Env) (h : Heap) (m : Str → Option Value) (x : Str) (u : Value) : Prop :=
  (env.kindOf x = some .local ∧ m x = some u) ∨ ((env.kindOf x = some .cell ∨ env.kindOf x = some .free) ∧ ∃ c, env.cells.lookup x = some c ∧ h.IsCell c (some u))

structure Cx.Ok (X : Cx) : Prop where
  mod : Mod X.K X.mg X.base
  kind : X.env.scope.kind = .function
  glob : X.env.globals = mainGlobals
  blt : X.env.builtins = builtinsNs
  above : X.s₀.heap.objs.size ≤ X.env.locals
  inj : ∀ x y c, X.env.cells.lookup x = some c → X.env.cells.lookup y = some c → x = y
  has : ∀ x, (X.env.kindOf x = some .cell ∨ X.env.kindOf x = some .free) → ∃ c, X.env.cells.lookup x = some c
  cab : ∀ x c, X.fn x = true → X.env.cells.lookup x = some c → X.s₀.heap.objs.size ≤ c
  hd : X.calm = true → X.A.handled = none
  frames : X.A.frames = some X.stack
  stk : X.stack = X.outer ∨ (X.stack = X.env :: X.outer ∧ X.env.frame = some X.env.locals)
  exf : ∀ b ∈ X.ex, b ≠ X.env.locals ∧ ∀ x c, X.env.cells.lookup x = some c → c ≠ b
  bs : ∀ b o, X.base.get? b = some o → X.s₀.heap.get? b = some o ∧ X.H₀ b = none
  bsz : X.base.objs.size ≤ X.s₀.heap.objs.size
  noex : ∀ b o, X.base.get? b = some o → b ∉ X.ex
  exfs : ∀ b ∈ X.ex, b ∉ X.fs
  funs : X.s₀.heap.FunFrames X.base X.outer
  frf : ∀ b ∈ X.fs, X.H₀ b = none

structure Inv (X : Cx) (pins : List (Addr × Obj)) (σ : List (Option V)) (H : Hp) (s : Shared) : Prop where
  ok : X.Ok
  os : s.os = X.s₀.os
  bare : AllBare s.gens
  base : Un X.fs X.ex X.H₀ H X.s₀.heap s.heap
  loc : ∃ m, s.heap.Ns X.env.locals m ∧ ∀ (i : Nat) (x : Str) (v : V), X.N[i]? = some x → σ[i]? = some (some v) → Vis X.env.scope x → ∃ u, RelV v u ∧ Look X.env s.heap m x u
  cell : ∀ x c, X.env.cells.lookup x = some c → ∃ v, s.heap.IsCell c v
  free : H X.env.locals = none
  freeC : ∀ x c, X.env.cells.lookup x = some c → H c = none
  pin : ∀ p ∈ X.pn ++ pins, s.heap.get? p.1 = some p.2 ∧ H p.1 = none ∧ p.1 ≠ X.env.locals ∧ p.1 ∉ X.fs ∧ ∀ v, p.2.data ≠ .cell v
  hok : HOk X.prog X.w H s.heap
  len : σ.length = X.N.length

section
variable {X : Cx} {pins : List (Addr × Obj)} {σ : List (Option V)} {H H' : Hp} {s : Shared} {h' : Heap}

theorem Cx.Ok.nofr (ok : X.Ok) {b : Addr} {o : Obj} (e : X.base.get? b = some o) : b ∉ X.fs := fun hb => by
  have := (ok.funs.mem hb).1
  rw [e] at this; cases this
theorem Inv.bs (I : Inv X pins σ H s) : ∀ b o, X.base.get? b = some o → s.heap.get? b = some o ∧ H b = none := fun b o e =>
  ⟨I.base.keep b o (I.ok.bs b o e).1 (I.ok.bs b o e).2 (I.ok.nofr e) (I.ok.noex b o e), I.base.free b o (I.ok.bs b o e).1 (I.ok.bs b o e).2 (I.ok.noex b o e)⟩
theorem Inv.bk (I : Inv X pins σ H s) : ∀ b o, X.base.get? b = some o → s.heap.get? b = some o := fun b o e => (I.bs b o e).1
theorem Inv.mod (I : Inv X pins σ H s) : Mod X.K X.mg X.base := I.ok.mod
theorem Inv.kIn (I : Inv X pins σ H s) : X.K.In s.heap := I.ok.mod.kin.keeps I.bk
theorem Inv.lt (I : Inv X pins σ H s) : X.env.locals < s.heap.objs.size := let ⟨_, hn, _⟩ := I.loc; hn.lt
theorem Inv.sz (I : Inv X pins σ H s) : X.s₀.heap.objs.size ≤ s.heap.objs.size := Nat.le_trans I.ok.above (Nat.le_of_lt I.lt)
theorem Inv.nofs (I : Inv X pins σ H s) {a : Addr} (h : s.heap.objs.size ≤ a) : a ∉ X.fs := fun hb => by
  obtain ⟨_, o, ho, _⟩ := I.ok.funs.mem hb
  exact absurd (Nat.lt_of_lt_of_le (Heap.lt_size ho) (Nat.le_trans I.sz h)) (Nat.lt_irrefl _)
theorem Inv.cne (I : Inv X pins σ H s) : ∀ x c, X.env.cells.lookup x = some c → c ≠ X.env.locals := fun x c e z => by
  obtain ⟨v, o, ho, hd⟩ := I.cell x c e
  obtain ⟨m, ⟨o', es, ep, ho', hd', _⟩, _⟩ := I.loc
  rw [z, ho'] at ho; cases ho; rw [hd'] at hd; cases hd
theorem Inv.funs (I : Inv X pins σ H s) : s.heap.FunFrames X.base X.outer := by
  have all : ∀ (l : List Env), (∀ b ∈ frs l, b ∈ X.fs) → X.s₀.heap.FunFrames X.base l → s.heap.FunFrames X.base l := by
    intro l
    induction l with
    | nil => intro _ _; trivial
    | cons env r ih =>
      intro hs hl
      obtain ⟨hk, ⟨L, o, hf, hn, ho, hd⟩, hr⟩ := hl
      have hL : L ∈ X.fs := hs L (by unfold frs; rw [List.filterMap_cons, hf]; exact List.mem_cons_self)
      obtain ⟨sl, e⟩ := I.base.slot L o ho (I.ok.frf L hL) hL fun z => I.ok.exfs L z hL
      exact ⟨hk, ⟨L, _, hf, hn, e, hd⟩, ih (fun b hb => hs b (by unfold frs; rw [List.filterMap_cons, hf]; exact List.mem_cons_of_mem _ hb)) hr⟩
  exact all X.outer (fun _ hb => hb) I.ok.funs

/-- the frames that run, for a call -/
theorem Inv.stack (I : Inv X pins σ H s) : s.heap.FunFrames X.base X.stack := by
  rcases I.ok.stk with e | ⟨e, hf⟩
  · rw [e]; exact I.funs
  · rw [e]
    obtain ⟨m, hn, _⟩ := I.loc
    refine .cons (by rw [I.ok.kind]; decide) hf hn ?_ I.funs
    exact Heap.get?_none_of_le (Nat.le_trans I.ok.bsz I.ok.above)
theorem Inv.stkSub (I : Inv X pins σ H s) : ∀ b ∈ frs X.stack, b ∈ X.env.locals :: X.fs := fun b hb => by
  rcases I.ok.stk with e | ⟨e, hf⟩
  · rw [e] at hb; exact List.mem_cons_of_mem _ hb
  · rw [e] at hb
    unfold frs at hb
    rw [List.filterMap_cons, hf] at hb
    exact hb
theorem Inv.stkFree (I : Inv X pins σ H s) : ∀ b ∈ frs X.stack, H b = none := fun b hb => by
  rcases List.mem_cons.mp (I.stkSub b hb) with e | hb
  · rw [e]; exact I.free
  · obtain ⟨_, o, ho, _⟩ := I.ok.funs.mem hb
    exact I.base.free b o ho (I.ok.frf b hb) fun z => I.ok.exfs b z hb

/-- THE STEP: the untracked objects but the frame and the records at ch are kept (the callers' frames up to slots), the frame's map is kept, the new abstract heap is held -/
theorem Inv.step {g' : Array GenState} {t' : Nat} {d' : Drawn} {ch : List Addr} (I : Inv X pins σ H s)
    (hch : ∀ b ∈ ch, (b ∈ X.ex ∨ X.s₀.heap.objs.size ≤ b) ∧ b ≠ X.env.locals ∧ (∀ x c, X.env.cells.lookup x = some c → c ≠ b) ∧ ∀ p ∈ X.pn ++ pins, p.1 ≠ b)
    (keep : ∀ b o, b ≠ X.env.locals → b ∉ X.fs → b ∉ ch → s.heap.get? b = some o → H b = none → h'.get? b = some o)
    (slot : ∀ b o, b ≠ X.env.locals → b ∈ X.fs → b ∉ ch → s.heap.get? b = some o → H b = none → ∃ sl, h'.get? b = some { o with slots := sl }) (free : ∀ b o, b ∉ ch → s.heap.get? b = some o → H b = none → H' b = none)
    (there : ∀ b o, b ∉ ch → s.heap.get? b = some o → ∃ o', h'.get? b = some o')
    (tups : ∀ b xs, H b = some (.tup xs) → H' b = some (.tup xs)) (frzs : ∀ b o u, H b = some (.frz o u) → H' b = some (.frz o u)) (tbls : ∀ b ps, H b = some (.tbl ps) → ∃ more, H' b = some (.tbl (ps ++ more)))
    (ns : ∀ m, s.heap.Ns X.env.locals m → h'.Ns X.env.locals m) (hok : HOk X.prog X.w H' h') (hg : AllBare g') :
    Inv X pins σ H' { s with heap := h', gens := g', drawn := d', toks := t' } := by
  have neL : ∀ b o, X.s₀.heap.get? b = some o → b ≠ X.env.locals := fun b o e => Nat.ne_of_lt (Nat.lt_of_lt_of_le (Heap.lt_size e) I.ok.above)
  have neC : ∀ b o, X.s₀.heap.get? b = some o → b ∉ X.ex → b ∉ ch := fun b o e hx hb => by
    rcases (hch b hb).1 with z | z
    · exact hx z
    · exact absurd (Nat.lt_of_lt_of_le (Heap.lt_size e) z) (Nat.lt_irrefl _)
  have cellK : ∀ x c, X.env.cells.lookup x = some c → ∀ v, s.heap.IsCell c v → h'.IsCell c v := fun x c e v ⟨o, ho, hd⟩ => by
    have nch : c ∉ ch := fun z => (hch c z).2.2.1 x c e rfl
    by_cases hc : c ∈ X.fs
    · obtain ⟨sl, q⟩ := slot c o (I.cne x c e) hc nch ho (I.freeC x c e)
      exact ⟨_, q, hd⟩
    · exact ⟨o, keep c o (I.cne x c e) hc nch ho (I.freeC x c e), hd⟩
  refine ⟨I.ok, I.os, hg, ⟨fun b o e n hb hx => ?_, fun b o e n hb hx => ?_, fun b o e n hx => ?_, fun b o e hx => ?_, fun b xs e => tups b xs (I.base.tups b xs e), fun b o xs e => frzs b o xs (I.base.frzs b o xs e), fun b ps e => ?_⟩, ?_, fun x c e => ?_, ?_, fun x c e => ?_, fun p hp => ?_, hok, I.len⟩
  · exact keep b o (neL b o e) hb (neC b o e hx) (I.base.keep b o e n hb hx) (I.base.free b o e n hx)
  · obtain ⟨sl, e1⟩ := I.base.slot b o e n hb hx
    obtain ⟨sl', e2⟩ := slot b _ (neL b o e) hb (neC b o e hx) e1 (I.base.free b o e n hx)
    exact ⟨sl', e2⟩
  · obtain ⟨o', e1⟩ := I.base.there b o e hx
    exact free b o' (neC b o e hx) e1 (I.base.free b o e n hx)
  · obtain ⟨o', e1⟩ := I.base.there b o e hx
    exact there b o' (neC b o e hx) e1
  · obtain ⟨m1, e1⟩ := I.base.tbls b ps e
    obtain ⟨m2, e2⟩ := tbls b _ e1
    exact ⟨m1 ++ m2, by rw [e2, Array.append_assoc]⟩
  · obtain ⟨m, hn, hl⟩ := I.loc
    refine ⟨m, ns m hn, fun i x v e1 e2 e3 => ?_⟩
    obtain ⟨u, r, l⟩ := hl i x v e1 e2 e3
    refine ⟨u, r, ?_⟩
    rcases l with l | ⟨k, c, e, z⟩
    · exact .inl l
    · exact .inr ⟨k, c, e, cellK x c e _ z⟩
  · obtain ⟨v, z⟩ := I.cell x c e
    exact ⟨v, cellK x c e v z⟩
  · obtain ⟨m, ⟨o, _, _, ho, _⟩, _⟩ := I.loc
    exact free _ o (fun z => (hch _ z).2.1 rfl) ho I.free
  · obtain ⟨v, o, ho, hd⟩ := I.cell x c e
    exact free c o (fun z => (hch c z).2.2.1 x c e rfl) ho (I.freeC x c e)
  · obtain ⟨e, n, ne, nf, d⟩ := I.pin p hp
    have nch : p.1 ∉ ch := fun z => (hch p.1 z).2.2.2 p hp rfl
    exact ⟨keep p.1 p.2 ne nf nch e n, free p.1 p.2 nch e n, ne, nf, d⟩
/-- .. where the frame's own object is kept too -/
theorem Inv.un {t' : Nat} (I : Inv X pins σ H s) (u : Un X.fs [] H H' s.heap h') (hok : HOk X.prog X.w H' h') : Inv X pins σ H' { s with heap := h', toks := t' } := by
  obtain ⟨m, ⟨o, es, ep, ho, r⟩, _⟩ := id I.loc
  obtain ⟨sl, hL⟩ := u.any ho I.free (by simp)
  exact I.step (g' := s.gens) (d' := s.drawn) (ch := []) (fun _ z => nomatch z) (fun b o _ hb _ e n => u.keep b o e n hb (by simp)) (fun b o _ hb _ e n => u.slot b o e n hb (by simp)) (fun b o _ e n => u.free b o e n (by simp)) (fun b o _ e => u.there b o e (by simp)) u.tups u.frzs u.tbls (fun m' hm => by
    obtain ⟨o', es', ep', ho', r'⟩ := hm
    rw [ho] at ho'; cases ho'
    exact ⟨_, es', ep', hL, r'⟩) hok I.bare
/-- behind a call (or a comprehension's block): the slots of this frame may have changed too, the records at ch may have turned -/
theorem Inv.call {g' : Array GenState} {t' : Nat} {d' : Drawn} {ch : List Addr} (I : Inv X pins σ H s) (u : Un (frs X.stack) ch H H' s.heap h') (hok : HOk X.prog X.w H' h') (hg : AllBare g')
    (hch : ∀ b ∈ ch, (b ∈ X.ex ∨ X.s₀.heap.objs.size ≤ b) ∧ b ≠ X.env.locals ∧ (∀ x c, X.env.cells.lookup x = some c → c ≠ b) ∧ ∀ p ∈ X.pn ++ pins, p.1 ≠ b) :
    Inv X pins σ H' { s with heap := h', gens := g', drawn := d', toks := t' } := by
  obtain ⟨m, ⟨o, es, ep, ho, r⟩, _⟩ := id I.loc
  obtain ⟨sl, hL⟩ := u.any ho I.free fun z => (hch _ z).2.1 rfl
  exact I.step (ch := ch) hch (fun b o hL hb hc e n => u.keep b o e n (fun z => (List.mem_cons.mp (I.stkSub b z)).elim hL hb) hc) (fun b o _ _ hc e n => u.any e n hc) (fun b o hc e n => u.free b o e n hc) (fun b o hc e => u.there b o e hc) u.tups u.frzs u.tbls (fun m' hm => by
    obtain ⟨o', es', ep', ho', r'⟩ := hm
    rw [ho] at ho'; cases ho'
    exact ⟨_, es', ep', hL, r'⟩) hok hg
/-- an untracked record of ours (an iterator) has turned -/
theorem Inv.turned {t' : Nat} {it : Addr} (I : Inv X pins σ H s) (k : ∀ b o, b ≠ it → s.heap.get? b = some o → h'.get? b = some o) (hn : H it = none) (hL : it ≠ X.env.locals)
    (h1 : it ∈ X.ex ∨ X.s₀.heap.objs.size ≤ it) (h2 : ∀ x c, X.env.cells.lookup x = some c → c ≠ it) (h3 : ∀ p ∈ X.pn ++ pins, p.1 ≠ it) : Inv X pins σ H { s with heap := h', toks := t' } := by
  have nit : ∀ b u, H b = some u → b ≠ it := fun b u e z => by rw [z, hn] at e; cases e
  refine I.step (g' := s.gens) (d' := s.drawn) (ch := [it]) (fun b hb => ?_) (fun b o _ _ hc e _ => k b o (fun z => hc (by simp [z])) e) (fun b o _ _ hc e _ => ⟨o.slots, k b o (fun z => hc (by simp [z])) e⟩) (fun _ _ _ _ n => n)
    (fun b o hc e => ⟨o, k b o (fun z => hc (by simp [z])) e⟩) (fun _ _ e => e) (fun _ _ _ e => e) (fun b ps e => ⟨#[], by rw [e]; simp⟩) (fun m hm => ?_) (fun b u e => ?_) I.bare
  · have e : b = it := by simpa using hb
    subst e
    exact ⟨h1, hL, h2, h3⟩
  · obtain ⟨o, es, ep, ho, r⟩ := hm
    exact ⟨o, es, ep, k _ o (Ne.symm hL) ho, r⟩
  · refine (I.hok b u e).stay (fun c v hc q => k c v ?_ q) (fun _ q => q) fun _ _ q => q
    rcases hc with z | z
    · rw [z]; exact nit b u e
    · exact nit c _ z
theorem Inv.tok (I : Inv X pins σ H s) (t : Nat) : Inv X pins σ H { s with toks := t } := I.un (h' := s.heap) (t' := t) Un.refl I.hok
/-- all objects kept -/
theorem Inv.kept {t' : Nat} (I : Inv X pins σ H s) (k : ∀ b u, s.heap.get? b = some u → h'.get? b = some u) : Inv X pins σ H { s with heap := h', toks := t' } := I.un (Un.kept k) (I.hok.kept k)
/-- a new object laid and tracked -/
theorem Inv.laid {a : Addr} {o : HO} {t' : Nat} (I : Inv X pins σ H s) (k : ∀ b u, s.heap.get? b = some u → h'.get? b = some u) (hp : s.heap.objs.size ≤ a) (new : ObjOk X.prog X.w (upd H a o) h' a o) :
    Inv X pins σ (upd H a o) { s with heap := h', toks := t' } := I.un (Un.laid k hp (I.hok.fresh hp)) (I.hok.laid k hp new)
/-- an object written -/
theorem Inv.write {x e : Addr} {o : HO} {t' : Nat} (I : Inv X pins σ H s) (mu : Mut (H x)) (he : e = x ∨ H e = some (.own x)) (k : ∀ b u, b ≠ e → s.heap.get? b = some u → h'.get? b = some u) (heo : ∃ u, h'.get? e = some u)
    (new : ObjOk X.prog X.w (upd H x o) h' x o) : Inv X pins σ (upd H x o) { s with heap := h', toks := t' } := I.un (Un.write mu he k heo) (I.hok.write mu he k heo new)
theorem Inv.pins_of {pins' : List (Addr × Obj)} (I : Inv X pins σ H s) (h : ∀ p ∈ pins', s.heap.get? p.1 = some p.2 ∧ H p.1 = none ∧ p.1 ≠ X.env.locals ∧ p.1 ∉ X.fs ∧ ∀ v, p.2.data ≠ .cell v) : Inv X pins' σ H s :=
  ⟨I.ok, I.os, I.bare, I.base, I.loc, I.cell, I.free, I.freeC, fun p hp => (List.mem_append.mp hp).elim (fun z => I.pin p (List.mem_append_left _ z)) (h p), I.hok, I.len⟩

theorem nodup_ix {N : List Str} (hN : N.Nodup) {i j : Nat} {x : Str} (a : N[i]? = some x) (b : N[j]? = some x) : i = j := by
  obtain ⟨h1, e1⟩ := List.getElem?_eq_some_iff.mp a
  obtain ⟨h2, e2⟩ := List.getElem?_eq_some_iff.mp b
  exact (List.getElem_inj hN).mp (e1.trans e2.symm)

/-- a name is stored; what changed -/
theorem store_ok2 {M : Model} {A : Around} {E : Value → Shared → Prop} {i : Nat} {x : Str} {v : V} {u : Value} {Q : Unit → Shared → Prop} (I : Inv X pins σ H s) (hN : X.N.Nodup) (hi : X.N[i]? = some x) (hx : Loc X.env.scope x) (r : RelV v u)
    (h : ∀ s', Inv X pins (σ.set i (some v)) H s' → (∃ a, Heap.SameBut a s.heap s'.heap ∧ (a = X.env.locals ∨ X.env.cells.lookup x = some a)) → Q () s') (hf : X.fn x = true ∨ X.env.scope.names.lookup x = some .local := by first | exact .inl rfl | exact .inr rfl | assumption) : wpAny M A (storeName X.env x u) Q E s := by
  obtain ⟨m, hn, hl⟩ := id I.loc
  have hcls : (X.env.scope.kind == .class || (X.env.scope.kind == .module && X.env.locals != X.env.globals)) = false := by rw [I.ok.kind]; rfl
  have hiσ : i < σ.length := by rw [I.len]; exact (List.getElem?_eq_some_iff.mp hi).1
  have cne := I.cne
  have tracked : ∀ {a : Addr} {h' : Heap}, (∃ o, s.heap.get? a = some o ∧ H a = none) → Heap.SameBut a s.heap h' → HOk X.prog X.w H h' := fun {a h'} ha hs b ob e => by
    obtain ⟨_, _, hfree⟩ := ha
    refine (I.hok b ob e).stay (fun c w' hc q => (hs.2 c ?_).trans q) (fun _ q => q) fun _ _ q => q
    rintro rfl
    rcases hc with rfl | hc
    · rw [hfree] at e; cases e
    · rw [hfree] at hc; cases hc
  rcases hx with hk | hk
  · refine wpAny_storeName_local hk hn (fun h' hn' hs => ?_) hcls
    obtain ⟨oL, _, _, hoL, _⟩ := id hn
    refine h _ ⟨I.ok, I.os, I.bare, ⟨fun b o e n hb hx => ?_, fun b o e n hb hx => ?_, I.base.free, fun b o e hx => ?_, I.base.tups, I.base.frzs, I.base.tbls⟩, ⟨_, hn', fun j y v' e1 e2 e3 => ?_⟩, fun y c e => ?_, I.free, I.freeC, fun p hp => ?_, tracked ⟨oL, hoL, I.free⟩ hs, by simpa using I.len⟩ ⟨_, hs, .inl rfl⟩
    · exact (hs.2 b (Nat.ne_of_lt (Nat.lt_of_lt_of_le (Heap.lt_size e) I.ok.above))).trans (I.base.keep b o e n hb hx)
    · obtain ⟨sl, e1⟩ := I.base.slot b o e n hb hx
      exact ⟨sl, (hs.2 b (Nat.ne_of_lt (Nat.lt_of_lt_of_le (Heap.lt_size e) I.ok.above))).trans e1⟩
    · obtain ⟨o', e1⟩ := I.base.there b o e hx
      exact ⟨o', (hs.2 b (Nat.ne_of_lt (Nat.lt_of_lt_of_le (Heap.lt_size e) I.ok.above))).trans e1⟩
    · by_cases hj : j = i
      · subst hj
        rw [hi] at e1; cases e1
        rw [List.getElem?_set_self hiσ] at e2
        cases e2
        exact ⟨u, r, .inl ⟨hk, by simp⟩⟩
      · rw [List.getElem?_set_ne (Ne.symm hj)] at e2
        obtain ⟨u', r', q⟩ := hl j y v' e1 e2 e3
        refine ⟨u', r', ?_⟩
        rcases q with ⟨k, e⟩ | ⟨k, c, e, z⟩
        · refine .inl ⟨k, ?_⟩
          have : y ≠ x := fun e => hj (nodup_ix hN e1 (e ▸ hi))
          simp [this, e]
        · exact .inr ⟨k, c, e, z.sameBut hs (cne y c e)⟩
    · obtain ⟨w', z⟩ := I.cell y c e
      exact ⟨w', z.sameBut hs (cne y c e)⟩
    · obtain ⟨e, n, ne, nf, d⟩ := I.pin p hp
      exact ⟨(hs.2 p.1 ne).trans e, n, ne, nf, d⟩
  · have hfn : X.fn x = true := by
      rcases hf with z | z
      · exact z
      · rw [z] at hk; cases hk
    obtain ⟨c, hc⟩ := I.ok.has x (.inl hk)
    obtain ⟨w', z⟩ := I.cell x c hc
    refine wpAny_storeName_cell I.ok.kind hk hc z (fun h' hc' hs => ?_)
    obtain ⟨oc, hoc, hocd⟩ := id z
    refine h { s with heap := h' } ⟨I.ok, I.os, I.bare, ⟨fun b o e n hb hx => ?_, fun b o e n hb hx => ?_, I.base.free, fun b o e hx => ?_, I.base.tups, I.base.frzs, I.base.tbls⟩, ⟨m, hn.sameBut hs (Ne.symm (cne x c hc)), fun j y v' e1 e2 e3 => ?_⟩, fun y c' e => ?_, I.free, I.freeC, fun p hp => ?_, tracked ⟨oc, hoc, I.freeC x c hc⟩ hs, by simpa using I.len⟩ ⟨c, hs, .inr hc⟩
    · exact (hs.2 b (Nat.ne_of_lt (Nat.lt_of_lt_of_le (Heap.lt_size e) (I.ok.cab x c hfn hc)))).trans (I.base.keep b o e n hb hx)
    · obtain ⟨sl, e1⟩ := I.base.slot b o e n hb hx
      exact ⟨sl, (hs.2 b (Nat.ne_of_lt (Nat.lt_of_lt_of_le (Heap.lt_size e) (I.ok.cab x c hfn hc)))).trans e1⟩
    · obtain ⟨o', e1⟩ := I.base.there b o e hx
      exact ⟨o', (hs.2 b (Nat.ne_of_lt (Nat.lt_of_lt_of_le (Heap.lt_size e) (I.ok.cab x c hfn hc)))).trans e1⟩
    · by_cases hj : j = i
      · subst hj
        rw [hi] at e1; cases e1
        rw [List.getElem?_set_self hiσ] at e2
        cases e2
        exact ⟨u, r, .inr ⟨.inl hk, c, hc, hc'⟩⟩
      · rw [List.getElem?_set_ne (Ne.symm hj)] at e2
        obtain ⟨u', r', q⟩ := hl j y v' e1 e2 e3
        refine ⟨u', r', ?_⟩
        rcases q with q | ⟨k, c', e, z'⟩
        · exact .inl q
        · refine .inr ⟨k, c', e, z'.sameBut hs ?_⟩
          rintro rfl
          exact hj (nodup_ix hN e1 (I.ok.inj _ _ _ e hc ▸ hi))
    · by_cases hcc : c' = c
      · subst hcc; exact ⟨_, hc'⟩
      · obtain ⟨w2, z2⟩ := I.cell y c' e
        exact ⟨w2, z2.sameBut hs hcc⟩
    · obtain ⟨e, n, ne, nf, d⟩ := I.pin p hp
      refine ⟨(hs.2 p.1 ?_).trans e, n, ne, nf, d⟩
      intro q
      rw [q, hoc] at e
      have q' : oc = p.2 := Option.some.inj e
      exact d w' (by rw [← q']; exact hocd)
theorem store_ok {M : Model} {A : Around} {E : Value → Shared → Prop} {i : Nat} {x : Str} {v : V} {u : Value} {Q : Unit → Shared → Prop} (I : Inv X pins σ H s) (hN : X.N.Nodup) (hi : X.N[i]? = some x) (hx : Loc X.env.scope x) (r : RelV v u)
    (h : ∀ s', Inv X pins (σ.set i (some v)) H s' → Q () s') (hf : X.fn x = true ∨ X.env.scope.names.lookup x = some .local := by first | exact .inl rfl | exact .inr rfl | assumption) : wpAny M A (storeName X.env x u) Q E s :=
  store_ok2 I hN hi hx r (fun s' I' _ => h s' I') hf
/-- behind a call or a block, the state as it is -/
theorem Inv.call' {s' : Shared} {ch : List Addr} (I : Inv X pins σ H s) (ho : s'.os = s.os) (u : Un (frs X.stack) ch H H' s.heap s'.heap) (hok : HOk X.prog X.w H' s'.heap) (hg : AllBare s'.gens)
    (hch : ∀ b ∈ ch, (b ∈ X.ex ∨ X.s₀.heap.objs.size ≤ b) ∧ b ≠ X.env.locals ∧ (∀ x c, X.env.cells.lookup x = some c → c ≠ b) ∧ ∀ p ∈ X.pn ++ pins, p.1 ≠ b) : Inv X pins σ H' s' := by
  obtain ⟨h', g', d', t', o'⟩ := s'
  have e : o' = s.os := ho
  subst e
  exact I.call (g' := g') (t' := t') (d' := d') u hok hg hch
end

/-- an exception: its class, its own dict's address (where it has one), the abstract heap behind it -/
abbrev XK := Value → Option Addr → Hp → Prop
abbrev St := List (Option V)
abbrev VK := V → Hp → Prop
/-- an expression's reading; a test's; an argument list's -/
abbrev TE := St → Hp → VK → Prop
abbrev TT := St → Hp → (Bool → Hp → Prop) → Prop
abbrev TA := St → Hp → (List V → Hp → Prop) → Prop
/-- what is wanted behind a statement -/
structure Ends where
  nx : St → Hp → Prop
  rt : VK
  bk : St → Hp → Prop := fun _ _ => False
  ct : St → Hp → Prop := fun _ _ => False
abbrev TS := Ends → St → Hp → Prop

def EP (X : Cx) (pins : List (Addr × Obj)) (σ : St) (Q : VK) (u : Value) (s' : Shared) : Prop := ∃ v H', Inv X pins σ H' s' ∧ RelV v u ∧ Q v H'
def TP (X : Cx) (pins : List (Addr × Obj)) (σ : St) (Q : Bool → Hp → Prop) (b : Bool) (s' : Shared) : Prop := ∃ H', Inv X pins σ H' s' ∧ Q b H'
def AP (X : Cx) (pins : List (Addr × Obj)) (σ : St) (Q : List V → Hp → Prop) (us : List Value) (s' : Shared) : Prop := ∃ vs H', Inv X pins σ H' s' ∧ Vals vs us ∧ Q vs H'
def SP (X : Cx) (pins : List (Addr × Obj)) (D : Ends) (f : Flow) (s' : Shared) : Prop :=
  match f with
  | .next => ∃ σ' H', Inv X pins σ' H' s' ∧ D.nx σ' H'
  | .brk => ∃ σ' H', Inv X pins σ' H' s' ∧ D.bk σ' H'
  | .cont => ∃ σ' H', Inv X pins σ' H' s' ∧ D.ct σ' H'
  | .ret u => ∃ v σ' H', Inv X pins σ' H' s' ∧ RelV v u ∧ D.rt v H'

def PE (X : Cx) (e : Expr) (t : TE) : Prop :=
  ∀ (pins : List (Addr × Obj)) (s : Shared) (σ : St) (H : Hp) (Q : VK), Inv X pins σ H s → t σ H Q → wpAny (model X.prog X.w) X.A (eval e X.env) (EP X pins σ Q) X.xe s
def PT (X : Cx) (e : Expr) (t : TT) : Prop :=
  ∀ (pins : List (Addr × Obj)) (s : Shared) (σ : St) (H : Hp) (Q : Bool → Hp → Prop), Inv X pins σ H s → t σ H Q → wpAny (model X.prog X.w) X.A (isTrue e X.env (eval e X.env)) (TP X pins σ Q) X.xe s
/-- a test whatever its 'whole' is (and, or) -/
def PW (X : Cx) (e : Expr) (t : TT) : Prop :=
  ∀ (whole : Sem Value) (pins : List (Addr × Obj)) (s : Shared) (σ : St) (H : Hp) (Q : Bool → Hp → Prop), Inv X pins σ H s → t σ H Q → wpAny (model X.prog X.w) X.A (isTrue e X.env whole) (TP X pins σ Q) X.xe s
theorem PW.pt {X : Cx} {e : Expr} {t : TT} (h : PW X e t) : PT X e t := h _
/-- an argument list (no star), from the left -/
def PA (X : Cx) (es : List Expr) (t : TA) : Prop :=
  ∀ (pos : Pos) (pins : List (Addr × Obj)) (s : Shared) (σ : St) (H : Hp) (Q : List V → Hp → Prop), Inv X pins σ H s → t σ H Q → wpAny (model X.prog X.w) X.A (spliced (backTo pos (starEach es X.env))) (AP X pins σ Q) X.xe s
def PS (X : Cx) (st : Stmt) (t : TS) : Prop :=
  ∀ (pins : List (Addr × Obj)) (s : Shared) (σ : St) (H : Hp) (D : Ends), Inv X pins σ H s → t D σ H → wpAny (model X.prog X.w) X.A (exec st X.env) (SP X pins D) X.xe s
def PSs (X : Cx) (st : List Stmt) (t : TS) : Prop :=
  ∀ (pins : List (Addr × Obj)) (s : Shared) (σ : St) (H : Hp) (D : Ends), Inv X pins σ H s → t D σ H → wpAny (model X.prog X.w) X.A (execs st X.env) (SP X pins D) X.xe s
/-- weaken the end -/
theorem thn {α : Type} {t : Sem α} {Q Q' : α → Shared → Prop} {M : Model} {A : Around} {E : Value → Shared → Prop} {s : Shared} (h : wpAny M A t Q E s) (hQ : ∀ a s, Q a s → Q' a s) : wpAny M A t Q' E s := wpAny_mono h hQ fun _ _ x => x
end L2

namespace L2
open PySem PySem.Spec PyProof.Rows
section
variable {X : Cx}

def tVar (i : Nat) : TE := fun σ H Q => ∃ v, σ[i]? = some (some v) ∧ Q v H
def tC (v : V) : TE := fun _ H Q => Q v H
theorem pe_var {i : Nat} {x : Str} {pos : Pos} (hN : X.N[i]? = some x) (hv : Vis X.env.scope x) (hd : (x == ("__debug__" : Str)) = false := by decide) (hcd : (x == ("__classdict__" : Str)) = false := by decide) : PE X (.Name x pos) (tVar i) := by
  intro pins s σ H Q I h
  obtain ⟨v, e, h⟩ := h
  obtain ⟨m, hn, hl⟩ := I.loc
  obtain ⟨u, r, l⟩ := hl i x v hN e hv
  have fin : EP X pins σ Q u s := ⟨v, H, I, r, h⟩
  rcases l with ⟨hk, hm⟩ | ⟨hk, c, hc, hcell⟩
  · exact wpAny_Name (wpAny_loadName_local I.ok.kind hk hn hm fin) hd
  · rcases hk with hk | hk
    · exact wpAny_Name (wpAny_loadName_cell I.ok.kind hk hc hcell fin) hd
    · exact wpAny_Name (wpAny_loadName_free I.ok.kind hk hc hcell fin hcd) hd
theorem pe_int {i j pos} : PE X (.Constant (.int i) j pos) (tC (.int i)) := fun _ _ _ H _ I h => wpAny_Constant_int ⟨.int i, H, I.tok _, ⟨_, rfl⟩, h⟩
theorem pe_non {j pos} : PE X (.Constant .none j pos) (tC .non) := fun _ _ _ H _ I h => Constant_none ⟨.non, H, I, rfl, h⟩
theorem pe_str {x j pos} : PE X (.Constant (.str x) j pos) (tC (.str x)) := fun _ _ _ H _ I h => Calls.Constant_str ⟨.str x, H, I.tok _, ⟨_, rfl⟩, h⟩

/-- a global name of the def -/
def Gl (X : Cx) (x : Str) : Prop := X.env.kindOf x = some .globalImplicit
theorem ld_glob {E : Value → Shared → Prop} {pins : List (Addr × Obj)} {s : Shared} {σ : St} {H : Hp} {x : Str} {u : Value} {pos : Pos} {Q : Value → Shared → Prop} (I : Inv X pins σ H s) (hg : Gl X x) (hm : X.mg x = some u) (h : Q u s)
    (hd : (x == ("__debug__" : Str)) = false := by decide) : wpAny (model X.prog X.w) X.A (eval (.Name x pos) X.env) Q E s :=
  Calls.Name_function_global I.ok.kind hg (Calls.loadGlobal_global (by rw [I.ok.glob]; exact I.mod.glob.keeps I.bk) hm h) hd
theorem ld_blt {E : Value → Shared → Prop} {pins : List (Addr × Obj)} {s : Shared} {σ : St} {H : Hp} {x : Str} {u : Value} {pos : Pos} {Q : Value → Shared → Prop} (I : Inv X pins σ H s) (hg : Gl X x) (hm : X.mg x = none) (hv : bootBuiltins x = some u) (h : Q u s)
    (hn : x ≠ "__name__" := by decide) (hd : (x == ("__debug__" : Str)) = false := by decide) : wpAny (model X.prog X.w) X.A (eval (.Name x pos) X.env) Q E s := by
  obtain ⟨mb, h1, h2⟩ := I.mod.blt
  exact Calls.Name_function_global I.ok.kind hg (Calls.loadGlobal_builtin (by rw [I.ok.glob]; exact I.mod.glob.keeps I.bk) hm (by rw [I.ok.blt]; exact h1.keeps I.bk) ((h2 x hn).trans hv) h) hd
/-- a module's constant, a class, a function, as a value -/
theorem pe_glob {x : Str} {v : V} {u : Value} {pos : Pos} (hg : Gl X x) (hm : X.mg x = some u) (r : RelV v u) (hd : (x == ("__debug__" : Str)) = false := by decide) : PE X (.Name x pos) (tC v) :=
  fun _ _ _ H _ I h => ld_glob I hg hm ⟨v, H, I, r, h⟩ hd
theorem pe_bltn {x : Str} {v : V} {u : Value} {pos : Pos} (hg : Gl X x) (hm : X.mg x = none) (hv : bootBuiltins x = some u) (r : RelV v u) (hn : x ≠ "__name__" := by decide) (hd : (x == ("__debug__" : Str)) = false := by decide) : PE X (.Name x pos) (tC v) :=
  fun _ _ _ H _ I h => ld_blt I hg hm hv ⟨v, H, I, r, h⟩ hn hd

variable {a b : Expr} {ta tb : TE} {pos : Pos}
theorem nobehind (b : Expr) {op : CmpOp} (h : op ≠ .In) (h2 : op ≠ .NotIn) : behindInMarks op b = false := by
  have e1 : (op == CmpOp.In) = false := by cases op <;> first | rfl | exact absurd rfl h
  have e2 : (op == CmpOp.NotIn) = false := by cases op <;> first | rfl | exact absurd rfl h2
  cases b <;> simp [behindInMarks, e1, e2]
/-- a comparison as a value, as a test -/
def tB (t : TE) : TT := fun σ H Q => t σ H fun x H1 => ∃ c, x = .bl c ∧ Q c H1
/-- an expression whose value is a bool, as a test -/
theorem pt_val {e : Expr} {t : TE} (h : PE X e t) (he : ∀ whole, isTrue e X.env whole = (do let v ← whole; standAt e.pos; holding [v] (truthy v)) := by intro _; rfl) : PT X e (tB t) := by
  intro pins s σ H Q I hw
  refine isTrue_plain (thn (h pins s σ H _ I hw) fun v s1 ⟨x, H1, I1, r1, q1⟩ => ?_) (he _)
  obtain ⟨d, rfl, q⟩ := q1
  cases r1
  exact wpAny_truthy_bool ⟨H1, I1, q⟩

variable {tA tB' : TT} {rest : List Expr}
def tAnd (t u : TT) : TT := fun σ H Q => t σ H fun c H1 => if c = true then u σ H1 Q else Q false H1
def tOr (t u : TT) : TT := fun σ H Q => t σ H fun c H1 => if c = true then Q true H1 else u σ H1 Q
def tNot (t : TT) : TT := fun σ H Q => t σ H fun c H1 => Q (!c) H1
theorem pw_and1 (ha : PT X a tA) : PW X (.BoolOp .And [a] pos) tA := by
  intro wh pins s σ H Q I h
  refine isTrue_and (thn (ha pins s σ H Q I h) fun c s1 e => ?_)
  cases c with
  | true => exact isTrue_and_nil e
  | false => exact e
theorem pw_or1 (ha : PT X a tA) : PW X (.BoolOp .Or [a] pos) tA := by
  intro wh pins s σ H Q I h
  refine isTrue_or (thn (ha pins s σ H Q I h) fun c s1 e => ?_)
  cases c with
  | false => exact isTrue_or_nil e
  | true => exact e
theorem pw_and (ha : PT X a tA) (hb : PW X (.BoolOp .And (b :: rest) pos) tB') : PW X (.BoolOp .And (a :: b :: rest) pos) (tAnd tA tB') := by
  intro wh pins s σ H Q I h
  refine isTrue_and (thn (ha pins s σ H _ I h) fun c s1 ⟨H1, I1, q1⟩ => ?_)
  cases c with
  | true => exact hb wh pins s1 σ H1 Q I1 q1
  | false => exact ⟨H1, I1, q1⟩
theorem pw_or (ha : PT X a tA) (hb : PW X (.BoolOp .Or (b :: rest) pos) tB') : PW X (.BoolOp .Or (a :: b :: rest) pos) (tOr tA tB') := by
  intro wh pins s σ H Q I h
  refine isTrue_or (thn (ha pins s σ H _ I h) fun c s1 ⟨H1, I1, q1⟩ => ?_)
  cases c with
  | true => exact ⟨H1, I1, q1⟩
  | false => exact hb wh pins s1 σ H1 Q I1 q1
theorem pt_not (ha : PT X a tA) : PT X (.UnaryOp .Not a pos) (tNot tA) := by
  intro pins s σ H Q I h
  exact isTrue_not (ha pins s σ H (fun c H1 => Q (!c) H1) I h)
/-- .. as values (bools) -/
def tAndV (ta tb : TE) : TE := fun σ H Q => ta σ H fun x H1 => ∃ c, x = .bl c ∧ if c = true then tb σ H1 Q else Q (.bl false) H1
def tOrV (ta tb : TE) : TE := fun σ H Q => ta σ H fun x H1 => ∃ c, x = .bl c ∧ if c = true then Q (.bl true) H1 else tb σ H1 Q
def tNotV (ta : TE) : TE := fun σ H Q => ta σ H fun x H1 => ∃ c, x = .bl c ∧ Q (.bl (!c)) H1
/-- a if t else b -/
def tIf (t : TT) (ta tb : TE) : TE := fun σ H Q => t σ H fun c H1 => if c = true then ta σ H1 Q else tb σ H1 Q
theorem pe_ifExp {c : Expr} (hc : PT X c tA) (ha : PE X a ta) (hb : PE X b tb) : PE X (.IfExp c a b pos) (tIf tA ta tb) := by
  intro pins s σ H Q I h
  refine wpAny_IfExp (thn (hc pins s σ H _ I h) fun d s1 ⟨H1, I1, q1⟩ => ?_)
  cases d with
  | true => exact ha pins s1 σ H1 Q I1 q1
  | false => exact hb pins s1 σ H1 Q I1 q1
end
end L2

namespace L2
open PySem PySem.Spec PyProof.Rows

def SqL (K : PySem.W.Frag) (H : Hp) (a : Addr) (xs : List V) : Prop :=
  Rd H a (.lst xs) ∨
    ∃ (o : Obj) (its : Array Value) (n : Nat), K.lookup a = some o ∧ o.cls = .type "list" ∧ o.dict = none ∧ o.data = .seq its n ∧ its.size ≤ sizeLine ∧ Vals xs its.toList
def SqT (K : PySem.W.Frag) (H : Hp) (a : Addr) (xs : List V) : Prop :=
  Rd H a (.tup xs) ∨
    ∃ (o : Obj) (its : Array Value) (n : Nat), K.lookup a = some o ∧ o.cls = .type "tuple" ∧ o.data = .seq its n ∧ its.size ≤ sizeLine ∧ Vals xs its.toList
def absV : Value → Option V
  | .none => some .non
  | .bool b => some (.bl b)
  | .int i _ => some (.int i)
  | .str x _ => some (.str x)
  | .bytes b _ => some (.byt b)
  | .float b _ => some (.flt b)
  | .ref a => some (.ref a)
  | .type n => some (.ty n)
  | _ => none
theorem RelV.abs {x : V} {u : Value} (r : RelV x u) : absV u = some x := by
  cases x with
  | non => cases r; rfl
  | bl _ => cases r; rfl
  | int _ => obtain ⟨t, rfl⟩ := r; rfl
  | str _ => obtain ⟨t, rfl⟩ := r; rfl
  | byt _ => obtain ⟨t, rfl⟩ := r; rfl
  | flt _ => obtain ⟨t, rfl⟩ := r; rfl
  | ref _ => cases r; rfl
  | ty _ => cases r; rfl
theorem RelV.inj {x y : V} {u : Value} (r : RelV x u) (q : RelV y u) : x = y := Option.some.inj (r.abs.symm.trans q.abs)
theorem Vals.inj : ∀ {xs ys : List V} {us : List Value}, Vals xs us → Vals ys us → xs = ys
  | _, _, _, .nil, .nil => rfl
  | _, _, _, .cons r t, .cons r' t' => by rw [r.inj r', Vals.inj t t']
section
variable {X : Cx} {pins : List (Addr × Obj)} {σ : St} {H : Hp} {s : Shared} {a : Addr} {xs ys : List V}
theorem SqL.of {K : PySem.W.Frag} (h : H a = some (.lst xs)) : SqL K H a xs := .inl (.inl h)
theorem SqT.of {K : PySem.W.Frag} (h : H a = some (.tup xs)) : SqT K H a xs := .inl (.inl h)
theorem Inv.list (I : Inv X pins σ H s) (h : SqL X.K H a xs) : ∃ its : List Value, Vals xs its ∧ PlainL s.heap a its.toArray ∧ xs.length ≤ sizeLine := by
  rcases h with h | ⟨o, its, n, hk, hc, hd, hs, hz, r⟩
  · obtain ⟨z, its, n, r, e⟩ := h.ok I.hok
    exact ⟨its, r, ⟨_, n, e, rfl, rfl, rfl⟩, z⟩
  · refine ⟨its.toList, r, ⟨o, n, I.kIn a o hk, hc, hd, by simpa using hs⟩, ?_⟩
    have e := r.length
    simp only [Array.length_toList] at e
    omega
theorem Inv.tuple (I : Inv X pins σ H s) (h : SqT X.K H a xs) : ∃ its : List Value, Vals xs its ∧ IsTup s.heap a its.toArray ∧ xs.length ≤ sizeLine := by
  rcases h with h | ⟨o, its, n, hk, hc, hs, hz, r⟩
  · obtain ⟨z, its, r, p⟩ := h.ok I.hok
    exact ⟨its, r, p, z⟩
  · refine ⟨its.toList, r, ⟨o, I.kIn a o hk, hc, n, by simpa using hs⟩, ?_⟩
    have e := r.length
    simp only [Array.length_toList] at e
    omega
theorem Inv.list_inj (I : Inv X pins σ H s) (h : SqL X.K H a xs) (h' : SqL X.K H a ys) : xs = ys := by
  obtain ⟨its, r, ⟨o, n, e, _, _, d⟩, _⟩ := I.list h
  obtain ⟨its', r', ⟨o', n', e', _, _, d'⟩, _⟩ := I.list h'
  rw [e] at e'; cases e'
  rw [d] at d'
  injection d' with d1 _
  have : its = its' := by simpa using congrArg Array.toList d1
  subst this
  exact r.inj r'
end

abbrev Cx.wish (X : Cx) (E : Value → Shared → Prop) : Cx := { X with xe := E }
/-- no exception leaves -/
abbrev Cx.nox (X : Cx) : Cx := X.wish fun _ _ => False
theorem Cx.Ok.wish {X : Cx} (ok : X.Ok) (E : Value → Shared → Prop) : (X.wish E).Ok :=
  ⟨ok.mod, ok.kind, ok.glob, ok.blt, ok.above, ok.inj, ok.has, ok.cab, ok.hd, ok.frames, ok.stk, ok.exf, ok.bs, ok.bsz, ok.noex, ok.exfs, ok.funs, ok.frf⟩
theorem Cx.Ok.unwish {X : Cx} {E : Value → Shared → Prop} (ok : (X.wish E).Ok) : X.Ok :=
  ⟨ok.mod, ok.kind, ok.glob, ok.blt, ok.above, ok.inj, ok.has, ok.cab, ok.hd, ok.frames, ok.stk, ok.exf, ok.bs, ok.bsz, ok.noex, ok.exfs, ok.funs, ok.frf⟩
section
variable {X : Cx} {pins : List (Addr × Obj)} {σ : St} {H : Hp} {s : Shared} {E : Value → Shared → Prop}
theorem Inv.wish (I : Inv X pins σ H s) (E : Value → Shared → Prop) : Inv (X.wish E) pins σ H s := ⟨I.ok.wish E, I.os, I.bare, I.base, I.loc, I.cell, I.free, I.freeC, I.pin, I.hok, I.len⟩
theorem Inv.unwish (I : Inv (X.wish E) pins σ H s) : Inv X pins σ H s := ⟨I.ok.unwish, I.os, I.bare, I.base, I.loc, I.cell, I.free, I.freeC, I.pin, I.hok, I.len⟩
theorem SP.unwish {D : Ends} {f : Flow} {s' : Shared} (h : SP (X.wish E) pins D f s') : SP X pins D f s' := by
  cases f with
  | next => obtain ⟨σ', H', I, q⟩ := h; exact ⟨σ', H', I.unwish, q⟩
  | brk => obtain ⟨σ', H', I, q⟩ := h; exact ⟨σ', H', I.unwish, q⟩
  | cont => obtain ⟨σ', H', I, q⟩ := h; exact ⟨σ', H', I.unwish, q⟩
  | ret u => obtain ⟨v, σ', H', I, r, q⟩ := h; exact ⟨v, σ', H', I.unwish, r, q⟩
theorem PSs.nox {st : List Stmt} {t : TS} (h : PSs X.nox st t) : PSs X st t := fun pins s σ H D I hw =>
  wpAny_mono (h pins s σ H D (I.wish _) hw) (fun _ _ q => q.unwish) fun _ _ z => False.elim z
end

section
variable {X : Cx} {st : Stmt} {rest : List Stmt} {t u : TS} {e : Expr} {te : TE} {pos : Pos}
def tNext : TS := fun D σ H => D.nx σ H
def tSeq (t u : TS) : TS := fun D σ H => t { D with nx := u D } σ H
theorem pss_cons (h1 : PS X st t) (h2 : PSs X rest u) : PSs X (st :: rest) (tSeq t u) := by
  intro pins s σ H D I h
  refine wpAny_execs_cons (thn (h1 pins s σ H { D with nx := u D } I h) fun f s1 q => ?_)
  cases f with
  | next =>
    obtain ⟨σ', H', I', q⟩ := q
    exact h2 pins s1 σ' H' D I' q
  | ret v => exact q
  | brk => exact q
  | cont => exact q
theorem pss_one (h1 : PS X st t) : PSs X [st] t := by
  intro pins s σ H D I h
  refine wpAny_execs_cons (thn (h1 pins s σ H D I h) fun f s1 q => ?_)
  cases f with
  | next => exact wpAny_execs_nil q
  | ret v => exact q
  | brk => exact q
  | cont => exact q
/-- in a def's body nothing is shown -/
theorem Inv.quiet {pins : List (Addr × Obj)} {σ : St} {H : Hp} {s : Shared} (I : Inv X pins σ H s) : interactive X.env = false := by simp [interactive, I.ok.kind]
/-- an expression whose value is dropped -/
def tDrop (te : TE) : TS := fun D σ H => te σ H fun _ H1 => D.nx σ H1
theorem ps_expr (he : PE X e te) (hs : swapsWith e none pos.line X.env = pure false := by rfl) : PS X (.Expr e pos) (tDrop te) := by
  intro pins s σ H D I h
  exact wpAny_Expr_any (thn (he pins s σ H _ I h) fun v s1 ⟨x, H1, I1, r1, q1⟩ => ⟨σ, H1, I1, q1⟩) I.quiet hs
def tRet (te : TE) : TS := fun D σ H => te σ H D.rt
theorem ps_ret (he : PE X e te) : PS X (.Return (some e) pos) (tRet te) := by
  intro pins s σ H D I h
  exact wpAny_Return_some (thn (he pins s σ H _ I h) fun v s1 ⟨x, H1, I1, r1, q1⟩ => ⟨x, σ, H1, I1, r1, q1⟩)
def tIfS (c : TT) (t u : TS) : TS := fun D σ H => c σ H fun b H1 => if b = true then t D σ H1 else u D σ H1
theorem ps_if {c : Expr} {a b : List Stmt} {tc : TT} (hc : PT X c tc) (ha : PSs X a t) (hb : PSs X b u) : PS X (.If c a b pos) (tIfS tc t u) := by
  intro pins s σ H D I h
  refine wpAny_If (thn (hc pins s σ H _ I h) fun d s1 ⟨H1, I1, q1⟩ => ?_)
  cases d with
  | true => exact ha pins s1 σ H1 D I1 q1
  | false => exact hb pins s1 σ H1 D I1 q1
end

abbrev TG := V → St → Hp → (St → Hp → Prop) → Prop
abbrev TGs := List V → St → Hp → (St → Hp → Prop) → Prop
def PG (X : Cx) (target : Expr) (t : TG) : Prop :=
  ∀ (pins : List (Addr × Obj)) (s : Shared) (σ : St) (H : Hp) (v : V) (u : Value) (Q : St → Hp → Prop), Inv X pins σ H s → RelV v u → t v σ H Q →
    wpAny (model X.prog X.w) X.A (assign target X.env u) (fun _ s' => ∃ σ' H', Inv X pins σ' H' s' ∧ Q σ' H') X.xe s
/-- several targets, one after another -/
def PGs (X : Cx) (ts : List Expr) (t : TGs) : Prop :=
  ∀ (pins : List (Addr × Obj)) (s : Shared) (σ : St) (H : Hp) (vs : List V) (us : List Value) (Q : St → Hp → Prop), Inv X pins σ H s → Vals vs us → t vs σ H Q →
    wpAny (model X.prog X.w) X.A (assignInOrder ((assignEach ts X.env).map (·.2)) us) (fun _ s' => ∃ σ' H', Inv X pins σ' H' s' ∧ Q σ' H') X.xe s
/-- o[i] = v, by values -/
abbrev TSet := V → V → V → Hp → (Hp → Prop) → Prop
def PSet (X : Cx) (t : TSet) : Prop :=
  ∀ (pins : List (Addr × Obj)) (s : Shared) (σ : St) (H : Hp) (o i v : V) (ov iv u : Value) (Q : Hp → Prop), Inv X pins σ H s → RelV o ov → RelV i iv → RelV v u → t o i v H Q →
    wpAny (model X.prog X.w) X.A (setItem ov iv u) (fun _ s' => ∃ H', Inv X pins σ H' s' ∧ Q H') X.xe s
/-- a op= b, by values -/
abbrev TIp := V → V → Hp → VK → Prop
section
variable {X : Cx} {pos : Pos}
def gName (i : Nat) : TG := fun v σ H Q => Q (σ.set i (some v)) H
theorem pg_name {i : Nat} {x : Str} (hN : X.N.Nodup) (hi : X.N[i]? = some x) (hx : Loc X.env.scope x) (hf : X.fn x = true ∨ X.env.scope.names.lookup x = some .local := by first | exact .inl rfl | exact .inr rfl | assumption) : PG X (.Name x pos) (gName i) := by
  intro pins s σ H v u Q I r h
  exact wpAny_assign_Name (store_ok I hN hi hx r (fun s' I' => ⟨_, H, I', h⟩) hf)
def gNil : TGs := fun vs σ H Q => vs = [] ∧ Q σ H
def gCons (t : TG) (u : TGs) : TGs := fun vs σ H Q => ∃ v r, vs = v :: r ∧ t v σ H fun σ' H' => u r σ' H' Q
theorem pgs_nil : PGs X [] gNil := by
  intro pins s σ H vs us Q I r h
  obtain ⟨e, h⟩ := h
  subst e
  cases r
  exact assignInOrder_nil ⟨σ, H, I, h⟩
theorem pgs_cons {e : Expr} {es : List Expr} {t : TG} {u : TGs} (h1 : PG X e t) (h2 : PGs X es u)
    (hs : (assignEach (e :: es) X.env).map (·.2) = assign e X.env :: (assignEach es X.env).map (·.2) := by rfl) : PGs X (e :: es) (gCons t u) := by
  intro pins s σ H vs us Q I r h
  obtain ⟨v, vr, e1, h⟩ := h
  subst e1
  cases r with
  | cons r rr =>
    rw [hs]
    refine assignInOrder_cons (thn (h1 pins s σ H _ _ _ I r h) fun _ s1 ⟨σ1, H1, I1, q1⟩ => ?_)
    exact h2 pins s1 σ1 H1 _ _ Q I1 rr q1
/-- (a, b, ..) = a tuple of that length -/
def gTup (K : PySem.W.Frag) (n : Nat) (t : TGs) : TG := fun v σ H Q => ∃ a xs, v = .ref a ∧ SqT K H a xs ∧ xs.length = n ∧ t xs σ H Q
theorem pg_tup {es : List Expr} {k : Nat} {t : TGs} {n : Nat} (hc : X.calm = true) (h : PGs X es t)
    (hn : (assignEach es X.env).length = n := by rfl) (hst : (assignEach es X.env).findIdx? (·.1) = none := by rfl) : PG X (.Tuple es k pos) (gTup X.K n t) := by
  intro pins s σ H v u Q I r hw
  obtain ⟨a, xs, e1, hq, hl, hw⟩ := hw
  subst e1
  cases r
  obtain ⟨its, rv, ht, hz⟩ := I.tuple hq
  refine assign_Tuple_tuple (I.ok.hd hc) ht (by simp [hn, ← hl, rv.length]) hst fun h' hx => ?_
  have I1 : Inv X pins σ H { s with heap := h' } := I.kept (t' := s.toks) fun b o e => hx b o (Nat.ne_of_lt (Heap.lt_size e)) e
  exact h pins _ σ H xs _ Q I1 (by simpa using rv) hw
/-- o[i] = .. -/
def gSub (to ti : TE) (t : TSet) : TG := fun v σ H Q => to σ H fun o H1 => ti σ H1 fun i H2 => t o i v H2 fun H3 => Q σ H3
theorem pg_sub {o i : Expr} {to ti : TE} {t : TSet} (ho : PE X o to) (hi : PE X i ti) (hs : PSet X t)
    (ha : ∀ v, assign (.Subscript o i pos) X.env v = (do
      let ov ← holding [v] (eval o X.env)
      let iv ← holding [v, ov] (eval i X.env)
      standAt pos
      holding [v, ov, iv] (setItem ov iv v)
      release [v, ov, iv] []) := by intro _; rfl) : PG X (.Subscript o i pos) (gSub to ti t) := by
  intro pins s σ H v u Q I r h
  rw [ha]
  refine wpAny_bind (wpAny_holding (thn (ho pins s σ H _ I h) fun ov s1 ⟨x, H1, I1, r1, q1⟩ => ?_))
  refine wpAny_bind (wpAny_holding (thn (hi pins s1 σ H1 _ I1 q1) fun iv s2 ⟨y, H2, I2, r2, q2⟩ => ?_))
  refine wpAny_bind (wpAny_standAt (wpAny_bind (wpAny_holding (thn (hs pins s2 σ H2 x y v ov iv u _ I2 r1 r2 r q2) fun _ s3 ⟨H3, I3, q3⟩ => ?_))))
  exact wpAny_release ⟨σ, H3, I3, q3⟩
/-- target = value -/
def tAsg (te : TE) (g : TG) : TS := fun D σ H => te σ H fun x H1 => g x σ H1 D.nx
theorem ps_asg {tg e : Expr} {te : TE} {g : TG} (he : PE X e te) (hg : PG X tg g) (hs : swapsWithSole [tg] e pos.line X.env = pure false := by rfl) (hw : swappedStores [tg] e X.env = pure none := by rfl)
    (h1 : (assignEach [tg] X.env).map (·.2) = [assign tg X.env] := by rfl) : PS X (.Assign [tg] e pos) (tAsg te g) := by
  intro pins s σ H D I h
  refine wpAny_Assign_stores (thn (he pins s σ H _ I h) fun v s1 ⟨x, H1, I1, r1, q1⟩ => ?_) hs hw
  rw [h1]
  exact thn (hg pins s1 σ H1 x v _ I1 r1 q1) fun _ s2 q => q
/-- name = value -/
theorem ps_set {i : Nat} {x : Str} {e : Expr} {te : TE} {pos' : Pos} (hN : X.N.Nodup) (hi : X.N[i]? = some x) (hx : Loc X.env.scope x) (he : PE X e te) (hs : swapsWith e (some (.Name x pos')) pos.line X.env = pure false := by rfl) (hf : X.fn x = true ∨ X.env.scope.names.lookup x = some .local := by first | exact .inl rfl | exact .inr rfl | assumption) :
    PS X (.Assign [.Name x pos'] e pos) (tAsg te (gName i)) := by
  intro pins s σ H D I h
  refine wpAny_Assign_Name (thn (he pins s σ H _ I h) fun v s1 ⟨y, H1, I1, r1, q1⟩ => ?_) hs
  exact store_ok I1 hN hi hx r1 (fun s2 I2 => ⟨_, H1, I2, q1⟩) hf
/-- name op= e -/
def tAug (i : Nat) (te : TE) (ti : TIp) : TS := fun D σ H => ∃ x, σ[i]? = some (some x) ∧ te σ H fun y H1 => ti x y H1 fun z H2 => D.nx (σ.set i (some z)) H2
/-- ints -/
def ipI (f : Int → Int → Int) : TIp := fun x y H Q => ∃ i j, x = .int i ∧ y = .int j ∧ Q (.int (f i j)) H
end

section
variable {X : Cx} {pos : Pos}
end

/-- at turn i: it yields x (the heap may grow), or it stops -/
structure It where
  go : Nat → Hp → Prop
  yld : Nat → Hp → V → Hp → Prop
  stop : Nat → Hp → Prop
/-- the iterator's own objects may turn: they are not the frame's, not pinned, younger than the entry (or a comprehension's own) -/
def FpOk (X : Cx) (pins : List (Addr × Obj)) (H : Hp) (b : Addr) : Prop :=
  H b = none ∧ b ≠ X.env.locals ∧ b ∉ X.fs ∧ (b ∈ X.ex ∨ X.s₀.heap.objs.size ≤ b) ∧ (∀ x c, X.env.cells.lookup x = some c → c ≠ b) ∧ ∀ p ∈ X.pn ++ pins, p.1 ≠ b
theorem Inv.fpOk {X : Cx} {pins : List (Addr × Obj)} {σ : St} {H H' : Hp} {s : Shared} {b : Addr} (I : Inv X pins σ H s) (hb : s.heap.objs.size ≤ b) (hn : H' b = none) : FpOk X pins H' b := by
  refine ⟨hn, Nat.ne_of_gt (Nat.lt_of_lt_of_le I.lt hb), I.nofs hb, .inr (Nat.le_trans I.sz hb), fun x c e z => ?_, fun p hp z => ?_⟩
  · obtain ⟨v, q⟩ := I.cell x c e
    exact absurd (Nat.lt_of_lt_of_le q.lt (by rw [z]; exact hb)) (Nat.lt_irrefl _)
  · exact absurd (Nat.lt_of_lt_of_le (Heap.lt_size (I.pin p hp).1) (by rw [z]; exact hb)) (Nat.lt_irrefl _)
structure Turn (P : Program) (w : World) (K : PySem.W.Frag) (tg : Expr) (J : It) (fp : List Addr) (it : Addr) (tn : Nat → Heap → Prop) : Prop where
  mem : it ∈ fp
  obj : ∀ i h, tn i h → ∀ b ∈ fp, ∃ o, h.get? b = some o ∧ ∀ v, o.data ≠ .cell v
  keep : ∀ i h h', tn i h → (∀ b ∈ fp, ∀ o, h.get? b = some o → h'.get? b = some o) → tn i h'
  item : ∀ (X : Cx), X.prog = P → X.w = w → X.K = K → X.calm = true → ∀ (i : Nat) (pins : List (Addr × Obj)) (s : Shared) (σ : St) (H : Hp) (E : Value → Shared → Prop), Inv X pins σ H s → (∀ b ∈ fp, FpOk X pins H b) → tn i s.heap → J.go i H →
    wpAny (model P w) X.A (pyNext (.ref it)) (fun r s1 => ∃ u, r = some u ∧
      wpAny (model P w) X.A (letOwnedTupleGo tg (.ref it) u) (fun _ s2 => ∃ x H', Inv X pins σ H' s2 ∧ RelV x u ∧ J.yld i H x H' ∧ tn (i + 1) s2.heap ∧ ∀ b ∈ fp, H' b = none) E s1) E s
  done : ∀ (X : Cx), X.prog = P → X.w = w → X.K = K → X.calm = true → ∀ (i : Nat) (pins : List (Addr × Obj)) (s : Shared) (σ : St) (H : Hp) (E : Value → Shared → Prop), Inv X pins σ H s → (∀ b ∈ fp, FpOk X pins H b) → tn i s.heap → J.stop i H →
    wpAny (model P w) X.A (pyNext (.ref it)) (fun r s1 => r = none ∧ Inv X pins σ H s1) E s
  self : ∀ (A : Around) (i : Nat) (s : Shared) (Q : Value → Shared → Prop) (E : Value → Shared → Prop), tn i s.heap → Q (.ref it) s → wpAny (model P w) A (pyIter (.ref it)) Q E s
abbrev TI := St → Hp → (It → Hp → Prop) → Prop
/-- an iterator has come -/
def PIE (X : Cx) (pins : List (Addr × Obj)) (σ : St) (tg : Expr) (R : It → Hp → Prop) (itv : Value) (s2 : Shared) : Prop :=
  ∃ (it : Addr) (fp : List Addr) (tn : Nat → Heap → Prop) (J : It) (H' : Hp), itv = .ref it ∧ Inv X pins σ H' s2 ∧ Turn X.prog X.w X.K tg J fp it tn ∧ tn 0 s2.heap ∧ (∀ b ∈ fp, FpOk X pins H' b) ∧ R J H'
def PI (X : Cx) (tg iter : Expr) (wi : TI) : Prop :=
  ∀ (pins : List (Addr × Obj)) (s : Shared) (σ : St) (H : Hp) (R : It → Hp → Prop), Inv X pins σ H s → wi σ H R →
    wpAny (model X.prog X.w) X.A (eval iter X.env) (fun v s1 => wpAny (model X.prog X.w) X.A (pyIter v) (PIE X pins σ tg R) X.xe s1) X.xe s

/-- the step ahead of the store is nothing for an iterator that keeps no tuple -/
theorem go_of {M : Model} {A : Around} {E : Value → Shared → Prop} {s : Shared} {tg : Expr} {it : Addr} {u : Value} {o : Obj} {n : String} {vs : Array Value} {Q : Unit → Shared → Prop} (ho : s.heap.get? it = some o) (hc : o.cls = .type n) (hd : o.data = .fields vs)
    (hn : ["enumerate", "zip", "dict_itemiterator", "dict_reverseitemiterator", "odict_iterator", "itertools.zip_longest", "itertools.pairwise"].contains n = false) (hQ : Q () s) : wpAny M A (letOwnedTupleGo tg (.ref it) u) Q E s := by
  unfold letOwnedTupleGo
  cases tg <;> first
    | exact wpAny_pure hQ
    | (cases u <;> first
        | exact wpAny_pure hQ
        | (refine wpAny_bind (wpAny_load ho ?_)
           rw [hc, hd]
           show wpAny M A (if (["enumerate", "zip", "dict_itemiterator", "dict_reverseitemiterator", "odict_iterator", "itertools.zip_longest", "itertools.pairwise"].contains n && vs[0]? == some (rawInt _)) = true then _ else _) Q E s
           rw [if_neg (by intro h; rw [hn, Bool.false_and] at h; cases h)]
           exact wpAny_pure hQ))

/-- the list at a, as it stands at each turn (a loop may append to it) -/
def Itl (K : PySem.W.Frag) (a : Addr) : It :=
  ⟨fun i H => ∃ xs x, SqL K H a xs ∧ xs[i]? = some x, fun i H x H' => H' = H ∧ ∀ xs, SqL K H a xs → xs[i]? = some x, fun i H => ∃ xs, SqL K H a xs ∧ xs.length ≤ i⟩
/-- lo, lo + 1, .. (n of them) -/
def Itr (lo : Int) (n : Nat) : It := ⟨fun i _ => i < n, fun i H x H' => H' = H ∧ x = .int (lo + i), fun i _ => n ≤ i⟩
theorem turn_list {P : Program} {w : World} {K : PySem.W.Frag} {tg : Expr} (a it : Addr) : Turn P w K tg (Itl K a) [it] it (fun i h => h.IsListIter it a i) where
  mem := by simp
  obj := fun i h st b hb => by
    have e : b = it := by simpa using hb
    subst e
    obtain ⟨o, e, c, d⟩ := st
    exact ⟨o, e, fun v z => by rw [d] at z; cases z⟩
  keep := fun i h h' st k => st.at fun o e => k it (by simp) o e
  item := by
    intro X hP hw hK hc i pins s σ H E I hf st hg
    subst hP hw hK
    obtain ⟨xs, x, hq, hx⟩ := hg
    obtain ⟨its, rv, p, hz⟩ := I.list hq
    obtain ⟨u, hu, ru⟩ := rv.get hx
    obtain ⟨f0, f1, f2, f3, f4, f5⟩ := hf it (by simp)
    refine wpAny_pyNext_list_item st p.isList (x := u) (by simpa using hu) fun h' st' sb => ?_
    have I1 : Inv X pins σ H { s with heap := h' } := I.turned (t' := s.toks) (fun b o hb e => (sb.2 b hb).trans e) f0 f1 f3 f4 f5
    obtain ⟨o, e, c, d⟩ := id st'
    exact ⟨u, rfl, go_of (s := { s with heap := h' }) e c d (by decide) ⟨x, H, I1, ru, ⟨rfl, fun ys hy => by rw [I.list_inj hy hq]; exact hx⟩, st', fun b hb => (hf b hb).1⟩⟩
  done := by
    intro X hP hw hK hc i pins s σ H E I hf st hg
    subst hP hw hK
    obtain ⟨xs, hq, hx⟩ := hg
    obtain ⟨its, rv, p, hz⟩ := I.list hq
    obtain ⟨f0, f1, f2, f3, f4, f5⟩ := hf it (by simp)
    have hl := rv.length
    exact wpAny_pyNext_list_end (I.ok.hd hc) st p.isList (by simp; omega) fun h' eb => ⟨rfl, I.turned (t' := s.toks) (fun b o hb e => eb b o hb e) f0 f1 f3 f4 f5⟩
  self := fun _ _ _ _ _ st h => wpAny_pyIter_listiter st h
theorem turn_range {P : Program} {w : World} {K : PySem.W.Frag} {tg : Expr} (it : Addr) (lo : Int) (n : Nat) : Turn P w K tg (Itr lo n) [it] it (fun i h => IsRangeIter h it (lo + (i : Nat) * 1) ((n : Int) - (i : Nat)) 1) where
  mem := by simp
  obj := fun i h st b hb => by
    have e : b = it := by simpa using hb
    subst e
    exact ⟨_, st, fun v z => by
      have z' : Data.fields _ = Data.cell v := z
      cases z'⟩
  keep := fun i h h' st k => k it (by simp) _ st
  item := by
    intro X hP hw hK hc i pins s σ H E I hf st hg
    subst hP hw hK
    obtain ⟨f0, f1, f2, f3, f4, f5⟩ := hf it (by simp)
    have W := Walks.range (prog := X.prog) (w := X.w) (I.ok.hd hc) it lo 1 n
    refine W.item i s _ _ hg st fun v h' tk hv st' kk => ?_
    obtain ⟨t, rfl⟩ := hv
    have I1 : Inv X pins σ H { s with heap := h', toks := tk } := I.turned (fun b o hb e => kk b o (by simpa using hb) e) f0 f1 f3 f4 f5
    refine ⟨_, rfl, go_of (s := { s with heap := h', toks := tk }) (n := "range_iterator") st' rfl rfl (by decide) ⟨.int (lo + i), H, I1, ⟨t, ?_⟩, ⟨rfl, rfl⟩, st', fun b hb => (hf b hb).1⟩⟩
    rw [Int.mul_one]
  done := by
    intro X hP hw hK hc i pins s σ H E I hf st hg
    subst hP hw hK
    obtain ⟨f0, f1, f2, f3, f4, f5⟩ := hf it (by simp)
    exact wpAny_pyNext_range_end (I.ok.hd hc) st (by have : n ≤ i := hg; omega) fun h' eb => ⟨rfl, I.turned (t' := s.toks) (fun b o hb e => eb b o hb e) f0 f1 f3 f4 f5⟩
  self := fun _ _ _ _ _ st h => wpAny_pyIter_rangeiter st h
end L2

namespace L2
open PySem PySem.Spec PyProof.Rows
section
variable {X : Cx} {tg : Expr}
def iList (K : PySem.W.Frag) (tl : TE) : TI := fun σ H R => tl σ H fun x H1 => ∃ a, x = .ref a ∧ (∃ xs, SqL K H1 a xs) ∧ R (Itl K a) H1
theorem pi_list {l : Expr} {tl : TE} (hl : PE X l tl) : PI X tg l (iList X.K tl) := by
  intro pins s σ H R I h
  refine thn (hl pins s σ H _ I h) fun v s1 ⟨x, H1, I1, r1, q1⟩ => ?_
  obtain ⟨a, e, ⟨xs, hq⟩, q⟩ := q1
  subst e
  cases r1
  obtain ⟨its, rv, p, hz⟩ := I1.list hq
  refine wpAny_pyIter_list p.isList ?_
  refine ⟨s1.heap.objs.size, [s1.heap.objs.size], _, _, H1, rfl, I1.kept (t' := s1.toks) fun b o e => Heap.get?_push_of_some _ e, turn_list a _, ⟨_, Heap.get?_push_size _ rfl, rfl, rfl⟩, fun b hb => ?_, q⟩
  have e : b = s1.heap.objs.size := by simpa using hb
  subst e
  exact I1.fpOk (Nat.le_refl _) (I1.hok.fresh (Nat.le_refl _))
/-- a range object just made, walked -/
theorem range_it {pins : List (Addr × Obj)} {σ : St} {H : Hp} {s : Shared} {R : It → Hp → Prop} {E : Value → Shared → Prop} {lo hi : Int} {t u v : Tok} {tk : Nat} (I : Inv X pins σ H s) (h1 : -(2 ^ 62) ≤ lo) (h2 : lo < 2 ^ 62) (h3 : -(2 ^ 62) ≤ hi) (h4 : hi < 2 ^ 62)
    (q : R (Itr lo (hi - lo).toNat) H) : wpAny (model X.prog X.w) X.A (pyIter (.ref s.heap.objs.size)) (PIE X pins σ tg R) E { s with heap := s.heap.push { cls := .type "range", data := .fields #[.int lo t, .int hi u, .int 1 v] }, toks := tk } := by
  refine wpAny_pyIter_range (IsRange.new ..) (small_one h1 h2 h3 h4) ?_
  have I1 : Inv X pins σ H { s with heap := s.heap.push { cls := .type "range", data := .fields #[.int lo t, .int hi u, .int 1 v] }, toks := tk } := I.kept fun b o e => Heap.get?_push_of_some _ e
  refine ⟨(s.heap.push { cls := .type "range", data := .fields #[.int lo t, .int hi u, .int 1 v] }).objs.size, [(s.heap.push { cls := .type "range", data := .fields #[.int lo t, .int hi u, .int 1 v] }).objs.size], _, _, H, rfl,
    I1.kept (t' := tk) fun b o e => Heap.get?_push_of_some _ e, turn_range _ lo (hi - lo).toNat, ?_, fun b hb => ?_, q⟩
  · have e1 : lo + ((0 : Nat) : Int) * 1 = lo := by simp
    have e2 : (((hi - lo).toNat : Nat) : Int) - ((0 : Nat) : Int) = Builtin.Range.rangeSize lo hi 1 := by rw [rangeSize_one]; split <;> omega
    show IsRangeIter _ _ (lo + ((0 : Nat) : Int) * 1) ((((hi - lo).toNat : Nat) : Int) - ((0 : Nat) : Int)) 1
    rw [e1, e2]
    exact Heap.get?_push_size _ rfl
  · have e : b = (s.heap.push { cls := .type "range", data := .fields #[.int lo t, .int hi u, .int 1 v] }).objs.size := by simpa using hb
    subst e
    exact I1.fpOk (Nat.le_refl _) (I1.hok.fresh (Nat.le_refl _))
def iRng1 (ta : TA) : TI := fun σ H R => ta σ H fun vs H1 => ∃ j : Int, vs = [.int j] ∧ -(2 ^ 62) ≤ j ∧ j < 2 ^ 62 ∧ R (Itr 0 j.toNat) H1
theorem pi_range1 {a : Expr} {ta : TA} {p pos : Pos} (hg : Gl X "range") (hm : X.mg "range" = none) (ha : PA X [a] ta) (hs : starEach [a] X.env = [(false, eval a X.env)] := by rfl) : PI X tg (.Call (.Name "range" p) [a] [] pos) (iRng1 ta) := by
  intro pins s σ H R I h
  refine Call_ (ld_blt I hg hm boot_range (PyProof.Rows.callWith_type1 (thn (ha pos pins s σ H _ I h) fun us s1 ⟨vs, H1, I1, r1, q1⟩ => ?_) hs rfl))
  obtain ⟨j, e, q1, q2, q⟩ := q1
  subst e
  cases r1 with
  | cons r rr =>
    cases rr
    obtain ⟨t, rfl⟩ := r
    exact call_range_1 (range_it I1 (by omega) (by omega) q1 q2 (by simpa using q))
/-- W: the invariant by the turn and a measure; N: what the body is to reach -/
def tFor (wi : TI) (g : TG) (tb : TS) : TS := fun D σ H => wi σ H fun J H1 => ∃ W : Nat → Nat → St → Hp → Prop, (∃ m, W 0 m σ H1) ∧ ∀ i m σ H, W i m σ H →
  (J.stop i H ∧ D.nx σ H) ∨ (J.go i H ∧ ∃ N : St → Hp → Prop, (∀ σ' H', N σ' H' → ∃ m', m' < m ∧ W (i + 1) m' σ' H') ∧ ∀ x H', J.yld i H x H' → g x σ H' fun σ2 H2 => tb { D with nx := N, ct := N, bk := D.nx } σ2 H2)
/-- the records at fp as they stand -/
def pinsAt (fp : List Addr) (h : Heap) : List (Addr × Obj) := fp.filterMap fun b => (h.get? b).map fun o => (b, o)
theorem mem_pinsAt {fp : List Addr} {h : Heap} {b : Addr} {o : Obj} (hb : b ∈ fp) (e : h.get? b = some o) : (b, o) ∈ pinsAt fp h := List.mem_filterMap.mpr ⟨b, hb, by rw [e]; rfl⟩
theorem of_pinsAt {fp : List Addr} {h : Heap} {p : Addr × Obj} (hp : p ∈ pinsAt fp h) : p.1 ∈ fp ∧ h.get? p.1 = some p.2 := by
  obtain ⟨b, hb, e⟩ := List.mem_filterMap.mp hp
  cases q : h.get? b with
  | none => rw [q] at e; cases e
  | some o =>
    rw [q] at e
    have e' : (b, o) = p := Option.some.inj e
    subst e'
    exact ⟨hb, q⟩
theorem Inv.pinned {pins : List (Addr × Obj)} {σ : St} {H : Hp} {s : Shared} {fp : List Addr} (I : Inv X pins σ H s) (hf : ∀ b ∈ fp, FpOk X pins H b) (ho : ∀ b ∈ fp, ∃ o, s.heap.get? b = some o ∧ ∀ v, o.data ≠ .cell v) : Inv X (pins ++ pinsAt fp s.heap) σ H s :=
  I.pins_of fun p hp => (List.mem_append.mp hp).elim (fun z => I.pin p (List.mem_append_right _ z)) fun z => by
    obtain ⟨hb, e⟩ := of_pinsAt z
    obtain ⟨f0, f1, f2, _⟩ := hf p.1 hb
    obtain ⟨o, e', d⟩ := ho p.1 hb
    rw [e] at e'; cases e'
    exact ⟨e, f0, f1, f2, d⟩
theorem Inv.unpinned {pins pl : List (Addr × Obj)} {σ : St} {H : Hp} {s : Shared} (I : Inv X (pins ++ pl) σ H s) : Inv X pins σ H s := I.pins_of fun p hp => I.pin p (List.mem_append_right _ (List.mem_append_left _ hp))
theorem ps_for {iter : Expr} {body : List Stmt} {wi : TI} {g : TG} {tb : TS} {pos : Pos} (hp : PassesOwn (model X.prog X.w) X.A X.env X.xe) (hc : X.calm = true) (hi : PI X tg iter wi) (hg : PG X tg g) (hb : PSs X body tb)
    (hs : ∀ x, foldedSetIterable iter X.env x = pure x := by intro _; rfl) : PS X (.For tg iter body [] pos) (tFor wi g tb) := by
  intro pins s σ H D I h
  refine wpAny_For (thn (hi pins s σ H _ I h) fun v s1 h1 => thn h1 fun itv s2 h2 => ?_) hs
  obtain ⟨it, fp, tn, J, H2, e, I2, T, st2, f2, W, ⟨m0, w0⟩, turn⟩ := h2
  subst e
  -- what stays true of the iterator's objects through the loop
  have stat : ∀ {H' : Hp}, (∀ b ∈ fp, H' b = none) → ∀ b ∈ fp, FpOk X pins H' b := fun hn b hb => ⟨hn b hb, (f2 b hb).2⟩
  refine codeAny_forLoop_any (fun n s' => ∃ i σ' H', Inv X pins σ' H' s' ∧ tn i s'.heap ∧ (∀ b ∈ fp, H' b = none) ∧ W i n σ' H') ?_ m0 ⟨0, σ, H2, I2, st2, fun b hb => (f2 b hb).1, w0⟩
  rintro n s3 ⟨i, σ3, H3, I3, st3, fr3, w3⟩
  rcases turn i n σ3 H3 w3 with ⟨stop, qn⟩ | ⟨go, N, hN, step⟩
  · refine wpAny_passesOwn hp (thn (T.done X rfl rfl rfl hc i pins s3 σ3 H3 X.xe I3 (stat fr3) st3 stop) fun r s4 ⟨hr, I4⟩ => ?_)
    subst hr
    exact wpAny_execs_nil ⟨σ3, H3, I4, qn⟩
  · refine wpAny_passesOwn hp (thn (T.item X rfl rfl rfl hc i pins s3 σ3 H3 X.xe I3 (stat fr3) st3 go) fun r s4 ⟨u, hr, h4⟩ => ?_)
    subst hr
    refine wpAny_passesOwn hp (thn h4 fun _ s5 ⟨x, H5, I5, r5, y5, st5, fr5⟩ => ?_)
    have I5' := I5.pinned (stat fr5) (T.obj _ _ st5)
    refine wpAny_passesOwn hp (thn (hg _ s5 σ3 H5 x u _ I5' r5 (step x H5 y5)) fun _ s6 ⟨σ6, H6, I6, q6⟩ => ?_)
    refine wpAny_passesOwn hp (thn (hb _ s6 σ6 H6 _ I6 q6) fun f s7 q7 => ?_)
    have again : ∀ {σ7 : St} {H7 : Hp}, Inv X (pins ++ pinsAt fp s5.heap) σ7 H7 s7 → N σ7 H7 → ∃ m, m < n ∧ ∃ i σ' H', Inv X pins σ' H' s7 ∧ tn i s7.heap ∧ (∀ b ∈ fp, H' b = none) ∧ W i m σ' H' := fun {σ7 H7} I7 n7 => by
      obtain ⟨m', hm, w7⟩ := hN σ7 H7 n7
      refine ⟨m', hm, i + 1, σ7, H7, I7.unpinned, T.keep _ _ _ st5 fun b hb o e => (I7.pin (b, o) (List.mem_append_right _ (List.mem_append_right _ (mem_pinsAt hb e)))).1, fun b hb => ?_, w7⟩
      obtain ⟨o, e, d⟩ := T.obj _ _ st5 b hb
      exact (I7.pin (b, o) (List.mem_append_right _ (List.mem_append_right _ (mem_pinsAt hb e)))).2.1
    cases f with
    | next => obtain ⟨σ7, H7, I7, n7⟩ := q7; exact again I7 n7
    | cont => obtain ⟨σ7, H7, I7, n7⟩ := q7; exact again I7 n7
    | brk => obtain ⟨σ7, H7, I7, q7⟩ := q7; exact ⟨σ7, H7, I7.unpinned, q7⟩
    | ret v => obtain ⟨x7, σ7, H7, I7, r7, q7⟩ := q7; exact ⟨x7, σ7, H7, I7.unpinned, r7, q7⟩
end

/-- over a list that the body leaves as it is -/
theorem for_list {K : PySem.W.Frag} {a : Addr} {xs : List V} {g : TG} {tb : TS} {D : Ends} {σ : St} {H : Hp} (Pv : Nat → St → Hp → Prop) (h0 : Pv 0 σ H) (hl : ∀ i σ H, i ≤ xs.length → Pv i σ H → SqL K H a xs)
    (hs : ∀ i x σ H, xs[i]? = some x → Pv i σ H → g x σ H fun σ2 H2 => tb { D with nx := Pv (i + 1), ct := Pv (i + 1), bk := D.nx } σ2 H2) (hd : ∀ σ H, Pv xs.length σ H → D.nx σ H) :
    ∃ W : Nat → Nat → St → Hp → Prop, (∃ m, W 0 m σ H) ∧ ∀ i m σ H, W i m σ H →
      ((Itl K a).stop i H ∧ D.nx σ H) ∨ ((Itl K a).go i H ∧ ∃ N : St → Hp → Prop, (∀ σ' H', N σ' H' → ∃ m', m' < m ∧ W (i + 1) m' σ' H') ∧ ∀ x H', (Itl K a).yld i H x H' → g x σ H' fun σ2 H2 => tb { D with nx := N, ct := N, bk := D.nx } σ2 H2) := by
  refine ⟨fun i m σ H => m = xs.length - i ∧ i ≤ xs.length ∧ Pv i σ H, ⟨xs.length, by simp, Nat.zero_le _, h0⟩, ?_⟩
  rintro i m σ H ⟨rfl, hi, p⟩
  have q := hl i σ H hi p
  by_cases hlt : i < xs.length
  · refine .inr ⟨⟨xs, xs[i], q, by simp [hlt]⟩, Pv (i + 1), fun σ' H' p' => ⟨xs.length - (i + 1), by omega, rfl, hlt, p'⟩, fun x H' y => ?_⟩
    obtain ⟨e, y⟩ := y
    subst e
    exact hs i x σ _ (y xs q) p
  · have e : i = xs.length := by omega
    subst e
    exact .inl ⟨⟨xs, q, Nat.le_refl _⟩, hd σ H p⟩
theorem for_range {lo : Int} {n : Nat} {g : TG} {tb : TS} {D : Ends} {σ : St} {H : Hp} (Pv : Nat → St → Hp → Prop) (h0 : Pv 0 σ H)
    (hs : ∀ i σ H, i < n → Pv i σ H → g (.int (lo + i)) σ H fun σ2 H2 => tb { D with nx := Pv (i + 1), ct := Pv (i + 1), bk := D.nx } σ2 H2) (hd : ∀ σ H, Pv n σ H → D.nx σ H) :
    ∃ W : Nat → Nat → St → Hp → Prop, (∃ m, W 0 m σ H) ∧ ∀ i m σ H, W i m σ H →
      ((Itr lo n).stop i H ∧ D.nx σ H) ∨ ((Itr lo n).go i H ∧ ∃ N : St → Hp → Prop, (∀ σ' H', N σ' H' → ∃ m', m' < m ∧ W (i + 1) m' σ' H') ∧ ∀ x H', (Itr lo n).yld i H x H' → g x σ H' fun σ2 H2 => tb { D with nx := N, ct := N, bk := D.nx } σ2 H2) := by
  refine ⟨fun i m σ H => m = n - i ∧ i ≤ n ∧ Pv i σ H, ⟨n, by simp, Nat.zero_le _, h0⟩, ?_⟩
  rintro i m σ H ⟨rfl, hi, p⟩
  by_cases hlt : i < n
  · refine .inr ⟨hlt, Pv (i + 1), fun σ' H' p' => ⟨n - (i + 1), by omega, rfl, hlt, p'⟩, fun x H' y => ?_⟩
    obtain ⟨e, y⟩ := y
    subst e y
    exact hs i σ _ hlt p
  · have e : i = n := by omega
    subst e
    exact .inl ⟨Nat.le_refl _, hd σ H p⟩
end L2

namespace L2
open PySem PySem.Spec PyProof.Rows

abbrev R2 := V → V → Hp → VK → Prop
/-- a two-place operation on values: f is binaryOp op, inplaceOp op or compareOp op -/
def OpR (X : Cx) (f : Value → Value → Sem Value) (r : R2) : Prop :=
  ∀ (pins : List (Addr × Obj)) (s : Shared) (σ : St) (H : Hp) (x y : V) (v u : Value) (Q : VK), Inv X pins σ H s → RelV x v → RelV y u → r x y H Q →
    wpAny (model X.prog X.w) X.A (f v u) (EP X pins σ Q) X.xe s
/-- a one-place operation -/
def UnR (X : Cx) (f : Value → Sem Value) (r : V → Hp → VK → Prop) : Prop :=
  ∀ (pins : List (Addr × Obj)) (s : Shared) (σ : St) (H : Hp) (x : V) (v : Value) (Q : VK), Inv X pins σ H s → RelV x v → r x H Q →
    wpAny (model X.prog X.w) X.A (f v) (EP X pins σ Q) X.xe s
/-- a call of a value that is known (a builtin, a type) with values -/
def CallR (X : Cx) (f : Value) (r : List V → Hp → VK → Prop) : Prop :=
  ∀ (pins : List (Addr × Obj)) (s : Shared) (σ : St) (H : Hp) (xs : List V) (us : List Value) (Q : VK), Inv X pins σ H s → Vals xs us → r xs H Q →
    wpAny (model X.prog X.w) X.A (call f us) (EP X pins σ Q) X.xe s
/-- a value's truth -/
def TruR (X : Cx) (r : V → Hp → (Bool → Hp → Prop) → Prop) : Prop :=
  ∀ (pins : List (Addr × Obj)) (s : Shared) (σ : St) (H : Hp) (x : V) (v : Value) (Q : Bool → Hp → Prop), Inv X pins σ H s → RelV x v → r x H Q →
    wpAny (model X.prog X.w) X.A (truthy v) (TP X pins σ Q) X.xe s

def tOp (r : R2) (ta tb : TE) : TE := fun σ H Q => ta σ H fun x H1 => tb σ H1 fun y H2 => r x y H2 Q
def tUn (r : V → Hp → VK → Prop) (ta : TE) : TE := fun σ H Q => ta σ H fun x H1 => r x H1 Q
/-- ints in, under C, and a value out -/
def rI (C : Int → Int → Prop) (g : Int → Int → V) : R2 := fun x y H Q => ∃ i j, x = .int i ∧ y = .int j ∧ C i j ∧ Q (g i j) H
def rI0 (g : Int → Int → V) : R2 := fun x y H Q => ∃ i j, x = .int i ∧ y = .int j ∧ Q (g i j) H
def rU (g : Int → V) : V → Hp → VK → Prop := fun x H Q => ∃ i, x = .int i ∧ Q (g i) H

section
variable {X : Cx} {a b c : Expr} {ta tb tc : TE} {pos : Pos}

theorem binT (ha : PE X a ta) (hb : PE X b tb) {pins : List (Addr × Obj)} {s : Shared} {σ : St} {H : Hp} {R : V → V → Hp → Prop} (I : Inv X pins σ H s)
    (h : ta σ H fun x H1 => tb σ H1 fun y H2 => R x y H2) {Q : Value → Shared → Prop} {f : Value → Value → Sem Value}
    (hf : ∀ v u s2 x y H2, Inv X pins σ H2 s2 → RelV x v → RelV y u → R x y H2 → wpAny (model X.prog X.w) X.A (f v u) Q X.xe s2) :
    wpAny (model X.prog X.w) X.A (eval a X.env) (fun v s₁ => wpAny (model X.prog X.w) X.A (eval b X.env) (fun u s₂ => wpAny (model X.prog X.w) X.A (f v u) Q X.xe s₂) X.xe s₁) X.xe s := by
  refine thn (ha pins s σ H _ I h) fun v s1 ⟨x, H1, I1, r1, q1⟩ => ?_
  refine thn (hb pins s1 σ H1 _ I1 q1) fun u s2 ⟨y, H2, I2, r2, q2⟩ => ?_
  exact hf v u s2 x y H2 I2 r1 r2 q2

theorem pe_op {op : Operator} {r : R2} (ho : OpR X (binaryOp op) r) (ha : PE X a ta) (hb : PE X b tb) : PE X (.BinOp a op b pos) (tOp r ta tb) := by
  intro pins s σ H Q I h
  exact wpAny_BinOp (binT ha hb I h fun v u s2 x y H2 I2 rx ry q => ho pins s2 σ H2 x y v u Q I2 rx ry q)
theorem pe_un {op : UnaryOp} {r : V → Hp → VK → Prop} (ho : UnR X (unaryOp op) r) (ha : PE X a ta) : PE X (.UnaryOp op a pos) (tUn r ta) := by
  intro pins s σ H Q I h
  exact UnaryOp_ (thn (ha pins s σ H _ I h) fun v s1 ⟨x, H1, I1, r1, q1⟩ => ho pins s1 σ H1 x v Q I1 r1 q1)
theorem opI {f : Value → Value → Sem Value} {C : Int → Int → Prop} {g : Int → Int → Int}
    (rule : ∀ (i j : Int) (t u : Tok) (s : Shared) (Q : Value → Shared → Prop) (E : Value → Shared → Prop), C i j → Q (.int (g i j) s.toks) { s with toks := s.toks + 1 } → wpAny (model X.prog X.w) X.A (f (.int i t) (.int j u)) Q E s) :
    OpR X f (rI C fun i j => .int (g i j)) := by
  intro pins s σ H x y v u Q I rx ry h
  obtain ⟨i, j, rfl, rfl, hc, q⟩ := h
  obtain ⟨t, rfl⟩ := rx
  obtain ⟨t', rfl⟩ := ry
  exact rule i j t t' s _ _ hc ⟨.int (g i j), H, I.tok _, ⟨_, rfl⟩, q⟩
theorem opI0 {f : Value → Value → Sem Value} {g : Int → Int → Int}
    (rule : ∀ (i j : Int) (t u : Tok) (s : Shared) (Q : Value → Shared → Prop) (E : Value → Shared → Prop), Q (.int (g i j) s.toks) { s with toks := s.toks + 1 } → wpAny (model X.prog X.w) X.A (f (.int i t) (.int j u)) Q E s) :
    OpR X f (rI0 fun i j => .int (g i j)) := by
  intro pins s σ H x y v u Q I rx ry h
  obtain ⟨i, j, rfl, rfl, q⟩ := h
  obtain ⟨t, rfl⟩ := rx
  obtain ⟨t', rfl⟩ := ry
  exact rule i j t t' s _ _ ⟨.int (g i j), H, I.tok _, ⟨_, rfl⟩, q⟩
theorem opB0 {f : Value → Value → Sem Value} {g : Int → Int → Bool}
    (rule : ∀ (i j : Int) (t u : Tok) (s : Shared) (Q : Value → Shared → Prop) (E : Value → Shared → Prop), Q (.bool (g i j)) s → wpAny (model X.prog X.w) X.A (f (.int i t) (.int j u)) Q E s) :
    OpR X f (rI0 fun i j => .bl (g i j)) := by
  intro pins s σ H x y v u Q I rx ry h
  obtain ⟨i, j, rfl, rfl, q⟩ := h
  obtain ⟨t, rfl⟩ := rx
  obtain ⟨t', rfl⟩ := ry
  exact rule i j t t' s _ _ ⟨.bl (g i j), H, I, rfl, q⟩

def CDiv (i j : Int) : Prop := 0 < j ∧ j < 1073741824
def CPow (i j : Int) : Prop := 0 ≤ j ∧ j ≤ 1000000 ∧ i.natAbs < 2 ^ 64
def CMul (i j : Int) : Prop := (-(2 ^ 64) < i ∧ i < 2 ^ 64) ∨ (-(2 ^ 64) < j ∧ j < 2 ^ 64)
theorem CMul.ok {i j : Int} (h : CMul i j) : IntMulOk i j := by
  rcases h with ⟨h1, h2⟩ | ⟨h1, h2⟩
  · exact .of_left (intBits_le_64 h1 h2)
  · exact .of_right (intBits_le_64 h1 h2)
theorem two_pow_nn (k : Nat) : (0 : Int) ≤ 2 ^ k := by
  rw [two_pow_cast]
  exact Int.natCast_nonneg _

theorem op_add : OpR X (binaryOp .Add) (rI0 fun i j => .int (i + j)) := opI0 fun _ _ _ _ _ _ _ q => add_int q
theorem op_sub : OpR X (binaryOp .Sub) (rI0 fun i j => .int (i - j)) := opI0 fun _ _ _ _ _ _ _ q => sub_int q
theorem op_mul : OpR X (binaryOp .Mult) (rI CMul fun i j => .int (i * j)) := opI fun _ _ _ _ _ _ _ hc q => mul_int q hc.ok
/-- // by a positive divisor -/
theorem op_fdiv : OpR X (binaryOp .FloorDiv) (rI CDiv fun i j => .int (i / j)) := opI fun i j _ _ _ _ _ hc q => by
  have h1 : (0 : Int) < j := hc.1
  have h2 : j < 1073741824 := hc.2
  exact floordiv_int (by omega) (by rw [Int.fdiv_eq_ediv_of_nonneg i (by omega)]; exact q) (.inl (PyProof.noPylong_small (by omega)))
/-- % by a positive divisor of any size -/
theorem op_mod : OpR X (binaryOp .Mod) (rI (fun _ j => 0 < j) fun i j => .int (i % j)) := opI fun i j _ _ _ _ _ hc q => by
  have h1 : (0 : Int) < j := hc
  exact mod_int' (by omega) (by rw [Int.fmod_eq_emod_of_nonneg i (by omega)]; exact q)
theorem op_pow : OpR X (binaryOp .Pow) (rI CPow fun i j => .int (i ^ j.toNat)) := opI fun _ _ _ _ _ _ _ hc q => pow_int_small hc.1 hc.2.1 hc.2.2 q
theorem op_shr : OpR X (binaryOp .RShift) (rI (fun _ j => 0 ≤ j) fun i j => .int (i / 2 ^ j.toNat)) := opI fun i j _ _ _ _ _ hc q =>
  rshift_int hc (by rw [Int.fdiv_eq_ediv_of_nonneg i (two_pow_nn _)]; exact q)
theorem unI {f : Value → Sem Value} {g : Int → Int}
    (rule : ∀ (i : Int) (t : Tok) (s : Shared) (Q : Value → Shared → Prop) (E : Value → Shared → Prop), Q (.int (g i) s.toks) { s with toks := s.toks + 1 } → wpAny (model X.prog X.w) X.A (f (.int i t)) Q E s) :
    UnR X f (rU fun i => .int (g i)) := by
  intro pins s σ H x v Q I rx h
  obtain ⟨i, rfl, q⟩ := h
  obtain ⟨t, rfl⟩ := rx
  exact rule i t s _ _ ⟨.int (g i), H, I.tok _, ⟨_, rfl⟩, q⟩
theorem un_neg : UnR X (unaryOp .USub) (rU fun i => .int (-i)) := unI fun _ _ _ _ _ q => neg_int q
end

/-- the scalars that == tells apart as data does -/
def scal : V → V → Bool
  | .non, .non => true | .non, .int _ => true | .int _, .non => true | .non, .bl _ => true | .bl _, .non => true | .non, .str _ => true | .str _, .non => true
  | .int _, .int _ => true | .bl _, .bl _ => true | .str _, .str _ => true | .byt _, .byt _ => true
  | .int _, .str _ => true | .str _, .int _ => true | .bl _, .str _ => true | .str _, .bl _ => true
  | _, _ => false
def rEq : R2 := fun x y H Q => scal x y = true ∧ Q (.bl (decide (x = y))) H
def rNe : R2 := fun x y H Q => scal x y = true ∧ Q (.bl (!decide (x = y))) H

theorem dec_int {i j : Int} : decide (V.int i = V.int j) = (i == j) := by
  rw [Bool.eq_iff_iff]
  simp
theorem dec_bl {i j : Bool} : decide (V.bl i = V.bl j) = (i == j) := by
  rw [Bool.eq_iff_iff]
  simp
theorem dec_str {i j : Str} : decide (V.str i = V.str j) = (i == j) := by
  rw [Bool.eq_iff_iff]
  simp
theorem dec_byt {i j : Array UInt8} : decide (V.byt i = V.byt j) = (i.toList == j.toList) := by
  rw [Bool.eq_iff_iff]
  cases i
  cases j
  simp

section
variable {X : Cx} {a b c : Expr} {ta tb tc : TE} {pos : Pos}
theorem fin_bl {pins : List (Addr × Obj)} {σ : St} {H : Hp} {s : Shared} {Q : VK} {k k' : Bool} (I : Inv X pins σ H s) (q : Q (.bl k) H) (e : k = k') : EP X pins σ Q (.bool k') s := by
  subst e
  exact ⟨.bl k, H, I, rfl, q⟩
theorem op_eq : OpR X (compareOp .Eq) rEq := by
  intro pins s σ H x y v u Q I rx ry h
  obtain ⟨hs, q⟩ := h
  cases x with
  | non =>
    cases rx
    cases y with
    | non => cases ry; exact PySem.EqNone.eq_none_none (fin_bl I q (by simp))
    | bl j => cases ry; exact PySem.EqNone.eq_none_bool (fin_bl I q (by simp))
    | int j => obtain ⟨t', rfl⟩ := ry; exact PySem.EqNone.eq_none_int (fin_bl I q (by simp))
    | str j => obtain ⟨t', rfl⟩ := ry; exact PySem.EqNone.eq_none_str (fin_bl I q (by simp))
    | _ => exact absurd (show false = true from hs) Bool.false_ne_true
  | bl i =>
    cases rx
    cases y with
    | non => cases ry; exact PySem.EqNone.eq_bool_none (fin_bl I q (by simp))
    | bl j => cases ry; exact eq_bool (fin_bl I q dec_bl)
    | str j => obtain ⟨t', rfl⟩ := ry; exact PySem.EqMixed.eq_bool_str (fin_bl I q (by simp))
    | _ => exact absurd (show false = true from hs) Bool.false_ne_true
  | int i =>
    obtain ⟨t, rfl⟩ := rx
    cases y with
    | non => cases ry; exact PySem.EqNone.eq_int_none (fin_bl I q (by simp))
    | int j => obtain ⟨t', rfl⟩ := ry; exact eq_int (fin_bl I q dec_int)
    | str j => obtain ⟨t', rfl⟩ := ry; exact PySem.EqMixed.eq_int_str (fin_bl I q (by simp))
    | _ => exact absurd (show false = true from hs) Bool.false_ne_true
  | str i =>
    obtain ⟨t, rfl⟩ := rx
    cases y with
    | non => cases ry; exact PySem.EqNone.eq_str_none (fin_bl I q (by simp))
    | bl j => cases ry; exact PySem.EqMixed.eq_str_bool (fin_bl I q (by simp))
    | int j => obtain ⟨t', rfl⟩ := ry; exact PySem.EqMixed.eq_str_int (fin_bl I q (by simp))
    | str j => obtain ⟨t', rfl⟩ := ry; exact eq_str (fin_bl I q dec_str)
    | _ => exact absurd (show false = true from hs) Bool.false_ne_true
  | byt i =>
    obtain ⟨t, rfl⟩ := rx
    cases y with
    | byt j => obtain ⟨t', rfl⟩ := ry; exact PySem.W.eq_bytes (fin_bl I q dec_byt)
    | _ => exact absurd (show false = true from hs) Bool.false_ne_true
  | _ => cases y <;> exact absurd (show false = true from hs) Bool.false_ne_true
theorem op_ne : OpR X (compareOp .NotEq) rNe := by
  intro pins s σ H x y v u Q I rx ry h
  obtain ⟨hs, q⟩ := h
  cases x with
  | non =>
    cases rx
    cases y with
    | non => cases ry; exact PySem.EqNone.ne_none_none (fin_bl I q (by simp))
    | bl j => cases ry; exact PySem.EqNone.ne_none_bool (fin_bl I q (by simp))
    | int j => obtain ⟨t', rfl⟩ := ry; exact PySem.EqNone.ne_none_int (fin_bl I q (by simp))
    | str j => obtain ⟨t', rfl⟩ := ry; exact PySem.EqNone.ne_none_str (fin_bl I q (by simp))
    | _ => exact absurd (show false = true from hs) Bool.false_ne_true
  | bl i =>
    cases rx
    cases y with
    | non => cases ry; exact PySem.EqNone.ne_bool_none (fin_bl I q (by simp))
    | bl j => cases ry; exact ne_bool (fin_bl I q (congrArg not dec_bl))
    | str j => obtain ⟨t', rfl⟩ := ry; exact PySem.EqMixed.ne_bool_str (fin_bl I q (by simp))
    | _ => exact absurd (show false = true from hs) Bool.false_ne_true
  | int i =>
    obtain ⟨t, rfl⟩ := rx
    cases y with
    | non => cases ry; exact PySem.EqNone.ne_int_none (fin_bl I q (by simp))
    | int j => obtain ⟨t', rfl⟩ := ry; exact ne_int (fin_bl I q (congrArg not dec_int))
    | str j => obtain ⟨t', rfl⟩ := ry; exact PySem.EqMixed.ne_int_str (fin_bl I q (by simp))
    | _ => exact absurd (show false = true from hs) Bool.false_ne_true
  | str i =>
    obtain ⟨t, rfl⟩ := rx
    cases y with
    | non => cases ry; exact PySem.EqNone.ne_str_none (fin_bl I q (by simp))
    | bl j => cases ry; exact PySem.EqMixed.ne_str_bool (fin_bl I q (by simp))
    | int j => obtain ⟨t', rfl⟩ := ry; exact PySem.EqMixed.ne_str_int (fin_bl I q (by simp))
    | str j => obtain ⟨t', rfl⟩ := ry; exact ne_str (fin_bl I q (congrArg not dec_str))
    | _ => exact absurd (show false = true from hs) Bool.false_ne_true
  | byt i =>
    obtain ⟨t, rfl⟩ := rx
    cases y with
    | byt j => obtain ⟨t', rfl⟩ := ry; exact PySem.W.ne_bytes (fin_bl I q (congrArg not dec_byt))
    | _ => exact absurd (show false = true from hs) Bool.false_ne_true
  | _ => cases y <;> exact absurd (show false = true from hs) Bool.false_ne_true

theorem op_lt : OpR X (compareOp .Lt) (rI0 fun i j => .bl (decide (i < j))) := opB0 fun _ _ _ _ _ _ _ q => lt_int q
theorem op_gt : OpR X (compareOp .Gt) (rI0 fun i j => .bl (decide (j < i))) := opB0 fun _ _ _ _ _ _ _ q => gt_int q
theorem op_ge : OpR X (compareOp .GtE) (rI0 fun i j => .bl (decide (j ≤ i))) := opB0 fun _ _ _ _ _ _ _ q => ge_int q
/-- is None, is not None: the right side a value none -/
theorem op_isN : OpR X (compareOp .Is) (fun x y H Q => y = .non ∧ Q (.bl (decide (x = .non))) H) := by
  intro pins s σ H x y v u Q I rx ry h
  obtain ⟨rfl, q⟩ := h
  cases ry
  refine is_none_gen (fin_bl I q ?_)
  cases x <;> first
    | (cases rx; rfl)
    | (obtain ⟨t, rfl⟩ := rx; rfl)
theorem op_notN : OpR X (compareOp .IsNot) (fun x y H Q => y = .non ∧ Q (.bl (!decide (x = .non))) H) := by
  intro pins s σ H x y v u Q I rx ry h
  obtain ⟨rfl, q⟩ := h
  cases ry
  refine isnot_none_gen (fin_bl I q ?_)
  cases x <;> first
    | (cases rx; rfl)
    | (obtain ⟨t, rfl⟩ := rx; rfl)

theorem nomark (b : Expr) {op : CmpOp} (h : op ≠ .In := by decide) (h2 : op ≠ .NotIn := by decide) : behindInMarks op b = false := by
  have e1 : (op == CmpOp.In) = false := by cases op <;> first | rfl | exact absurd rfl h
  have e2 : (op == CmpOp.NotIn) = false := by cases op <;> first | rfl | exact absurd rfl h2
  cases b <;> simp [behindInMarks, e1, e2]
/-- a comparison as a value; hm: nomark b, or (for in, not in) by with_unfolding_all rfl -/
theorem pe_cmpR {op : CmpOp} {r : R2} (ho : OpR X (compareOp op) r) (ha : PE X a ta) (hb : PE X b tb) (hm : behindInMarks op b = false) : PE X (.Compare a [op] [b] pos) (tOp r ta tb) := by
  intro pins s σ H Q I h
  exact wpAny_Compare1 (binT ha hb I h fun v u s2 x y H2 I2 rx ry q => ho pins s2 σ H2 x y v u Q I2 rx ry q) hm
/-- a reading of a value as a test -/
def tTest (t : TE) : TT := fun σ H Q => t σ H fun x H' => ∃ k, x = .bl k ∧ Q k H'
theorem pt_cmpR {op : CmpOp} {r : R2} (ho : OpR X (compareOp op) r) (ha : PE X a ta) (hb : PE X b tb) (hm : behindInMarks op b = false) : PT X (.Compare a [op] [b] pos) (tTest (tOp r ta tb)) := by
  intro pins s σ H Q I h
  refine wpAny_isTrue_Compare1 (thn (ha pins s σ H _ I h) fun v s1 ⟨x, H1, I1, r1, q1⟩ => thn (hb pins s1 σ H1 _ I1 q1) fun u s2 ⟨y, H2, I2, r2, q2⟩ =>
    thn (ho pins s2 σ H2 x y v u _ I2 r1 r2 q2) fun c s3 ⟨z, H3, I3, r3, k, e, q3⟩ => ?_) hm
  subst e
  cases r3
  exact wpAny_truthy_bool ⟨H3, I3, q3⟩
/-- a value's truth by the abstract heap -/
def TruV (K : PySem.W.Frag) (x : V) (H : Hp) (k : Bool) : Prop :=
  match x with
  | .non => k = false
  | .bl b => k = b
  | .int i => k = (i != 0)
  | .str y => y.length ≤ sizeLine ∧ k = ((y.length : Int) != 0)
  | .byt y => y.size ≤ sizeLine ∧ k = ((y.size : Int) != 0)
  | .ref p => (∃ xs, SqL K H p xs ∧ k = !xs.isEmpty) ∨ (∃ xs, SqT K H p xs ∧ k = !xs.isEmpty) ∨ ∃ kvs, H p = some (.dK kvs) ∧ k = !kvs.isEmpty
  | _ => False
theorem isEmpty_kv {κ : Type} {kvs : List (κ × V)} {vs : List (κ × Value)} (r : KV kvs vs) : (!vs.isEmpty) = !kvs.isEmpty := by
  cases r <;> rfl
theorem isEmpty_of {xs : List V} {its : List Value} (r : Vals xs its) : (!its.toArray.isEmpty) = !xs.isEmpty := by
  cases r <;> simp
theorem line63 : (sizeLine : Nat) < 2 ^ 63 := by rw [sizeLine_eq]; decide
theorem tru_ok : TruR X (fun x H Q => ∃ k, TruV X.K x H k ∧ Q k H) := by
  intro pins s σ H x v Q I rx h
  obtain ⟨k, e, q⟩ := h
  have hl := line63
  have hs : sizeLine = 16777216 := sizeLine_eq
  cases x with
  | non =>
    cases rx
    have e' : k = false := e
    subst e'
    exact truthy_none ⟨H, I, q⟩
  | bl b =>
    cases rx
    have e' : k = b := e
    subst e'
    exact wpAny_truthy_bool ⟨H, I, q⟩
  | int i =>
    obtain ⟨t, rfl⟩ := rx
    have e' : k = (i != 0) := e
    subst e'
    exact PySem.P.truthy_int ⟨H, I, q⟩
  | str y =>
    obtain ⟨t, rfl⟩ := rx
    obtain ⟨hy, e'⟩ : y.length ≤ sizeLine ∧ k = ((y.length : Int) != 0) := e
    subst e'
    exact PySem.P.truthy_str (by omega) ⟨H, I.tok _, q⟩
  | byt y =>
    obtain ⟨t, rfl⟩ := rx
    obtain ⟨hy, e'⟩ : y.size ≤ sizeLine ∧ k = ((y.size : Int) != 0) := e
    subst e'
    exact PySem.W.truthy_bytes (by omega) ⟨H, I.tok _, q⟩
  | ref p =>
    cases rx
    have e' : (∃ xs, SqL X.K H p xs ∧ k = !xs.isEmpty) ∨ (∃ xs, SqT X.K H p xs ∧ k = !xs.isEmpty) ∨ ∃ kvs, H p = some (.dK kvs) ∧ k = !kvs.isEmpty := e
    rcases e' with ⟨xs, hx, e'⟩ | ⟨xs, hx, e'⟩ | ⟨kvs, hx, e'⟩
    · subst e'
      obtain ⟨its, r, pl, hz⟩ := I.list hx
      have hlen := r.length
      exact wpAny_truthy_list pl.isList (by simp only [List.size_toArray]; omega) ⟨H, I.tok _, by rw [isEmpty_of r]; exact q⟩
    · subst e'
      obtain ⟨its, r, pl, hz⟩ := I.tuple hx
      have hlen := r.length
      exact truthy_tuple pl (by simp only [List.size_toArray]; omega) ⟨H, I.tok _, by rw [isEmpty_of r]; exact q⟩
    · subst e'
      obtain ⟨hz, hS, vs, r, m⟩ : kvs.length ≤ sizeLine ∧ (p == sysModules) = false ∧ ∃ vs, KV kvs vs ∧ s.heap.DictOf (mixKind X.prog X.w) p vs := I.hok p _ hx
      have hlen : kvs.length = vs.length := Paired.length r
      exact wpAny_truthy_dict hS m (by omega) ⟨H, I.tok _, by rw [isEmpty_kv r]; exact q⟩
  | _ => exact (show False from e).elim
/-- any expression whose test is its value's truth (a name, a call, a subscript, a field ..: he by fun _ => rfl) -/
theorem pt_truth (ha : PE X a ta) (he : ∀ whole, isTrue a X.env whole = (do let v ← whole; standAt a.pos; holding [v] (truthy v))) :
    PT X a (fun σ H Q => ta σ H fun x H' => ∃ k, TruV X.K x H' k ∧ Q k H') := by
  intro pins s σ H Q I h
  exact isTrue_plain (thn (ha pins s σ H _ I h) fun v s1 ⟨x, H1, I1, r1, q1⟩ => tru_ok pins s1 σ H1 x v Q I1 r1 q1) (he _)

theorem vals1 {x : V} {us : List Value} (r : Vals [x] us) : ∃ u, us = [u] ∧ RelV x u := by
  cases r with
  | cons r1 r2 => cases r2; exact ⟨_, rfl, r1⟩
theorem vals2 {x y : V} {us : List Value} (r : Vals [x, y] us) : ∃ u w', us = [u, w'] ∧ RelV x u ∧ RelV y w' := by
  cases r with
  | cons r1 r2 =>
    cases r2 with
    | cons r3 r4 => cases r4; exact ⟨_, _, rfl, r1, r3⟩
theorem call_max2 (hc : X.calm = true) : CallR X (.builtin "max") (fun xs H Q => ∃ i j, xs = [.int i, .int j] ∧ Q (.int (if j > i then j else i)) H) := by
  intro pins s σ H xs us Q I r h
  obtain ⟨i, j, rfl, q⟩ := h
  obtain ⟨u, w', rfl, ⟨t, rfl⟩, ⟨t', rfl⟩⟩ := vals2 r
  refine max_two_ints (I.ok.hd hc) fun h' tk k => ⟨_, H, I.kept k, ?_, q⟩
  by_cases hj : j > i
  · rw [if_pos hj, if_pos hj]; exact ⟨_, rfl⟩
  · rw [if_neg hj, if_neg hj]; exact ⟨_, rfl⟩
end
end L2

namespace L2
open PySem PySem.Spec PyProof.Rows

structure ObjM (h : Heap) (x dx C : Addr) (mA : Str → Option Value) : Prop where
  obj : h.get? x = some (PySem.W.instObj C dx)
  ns : h.Ns1 dx mA
  ne : dx ≠ x

theorem lookIn_ns {h : Heap} {dx : Addr} {mA : Str → Option Value} (n : h.Ns1 dx mA) : ∃ od, h.get? dx = some od ∧ ∀ name, PySem.W.lookIn name od = some (mA name) := by
  obtain ⟨o, es, ep, ho, hd, hk, _, hm⟩ := n
  refine ⟨o, ho, fun name => ?_⟩
  have e := hm name
  unfold nsFind findBy at e
  rw [← Array.find?_toList] at e
  unfold PySem.W.lookIn
  rw [hd]
  dsimp only
  split
  · rename_i y q
    rw [q] at e
    exact congrArg some e
  · rename_i q
    rw [q] at e
    have a : es.toList.any (·.refKey) = false := by
      rw [List.any_eq_false]
      intro y hy
      obtain ⟨z, t, hkey⟩ := hk y (Array.mem_toList_iff.mp hy)
      simp [DictEntry.refKey, hkey]
    have a' : ¬ es.toList.any (·.refKey) = true := by rw [a]; exact Bool.false_ne_true
    rw [if_neg a']
    exact congrArg some e

theorem ObjM.look {h : Heap} {x dx C : Addr} {mA : Str → Option Value} (I : ObjM h x dx C mA) : ∃ od, PySem.W.InstAt h x (PySem.W.instObj C dx) C (some od) ∧ ∀ name, PySem.W.lookIn name od = some (mA name) :=
  let ⟨od, ho, hl⟩ := lookIn_ns I.ns
  ⟨od, ⟨I.obj, rfl, rfl, ho⟩, hl⟩

section
variable {prog : Program} {w : World} {A : Around} {E : Value → Shared → Prop} {s : Shared} {K : PySem.W.Frag} {x dx C f : Addr} {mA : Str → Option Value} {name : Str} {v : Value}

end

section
variable {P : Program} {w : World} {H H' : Hp} {h h' : Heap} {a C dx : Addr} {fs fs' : List (Str × V)}
theorem ins_get (hok : HOk P w H h) (e : H a = some (.ins C dx fs)) : ∃ mA, ObjM h a dx C mA ∧ (∀ f, RelO (fs.lookup f) (mA f)) ∧ PySem.Within mA (fs.map (·.1)) ∧ fs.length ≤ 1000 ∧ H dx = some (.own a) := by
  obtain ⟨d, z, ne, ob, mA, n, r, q⟩ := (show ObjOk P w H h a (.ins C dx fs) from hok a _ e)
  exact ⟨mA, ⟨ob, n, ne⟩, r, q, z, d⟩
end

structure Cls (K : PySem.W.Frag) (C : Addr) : Prop where
  pg : PySem.W.plainGet K C Str.empty = true
  hd : PySem.W.hasDictIn K C = true
  po : PySem.W.plainOver K C = true
  sa : PySem.W.findIn K (.ref C) "__setattr__" = some (some (.builtin "object.__setattr__"))
theorem Cls.get {K : PySem.W.Frag} {C : Addr} (c : Cls K C) (f : Str) : PySem.W.plainGet K C f = true := c.pg
section
variable {X : Cx} {pins : List (Addr × Obj)} {σ : St} {H : Hp} {s : Shared} {a C dx : Addr} {fs : List (Str × V)} {f : Str} {v : V} {A : Around} {E : Value → Shared → Prop}

end

section
variable {X : Cx} {o e value : Expr} {f : Str} {pos pos' tpos : Pos} {ta tv : TE}
end

section
variable {X : Cx} {pins : List (Addr × Obj)} {σ : St} {H : Hp} {s : Shared} {A : Around} {E : Value → Shared → Prop} {Q : Value → Shared → Prop} {c : Value} {b : Bool}
/-- the type of a value, as the fragment's deciders take it; for an instance its class -/
inductive TyOf (K : PySem.W.Frag) (H : Hp) : V → Value → Prop where
  | non : TyOf K H .non (.type "NoneType")
  | bl (x : Bool) : TyOf K H (.bl x) (.type "bool")
  | int (i : Int) : TyOf K H (.int i) (.type "int")
  | str (x : Str) : TyOf K H (.str x) (.type "str")
  | flt (x : UInt64) : TyOf K H (.flt x) (.type "float")
  | lst {a : Addr} {xs : List V} (e : H a = some (.lst xs)) : TyOf K H (.ref a) (.type "list")
  | frz {a : Addr} {o : Obj} {xs : List V} (e : H a = some (.frz o (.lst xs))) : TyOf K H (.ref a) (.type "list")
  | tup {a : Addr} {xs : List V} (e : H a = some (.tup xs)) : TyOf K H (.ref a) (.type "tuple")
  | dK {a : Addr} {kvs : List (Key × V)} (e : H a = some (.dK kvs)) : TyOf K H (.ref a) (.type "dict")
  | dT {a : Addr} {kvs : List (List Key × V)} (e : H a = some (.dT kvs)) : TyOf K H (.ref a) (.type "dict")
  | ins {a C dx : Addr} {fs : List (Str × V)} (e : H a = some (.ins C dx fs)) (cl : Cls K C) (ha : PySem.W.findIn K (.ref C) "__class__" = some (some (.builtin "object.__class__")))
      (hn : PySem.W.specialIn K (.builtin "object.__class__") "__get__" = some (some (.builtin "getset_descriptor.__get__"))) (htk : PySem.W.takesIn K (.builtin "object.__class__") = some true)
      (hm : PySem.W.mroIn K C (.type "object") = some true) : TyOf K H (.ref a) (.ref C)
/-- isinstance(x, c) for one class c, a built-in or an own one: kitOne's answer -/
theorem isinst_ok {x : V} {u t : Value} (I : Inv X pins σ H s) (rx : RelV x u) (ty : TyOf X.K H x t) (e : PySem.W.kitOne X.K t c = some b) (h : ∀ tk, Q (.bool b) { s with toks := tk }) :
    wpAny (model X.prog X.w) A (call (.builtin "isinstance") [u, c]) Q E s := by
  cases ty with
  | non => cases (show u = Value.none from rx); exact PySem.W.kia_one PySem.W.kitx_none I.kIn True.intro e (fun z => nomatch z) h
  | bl y => cases (show u = Value.bool y from rx); exact PySem.W.kia_one PySem.W.kitx_bool I.kIn True.intro e (fun z => nomatch z) h
  | int i => obtain ⟨t, q⟩ := (show ∃ t, u = Value.int i t from rx); cases q; exact PySem.W.kia_one PySem.W.kitx_int I.kIn True.intro e (fun z => nomatch z) h
  | str y => obtain ⟨t, q⟩ := (show ∃ t, u = Value.str y t from rx); cases q; exact PySem.W.kia_one PySem.W.kitx_str I.kIn True.intro e (fun z => nomatch z) h
  | flt y => obtain ⟨t, q⟩ := (show ∃ t, u = Value.float y t from rx); cases q; exact PySem.W.kia_one PySem.W.kitx_float I.kIn True.intro e (fun z => nomatch z) h
  | @lst a xs ea =>
    cases (show u = Value.ref a from rx)
    obtain ⟨_, _, n, _, h1⟩ := (show ObjOk X.prog X.w H s.heap a (.lst xs) from I.hok a _ ea)
    exact PySem.W.kia_one PySem.W.kitx_list I.kIn ⟨_, h1, rfl⟩ e (fun z => nomatch z) h
  | @frz a ob xs ea =>
    cases (show u = Value.ref a from rx)
    obtain ⟨_, _, _, n, _, h1⟩ := (show ObjOk X.prog X.w H s.heap a (.frz ob (.lst xs)) from I.hok a _ ea)
    exact PySem.W.kia_one PySem.W.kitx_list I.kIn ⟨_, h1, rfl⟩ e (fun z => nomatch z) h
  | @tup a xs ea =>
    cases (show u = Value.ref a from rx)
    obtain ⟨_, _, _, p⟩ := (show ObjOk X.prog X.w H s.heap a (.tup xs) from I.hok a _ ea)
    obtain ⟨o, h1, h2, _⟩ := p
    exact PySem.W.kia_one PySem.W.kitx_tuple I.kIn ⟨o, h1, h2⟩ e (fun z => nomatch z) h
  | @dK a kvs ea =>
    cases (show u = Value.ref a from rx)
    obtain ⟨_, _, vs, _, p⟩ := (show ObjOk X.prog X.w H s.heap a (.dK kvs) from I.hok a _ ea)
    obtain ⟨o, es, ep, h1, h2, _⟩ := p
    exact PySem.W.kia_one PySem.W.kitx_dict I.kIn ⟨o, h1, h2.1⟩ e (fun z => nomatch z) h
  | @dT a kvs ea =>
    cases (show u = Value.ref a from rx)
    obtain ⟨_, _, xs, _, o, es, ep, h1, h2, _⟩ := (show ObjOk X.prog X.w H s.heap a (.dT kvs) from I.hok a _ ea)
    exact PySem.W.kia_one PySem.W.kitx_dict I.kIn ⟨o, h1, h2.1⟩ e (fun z => nomatch z) h
  | @ins a C dx fs ea cl ha hn htk hm =>
    cases (show u = Value.ref a from rx)
    obtain ⟨mA, O, _⟩ := ins_get I.hok ea
    obtain ⟨od, J, _⟩ := O.look
    exact PySem.W.kia_one (PySem.W.kitx_own (cl.get _) cl.hd ha hn htk hm) I.kIn J e (fun z => nomatch z) h
end
end L2

namespace L2
open PySem PySem.Spec PyProof.Rows

structure Room (k : Nat) (A : Around) : Prop where
  hd : A.handled = none
  dp : A.depth + 3 * k + 5 < recursionLimit
  un : A.units + 16 * k + 200 < cLine
theorem Room.mono {j k : Nat} {A : Around} (r : Room k A) (h : j ≤ k) : Room j A := ⟨r.hd, by have := r.dp; omega, by have := r.un; omega⟩
theorem Room.deeper {k : Nat} {A : Around} (r : Room (k + 1) A) (env : Env) : Room k (A.deeper env) :=
  ⟨r.hd, by have := r.dp; show A.depth + 1 + 3 * k + 5 < _; omega, by have := r.un; show A.units + 3 + 16 * k + 200 < _; omega⟩
theorem Room.depth {k : Nat} {A : Around} (r : Room k A) : A.depth < recursionLimit := by have := r.dp; omega
theorem Room.units {k : Nat} {A : Around} (r : Room k A) : A.units + 64 < cLine := by have := r.un; omega
def tNil : TA := fun _ H Q => Q [] H
def tCons (ta : TE) (tr : TA) : TA := fun σ H Q => ta σ H fun x H1 => tr σ H1 fun xs H2 => Q (x :: xs) H2
section
variable {X : Cx} {e : Expr} {es : List Expr} {te : TE} {t : TA} {pos : Pos}
theorem pa_nil : PA X [] tNil := fun _ _ _ _ H Q I h => Calls.spliced_nil ⟨[], H, I, .nil, h⟩
theorem pa_cons (ha : PE X e te) (hr : PA X es t) (hs : starEach (e :: es) X.env = (false, eval e X.env) :: starEach es X.env := by rfl) : PA X (e :: es) (tCons te t) := by
  intro pos pins s σ H Q I h
  rw [hs]
  show wpAny _ _ (spliced ((false, eval e X.env) :: backTo pos (starEach es X.env))) _ _ s
  refine Calls.spliced_cons (thn (ha pins s σ H _ I h) fun u s1 ⟨x, H1, I1, r1, q1⟩ => ?_)
  exact thn (hr pos pins s1 σ H1 _ I1 q1) fun us s2 ⟨xs, H2, I2, r2, q2⟩ => ⟨x :: xs, H2, I2, .cons r1 r2, q2⟩

/-- a tuple, a list of written items -/
def tTup (t : TA) : TE := fun σ H Q => t σ H fun xs H1 => xs.length ≤ sizeLine ∧ ∀ p, H1 p = none → Q (.ref p) (upd H1 p (.tup xs))
def tLst (t : TA) : TE := fun σ H Q => t σ H fun xs H1 => xs.length ≤ sizeLine ∧ ∀ p, H1 p = none → Q (.ref p) (upd H1 p (.lst xs))
theorem pe_tup {x1} (h : PA X es t) : PE X (.Tuple es x1 pos) (tTup t) := by
  intro pins s σ H Q I hq
  refine wpAny_Tuple_spliced (thn (h pos pins s σ H _ I hq) fun us s1 ⟨xs, H1, I1, r, z, q⟩ => ⟨by rw [← r.length]; exact z, ?_⟩)
  have hf : H1 s1.heap.objs.size = none := I1.hok.fresh (Nat.le_refl _)
  refine ⟨.ref s1.heap.objs.size, upd H1 s1.heap.objs.size (.tup xs), I1.laid (t' := s1.toks) (fun b u e => Heap.get?_push_of_some _ e) (Nat.le_refl _) ?_, rfl, q _ hf⟩
  exact ⟨z, us, r, ⟨_, Heap.get?_push_size _ rfl, rfl, _, rfl⟩⟩
theorem pe_lst (h : PA X es t) : PE X (.List es pos) (tLst t) := by
  intro pins s σ H Q I hq
  refine wpAny_List_spliced (thn (h pos pins s σ H _ I hq) fun us s1 ⟨xs, H1, I1, r, z, q⟩ => ⟨by rw [← r.length]; exact z, ?_⟩)
  have hf : H1 s1.heap.objs.size = none := I1.hok.fresh (Nat.le_refl _)
  refine ⟨.ref s1.heap.objs.size, upd H1 s1.heap.objs.size (.lst xs), I1.laid (t' := s1.toks) (fun b u e => Heap.get?_push_of_some _ e) (Nat.le_refl _) ?_, rfl, q _ hf⟩
  exact ⟨z, us, 0, r, Heap.get?_push_size _ rfl⟩
end

/-- a def's promise: the bound arguments in the parameters' order, the heap, the wanted end, the wanted exception -/
abbrev Sp := List V → Hp → VK → XK → Prop
/-- how an exception lies behind a call (file 08 gives it): the callers' frames, abstract heap and state ahead of the call, the wish, the exception, the state -/
abbrev CXT := List Env → Hp → Shared → XK → Value → Shared → Prop

/-- the state at a call -/
structure Env0 (P : Program) (w : World) (K : PySem.W.Frag) (mg : Str → Option Value) (base : Heap) (A : Around) (outer : List Env) (s : Shared) (H : Hp) : Prop where
  frames : A.frames = some outer
  mod : Mod K mg base
  bs : ∀ b o, base.get? b = some o → s.heap.get? b = some o ∧ H b = none
  bsz : base.objs.size ≤ s.heap.objs.size
  funs : s.heap.FunFrames base outer
  frf : ∀ b ∈ frs outer, H b = none
  hok : HOk P w H s.heap
  bare : AllBare s.gens
/-- a call's end -/
def CE (outer : List Env) (P : Program) (w : World) (H : Hp) (s : Shared) (Q : VK) (u : Value) (s' : Shared) : Prop :=
  ∃ v H', s'.os = s.os ∧ AllBare s'.gens ∧ Un (frs outer) [] H H' s.heap s'.heap ∧ HOk P w H' s'.heap ∧ RelV v u ∧ Q v H'
def CR (CX : CXT) (outer : List Env) (P : Program) (w : World) (H : Hp) (s : Shared) (Q : VK) (E : XK) (r : Result) (s' : Shared) : Prop :=
  match r with
  | .ok (.ret u) => CE outer P w H s Q u s'
  | .ok _ => False
  | .error e => CX outer H s E e s'
structure FnOk (P : Program) (w : World) (K : PySem.W.Frag) (mg : Str → Option Value) (base : Heap) (CX : CXT) (k : Nat) (f : Addr) (fd : FuncData) (ps : List Str) (sp : Sp) : Prop where
  len : ∀ vs H Q E, sp vs H Q E → vs.length = ps.length
  run : ∀ (A : Around) (outer : List Env) (s : Shared) (H : Hp) (args : Args) (us : List Value) (vs : List V) (Q : VK) (E : XK), Room k A → Env0 P w K mg base A outer s H → BindsTo s fd args (ps.zip us) → Vals vs us → sp vs H Q E →
    codeAny (model P w) A (.call (.ref f) args) (CR CX outer P w H s Q E) s
section
variable {X : Cx} {pins : List (Addr × Obj)} {σ : St} {H : Hp} {s s' : Shared}
/-- from a body: what a callee wants -/
theorem Inv.env0 (I : Inv X pins σ H s) : Env0 X.prog X.w X.K X.mg X.base X.A X.stack s H :=
  ⟨I.ok.frames, I.ok.mod, I.bs, Nat.le_trans I.ok.bsz I.sz, I.stack, I.stkFree, I.hok, I.bare⟩
/-- behind a call -/
theorem Inv.after {Q : VK} {u : Value} (I : Inv X pins σ H s) (h : CE X.stack X.prog X.w H s Q u s') : EP X pins σ Q u s' := by
  obtain ⟨v, H', os, bare, un, hok, r, q⟩ := h
  obtain ⟨hh, g, d, t, os'⟩ := s'
  obtain rfl : os' = s.os := os
  exact ⟨v, H', I.call (h' := hh) (g' := g) (d' := d) (t' := t) (ch := []) un hok bare (fun b z => absurd z (by simp)), r, q⟩
end

/-- f(..): the written arguments, then the defaults dvs; E: what is wanted of an exception -/
def tCall (sp : Sp) (dvs : List V) (E : XK) (t : TA) : TE := fun σ H Q => t σ H fun vs H1 => sp (vs ++ dvs) H1 Q E
/-- o.m(..) of an instance of the class at C -/
def tMeth (C : Addr) (m : Str) (sp : Sp) (dvs : List V) (E : XK) (ta : TE) (t : TA) : TE := fun σ H Q => ta σ H fun x H1 => ∃ a dx fs, x = .ref a ∧ H1 a = some (.ins C dx fs) ∧ fs.lookup m = none ∧
  t σ H1 fun vs H2 => sp (x :: (vs ++ dvs)) H2 Q E
/-- C(..): a new instance and its dict, then __init__ -/
def tMake (C : Addr) (sp : Sp) (dvs : List V) (E : XK) (t : TA) : TE := fun σ H Q => t σ H fun vs H1 => ∀ x dx, H1 x = none → H1 dx = none → dx ≠ x →
  sp (.ref x :: (vs ++ dvs)) (upd (upd H1 dx (.own x)) x (.ins C dx [])) (fun v H2 => v = .non ∧ Q (.ref x) H2) E

/-- how the parameters are bound: us the positional arguments, kw the keywords' values by name, ds the defaults that fill up -/
def Binds (K : PySem.W.Frag) (fd : FuncData) (ps : List Str) (ds : List Value) : Prop :=
  ∀ (s : Shared) (us : List Value), K.In s.heap → (us ++ ds).length = ps.length → BindsTo s fd ⟨us, []⟩ (ps.zip (us ++ ds))
/-- every parameter is given -/
theorem Binds.all {K : PySem.W.Frag} {fd : FuncData} {ps : List Str} (h : ∀ us : List Value, us.length = ps.length → bindArgs fd ⟨us, []⟩ = pure (ps.zip us)) : Binds K fd ps [] := fun s us _ hl => by
  rw [List.append_nil] at hl ⊢
  exact .of_eq (h us hl)

/-- an exception of a callee reaches what this body wants of exceptions -/
def Passes (CX : CXT) (X : Cx) (E : XK) : Prop := ∀ (pins : List (Addr × Obj)) (σ : St) (H : Hp) (s : Shared) (e : Value) (s' : Shared), Inv X pins σ H s → CX X.stack H s E e s' → X.xe e s'

section
variable {X : Cx} {CX : CXT} {k : Nat} {f C : Addr} {fd : FuncData} {ps : List Str} {sp : Sp} {dvs : List V} {ds : List Value} {E : XK} {x m : Str} {p pos apos : Pos} {e o : Expr} {es : List Expr} {ta : TE} {t : TA}

/-- the callee runs -/
theorem run_fn {pins : List (Addr × Obj)} {σ : St} {H : Hp} {s : Shared} {Q : VK} {us : List Value} {vs : List V} (F : FnOk X.prog X.w X.K X.mg X.base CX k f fd ps sp) (hr : Room k X.A) (hb : Binds X.K fd ps ds) (hd : Vals dvs ds) (hx : Passes CX X E)
    (I : Inv X pins σ H s) (r : Vals vs us) (h : sp (vs ++ dvs) H Q E) : wpAny (model X.prog X.w) X.A (call (.ref f) us) (EP X pins σ Q) X.xe s := by
  have r2 : Vals (vs ++ dvs) (us ++ ds) := r.append hd
  have hl : (us ++ ds).length = ps.length := by rw [← r2.length]; exact F.len _ _ _ _ h
  refine wpAny_call (codeAny_mono (F.run X.A X.stack s H ⟨us, []⟩ (us ++ ds) (vs ++ dvs) Q E hr I.env0 (hb s us I.kIn hl) r2 h) fun r s' hq => ?_)
  cases r with
  | error e => exact hx pins σ H s e s' I hq
  | ok fl =>
    cases fl with
    | ret u => exact I.after hq
    | next => exact False.elim hq
    | brk => exact False.elim hq
    | cont => exact False.elim hq

theorem pe_call (F : FnOk X.prog X.w X.K X.mg X.base CX k f fd ps sp) (hr : Room k X.A) (hg : Gl X x) (hm : X.mg x = some (.ref f)) (hk : PySem.W.keepIn X.K (.ref f) = true) (hb : Binds X.K fd ps ds) (hd : Vals dvs ds) (hx : Passes CX X E)
    (ha : PA X (e :: es) t) (hdb : (x == ("__debug__" : Str)) = false := by decide) (he : starEach (e :: es) X.env = (false, eval e X.env) :: starEach es X.env := by rfl) (hpl : (backTo pos (starEach es X.env)).any (·.1) = false := by rfl) :
    PE X (.Call (.Name x p) (e :: es) [] pos) (tCall sp dvs E t) := by
  intro pins s σ H Q I h
  refine wpAny_Call_Name_kw (ld_glob I hg hm ?_ hdb)
  refine PySem.W.callWith_K (h₀ := X.base) I.ok.mod.kin hk (thn (ha pos pins s σ H _ I h) fun us s1 ⟨vs, H1, I1, r, q⟩ => ⟨I1.kIn, ?_⟩) he hpl
  exact run_fn F hr hb hd hx I1 r q
end

section
variable {X : Cx} {CX : CXT} {k : Nat} {f C : Addr} {fd : FuncData} {ps ks : List Str} {sp : Sp} {E : XK} {x m : Str} {p pos apos kpos : Pos} {e o : Expr} {es : List Expr} {kws : List Keyword} {te ta : TE} {t tk : TA} {nm : Option Str}
variable {g : List Value → List Value → List Value} {gV : List V → List V → List V}
end

/-- names: the parameters first -/
structure FnScope (N P : List Str) (sc : Scope) : Prop where
  kind : sc.kind = .function
  co : sc.isCoroutine = false
  gen : sc.isGenerator = false
  nd : N.Nodup
  pre : N.take P.length = P
  par : ∀ x ∈ P, sc.names.lookup x = some .local ∨ sc.names.lookup x = some .cell
  nofree : ∀ y ∈ sc.names, y.2 ≠ .free

theorem bindL_out {kindOf : Str → Option NameKind} {x : Str} : ∀ {binds : List (Str × Value)} {m : Str → Option Value}, (∀ v, (x, v) ∉ binds) → bindL kindOf binds m x = m x
  | [], _, _ => rfl
  | (n, v) :: r, m, h => by
    unfold bindL
    rw [bindL_out fun w hw => h w (List.mem_cons_of_mem _ hw)]
    split
    · have : x ≠ n := by rintro rfl; exact h v List.mem_cons_self
      simp [this]
    · rfl
theorem bindC_out {kindOf : Str → Option NameKind} {x : Str} : ∀ {binds : List (Str × Value)} {m : Str → Option Value}, (∀ v, (x, v) ∉ binds) → bindC kindOf binds m x = m x
  | [], _, _ => rfl
  | (n, v) :: r, m, h => by
    unfold bindC
    rw [bindC_out fun w hw => h w (List.mem_cons_of_mem _ hw)]
    split
    · rfl
    · have : x ≠ n := by rintro rfl; exact h v List.mem_cons_self
      simp [this]
theorem bindL_get {kindOf : Str → Option NameKind} {x : Str} {v : Value} : ∀ {P : List Str} {vs : List Value} {i : Nat} {m : Str → Option Value}, P.Nodup → P[i]? = some x → vs[i]? = some v → kindOf x = some .local →
    bindL kindOf (P.zip vs) m x = some v
  | [], _, _, _, _, h, _, _ => by simp at h
  | _ :: _, [], _, _, _, _, h, _ => by simp at h
  | p :: P, w :: vs, 0, m, nd, h1, h2, hk => by
    simp at h1 h2; subst h1; subst h2
    show bindL kindOf ((p, w) :: P.zip vs) m p = _
    unfold bindL
    rw [bindL_out fun v hv => (List.nodup_cons.mp nd).1 (List.of_mem_zip hv).1, if_pos hk]
    simp
  | p :: P, w :: vs, i + 1, m, nd, h1, h2, hk => by
    show bindL kindOf ((p, w) :: P.zip vs) m x = _
    unfold bindL
    exact bindL_get (i := i) (List.nodup_cons.mp nd).2 (by simpa using h1) (by simpa using h2) hk
theorem bindC_get {kindOf : Str → Option NameKind} {x : Str} {v : Value} : ∀ {P : List Str} {vs : List Value} {i : Nat} {m : Str → Option Value}, P.Nodup → P[i]? = some x → vs[i]? = some v → kindOf x ≠ some .local →
    bindC kindOf (P.zip vs) m x = some v
  | [], _, _, _, _, h, _, _ => by simp at h
  | _ :: _, [], _, _, _, _, h, _ => by simp at h
  | p :: P, w :: vs, 0, m, nd, h1, h2, hk => by
    simp at h1 h2; subst h1; subst h2
    show bindC kindOf ((p, w) :: P.zip vs) m p = _
    unfold bindC
    rw [bindC_out fun v hv => (List.nodup_cons.mp nd).1 (List.of_mem_zip hv).1, if_neg hk]
    simp
  | p :: P, w :: vs, i + 1, m, nd, h1, h2, hk => by
    show bindC kindOf ((p, w) :: P.zip vs) m x = _
    unfold bindC
    exact bindC_get (i := i) (List.nodup_cons.mp nd).2 (by simpa using h1) (by simpa using h2) hk

/-- the names' values at the entry -/
def start (N : List Str) (vs : List V) : St := vs.map some ++ List.replicate (N.length - vs.length) none

/-- the context of a def's body, at its entry; an exception leaves the frame, then lies as CX says -/
def cxOf (CX : CXT) (P : Program) (w : World) (K : PySem.W.Frag) (mg : Str → Option Value) (base : Heap) (N : List Str) (qual : Str) (scope : Scope) (f : Addr) (cd : Value) (A : Around) (outer : List Env) (s : Shared) (H : Hp) (E : XK) : Cx where
  prog := P
  w := w
  K := K
  mg := mg
  base := base
  A := A.deeper (envOfC qual scope s.heap.objs.size f cd)
  N := N
  s₀ := s
  H₀ := H
  env := envOfC qual scope s.heap.objs.size f cd
  outer := outer
  stack := envOfC qual scope s.heap.objs.size f cd :: outer
  ex := []
  calm := true
  fn := fun _ => true
  pn := []
  xe := fun e s' => wpAny (model P w) (A.deeper (envOfC qual scope s.heap.objs.size f cd)) (leaving (envOfC qual scope s.heap.objs.size f cd) e) (fun _ s'' => CX outer H s E e s'') (fun e' s'' => CX outer H s E e' s'') s'

theorem cell_has {sc : Scope} {n : Nat} {x : Str} (h : sc.names.lookup x = some .cell) : ∃ c, (cellsFrom n sc.names []).lookup x = some c := by
  have q := PySem.W.cellsFrom_some sc.names n [] (.inl h)
  exact Option.isSome_iff_exists.mp q

theorem inv_start {CX : CXT} {P : Program} {w : World} {K : PySem.W.Frag} {mg : Str → Option Value} {base : Heap} {N ps : List Str} {qual : Str} {scope : Scope} {f : Addr} {cd : Value} {A : Around} {outer : List Env} {s s1 : Shared} {H : Hp} {E : XK} {us : List Value} {vs : List V}
    (S : FnScope N ps scope) (hd : A.handled = none) (e0 : Env0 P w K mg base A outer s H) (hl : vs.length = ps.length) (r : Vals vs us)
    (x : InCallC s s.heap.objs.size (bindL (envOfC qual scope s.heap.objs.size f cd).kindOf (ps.zip us) fun _ => none) (cellsFrom (s.heap.objs.size + 1) scope.names []) (bindC (envOfC qual scope s.heap.objs.size f cd).kindOf (ps.zip us) fun _ => none) s1) :
    Inv (cxOf CX P w K mg base N qual scope f cd A outer s H E) [] (start N vs) H s1 := by
  have hpl : ps.length ≤ N.length := by have := congrArg List.length S.pre; rw [List.length_take] at this; omega
  obtain ⟨h1, tk, rfl, hk⟩ := x.done
  have noA : ∀ b : Addr, b ∉ (cxOf CX P w K mg base N qual scope f cd A outer s H E).ex := fun b z => absurd (show b ∈ ([] : List Addr) from z) (by simp)
  refine ⟨⟨e0.mod, S.kind, rfl, rfl, Nat.le_refl _, fun y z c h1 h2 => ?_, fun y hy => ?_, fun y c _ h => ?_, fun _ => hd, Around.frames_deeper e0.frames, .inr ⟨rfl, rfl⟩, fun b z => absurd z (noA b), e0.bs, e0.bsz, fun b _ _ => noA b, fun b z => absurd z (noA b), e0.funs, e0.frf⟩,
    rfl, e0.bare, Un.kept hk, ⟨_, x.toInCall.ns, fun i y v h1 h2 h3 => ?_⟩, fun y c h => ⟨_, x.cell y c h⟩, e0.hok.fresh (Nat.le_refl _), fun y c h => ?_, fun p hp => absurd (show p ∈ ([] : List (Addr × Obj)) from hp) (by simp), e0.hok.kept hk, ?_⟩
  · exact name_of_addr x.apart (PySem.mem_of_lookup h1) (PySem.mem_of_lookup h2)
  · have hy : scope.names.lookup y = some .cell ∨ scope.names.lookup y = some .free := hy
    rcases hy with hy | hy
    · exact cell_has hy
    · exact absurd rfl (S.nofree _ (PySem.mem_of_lookup hy))
  · exact Nat.le_of_lt (x.above y c (PySem.mem_of_lookup h))
  · have hi : i < vs.length := by
      unfold start at h2
      by_cases hi : i < vs.length
      · exact hi
      · rw [List.getElem?_append_right (by simpa using hi)] at h2
        rw [List.getElem?_replicate] at h2
        split at h2 <;> cases h2
    have ha : vs[i]? = some v := by
      unfold start at h2
      rw [List.getElem?_append_left (by simpa using hi), List.getElem?_map] at h2
      cases e : vs[i]? with
      | none => rw [e] at h2; cases h2
      | some a => rw [e] at h2; cases h2; rfl
    obtain ⟨u, hu, rv⟩ := r.get ha
    have hp : ps[i]? = some y := by
      rw [← S.pre, List.getElem?_take_of_lt (by omega)]; exact h1
    have ndP : ps.Nodup := by rw [← S.pre]; exact S.nd.sublist (List.take_sublist _ _)
    refine ⟨u, rv, ?_⟩
    rcases S.par y (List.mem_of_getElem? hp) with k | k
    · exact .inl ⟨k, bindL_get ndP hp hu k⟩
    · obtain ⟨c, e⟩ := cell_has (n := s.heap.objs.size + 1) k
      refine .inr ⟨.inl k, c, e, ?_⟩
      have q := x.cell y c e
      rw [bindC_get ndP hp hu (by show scope.names.lookup y ≠ _; rw [k]; decide)] at q
      exact q
  · exact e0.hok.fresh (Nat.le_of_lt (x.above y c (PySem.mem_of_lookup h)))
  · unfold start
    show _ = N.length
    rw [List.length_append, List.length_map, List.length_replicate]
    omega

/-- THE RULE: a def (or a method) of the text, by its body. The body's reading t is chosen for each entry; it is run at the parameters' values -/
theorem fn_of {CX : CXT} {P : Program} {w : World} {K : PySem.W.Frag} {mg : Str → Option Value} {base : Heap} {k : Nat} {f : Addr} {name qual : Str} {params : Arguments} {body : List Stmt} {scope : Scope} {dV kV doc pm cdv ct oc : Value} {an od : Option Addr}
    {osl : Array (Option Value)} {N ps : List Str} {sp : Sp} (lk : K.lookup f = some ⟨oc, od, .func (PySem.W.fnOf name qual params body scope dV kV doc pm an cdv ct), osl⟩) (hcd : PySem.W.codeIn K cdv qual = true) (S : FnScope N ps scope)
    (len : ∀ vs H Q E, sp vs H Q E → vs.length = ps.length)
    (hbody : ∀ (A : Around) (outer : List Env) (s : Shared) (H : Hp) (vs : List V) (Q : VK) (E : XK), Room k (A.deeper (envOfC qual scope s.heap.objs.size f cdv)) → sp vs H Q E →
      ∃ t, PSs (cxOf CX P w K mg base N qual scope f cdv A outer s H E) body t ∧ t { nx := fun _ H' => Q .non H', rt := Q } (start N vs) H) :
    FnOk P w K mg base CX (k + 1) f (PySem.W.fnOf name qual params body scope dV kV doc pm an cdv ct) ps sp := by
  refine ⟨len, fun A outer s H args us vs Q E hr e0 hb r hsp => ?_⟩
  have hl := len _ _ _ _ hsp
  have KX : K.In s.heap := e0.mod.kin.keeps fun b o e => (e0.bs b o e).1
  have lim : s.heap.NoLimit := e0.mod.nolimit.keeps fun b o e => (e0.bs b o e).1
  have hkind : ∀ y ∈ ps.zip us, scope.names.lookup y.1 = some .local ∨ (scope.names.lookup y.1 = some .cell ∧ ((cellsFrom (s.heap.objs.size + 1) scope.names []).lookup y.1).isSome = true) := fun ⟨n, v⟩ hy => by
    rcases S.par n (List.of_mem_zip hy).1 with q | q
    · exact .inl q
    · exact .inr ⟨q, PySem.W.cellsFrom_some _ _ _ (.inl q)⟩
  refine codeAny_call_function hr.depth (KX _ _ lk) rfl S.co S.gen rfl (PySem.W.codeRec_of KX hcd) (hb _ _ _ _ ?_)
  refine wpAny_newFunctionEnv_cells S.kind hkind fun env he s1 x => ?_
  subst he
  refine ⟨lim.keeps x.toInCall.keep, codeAny_func ?_⟩
  obtain ⟨t, ht, hq⟩ := hbody A outer s H vs Q E (hr.deeper _) hsp
  have I : Inv (cxOf CX P w K mg base N qual scope f cdv A outer s H E) [] (start N vs) H s1 := inv_start S hr.hd e0 hl r x
  refine wpAny_mono (ht [] s1 (start N vs) H _ I hq) (fun fl s' hs => ?_) fun e s' hs => hs
  have fin : ∀ {σ' : St} {H' : Hp} {v : V} {u : Value}, Inv (cxOf CX P w K mg base N qual scope f cdv A outer s H E) [] σ' H' s' → RelV v u → Q v H' → CE outer P w H s Q u s' :=
    fun {σ' H' v u} J rv q => ⟨v, H', J.os, J.bare, J.base, J.hok, rv, q⟩
  cases fl with
  | ret u =>
    obtain ⟨v, σ', H', J, rv, q⟩ := hs
    exact fin J rv q
  | next =>
    obtain ⟨σ', H', J, q⟩ := hs
    exact fin (v := V.non) (u := Value.none) J rfl q
  | brk =>
    obtain ⟨_, _, _, q⟩ := hs
    exact False.elim q
  | cont =>
    obtain ⟨_, _, _, q⟩ := hs
    exact False.elim q
end L2

namespace L2
open PySem PySem.Spec PyProof.Rows
section
variable {X : Cx} {x : Str} {p pos : Pos} {e : Expr} {es : List Expr} {t : TA} {id T : String} {r : List V → Hp → VK → Prop}

def tCB (r : List V → Hp → VK → Prop) (t : TA) : TE := fun σ H Q => t σ H fun vs H1 => r vs H1 Q
/-- f(e, ..), f a built-in function -/
theorem pe_callB (hc : CallR X (.builtin id) r) (hg : Gl X x) (hm : X.mg x = none) (hv : bootBuiltins x = some (.builtin id)) (ha : PA X (e :: es) t) (hn : x ≠ "__name__" := by decide) (hdb : (x == ("__debug__" : Str)) = false := by decide)
    (he : starEach (e :: es) X.env = (false, eval e X.env) :: starEach es X.env := by rfl) (hpl : (backTo pos (starEach es X.env)).any (·.1) = false := by rfl) : PE X (.Call (.Name x p) (e :: es) [] pos) (tCB r t) := by
  intro pins s σ H Q I h
  refine wpAny_Call_Name_kw (ld_blt I hg hm hv ?_ hn hdb)
  exact PyProof.Rows.callWith_builtin1 (thn (ha pos pins s σ H _ I h) fun us s1 ⟨vs, H1, I1, r1, q1⟩ => hc pins s1 σ H1 vs us Q I1 r1 q1) he hpl
/-- T(e, ..), T a built-in type -/
theorem pe_callTy (hc : CallR X (.type T) r) (hg : Gl X x) (hm : X.mg x = none) (hv : bootBuiltins x = some (.type T)) (ha : PA X (e :: es) t) (hn : x ≠ "__name__" := by decide) (hdb : (x == ("__debug__" : Str)) = false := by decide)
    (he : starEach (e :: es) X.env = (false, eval e X.env) :: starEach es X.env := by rfl) (hpl : (backTo pos (starEach es X.env)).any (·.1) = false := by rfl) : PE X (.Call (.Name x p) (e :: es) [] pos) (tCB r t) := by
  intro pins s σ H Q I h
  refine wpAny_Call_Name_kw (ld_blt I hg hm hv ?_ hn hdb)
  exact PyProof.Rows.callWith_type1 (thn (ha pos pins s σ H _ I h) fun us s1 ⟨vs, H1, I1, r1, q1⟩ => hc pins s1 σ H1 vs us Q I1 r1 q1) he hpl
end
end L2

namespace HT
open PySem PyProof.Rows

section
open PySem.SeqAt
open PySem.AutoSeq1 (wpAny_loadPart')
open PySem.MeetsSeq PySem.MeetsSeq2 PySem.MeetsSeq3

end

section
variable {prog : Program} {w : World} {A : Around} {E : Value → Shared → Prop} {s : Shared}

/-- t + u, t not empty -/
theorem cat_tup {t b : Addr} {vs ws : List Value} {Q : Value → Shared → Prop} (ht : IsTup s.heap t vs.toArray) (hb : IsTup s.heap b ws.toArray) (hv : vs ≠ [])
    (h1 : ws = [] → Q (.ref t) s) (h2 : ws ≠ [] → Q (.ref s.heap.objs.size) { s with heap := s.heap.push { cls := .type "tuple", data := .seq (vs ++ ws).toArray } })
    (hsz : vs.length + ws.length ≤ sizeLine) : wpAny (model prog w) A (binaryOp .Add (.ref t) (.ref b)) Q E s := by
  obtain ⟨⟨cls, dd, data, sl⟩, ho, hc, n, hd⟩ := id ht
  obtain ⟨⟨cls2, dd2, data2, sl2⟩, ho2, hc2, n2, hd2⟩ := id hb
  simp only at hc hd hc2 hd2
  subst hc hd hc2 hd2
  have e : vs.toArray ++ ws.toArray = (vs ++ ws).toArray := by simp
  by_cases hw : ws = []
  · exact concat_meets ⟨_, ho, rfl⟩ ⟨_, ho2, rfl⟩ noFill_tuple_add seq_tuple_add PySem.F.slot_tuple_add PySem.F.entry_tuple_add (PySem.F.args_tuple_add_2 _ _)
      (tuple_addW1 t b vs.toArray ws.toArray n n2 dd dd2 sl sl2 (by simpa using hv) (by simp [hw])) ⟨ho, ho2, h1 hw⟩
  · refine concat_meets ⟨_, ho, rfl⟩ ⟨_, ho2, rfl⟩ noFill_tuple_add seq_tuple_add PySem.F.slot_tuple_add PySem.F.entry_tuple_add (PySem.F.args_tuple_add_2 _ _)
      (tuple_addW2 t b vs.toArray ws.toArray n n2 dd dd2 sl sl2 (by simpa using hv) (by simpa using hw) (by rw [List.size_toArray, List.size_toArray]; exact hsz)) ⟨ho, ho2, ?_⟩
    rw [e]
    exact h2 hw

/-- a slice's bound as a place among n (d where it is left out) -/
def sIx (n d : Nat) : Option Int → Nat
  | none => d
  | some v => if v < 0 then (v + (n : Int)).toNat else min v.toNat n
theorem sIx_none (n d : Nat) : sIx n d none = d := rfl
theorem sIx_nat (n d k : Nat) : sIx n d (some (k : Int)) = min k n := by
  show (if (k : Int) < 0 then ((k : Int) + (n : Int)).toNat else min (k : Int).toNat n) = min k n
  rw [if_neg (by omega), Int.toNat_natCast]
theorem sIx_le (n d : Nat) (hd : d ≤ n) (o : Option Int) : sIx n d o ≤ n := by
  cases o with
  | none => exact hd
  | some v =>
    show (if v < 0 then (v + (n : Int)).toNat else min v.toNat n) ≤ n
    by_cases hv : v < 0
    · rw [if_pos hv]; omega
    · rw [if_neg hv]; exact Nat.min_le_right _ _
theorem clip_eq (v : Int) (n d : Nat) : (if v < 0 then max (v + (n : Int)) 0 else min v (n : Int)) = ((sIx n d (some v) : Nat) : Int) := by
  show (if v < 0 then max (v + (n : Int)) 0 else min v (n : Int)) = (((if v < 0 then (v + (n : Int)).toNat else min v.toNat n) : Nat) : Int)
  by_cases hv : v < 0
  · simp only [if_pos hv]; omega
  · simp only [if_neg hv]; omega
theorem adjust_gen (lo hi : Option Int) (n : Nat) : Builtin.Slice.sliceAdjust lo hi 1 (n : Int) = (((sIx n 0 lo : Nat) : Int), ((sIx n n hi : Nat) : Int)) := by
  have h1 : ¬ ((1 : Int) < 0) := by omega
  unfold Builtin.Slice.sliceAdjust
  simp only [h1, if_false]
  refine Prod.ext ?_ ?_
  · cases lo with
    | none => rfl
    | some v => exact clip_eq v n 0
  · cases hi with
    | none => rfl
    | some v => exact clip_eq v n n
theorem places_gen (i j : Nat) : Builtin.Slice.slicePlaces (i : Int) (j : Int) 1 = j - i := by
  unfold Builtin.Slice.slicePlaces
  have h1 : (1 : Int) > 0 := by omega
  simp only [h1, if_true, Int.ediv_one]
  split <;> omega
theorem slicePart_ {v : Value} {o : Option Int} {Q : Option Int → Shared → Prop} (p : IsPart v o) (h : Q o s) : wpAny (model prog w) A (Builtin.Slice.slicePartIndex v) Q E s := by
  cases p with
  | none => exact slicePart_none h
  | int i t => exact slicePart_int h
theorem sliceApplied_gen {sl : Addr} {vl vu : Value} {lo hi : Option Int} {n : Nat} {Q : Int × Int × Nat → Shared → Prop} (hs : s.heap.IsSliceOf sl vl vu .none) (pl : IsPart vl lo) (pu : IsPart vu hi)
    (h : Q (((sIx n 0 lo : Nat) : Int), 1, sIx n n hi - sIx n 0 lo) s) : wpAny (model prog w) A (Builtin.Slice.sliceApplied (.ref sl) (pure (n : Int))) Q E s := by
  obtain ⟨os, hos, hcs, hds⟩ := id hs
  unfold Builtin.Slice.sliceApplied Builtin.Slice.sliceFields
  refine wpAny_bind (wpAny_bind (wpAny_field hos hds (x := vl) rfl (wpAny_bind (wpAny_field hos hds (x := vu) rfl (wpAny_bind (wpAny_field hos hds (x := .none) rfl (wpAny_pure ?_)))))))
  refine wpAny_bind (slicePart_none ?_)
  show wpAny _ _ (if ((1 : Int) == 0) = true then _ else _) _ _ s
  rw [if_neg (by decide)]
  refine wpAny_bind (slicePart_ pl (wpAny_bind (slicePart_ pu (wpAny_bind (wpAny_pure ?_)))))
  show wpAny _ _ (match Builtin.Slice.sliceAdjust lo hi 1 (n : Int) with | (lo, hi) => pure (lo, (1 : Int), Builtin.Slice.slicePlaces lo hi 1)) _ _ s
  rw [adjust_gen lo hi n]
  show wpAny _ _ (pure (((sIx n 0 lo : Nat) : Int), (1 : Int), Builtin.Slice.slicePlaces ((sIx n 0 lo : Nat) : Int) ((sIx n n hi : Nat) : Int) 1)) _ _ s
  rw [places_gen]
  exact wpAny_pure h
theorem pick_gen (xs : Array Value) (i k : Nat) : ((List.range k).filterMap fun (m : Nat) => xs[((i : Int) + (m : Int) * 1).toNat]?).toArray = ((xs.toList.drop i).take k).toArray := by
  have e : (fun (m : Nat) => xs[((i : Int) + (m : Int) * 1).toNat]?) = fun m => xs[i + m]? := by
    funext m
    have : ((i : Int) + (m : Int) * 1).toNat = i + m := by omega
    rw [this]
  rw [e]
  have := pick_run xs i k
  rw [List.filterMap_map] at this
  have e2 : ((fun x => xs[x]?) ∘ fun x => i + x) = fun m => xs[i + m]? := rfl
  rw [e2] at this
  rw [this]

theorem getItem_tuple_cut {t sl : Addr} {items : Array Value} {vl vu : Value} {lo hi : Option Int} {Q : Value → Shared → Prop} (ht : IsTup s.heap t items) (hs : s.heap.IsSliceOf sl vl vu .none) (pl : IsPart vl lo) (pu : IsPart vu hi)
    (hw : ¬ (sIx items.size 0 lo = 0 ∧ sIx items.size items.size hi = items.size))
    (h : Q (.ref s.heap.objs.size) { s with heap := s.heap.push { cls := .type "tuple", data := .seq ((items.toList.drop (sIx items.size 0 lo)).take (sIx items.size items.size hi - sIx items.size 0 lo)).toArray } })
    (hsz : items.size ≤ sizeLine) : wpAny (model prog w) A (getItem (.ref t) (.ref sl)) Q E s := by
  have htake : sizeOk (.seq ((items.toList.drop (sIx items.size 0 lo)).take (sIx items.size items.size hi - sIx items.size 0 lo)).toArray) := by
    show ((items.toList.drop (sIx items.size 0 lo)).take (sIx items.size items.size hi - sIx items.size 0 lo)).toArray.size ≤ sizeLine
    rw [List.size_toArray, List.length_take, List.length_drop, Array.length_toList]
    omega
  have hj : sIx items.size items.size hi ≤ items.size := sIx_le _ _ (Nat.le_refl _) hi
  obtain ⟨os, hos, hcs, hds⟩ := id hs
  have hTs : s.TypeIs (.ref sl) "slice" := ⟨os, hos, hcs⟩
  unfold getItem
  try with_reducible refine wpAny_holding ?_
  first | refine wpAny_bind (wpAny_pure ?_) | skip
  refine wpAny_bind (wpAny_sequenceKey ht.typeIs (by decide) ?_)
  refine wpAny_bind (wpAny_callSpecial?_slot (name := Str.ofString "__getitem__") ht.typeIs PyProof.Rows.slot_tuple_getitem
    (wpAny_call_entry PyProof.Rows.slot_tuple_getitem ht.typeIs entry_tuple_getitem ?_ (args_tuple_getitem _ _)))
  show wpAny _ _ (Builtin.Tuple.tupleItemsOf (.ref t) >>= _) _ _ s
  refine wpAny_bind (tupleItemsOf_ ht ?_)
  refine wpAny_bind (wpAny_typeOf hTs ?_)
  rw [if_pos (by decide)]
  refine wpAny_bind (sliceApplied_gen hs pl pu ?_)
  have hno : ¬ ((((sIx items.size 0 lo : Nat) : Int) == 0 && (1 : Int) == 1 && (sIx items.size items.size hi - sIx items.size 0 lo) == items.size) = true) := by
    intro q
    rw [Bool.and_eq_true, Bool.and_eq_true] at q
    have q1 : ((sIx items.size 0 lo : Nat) : Int) = 0 := eq_of_beq q.1.1
    have q2 : sIx items.size items.size hi - sIx items.size 0 lo = items.size := eq_of_beq q.2
    exact hw ⟨by omega, by omega⟩
  show wpAny _ _ (if (((sIx items.size 0 lo : Nat) : Int) == 0 && (1 : Int) == 1 && (sIx items.size items.size hi - sIx items.size 0 lo) == items.size) = true then _ else _) _ _ s
  rw [if_neg hno, pick_gen]
  first
    | exact wpAny_bind (m := Builtin.Tuple.tupleExact _) (wpAny_newObj_type (wpAny_pure ⟨_, rfl, wpAny_pure h⟩) htake)
    | exact wpAny_bind (m := Builtin.Tuple.tupleExact _) (wpAny_newObj_type (wpAny_bind (wpAny_pure (wpAny_pure ⟨_, rfl, wpAny_pure h⟩))) htake)
    | exact wpAny_bind (wpAny_bind (m := Builtin.Tuple.tupleExact _) (wpAny_newObj_type (wpAny_pure (wpAny_pure ⟨_, rfl, wpAny_pure h⟩)) htake))
    | exact wpAny_bind (wpAny_bind (m := Builtin.Tuple.tupleExact _) (wpAny_newObj_type (wpAny_pure ⟨_, rfl, wpAny_pure h⟩) htake))
end
end HT

namespace L2
open PySem PySem.Spec PyProof.Rows

abbrev TO := St → Hp → (Option Int → Hp → Prop) → Prop
/-- a slice's part (left out, or an int) -/
def PO (X : Cx) (e : Option Expr) (t : TO) : Prop :=
  ∀ (pins : List (Addr × Obj)) (s : Shared) (σ : St) (H : Hp) (Q : Option Int → Hp → Prop), Inv X pins σ H s → t σ H Q →
    wpAny (model X.prog X.w) X.A (evalPart e X.env) (fun u s' => ∃ o H', Inv X pins σ H' s' ∧ IsPart u o ∧ Q o H') X.xe s
def tNoPart : TO := fun _ H Q => Q none H
def tPart (t : TE) : TO := fun σ H Q => t σ H fun x H1 => ∃ i, x = .int i ∧ Q (some i) H1

section
variable {X : Cx} {e : Expr} {te : TE} {lo hi : Option Expr} {tl th : TO} {pos p2 : Pos}

theorem po_none : PO X none tNoPart := by
  intro pins s σ H Q I h
  rw [evalPart_none]
  exact wpAny_pure ⟨none, H, I, .none, h⟩
theorem po_some (h : PE X e te) : PO X (some e) (tPart te) := by
  intro pins s σ H Q I hw
  rw [evalPart_some]
  refine thn (h pins s σ H _ I hw) fun u s1 ⟨x, H1, I1, r1, q1⟩ => ?_
  obtain ⟨i, rfl, q⟩ := q1
  obtain ⟨t, rfl⟩ := r1
  exact ⟨some i, H1, I1, .int i t, q⟩

/-- what a slice of a value is, by values: the slice object stands at sl -/
def SlR (X : Cx) (r : V → Option Int → Option Int → Hp → VK → Prop) : Prop :=
  ∀ (pins : List (Addr × Obj)) (s : Shared) (σ : St) (H : Hp) (x : V) (v vl vu : Value) (lo hi : Option Int) (sl : Addr) (Q : VK), Inv X pins σ H s → RelV x v → s.heap.IsSliceOf sl vl vu .none → IsPart vl lo → IsPart vu hi → r x lo hi H Q →
    ∃ T id, typeLookup (.type T) "__getitem__" = pure (some (.builtin id)) ∧ s.TypeIs v T ∧ wpAny (model X.prog X.w) X.A (getItem v (.ref sl)) (EP X pins σ Q) X.xe s
def tSl (r : V → Option Int → Option Int → Hp → VK → Prop) (te : TE) (tl th : TO) : TE := fun σ H Q => te σ H fun x H1 => tl σ H1 fun l H2 => th σ H2 fun u H3 => r x l u H3 Q
/-- a[lo:hi], any a -/
theorem pe_slice {r : V → Option Int → Option Int → Hp → VK → Prop} (hr : SlR X r) (he : PE X e te) (hl : PO X lo tl) (hu : PO X hi th) : PE X (.Subscript e (.Slice lo hi none p2) pos) (tSl r te tl th) := by
  intro pins s σ H Q I h
  refine Subscript_ (thn (he pins s σ H _ I h) fun v s1 ⟨x, H1, I1, r1, q1⟩ => ?_)
  refine wpAny_Slice (thn (hl pins s1 σ H1 _ I1 q1) fun vl s2 ⟨l, H2, I2, pl, q2⟩ => thn (hu pins s2 σ H2 _ I2 q2) fun vu s3 ⟨u, H3, I3, pu, q3⟩ => ?_)
  rw [evalPart_none]
  refine wpAny_pure ?_
  have I4 : Inv X pins σ H3 { s3 with heap := s3.heap.push { cls := .type "slice", data := .fields #[vl, vu, .none] } } := I3.kept (t' := s3.toks) fun b ob q => Heap.get?_push_of_some _ q
  obtain ⟨T, id, hT, ht, hg⟩ := hr pins { s3 with heap := s3.heap.push { cls := .type "slice", data := .fields #[vl, vu, .none] } } σ H3 x v vl vu l u s3.heap.objs.size Q I4 r1 (Heap.IsSliceOf.new ..) pl pu q3
  show wpAny (model X.prog X.w) X.A (subscriptTail e (.Slice lo hi none p2) v (.ref s3.heap.objs.size)) (EP X pins σ Q) X.xe { s3 with heap := s3.heap.push { cls := .type "slice", data := .fields #[vl, vu, .none] } }
  exact tail_any (ops := [.ref s3.heap.objs.size, v]) ht hT hg (by with_unfolding_all rfl)

/-- the items of xs[lo:hi] -/
def cutV (xs : List V) (lo hi : Option Int) : List V := (xs.drop (HT.sIx xs.length 0 lo)).take (HT.sIx xs.length xs.length hi - HT.sIx xs.length 0 lo)
theorem cutV_length (xs : List V) (lo hi : Option Int) : (cutV xs lo hi).length ≤ xs.length := by
  unfold cutV
  rw [List.length_take, List.length_drop]
  omega
/-- t[lo:hi], not the whole of it (the whole would be t itself) -/
def rSlT (K : PySem.W.Frag) : V → Option Int → Option Int → Hp → VK → Prop := fun x lo hi H Q => ∃ a xs, x = .ref a ∧ SqT K H a xs ∧
  ¬ (HT.sIx xs.length 0 lo = 0 ∧ HT.sIx xs.length xs.length hi = xs.length) ∧ ∀ p, H p = none → Q (.ref p) (upd H p (.tup (cutV xs lo hi)))
theorem sl_tup : SlR X (rSlT X.K) := by
  intro pins s σ H x v vl vu lo hi sl Q I rx hs pl pu h
  obtain ⟨a, xs, rfl, hx, hw, q⟩ := h
  cases rx
  obtain ⟨its, r, ht, hz⟩ := I.tuple hx
  have hlen : its.toArray.size = xs.length := by rw [List.size_toArray]; exact r.length.symm
  refine ⟨"tuple", _, PyProof.Rows.slot_tuple_getitem.lookup, ht.typeIs, ?_⟩
  refine HT.getItem_tuple_cut ht hs pl pu (by rw [hlen]; exact hw) ?_ (by rw [hlen]; exact hz)
  rw [hlen]
  refine ⟨.ref s.heap.objs.size, _, I.laid (t' := s.toks) (o := .tup (cutV xs lo hi)) (fun b ob q => Heap.get?_push_of_some _ q) (Nat.le_refl _) ?_, rfl, q _ (I.hok.fresh (Nat.le_refl _))⟩
  exact ⟨Nat.le_trans (cutV_length xs lo hi) hz, _, (r.drop (HT.sIx xs.length 0 lo)).take (HT.sIx xs.length xs.length hi - HT.sIx xs.length 0 lo), IsTup.new _ _⟩

/-- t + u, t not empty: u empty gives t itself -/
def rCatT (K : PySem.W.Frag) : R2 := fun x y H Q => ∃ a b xs ys, x = .ref a ∧ y = .ref b ∧ SqT K H a xs ∧ SqT K H b ys ∧ xs ≠ [] ∧ xs.length + ys.length ≤ sizeLine ∧
  (ys = [] → Q (.ref a) H) ∧ (ys ≠ [] → ∀ p, H p = none → Q (.ref p) (upd H p (.tup (xs ++ ys))))
theorem Vals.nil_iff {xs : List V} {us : List Value} (r : Vals xs us) : us = [] ↔ xs = [] := by
  cases r with
  | nil => simp
  | cons _ _ => simp
theorem op_catT : OpR X (binaryOp .Add) (rCatT X.K) := by
  intro pins s σ H x y v u Q I rx ry h
  obtain ⟨a, b, xs, ys, rfl, rfl, ha, hb, hx, hz, q1, q2⟩ := h
  cases rx
  cases ry
  obtain ⟨its, r1, p1, _⟩ := I.tuple ha
  obtain ⟨its2, r2, p2, _⟩ := I.tuple hb
  refine HT.cat_tup p1 p2 (fun z => hx (r1.nil_iff.mp z)) (fun z => ⟨.ref a, H, I, rfl, q1 (r2.nil_iff.mp z)⟩) (fun z => ?_) (by rw [← r1.length, ← r2.length]; exact hz)
  refine ⟨.ref s.heap.objs.size, _, I.laid (t' := s.toks) (o := .tup (xs ++ ys)) (fun b ob q => Heap.get?_push_of_some _ q) (Nat.le_refl _) ?_, rfl, q2 (fun w => z (r2.nil_iff.mpr w)) _ (I.hok.fresh (Nat.le_refl _))⟩
  exact ⟨by rw [List.length_append]; exact hz, _, r1.append r2, IsTup.new _ _⟩
end
end L2

namespace L2
open PySem PySem.Spec PyProof.Rows

/-- the place that an index of any sign means -/
def ixN (n : Nat) (i : Int) : Option Nat := if 0 ≤ i then (if i < n then some i.toNat else none) else if -(n : Int) ≤ i then some (i + n).toNat else none
def atI {α : Type} (xs : List α) (i : Int) : Option α := (ixN xs.length i).bind fun j => xs[j]?
theorem ixN_seq {n : Nat} {i : Int} {j : Nat} (h : ixN n i = some j) : seqIndex? i n = some j ∧ j < n ∧ -(n : Int) ≤ i ∧ i < n := by
  unfold ixN at h
  by_cases h0 : 0 ≤ i
  · rw [if_pos h0] at h
    by_cases h1 : i < n
    · rw [if_pos h1] at h
      have e : i.toNat = j := Option.some.inj h
      exact ⟨by rw [seqIndex_of h0 h1, e], by omega, by omega, h1⟩
    · rw [if_neg h1] at h; cases h
  · rw [if_neg h0] at h
    by_cases h1 : -(n : Int) ≤ i
    · rw [if_pos h1] at h
      have e : (i + n).toNat = j := Option.some.inj h
      exact ⟨by rw [seqIndex_neg (by omega) h1, e], by omega, h1, by omega⟩
    · rw [if_neg h1] at h; cases h
theorem atI_get {α : Type} {xs : List α} {i : Int} {v : α} (h : atI xs i = some v) : ∃ j, seqIndex? i xs.length = some j ∧ xs[j]? = some v ∧ j < xs.length ∧ -(xs.length : Int) ≤ i ∧ i < xs.length := by
  unfold atI at h
  cases e : ixN xs.length i with
  | none => rw [e] at h; cases h
  | some j =>
    rw [e] at h
    obtain ⟨h1, h2, h3, h4⟩ := ixN_seq e
    exact ⟨j, h1, h, h2, h3, h4⟩
theorem atI_nat {α : Type} {xs : List α} {j : Nat} {v : α} (h : xs[j]? = some v) : atI xs (j : Int) = some v := by
  have hj : j < xs.length := (List.getElem?_eq_some_iff.mp h).1
  have e : ixN xs.length (j : Int) = some j := by
    unfold ixN
    rw [if_pos (by omega), if_pos (by omega)]; simp
  unfold atI; rw [e]; exact h
/-- what stands as an index of a plain subscript -/
def PlainIx (b : Expr) : Prop := ∀ o i, subscripted b false o i = operate [o, i] (getItem o i)
/-- a subscript by values -/
def IxR (X : Cx) (r : R2) : Prop :=
  ∀ (value slice : Expr) (pins : List (Addr × Obj)) (s : Shared) (σ : St) (H : Hp) (x y : V) (v u : Value) (Q : VK), Inv X pins σ H s → RelV x v → RelV y u → r x y H Q →
    subscripted slice false v u = operate [v, u] (getItem v u) → wpAny (model X.prog X.w) X.A (subscriptTail value slice v u) (EP X pins σ Q) X.xe s
/-- a call of a builtin's method by values: the receiver, the arguments -/
def MtR (X : Cx) (id : String) (r : V → List V → Hp → VK → Prop) : Prop :=
  ∀ (pins : List (Addr × Obj)) (s : Shared) (σ : St) (H : Hp) (x : V) (xs : List V) (v : Value) (us : List Value) (Q : VK), Inv X pins σ H s → RelV x v → Vals xs us → r x xs H Q →
    wpAny (model X.prog X.w) X.A (call (.builtin id) (v :: us)) (EP X pins σ Q) X.xe s
section
variable {X : Cx} {a b : Expr} {ta tb : TE} {pos : Pos}
/-- a[b] -/
theorem pe_ix {r : R2} (hr : IxR X r) (ha : PE X a ta) (hb : PE X b tb) (hs : PlainIx b) : PE X (.Subscript a b pos) (tOp r ta tb) := by
  intro pins s σ H Q I h
  exact Subscript_ (binT ha hb I h fun v u s2 x y H2 I2 rx ry q => hr a b pins s2 σ H2 x y v u Q I2 rx ry q (hs _ _))

def rIxL (K : PySem.W.Frag) : R2 := fun x y H Q => ∃ p xs i v, x = .ref p ∧ y = .int i ∧ SqL K H p xs ∧ atI xs i = some v ∧ Q v H
def rIxT (K : PySem.W.Frag) : R2 := fun x y H Q => ∃ p xs i v, x = .ref p ∧ y = .int i ∧ SqT K H p xs ∧ atI xs i = some v ∧ Q v H
def rIxS : R2 := fun x y H Q => ∃ z i c, x = .str z ∧ y = .int i ∧ z.length ≤ sizeLine ∧ atI z.cps.toList i = some c ∧ Q (.str ⟨#[c]⟩) H
theorem ix_list : IxR X (rIxL X.K) := by
  intro value slice pins s σ H x y v u Q I rx ry h hs
  obtain ⟨p, xs, i, z, rfl, rfl, hq, he, q⟩ := h
  cases rx
  obtain ⟨t, rfl⟩ := ry
  obtain ⟨its, r, pl, hz⟩ := I.list hq
  obtain ⟨j, h1, h2, h3, h4, h5⟩ := atI_get he
  obtain ⟨w, ew, rw'⟩ := r.get h2
  have hl := r.length
  have hn := line63
  have fin : EP X pins σ Q w s := ⟨z, H, I, rw', q⟩
  by_cases h0 : 0 ≤ i
  · have hj : i.toNat = j := by
      rw [seqIndex_of h0 h5] at h1
      exact Option.some.inj h1
    exact item_listR pl.isList h0 (by omega) (by rw [hj]; simpa using ew) fin hs
  · have hj : (i + (its.toArray.size : Int)).toNat = j := by
      rw [seqIndex_neg (by omega) h4] at h1
      rw [List.size_toArray, ← hl]
      exact Option.some.inj h1
    exact subscriptTail_builtinR (x := w) pl.isList.typeIs slot_list_getitem.lookup
      (wpAny_getItem_list_neg (Q := fun r s' => r = w ∧ EP X pins σ Q r s') pl.isList (by omega) (by rw [List.size_toArray] <;> omega) (by omega) (by rw [hj]; simpa using ew) ⟨rfl, fin⟩) hs
theorem ix_tup : IxR X (rIxT X.K) := by
  intro value slice pins s σ H x y v u Q I rx ry h hs
  obtain ⟨p, xs, i, z, rfl, rfl, hq, he, q⟩ := h
  cases rx
  obtain ⟨t, rfl⟩ := ry
  obtain ⟨its, r, pl, hz⟩ := I.tuple hq
  obtain ⟨j, h1, h2, h3, h4, h5⟩ := atI_get he
  obtain ⟨w, ew, rw'⟩ := r.get h2
  have hl := r.length
  have hn := line63
  have fin : EP X pins σ Q w s := ⟨z, H, I, rw', q⟩
  exact subscriptTail_builtinR (x := w) pl.typeIs slot_tuple_getitem.lookup
    (getItem_tuple (j := j) (Q := fun r s' => r = w ∧ EP X pins σ Q r s') pl (by omega) (by omega) (by rw [List.size_toArray, ← hl]; exact h1) (by simpa using ew) ⟨rfl, fin⟩) hs
/-- the list's object behind a store -/
theorem mapSeq_set (its : List Value) (n j : Nat) (u : Value) : Obj.mapSeq (·.setIfInBounds j u) { cls := .type "list", data := .seq its.toArray n } = { cls := .type "list", data := .seq (its.set j u).toArray n } := by
  simp [Obj.mapSeq]
theorem Inv.lst {pins : List (Addr × Obj)} {σ : St} {H : Hp} {s : Shared} {p : Addr} {xs : List V} (I : Inv X pins σ H s) (h : H p = some (.lst xs)) :
    ∃ (its : List Value) (n : Nat), Vals xs its ∧ s.heap.get? p = some { cls := .type "list", data := .seq its.toArray n } ∧ xs.length ≤ sizeLine := by
  obtain ⟨z, its, n, r, e⟩ := I.hok p _ h
  exact ⟨its, n, r, e, z⟩
/-- the list at p is written by an update of its object -/
theorem Inv.lstUpd {pins : List (Addr × Obj)} {σ : St} {H : Hp} {s : Shared} {p : Addr} {xs ys : List V} {its its' : List Value} {n n' : Nat} {f : Obj → Obj} (I : Inv X pins σ H s) (h : H p = some (.lst xs))
    (ho : s.heap.get? p = some { cls := .type "list", data := .seq its.toArray n }) (hf : f { cls := .type "list", data := .seq its.toArray n } = { cls := .type "list", data := .seq its'.toArray n' }) (r : Vals ys its') (hz : ys.length ≤ sizeLine) (t : Nat) :
    Inv X pins σ (upd H p (.lst ys)) { s with heap := s.heap.update p f, toks := t } := by
  have e : (s.heap.update p f).get? p = some { cls := .type "list", data := .seq its'.toArray n' } := by
    rw [Heap.get?_update_self f ho (by rw [hf] <;> rfl), hf]
  refine I.write (x := p) (e := p) (by rw [h]; trivial) (.inl rfl) (fun b u hb q => (Heap.get?_update_other _ _ (Ne.symm hb)).trans q) ⟨_, e⟩ ?_
  exact ⟨hz, its', n', r, e⟩
def rSetL : V → V → V → Hp → (Hp → Prop) → Prop := fun o i v H Q => ∃ p xs k j, o = .ref p ∧ i = .int k ∧ H p = some (.lst xs) ∧ ixN xs.length k = some j ∧ Q (upd H p (.lst (xs.set j v)))
theorem set_list : PSet X rSetL := by
  intro pins s σ H o i v ov iv u Q I ro ri rv h
  obtain ⟨p, xs, k, j, rfl, rfl, hp, hj, q⟩ := h
  cases ro
  obtain ⟨t, rfl⟩ := ri
  obtain ⟨its, n, r, ho, hz⟩ := I.lst hp
  obtain ⟨h1, h2, h3, h4⟩ := ixN_seq hj
  have hl := r.length
  have hn := line63
  have I' : Inv X pins σ (upd H p (.lst (xs.set j v))) { s with heap := s.heap.update p (Obj.mapSeq (·.setIfInBounds j u)) } :=
    I.lstUpd hp ho (mapSeq_set its n j u) (r.set rv j) (by rw [List.length_set]; exact hz) s.toks
  by_cases h0 : 0 ≤ k
  · have hk : k.toNat = j := by
      rw [seqIndex_of h0 h4] at h1
      exact Option.some.inj h1
    exact PySem.W.ki_setAt ho h0 (by omega) (by rw [List.size_toArray, ← hl]; exact h4) (by rw [hk]; exact ⟨_, I', q⟩)
  · have hk : (k + (its.toArray.size : Int)).toNat = j := by
      rw [seqIndex_neg (by omega) h3] at h1
      rw [List.size_toArray, ← hl]
      exact Option.some.inj h1
    exact PySem.W.ki_setBack ho (by omega) (by rw [List.size_toArray, ← hl]; exact h3) (by omega) (by rw [hk]; exact ⟨_, I', q⟩)

theorem slice_bounds (lo hi : Option Int) (n : Nat) : (sliceBounds lo hi none n).1 = ((HT.sIx n 0 lo : Nat) : Int) ∧ (sliceBounds lo hi none n).2.1 = ((HT.sIx n n hi : Nat) : Int) ∧ (sliceBounds lo hi none n).2.2 = 1 := by
  refine ⟨?_, ?_, rfl⟩
  · cases lo with
    | none => simp [sliceBounds, HT.sIx]
    | some i =>
      simp only [sliceBounds, HT.sIx, Option.getD_none, show (1 : Int) > 0 by decide, if_true]
      by_cases h : i < 0
      · simp only [h, if_true] <;> omega
      · simp only [h, if_false] <;> omega
  · cases hi with
    | none => simp [sliceBounds, HT.sIx]
    | some i =>
      simp only [sliceBounds, HT.sIx, Option.getD_none, show (1 : Int) > 0 by decide, if_true]
      by_cases h : i < 0
      · simp only [h, if_true] <;> omega
      · simp only [h, if_false] <;> omega
theorem slicePick_cut (its : List Value) (lo hi : Option Int) : slicePick its.toArray lo hi none = ((its.drop (HT.sIx its.length 0 lo)).take (HT.sIx its.length its.length hi - HT.sIx its.length 0 lo)).toArray := by
  obtain ⟨h1, h2, h3⟩ := slice_bounds lo hi its.toArray.size
  unfold slicePick
  rw [h1, h2, h3]
  simp only [sliceRange_one, pick_run, List.size_toArray] <;> rfl
/-- xs[lo:hi] of a list: a new list -/
def rSlL (K : PySem.W.Frag) : V → Option Int → Option Int → Hp → VK → Prop := fun x lo hi H Q => ∃ a xs, x = .ref a ∧ SqL K H a xs ∧ ∀ p, H p = none → Q (.ref p) (upd H p (.lst (cutV xs lo hi)))
theorem sl_list : SlR X (rSlL X.K) := by
  intro pins s σ H x v vl vu lo hi sl Q I rx hs pl pu h
  obtain ⟨a, xs, rfl, hx, q⟩ := h
  cases rx
  obtain ⟨its, r, ht, hz⟩ := I.list hx
  have hlen := r.length
  refine ⟨"list", _, slot_list_getitem.lookup, ht.isList.typeIs, ?_⟩
  refine wpAny_getItem_list_slice ht.isList hs pl pu .none (by simp) ?_ (by rw [List.size_toArray] <;> omega)
  rw [slicePick_cut, ← hlen]
  refine ⟨.ref s.heap.objs.size, _, I.laid (t' := s.toks) (o := .lst (cutV xs lo hi)) (fun b ob q => Heap.get?_push_of_some _ q) (Nat.le_refl _) ?_, rfl, q _ (I.hok.fresh (Nat.le_refl _))⟩
  exact ⟨Nat.le_trans (cutV_length xs lo hi) hz, _, 0, (r.drop (HT.sIx xs.length 0 lo)).take (HT.sIx xs.length xs.length hi - HT.sIx xs.length 0 lo), Heap.get?_push_size _ rfl⟩

def flatV : V → Bool
  | .non => true
  | .bl _ => true
  | .int _ => true
  | .str _ => true
  | _ => false
/-- == of flat values -/
def eqV : V → V → Bool
  | .non, .non => true
  | .bl a, .bl b => a == b
  | .bl a, .int b => (if a then 1 else 0) == b
  | .int a, .bl b => a == (if b then 1 else 0)
  | .int a, .int b => a == b
  | .str a, .str b => a == b
  | _, _ => false
theorem eqAt_V {A : Around} {s : Shared} {y x : V} {u v : Value} (ry : RelV y u) (rx : RelV x v) (fy : flatV y = true) (fx : flatV x = true) : SeqAt.EqAt A s u v (eqV y x) := by
  cases y with
  | non =>
    cases ry
    cases x with
    | non => cases rx; exact SeqAt.EqAt.same _
    | bl b => cases rx; exact SeqAt.EqAt.none_bool b
    | int b => obtain ⟨t, rfl⟩ := rx; exact SeqAt.EqAt.none_int b t
    | str b => obtain ⟨t, rfl⟩ := rx; exact SeqAt.EqAt.none_str b t
    | _ => exact absurd (show false = true from fx) Bool.false_ne_true
  | bl a =>
    cases ry
    cases x with
    | non => cases rx; exact SeqAt.EqAt.bool_none a
    | bl b => cases rx; exact SeqAt.EqAt.bool_bool a b
    | int b => obtain ⟨t, rfl⟩ := rx; exact SeqAt.EqAt.bool_int a b t
    | str b => obtain ⟨t, rfl⟩ := rx; exact SeqAt.EqAt.bool_str a b t
    | _ => exact absurd (show false = true from fx) Bool.false_ne_true
  | int a =>
    obtain ⟨t', rfl⟩ := ry
    cases x with
    | non => cases rx; exact SeqAt.EqAt.int_none a t'
    | bl b => cases rx; exact SeqAt.EqAt.int_bool a t' b
    | int b => obtain ⟨t, rfl⟩ := rx; exact SeqAt.EqAt.int_int a t' b t
    | str b => obtain ⟨t, rfl⟩ := rx; exact SeqAt.EqAt.int_str a t' b t
    | _ => exact absurd (show false = true from fx) Bool.false_ne_true
  | str a =>
    obtain ⟨t', rfl⟩ := ry
    cases x with
    | non => cases rx; exact SeqAt.EqAt.str_none a t'
    | bl b => cases rx; exact SeqAt.EqAt.str_bool a t' b
    | int b => obtain ⟨t, rfl⟩ := rx; exact SeqAt.EqAt.str_int a t' b t
    | str b => obtain ⟨t, rfl⟩ := rx; exact SeqAt.EqAt.str_str a t' b t
    | _ => exact absurd (show false = true from fx) Bool.false_ne_true
  | _ => exact absurd (show false = true from fy) Bool.false_ne_true
/-- the items' answers, read off the values (a value's own answer does not lean on its token) -/
def eqU (x : V) (u : Value) : Bool := match u with
  | .none => eqV .non x
  | .bool b => eqV (.bl b) x
  | .int i _ => eqV (.int i) x
  | .str z _ => eqV (.str z) x
  | _ => false
theorem eqU_of {x y : V} {u : Value} (r : RelV y u) (f : flatV y = true) : eqU x u = eqV y x := by
  cases y with
  | non => cases r; rfl
  | bl b => cases r; rfl
  | int i => obtain ⟨t, rfl⟩ := r; rfl
  | str z => obtain ⟨t, rfl⟩ := r; rfl
  | _ => exact absurd (show false = true from f) Bool.false_ne_true
theorem any_eqU {x : V} : ∀ {xs : List V} {us : List Value}, Vals xs us → xs.all flatV = true → us.any (eqU x) = xs.any fun y => eqV y x
  | _, _, .nil, _ => rfl
  | y :: xs, u :: us, .cons r t, f => by
    rw [List.all_cons, Bool.and_eq_true] at f
    rw [List.any_cons, List.any_cons, eqU_of r f.1, any_eqU t f.2]
theorem mem_eqAt {A : Around} {s : Shared} {x : V} {v : Value} (rx : RelV x v) (fx : flatV x = true) : ∀ {xs : List V} {us : List Value}, Vals xs us → xs.all flatV = true → ∀ u ∈ us, SeqAt.EqAt A s u v (eqU x u)
  | _, _, .nil, _ => fun u hu => by cases hu
  | y :: xs, u :: us, .cons r t, f => fun u' hu => by
    rw [List.all_cons, Bool.and_eq_true] at f
    rcases List.mem_cons.mp hu with rfl | hu
    · rw [eqU_of r f.1]; exact eqAt_V r rx f.1 fx
    · exact mem_eqAt rx fx t f.2 u' hu
def inV (x : V) (xs : List V) : Bool := xs.any fun y => eqV y x
/-- x in a list or tuple of flat items -/
def rIn (K : PySem.W.Frag) (neg : Bool) : R2 := fun x y H Q => ∃ p xs, y = .ref p ∧ (SqL K H p xs ∨ SqT K H p xs) ∧ flatV x = true ∧ xs.all flatV = true ∧ Q (.bl (if neg then !inV x xs else inV x xs)) H
theorem op_notIn_seq : OpR X (compareOp .NotIn) (rIn X.K true) := by
  intro pins s σ H x y v u Q I rx ry h
  obtain ⟨p, xs, rfl, hq, fx, fs, q⟩ := h
  cases ry
  rcases hq with hq | hq
  · obtain ⟨its, r, pl, hz⟩ := I.list hq
    refine SeqAt.notIn_listAt (eqU x) pl.isList (fun w hw => mem_eqAt rx fx r fs w (by simpa using hw)) ⟨.bl _, H, I, rfl, ?_⟩
    rw [show its.toArray.any (eqU x) = its.any (eqU x) by simp, any_eqU r fs]
    exact q
  · obtain ⟨its, r, pl, hz⟩ := I.tuple hq
    refine SeqAt.notIn_tupleAt (eqU x) pl (fun w hw => mem_eqAt rx fx r fs w (by simpa using hw)) ⟨.bl _, H, I, rfl, ?_⟩
    rw [show its.toArray.any (eqU x) = its.any (eqU x) by simp, any_eqU r fs]
    exact q
theorem call_len_seq : CallR X (.builtin "len") (fun xs H Q => ∃ p ys, xs = [.ref p] ∧ (SqL X.K H p ys ∨ SqT X.K H p ys) ∧ Q (.int ys.length) H) := by
  intro pins s σ H xs us Q I r h
  obtain ⟨p, ys, rfl, hq, q⟩ := h
  obtain ⟨u, rfl, rx⟩ := vals1 r
  cases rx
  have hn := line63
  rcases hq with hq | hq
  · obtain ⟨its, r', pl, hz⟩ := I.list hq
    have hlen := r'.length
    exact Calls.call_len_list pl.isList (by simp only [List.size_toArray] <;> omega) ⟨.int ys.length, H, I.tok _, ⟨s.toks + 1, by rw [List.size_toArray, hlen]⟩, q⟩
  · obtain ⟨its, r', pl, hz⟩ := I.tuple hq
    have hlen := r'.length
    exact len_tuple pl (by simp only [List.size_toArray] <;> omega) ⟨.int ys.length, H, I.tok _, ⟨s.toks + 1, by rw [List.size_toArray, hlen]⟩, q⟩
theorem call_list_of : CallR X (.type "list") (fun xs H Q => ∃ p ys, xs = [.ref p] ∧ (SqL X.K H p ys ∨ SqT X.K H p ys) ∧ ∀ l, H l = none → Q (.ref l) (upd H l (.lst ys))) := by
  intro pins s σ H xs us Q I r h
  obtain ⟨p, ys, rfl, hq, q⟩ := h
  obtain ⟨u, rfl, rx⟩ := vals1 r
  cases rx
  have fin : ∀ (its : List Value), Vals ys its → ys.length ≤ sizeLine → ∀ (h' : Heap) (c' : Nat), (∀ b o', s.heap.get? b = some o' → h'.get? b = some o') →
      h'.get? s.heap.objs.size = some { cls := .type "list", dict := none, data := .seq its.toArray c', slots := #[] } → EP X pins σ Q (.ref s.heap.objs.size) { s with heap := h' } := fun its r' hz h' c' kp e =>
    ⟨.ref s.heap.objs.size, _, I.laid (t' := s.toks) kp (Nat.le_refl _) (show ObjOk X.prog X.w _ h' _ (.lst ys) from ⟨hz, its, c', r', e⟩), rfl, q _ (I.hok.fresh (Nat.le_refl _))⟩
  rcases hq with hq | hq
  · obtain ⟨its, r', pl, hz⟩ := I.list hq
    have hlen := r'.length
    obtain ⟨o, ho, hc, n, hd⟩ := pl.isList
    exact call_list_seq p (.inl rfl) ho hc hd (fun h' c' kp e => fin its r' hz h' c' kp e) (by simp only [List.size_toArray] <;> omega)
  · obtain ⟨its, r', pl, hz⟩ := I.tuple hq
    have hlen := r'.length
    obtain ⟨o, ho, hc, n, hd⟩ := pl
    exact call_list_seq p (.inr rfl) ho hc hd (fun h' c' kp e => fin its r' hz h' c' kp e) (by simp only [List.size_toArray] <;> omega)
/-- the value is of that builtin type -/
def tyV (K : PySem.W.Frag) (T : String) (x : V) (H : Hp) : Prop := match x with
  | .str _ => T = "str"
  | .int _ => T = "int"
  | .ref p => (T = "list" ∧ ∃ xs, SqL K H p xs) ∨ (T = "tuple" ∧ ∃ o, K.lookup p = some o ∧ o.cls = .type "tuple" ∧ o.dict = none) ∨
      (T = "dict" ∧ ((∃ kvs, H p = some (.dK kvs)) ∨ ∃ kvs, H p = some (.dT kvs))) ∨ (T = "set" ∧ ∃ S n, H p = some (.set S n))
  | _ => False
theorem tyV_is {pins : List (Addr × Obj)} {σ : St} {H : Hp} {s : Shared} {T : String} {x : V} {v : Value} (I : Inv X pins σ H s) (r : RelV x v) (ty : tyV X.K T x H) :
    s.TypeIs v T ∧ ∀ a, v = .ref a → ∃ ob, s.heap.get? a = some ob ∧ ob.dict = none := by
  cases x with
  | str z =>
    obtain ⟨t, rfl⟩ := r
    cases (show T = "str" from ty)
    exact ⟨typeIs_str s z t, fun _ e => nomatch e⟩
  | int i =>
    obtain ⟨t, rfl⟩ := r
    cases (show T = "int" from ty)
    exact ⟨typeIs_int s i t, fun _ e => nomatch e⟩
  | ref p =>
    cases r
    rcases ty with ⟨rfl, xs, hq⟩ | ⟨rfl, o, hk, hc, hd⟩ | ⟨rfl, hk⟩ | ⟨rfl, S, n, hk⟩
    · obtain ⟨its, _, pl, _⟩ := I.list hq
      refine ⟨pl.isList.typeIs, fun a e => ?_⟩
      cases e
      obtain ⟨o, n, e, c, hd, _⟩ := pl
      exact ⟨o, e, hd⟩
    · refine ⟨⟨o, I.kIn p o hk, hc⟩, fun a e => ?_⟩
      cases e
      exact ⟨o, I.kIn _ o hk, hd⟩
    · have z : ∃ o, s.heap.get? p = some o ∧ o.ExactDict := by
        rcases hk with ⟨kvs, hk⟩ | ⟨kvs, hk⟩
        · obtain ⟨_, _, _, _, o, _, _, e, ex, _⟩ := I.hok p _ hk
          exact ⟨o, e, ex⟩
        · obtain ⟨_, _, _, _, o, _, _, e, ex, _⟩ := I.hok p _ hk
          exact ⟨o, e, ex⟩
      obtain ⟨o, e, ex⟩ := z
      refine ⟨⟨o, e, ex.1⟩, fun a e2 => ?_⟩
      cases e2
      exact ⟨o, e, ex.2.1⟩
    · obtain ⟨o, _, _, _, e, ex, _⟩ := I.hok p _ hk
      refine ⟨⟨o, e, ex.1⟩, fun a e2 => ?_⟩
      cases e2
      exact ⟨o, e, ex.2.1⟩
  | _ => exact False.elim ty
def tBM0 (K : PySem.W.Frag) (T : String) (r : V → List V → Hp → VK → Prop) (to : TE) : TE := fun σ H Q => to σ H fun x H1 => tyV K T x H1 ∧ r x [] H1 Q
def tBM (K : PySem.W.Frag) (T : String) (r : V → List V → Hp → VK → Prop) (to : TE) (t : TA) : TE := fun σ H Q => to σ H fun x H1 => tyV K T x H1 ∧ t σ H1 fun xs H2 => r x xs H2 Q
variable {o e : Expr} {es : List Expr} {to : TE} {t : TA} {name : Str} {apos cpos : Pos} {T id : String} {r : V → List V → Hp → VK → Prop}
theorem pe_bm0 (pa : PlainAttrs T) (slot : Slot T name id) (hty : typeOf (.builtin id) = pure (.type "method_descriptor")) (hm : MtR X id r) (ho : PE X o to)
    (hbase : attributeBase o name X.env (eval o X.env) = eval o X.env := by rfl) (hline : (apos.endLine == cpos.line) = true := by rfl) : PE X (.Call (.Attribute o name apos) [] [] cpos) (tBM0 X.K T r to) := by
  intro pins s σ H Q I h
  refine wpAny_Call_method0_late hbase hline (thn (ho pins s σ H _ I h) fun v s1 ⟨x, H1, I1, r1, ty, q1⟩ => ?_)
  obtain ⟨h1, h2⟩ := tyV_is I1 r1 ty
  exact ⟨T, id, pa, slot, hty, h1, h2, Calls.callWith_builtin rfl (PySem.evalArgs_none (hm pins s1 σ H1 x [] v [] Q I1 r1 .nil q1))⟩
theorem pe_bm (pa : PlainAttrs T) (slot : Slot T name id) (hty : typeOf (.builtin id) = pure (.type "method_descriptor")) (hm : MtR X id r) (ho : PE X o to) (ha : PA X (e :: es) t)
    (hbase : attributeBase o name X.env (eval o X.env) = eval o X.env := by rfl)
    (hfew : ((backTo cpos (starEach (e :: es) X.env)).all (fun x => !x.1) && (backToKw cpos (keywordEach [] X.env)).all (fun x => x.1.isSome)
      && decide ((e :: es).length + ([] : List Keyword).length + (if ([] : List Keyword).isEmpty then 0 else 1) < 30)) = true := by rfl)
    (hline : (apos.endLine == cpos.line) = true := by rfl) (hs : starEach (e :: es) X.env = (false, eval e X.env) :: starEach es X.env := by rfl) (hplain : (backTo cpos (starEach es X.env)).any (·.1) = false := by rfl) :
    PE X (.Call (.Attribute o name apos) (e :: es) [] cpos) (tBM X.K T r to t) := by
  intro pins s σ H Q I h
  refine wpAny_Call_method_late hbase hfew hline rfl (thn (ho pins s σ H _ I h) fun v s1 ⟨x, H1, I1, r1, ty, q1⟩ => ?_)
  obtain ⟨h1, h2⟩ := tyV_is I1 r1 ty
  refine ⟨T, id, pa, slot, hty, h1, h2, ?_⟩
  have hA := ha cpos pins s1 σ H1 _ I1 q1
  rw [hs] at hA ⊢
  refine Calls.callWith_builtin (by show (false || (backTo cpos (starEach es X.env)).any (·.1)) = false; rw [hplain] <;> rfl) (Calls.evalArgs_plain ?_)
  exact thn hA fun us s2 ⟨vs, H2, I2, r2, q2⟩ => hm pins s2 σ H2 x vs v us Q I2 r1 r2 q2
end
end L2

namespace L2
open PySem PySem.Spec PyProof.Rows

def MtM (X : Cx) (id : String) (r : V → List V → Hp → VK → Prop) : Prop :=
  ∀ (pins : List (Addr × Obj)) (s : Shared) (σ : St) (H : Hp) (x : V) (xs : List V) (v : Value) (us : List Value) (Q : VK), Inv X pins σ H s → RelV x v → Vals xs us → r x xs H Q →
    wpAny (model X.prog X.w) X.A (call (.builtin id) (v :: us)) (EP X pins σ Q) X.xe s

theorem Vals.one : ∀ {x : V} {us : List Value}, Vals [x] us → ∃ u, us = [u] ∧ RelV x u
  | _, _, .cons r .nil => ⟨_, rfl, r⟩
theorem Vals.zero : ∀ {us : List Value}, Vals [] us → us = []
  | _, .nil => rfl
theorem Vals.dropLast {xs : List V} {us : List Value} (h : Vals xs us) : Vals xs.dropLast us.dropLast := by
  induction h with
  | nil => exact .nil
  | cons r t ih =>
    cases t with
    | nil => exact .nil
    | cons q t' => exact .cons r ih
theorem erase_last {α : Type} (l : List α) : l.eraseIdx (l.length - 1) = l.dropLast := by
  induction l with
  | nil => rfl
  | cons a r ih =>
    cases r with
    | nil => rfl
    | cons b r =>
      have e : (a :: b :: r).length - 1 = ((b :: r).length - 1) + 1 := by
        have h1 : (a :: b :: r).length = r.length + 2 := rfl
        have h2 : (b :: r).length = r.length + 1 := rfl
        omega
      rw [e, List.eraseIdx_cons_succ, ih]
      all_goals rfl
section
variable {X : Cx} {pins : List (Addr × Obj)} {σ : St} {H : Hp} {s : Shared} {l b : Addr} {xs ys zs : List V}

theorem Inv.lset {its its' : List Value} {n : Nat} {f : Array Value → Array Value} {t' : Nat} (I : Inv X pins σ H s) (hH : H l = some (.lst xs))
    (e : s.heap.get? l = some { cls := .type "list", data := .seq its.toArray n }) (hf : f its.toArray = its'.toArray) (hv : Vals ys its') (hz : ys.length ≤ sizeLine) :
    Inv X pins σ (upd H l (.lst ys)) { s with heap := s.heap.update l (Obj.mapSeq f), toks := t' } := by
  have q := PySem.IsL.update e f
  rw [hf] at q
  refine I.write (x := l) (e := l) (by rw [hH]; exact trivial) (.inl rfl) (fun b' u hb hu => (Heap.get?_update_other s.heap (Obj.mapSeq f) (Ne.symm hb)).trans hu) ⟨_, q⟩ ?_
  exact ⟨hz, its', _, hv, q⟩
theorem Inv.lstM (I : Inv X pins σ H s) (hH : H l = some (.lst xs)) : xs.length ≤ sizeLine ∧ ∃ (its : List Value) (n : Nat), Vals xs its ∧ xs.length = its.length ∧ s.heap.get? l = some { cls := .type "list", data := .seq its.toArray n } := by
  obtain ⟨z, its, n, r, e⟩ := I.hok l _ hH
  exact ⟨z, its, n, r, r.length, e⟩

end

section
variable {X : Cx}

def rAppend : V → List V → Hp → VK → Prop := fun x vs H Q => ∃ l xs y, x = .ref l ∧ vs = [y] ∧ H l = some (.lst xs) ∧ xs.length < sizeLine ∧ Q .non (upd H l (.lst (xs ++ [y])))
theorem mt_append : MtM X "list.append" rAppend := by
  intro pins s σ H x vs v us Q I rx rv h
  obtain ⟨l, xs, y, rfl, rfl, hH, hz, q⟩ := h
  cases rx
  obtain ⟨u, rfl, ru⟩ := rv.one
  obtain ⟨z, its, n, r, hl, e⟩ := I.lstM hH
  refine call_meets F.slot_list_append ⟨_, e, rfl⟩ F.entry_list_append (F.args_list_append_2 _ _) (PySem.list_append l its.toArray n u (by rw [List.size_toArray]; omega)) ⟨e, ?_⟩
  refine ⟨.non, _, I.lset (its' := its ++ [u]) hH e (by simp) (r.append (.cons ru .nil)) ?_, rfl, q⟩
  rw [List.length_append, List.length_singleton]
  omega

def rPop : V → List V → Hp → VK → Prop := fun x vs H Q => ∃ l xs y, x = .ref l ∧ vs = [] ∧ H l = some (.lst xs) ∧ xs[xs.length - 1]? = some y ∧ Q y (upd H l (.lst xs.dropLast))
theorem mt_pop : MtM X "list.pop" rPop := by
  intro pins s σ H x vs v us Q I rx rv h
  obtain ⟨l, xs, y, rfl, rfl, hH, hy, q⟩ := h
  cases rx
  have hus := rv.zero
  subst hus
  obtain ⟨z, its, n, r, hl, e⟩ := I.lstM hH
  obtain ⟨u, hu, ru⟩ := r.get hy
  have hy' : its.toArray[its.toArray.size - 1]? = some u := by
    show its.toArray[its.length - 1]? = some u
    rw [← Array.getElem?_toList, ← hl]
    exact hu
  refine call_meets F.slot_list_pop ⟨_, e, rfl⟩ F.entry_list_pop (F.args_list_pop_1 _) (MeetsSeq.list_pop_last l its.toArray n u hy' (by rw [List.size_toArray]; omega)) ⟨e, ?_⟩
  refine ⟨y, _, I.lset (its' := its.dropLast) hH e ?_ r.dropLast ?_, ru, q⟩
  · show its.toArray.eraseIdxIfInBounds (its.toArray.size - 1) = its.dropLast.toArray
    rw [List.size_toArray, List.eraseIdxIfInBounds_toArray, erase_last]
  · rw [List.length_dropLast]
    omega

end

section
variable {prog : Program} {w : World} {A : Around} {E : Value → Shared → Prop} {s : Shared}
set_option maxRecDepth 100000 in
end

section
variable {X : Cx}
end
end L2

namespace Att
open PySem PySem.W PySem.Calls PyProof.Rows

theorem ints_of_wellAll {P : Params} {h : Heap} : ∀ (ns : List Int) (vs : List Value), WellAll P h vs (ns.map WData.int) → IntsAre vs ns := by
  intro ns
  induction ns with
  | nil =>
    intro vs w
    rw [List.map_nil] at w
    cases w
    exact .nil
  | cons n ns ih =>
    intro vs w
    rw [List.map_cons] at w
    cases w with
    | cons a b =>
      cases a
      exact .cons _ _ (ih _ b)

theorem script_of {l : OpenLaw} {n : Nat} (hn : l.most = some n) {P : Params} {h : Heap} {args : List WData} {vals : List Value}
    (hpre : l.row.toRowW.claim.pre args = true) (hwl : WellAll P h vals args) :
    ∃ a vs ns, vals = [Value.ref a] ∧ args = [WData.list (ns.map WData.int)] ∧ h.get? a = some { cls := .type "list", data := .seq vs.toArray } ∧ IntsAre vs ns ∧ ns.length ≤ n := by
  have hsh : WShape.hasAll [] args [.list .int] = true := (pre_splitW hpre).1
  have hc : l.pre.holds [] { args := args } = true := (pre_splitW hpre).2
  obtain ⟨d, r, rfl, h1, h2⟩ := hasAllW_cons hsh
  obtain rfl := hasAllW_nil h2
  obtain ⟨xs, rfl, h3⟩ := hasW_list h1
  obtain ⟨ns, rfl⟩ := items_int h3
  have hlen : ns.length ≤ n := by
    unfold OpenLaw.pre at hc
    have h4 : (WTm.not (.lt (.lit (.int (n : Int))) (.len (.arg 0)))).holds [] { args := [.list (ns.map .int)] } = true := by
      have h4 := (holds_andW hc).1
      rw [hn] at h4
      exact h4
    have h5 := condW_of h4 (w_not (w_lt w_lit (w_len_list (w_arg rfl))))
    rw [List.length_map] at h5
    refine Nat.le_of_not_lt fun q => ?_
    have q' : (n : Int) < ((ns.length : Nat) : Int) := by omega
    first
      | (rw [decide_eq_true q'] at h5; exact absurd h5 (by decide))
      | (simp at h5; omega)
  cases hwl with
  | cons w1 w2 =>
    cases w2
    cases w1 with
    | list ho hall => exact ⟨_, _, ns, rfl, rfl, ho, ints_of_wellAll ns _ hall, hlen⟩

theorem post_true (l : OpenLaw) (args : List WData) : l.row.toRowW.claim.post args (.bool true) args = true :=
  postW_of (r := l.row.toRowW) (X := (true == true))
    (show WShape.has [] (.bool true) .bool = true by first | rfl | decide | simp [WShape.has, WShape.arms, WShape.armsAll])
    (show (WTm.eq .res (.lit (.bool true))).value [] { args := args, res := some (.bool true), after := args } = some (.bool (true == true)) from w_eq_bool (w_res rfl) w_lit) rfl

/-- the same from a codeAny of the CALL (for a layer whose function contracts speak of calls) -/
theorem attach_call {l : OpenLaw} {n : Nat} {q : Program} {loose : List Str} {XP : (Str → Option Value) → Heap → Prop} {YP : World → Heap → Prop} {d : DefRec}
    (hn : l.most = some n) (hdf : d.params.defaults = [])
    (call : ∀ (w : World) (s₀ s₁ : Shared) (mg mb : Str → Option Value) (fa : Addr) (o : Obj) (pm cd doc : Value) (a : Addr) (vs : List Value) (ns : List Int),
      Ground q loose [] XP w s₀ mg mb s₁.heap → YP w s₁.heap →
      s₁.heap.get? fa = some o → o.data = .func (docDef d.name d.params d.body d.scope pm cd doc) → s₁.heap.CodeRec cd d.name → mg d.name = some (.ref fa) →
      s₁.heap.get? a = some { cls := .type "list", data := .seq vs.toArray } → IntsAre vs ns → ns.length ≤ n → s₁.gens = #[] →
      codeAny (model l.prog w) callerA (.call (.ref fa) ⟨[.ref a], []⟩) (fun r s' => r = .ok (.ret (.bool true)) ∧ OldK s₁.heap s'.heap ∧ s'.os = s₁.os ∧ AllBare s'.gens) s₁) :
    WalkO q loose XP YP l.row.toRowW d [] (fun f vs => PySem.call f vs) := by
  intro w s₀ s₁ mg mb G Y fa o pm cd doc dV kV ho hd hcd hD hmg hg args vals as hpre hlay hrd hwl hlo
  obtain rfl : dV = .none := Dflts.none hD hdf
  obtain rfl : kV = .none := Dflts.noKw hD
  obtain ⟨a, vs, ns, rfl, rfl, hobj, hints, hlen⟩ := script_of hn hpre hwl
  refine enter_call (codeAny_mono (call w s₀ s₁ mg mb fa o pm cd doc a vs ns G Y ho (fd_plain hd) hcd hmg hobj hints hlen hg) fun r s' hq => ?_)
  obtain ⟨rfl, h2, h3, h4⟩ := hq
  exact ⟨.inl ⟨.bool true, .bool true, [], rfl, fun _ => rfl, .bool true, post_true l _, fun _ => ⟨List.Pairwise.nil, fun _ hm => (nomatch hm)⟩⟩, h2, h3, h4⟩

section
variable {prog : Program} {w : World} {A : Around} {E : Value → Shared → Prop} {s : Shared} {K : Frag}

end
end Att

namespace L2
open PySem PySem.Spec PyProof.Rows

theorem vals_ints : ∀ {vs : List Value} {ns : List Int}, IntsAre vs ns → Vals (ns.map V.int) vs
  | _, _, .nil => .nil
  | _, _, .cons n t h => .cons ⟨t, rfl⟩ (vals_ints h)

/-- nothing is tracked but the script, known to the object (or it is an object of the module) -/
def Only (H : Hp) : Prop := ∀ b, H b = none ∨ ∃ o xs, H b = some (.frz o (.lst xs))

/-- THE HEAD: the law's promise, at the heap behind the top. F, the promise of the law's def, may use that base is part of the heap (so K.In base, base.Ns mainGlobals mg stand in Mod) -/
theorem law_call {P : Program} {w : World} {K : PySem.W.Frag} {mg mb : Str → Option Value} {CX : CXT} {k : Nat} {fa a : Addr} {fd : FuncData} {x : Str} {sp : Sp} {s₁ : Shared} {vs : List Value} {ns : List Int}
    (KX : K.In s₁.heap) (hns : s₁.heap.Ns mainGlobals mg) (hb : s₁.heap.Ns builtinsNs mb) (hbb : ∀ x : Str, x ≠ "__name__" → mb x = bootBuiltins x) (hlim : s₁.heap.NoLimit) (hg : s₁.gens = #[])
    (ha : s₁.heap.get? a = some { cls := .type "list", data := .seq vs.toArray }) (hi : IntsAre vs ns) (hl : ns.length ≤ sizeLine) (hr : Room k callerA)
    (F : ∀ base : Heap, K.In base → base.Ns mainGlobals mg → FnOk P w K mg base CX k fa fd [x] sp) (hbind : ∀ (s : Shared) (u : Value), BindsTo s fd ⟨[u], []⟩ [(x, u)])
    (hsp : ∀ H : Hp, Only H → SqL K H a (ns.map V.int) → sp [.ref a] H (fun v _ => v = .bl true) fun _ _ _ => False)
    (hCX : ∀ H e s', CX [] H s₁ (fun _ _ _ => False) e s' → False) :
    codeAny (model P w) callerA (.call (.ref fa) ⟨[.ref a], []⟩) (fun r s' => r = .ok (.ret (.bool true)) ∧ OldK s₁.heap s'.heap ∧ s'.os = s₁.os ∧ AllBare s'.gens) s₁ := by
  have rv := vals_ints hi
  have lenV := hi.length
  -- from an abstract heap in which nothing but the script may be tracked
  have core : ∀ H : Hp, Only H → SqL K H a (ns.map V.int) → HOk P w H s₁.heap → (∀ b, H b ≠ none → b = a) → (H a ≠ none → K.lookup a = none) →
      codeAny (model P w) callerA (.call (.ref fa) ⟨[.ref a], []⟩) (fun r s' => r = .ok (.ret (.bool true)) ∧ OldK s₁.heap s'.heap ∧ s'.os = s₁.os ∧ AllBare s'.gens) s₁ := by
    intro H hO hS hok hA hK
    have base_of : ∀ {b : Addr} {o : Obj}, s₁.heap.get? b = some o → H b = none → (hidT s₁.heap H).get? b = some o := fun e n => hidT_get e n
    have noA : ∀ {b : Addr} {o : Obj} {es : Array DictEntry} {ep : Nat}, s₁.heap.get? b = some o → o.data = .dict es ep → H b = none := fun {b o es ep} e d => by
      cases q : H b with
      | none => rfl
      | some u =>
        have e' : b = a := hA b (by rw [q]; simp)
        subst e'
        rw [ha] at e; cases e
        have d' : Data.seq vs.toArray _ = Data.dict es ep := d
        cases d'
    have nsK : ∀ {b : Addr} {m : Str → Option Value}, s₁.heap.Ns b m → (hidT s₁.heap H).Ns b m := fun {b m} ⟨o, es, ep, e, d, r⟩ => ⟨o, es, ep, base_of e (noA e d), d, r⟩
    have hKb : K.In (hidT s₁.heap H) := fun b o e => base_of (KX b o e) (by
      cases q : H b with
      | none => rfl
      | some u =>
        have e' : b = a := hA b (by rw [q]; simp)
        subst e'
        rw [hK (by rw [q]; simp)] at e; cases e)
    have hM : Mod K mg (hidT s₁.heap H) := ⟨hKb, nsK hns, ⟨mb, nsK hb, hbb⟩, let ⟨mc, h1, h2⟩ := hlim; ⟨mc, nsK h1, h2⟩⟩
    have e0 : Env0 P w K mg (hidT s₁.heap H) callerA [] s₁ H := ⟨rfl, hM, fun b o e => of_hidT e, Nat.le_of_eq (hidT_size _ _), trivial, fun b hb => absurd (show b ∈ ([] : List Addr) from hb) (by simp), hok, .of_eq hg⟩
    refine codeAny_mono ((F _ hKb (nsK hns)).run callerA [] s₁ H ⟨[.ref a], []⟩ [.ref a] [.ref a] _ _ hr e0 (hbind s₁ (.ref a)) (.cons rfl .nil) (hsp H hO hS)) fun r s' h => ?_
    cases r with
    | error e => exact (hCX H e s' h).elim
    | ok fl =>
      cases fl with
      | next => exact False.elim h
      | brk => exact False.elim h
      | cont => exact False.elim h
      | ret u =>
        obtain ⟨v, H', os, bare, un, hok', r', q⟩ := h
        have q' : v = .bl true := q
        subst q'
        obtain rfl : u = Value.bool true := r'
        refine ⟨rfl, OldK.of_keep fun b o e => ?_, os, bare⟩
        cases q : H b with
        | none => exact un.keep b o e q (by intro z; exact absurd (show b ∈ ([] : List Addr) from z) (by simp)) (by simp)
        | some u =>
          rcases hO b with z | ⟨ob, xs, z⟩
          · rw [q] at z; cases z
          · have z2 := un.frzs b ob _ z
            obtain ⟨e1, _⟩ := hok b _ z
            obtain ⟨e2, _⟩ := hok' b _ z2
            rw [e] at e1; cases e1
            exact e2
  cases hk : K.lookup a with
  | some o =>
    -- the script is one of the module's own objects
    have e := KX a o hk
    rw [ha] at e
    cases e
    refine core (fun _ => none) (fun _ => .inl rfl) (.inr ⟨_, vs.toArray, _, hk, rfl, rfl, rfl, by rw [List.size_toArray, lenV]; exact hl, by simpa using rv⟩) (fun b u z => by have z' : (none : Option HO) = some u := z; cases z') (fun b z => absurd rfl z) fun z => absurd rfl z
  | none =>
    refine core (fun b => if b = a then some (.frz { cls := .type "list", data := .seq vs.toArray } (.lst (ns.map V.int))) else none) (fun b => ?_) (.inl (.inr ⟨{ cls := .type "list", data := .seq vs.toArray }, if_pos rfl⟩)) (fun b u z => ?_) (fun b z => ?_) fun _ => hk
    · by_cases hb : b = a
      · exact .inr ⟨_, _, if_pos hb⟩
      · exact .inl (if_neg hb)
    · by_cases hb : b = a
      · have z' := (if_pos hb).symm.trans z
        cases z'
        subst hb
        exact ⟨ha, by rw [List.length_map]; exact hl, vs, _, rv, ha⟩
      · have z' := (if_neg hb).symm.trans z
        cases z'
    · by_cases hb : b = a
      · exact hb
      · exact absurd (if_neg hb) z
end L2

namespace L2
open PySem PySem.Spec PyProof.Rows

/-- the goal that k_head leaves (case hc), from the law's promise. F gives the function object fd (K's own) once, then the promise over every base -/
theorem walk_of {l : PySem.W.OpenLaw} {n k : Nat} {q : Program} {loose : List Str} {XP : (Str → Option Value) → Heap → Prop} {YP : World → Heap → Prop} {d : DefRec} {K : Params → PySem.W.Frag} {CX : World → CXT} {sp : World → Sp} {x : Str}
    (hn : l.most = some n) (hn2 : n ≤ sizeLine) (hdf : d.params.defaults = []) (hr : Room k callerA)
    (hY : ∀ (w : World) (h : Heap), YP w h → (K w.params).In h)
    (F : ∀ (w : World) (mg : Str → Option Value) (fa : Addr) (h : Heap), (K w.params).In h → h.Ns mainGlobals mg → mg d.name = some (.ref fa) →
      ∃ fd : FuncData, (∀ (s : Shared) (u : Value), BindsTo s fd ⟨[u], []⟩ [(x, u)]) ∧
        ∀ base : Heap, (K w.params).In base → base.Ns mainGlobals mg → FnOk l.prog w (K w.params) mg base (CX w) k fa fd [x] (sp w))
    (hsp : ∀ (w : World) (H : Hp) (a : Addr) (ns : List Int), ns.length ≤ n → Only H → SqL (K w.params) H a (ns.map V.int) → sp w [.ref a] H (fun v _ => v = .bl true) fun _ _ _ => False)
    (hCX : ∀ (w : World) (H : Hp) (s : Shared) (e : Value) (s' : Shared), CX w [] H s (fun _ _ _ => False) e s' → False) :
    PySem.W.WalkO q loose XP YP l.row.toRowW d [] (fun f vs => PySem.call f vs) := by
  refine Att.attach_call hn hdf fun w s₀ s₁ mg mb fa o pm cd doc a vs ns G Y ho hd hcd hmg hobj hints hlen hg => ?_
  have KX := hY w _ Y
  obtain ⟨fd, hb, hF⟩ := F w mg fa _ KX G.T.g hmg
  exact law_call KX G.T.g G.T.b G.T.builtins G.T.nolimit hg hobj hints (Nat.le_trans hlen hn2) hr hF hb (fun H hO hS => hsp w H a ns hlen hO hS) fun H e s' => hCX w H s₁ e s'
end L2


namespace L2
open PySem PySem.Spec PyProof.Rows

def defArgs (s : Stmt) : Arguments := match s with
  | .FunctionDef _ a _ _ _ _ _ _ _ _ => a
  | _ => { posonlyargs := [], args := [], vararg := none, kwonlyargs := [], kw_defaults := [], kwarg := none, defaults := [] }
def defBody (s : Stmt) : List Stmt := match s with
  | .FunctionDef _ _ b _ _ _ _ _ _ _ => b
  | _ => []
def defScope (s : Stmt) : Scope := match s with
  | .FunctionDef _ _ _ _ _ _ sc _ _ _ => sc
  | _ => { kind := .function, names := [], isGenerator := false, isCoroutine := false }

abbrev CX0 : CXT := fun _ _ _ _ _ _ => False
abbrev E0 : XK := fun _ _ _ => False
theorem pass0 {X : Cx} : Passes CX0 X E0 := fun _ _ _ _ _ _ _ h => h.elim

structure Fun (K : PySem.W.Frag) (x qual : Str) (st : Stmt) (f : Addr) (fd : FuncData) : Prop where
  ex : ∃ (oc : Value) (od : Option Addr) (kV doc pm : Value) (an : Option Addr) (cdv ct : Value) (osl : Array (Option Value)),
    fd = PySem.W.fnOf x qual (defArgs st) (defBody st) (defScope st) .none kV doc pm an cdv ct ∧ K.lookup f = some ⟨oc, od, .func fd, osl⟩ ∧ PySem.W.codeIn K cdv qual = true
  kp : PySem.W.keepIn K (.ref f) = true
section
variable {P : Program} {w : World} {K : PySem.W.Frag} {mg : Str → Option Value} {base : Heap}
/-- THE RULE for a def: its body as a term of rules, and the reading of that term -/
theorem Fun.ok {x qual : Str} {st : Stmt} {f : Addr} {fd : FuncData} {N ps : List Str} {k : Nat} {sp : Sp} (F : Fun K x qual st f fd) (S : FnScope N ps (defScope st)) (len : ∀ vs H Q E, sp vs H Q E → vs.length = ps.length)
    (hbody : ∀ (cdv : Value) (A : Around) (outer : List Env) (s : Shared) (H : Hp) (vs : List V) (Q : VK) (E : XK), Room k (A.deeper (envOfC qual (defScope st) s.heap.objs.size f cdv)) → sp vs H Q E →
      ∃ t, PSs (cxOf CX0 P w K mg base N qual (defScope st) f cdv A outer s H E).nox (defBody st) t ∧ t { nx := fun _ H' => Q .non H', rt := Q } (start N vs) H) : FnOk P w K mg base CX0 (k + 1) f fd ps sp := by
  obtain ⟨oc, od, kV, doc, pm, an, cdv, ct, osl, rfl, lk, hcd⟩ := F.ex
  refine fn_of lk hcd S len fun A outer s H vs Q E hr hsp => ?_
  obtain ⟨t, h, q⟩ := hbody cdv A outer s H vs Q E hr hsp
  exact ⟨t, h.nox, q⟩
/-- how its arguments bind (no defaults): h is «fun _ _ _ _ _ _ us hl => match us, hl with | [_, _], _ => rfl», one _ a parameter -/
theorem Fun.binds {x qual : Str} {st : Stmt} {f : Addr} {fd : FuncData} {ps : List Str} (F : Fun K x qual st f fd)
    (h : ∀ (kV doc pm : Value) (an : Option Addr) (cdv ct : Value) (us : List Value), us.length = ps.length → bindArgs (PySem.W.fnOf x qual (defArgs st) (defBody st) (defScope st) .none kV doc pm an cdv ct) ⟨us, []⟩ = pure (ps.zip us)) : Binds K fd ps [] := by
  obtain ⟨oc, od, kV, doc, pm, an, cdv, ct, osl, rfl, lk, hcd⟩ := F.ex
  exact .all (h kV doc pm an cdv ct)
theorem fun_mk {x qual : Str} {st : Stmt} {f : Addr} {oc : Value} {od an : Option Addr} {osl : Array (Option Value)} {kV doc pm cdv ct : Value} (l : K.lookup f = some ⟨oc, od, .func (PySem.W.fnOf x qual (defArgs st) (defBody st) (defScope st) .none kV doc pm an cdv ct), osl⟩)
    (c : PySem.W.codeIn K cdv qual = true) (k : PySem.W.keepIn K (.ref f) = true) : Fun K x qual st f (PySem.W.fnOf x qual (defArgs st) (defBody st) (defScope st) .none kV doc pm an cdv ct) := ⟨⟨oc, od, kV, doc, pm, an, cdv, ct, osl, rfl, l, c⟩, k⟩
end
theorem hu_of {A : Around} {k : Nat} (hr : Room k A) : A.units + 1 < cLine := Nat.lt_of_le_of_lt (Nat.add_le_add_left (by decide : 1 ≤ 64) _) hr.units
section
variable {X : Cx}
theorem pv (i : Nat) {x : Str} {pos : Pos} (hN : X.N[i]? = some x := by rfl) (hv : Vis X.env.scope x := by first | exact Or.inl rfl | exact Or.inr (Or.inl rfl) | exact Or.inr (Or.inr rfl)) (hd : (x == ("__debug__" : Str)) = false := by decide)
    (hcd : (x == ("__classdict__" : Str)) = false := by decide) : PE X (.Name x pos) (tVar i) := pe_var hN hv hd hcd
end

theorem iteF {A B : Prop} (h : B) : if false = true then A else B := by
  rw [if_neg Bool.false_ne_true]
  exact h
theorem iteT {A B : Prop} (h : A) : if true = true then A else B := by
  rw [if_pos rfl]
  exact h
/-- all that was tracked is as it was -/
def Same (H H' : Hp) : Prop := ∀ b o, H b = some o → H' b = some o
theorem Same.refl (H : Hp) : Same H H := fun _ _ h => h
theorem Same.trans {H H1 H2 : Hp} (a : Same H H1) (b : Same H1 H2) : Same H H2 := fun c o h => b c o (a c o h)
theorem Same.free {H H' : Hp} (e : Same H H') {l : Addr} (h : H' l = Option.none) : H l = Option.none := by
  cases q : H l with
  | none => rfl
  | some o =>
    rw [e l o q] at h
    cases h
theorem Same.seq {K : PySem.W.Frag} {H H' : Hp} {a : Addr} {xs : List V} (e : Same H H') (h : SqL K H a xs) : SqL K H' a xs := by
  rcases h with (h | ⟨o, h⟩) | h
  · exact .inl (.inl (e _ _ h))
  · exact .inl (.inr ⟨o, e _ _ h⟩)
  · exact .inr h

end L2
set_option maxHeartbeats 4000000
namespace PySem.W.Fast
def tw6523795354640699349:=0
def tw10060923510613796131:=0
def tw292485290069179203:=0
def tw4427868258606699312:=0
def tw3149335094327466574:=0
def tw13119411964516390338:=0
def tw7681204961560176287:=0
def tw7727171562420877320:=0
def tw11451717688863649089:=0
def tw4883751041412173381:=0
def tw8124195160672067874:=0
def tw9011206465374032373:=0
def tw17247823956907390920:=0
def tw1581974656891827586:=0
def tw1174595198127677045:=0
def tw3500136037541721081:=0
def tw1718873853821784158:=0
def tw13389447130548839455:=0
def tw2140797378502831634:=0
def tw11262252076351596282:=0
def tw7769728839957275215:=0
def tw62426863983135348:=0
def tw5852635542956877051:=0
def tw10767696697999565096:=0
def tw3729249064297306842:=0
def tw16437595561419210022:=0
def tw15338840496013881428:=0
def tw6760985946649740145:=0
def tw1232323129569379095:=0
def tw4890665008927068991:=0
def tw1734807121008796603:=0
def tw7642943491931338270:=0
def tw17272270854303264096:=0
def tw15467234649642008116:=0
def tw8513164933926340969:=0
def tw18335577224217559025:=0
def tw14744532408326295886:=0
end PySem.W.Fast
namespace L2
open PySem PySem.Spec PyProof.Rows
structure CompOk (sc csc : Scope) (N : List Str) (x : Str) (caps : List (Str × Nat)) : Prop where
  cell : ∀ p ∈ csc.names, p.2 ≠ .cell
  kind : csc.kind = .function
  loc : ∀ p ∈ csc.names, p.2 = .local → csc.names.lookup p.1 = some .local
  tg : csc.names.lookup x = some .local
  free : ∀ p ∈ csc.names, p.2 = .free → sc.names.lookup p.1 = some .cell
  cap : ∀ p ∈ caps, N[p.2]? = some p.1 ∧ csc.names.lookup p.1 = some .free
  nd : (caps.map (·.1) ++ [x]).Nodup

def clFold (env : Env) : List (Str × NameKind) → List (Str × Addr) → List (Str × Addr)
  | [], cs => cs
  | (n, k) :: r, cs => clFold env r (if k == .free then (n, (env.cells.lookup n).getD 0) :: cs else cs)

theorem closureFor_eq {env : Env} {sc : Scope} (h : ∀ p ∈ sc.names, p.2 = .free → ∃ c, env.cells.lookup p.1 = some c) : closureFor sc env = pure (clFold env sc.names []) := by
  obtain ⟨kind, names, g, c⟩ := sc
  simp only [closureFor]
  have aux : ∀ (l : List (Str × NameKind)) (cs : List (Str × Addr)), (∀ p ∈ l, p.2 = .free → ∃ c, env.cells.lookup p.1 = some c) →
      (forIn l cs (fun (x : Str × NameKind) (r : List (Str × Addr)) => if (x.2 == NameKind.free) = true then (do let a ← cellOf env x.1; pure (ForInStep.yield ((x.1, a) :: r))) else pure (ForInStep.yield r)) : Sem (List (Str × Addr))) = pure (clFold env l cs) := by
    intro l
    induction l with
    | nil => intro cs _; rfl
    | cons p r ih =>
      intro cs hp
      obtain ⟨n, k⟩ := p
      rw [List.forIn_cons]
      have ih' := fun cs => ih cs (fun q hq => hp q (List.mem_cons_of_mem _ hq))
      by_cases hk : (k == NameKind.free) = true
      · obtain ⟨c, e⟩ := hp (n, k) List.mem_cons_self (by simpa using hk)
        simp only [hk, if_true, cellOf, e, clFold, pure_bind, Option.getD_some]
        exact ih' _
      · have hk' : (k == NameKind.free) = false := by simpa using hk
        simp only [hk', if_false, clFold, pure_bind, Bool.false_eq_true]
        exact ih' _
  have := aux names [] h
  first
    | (rw [this]; rfl)
    | (simp only [bind_pure]; exact this)
    | (refine Eq.trans (bind_pure _) this)

theorem clFold_in {env : Env} : ∀ (l : List (Str × NameKind)) (cs : List (Str × Addr)), (∀ p ∈ l, p.2 = .free → ∃ c, env.cells.lookup p.1 = some c) → (∀ y c, cs.lookup y = some c → env.cells.lookup y = some c) →
    ∀ y c, (clFold env l cs).lookup y = some c → env.cells.lookup y = some c
  | [], _, _, h2 => h2
  | (n, k) :: r, cs, h1, h2 => by
    unfold clFold
    refine clFold_in r _ (fun q hq => h1 q (List.mem_cons_of_mem _ hq)) ?_
    by_cases hk : (k == NameKind.free) = true
    · obtain ⟨c, e⟩ := h1 (n, k) List.mem_cons_self (by simpa using hk)
      rw [if_pos hk]
      intro y c' h
      rw [e] at h
      rw [List.lookup_cons] at h
      cases hy : y == n with
      | true => rw [hy] at h; simp at h; rw [eq_of_beq hy, ← h]; exact e
      | false => rw [hy] at h; exact h2 y c' h
    · rw [if_neg hk]; exact h2
theorem clFold_has {env : Env} : ∀ (l : List (Str × NameKind)) (cs : List (Str × Addr)) (y : Str), ((y, NameKind.free) ∈ l ∨ ∃ c, cs.lookup y = some c) → ∃ c, (clFold env l cs).lookup y = some c
  | [], _, _, h => by
    rcases h with h | h
    · cases h
    · exact h
  | (n, k) :: r, cs, y, h => by
    unfold clFold
    refine clFold_has r _ y ?_
    by_cases hk : (k == NameKind.free) = true
    · rw [if_pos hk]
      by_cases hy : (y == n) = true
      · exact .inr ⟨_, by rw [List.lookup_cons, hy]⟩
      · have hy' : (y == n) = false := by simpa using hy
        rcases h with h | ⟨c, h⟩
        · rcases List.mem_cons.mp h with z | z
          · cases z; simp at hy
          · exact .inl z
        · exact .inr ⟨c, by rw [List.lookup_cons, hy']; exact h⟩
    · rw [if_neg hk]
      rcases h with h | h
      · rcases List.mem_cons.mp h with z | z
        · cases z; simp at hk
        · exact .inl z
      · exact .inr h

abbrev compCx (X : Cx) (N' : List Str) (csc : Scope) (C : Addr) (s2 : Shared) (H2 : Hp) (fp : List Addr) : Cx :=
  { X with N := N', s₀ := s2, H₀ := H2, env := compEnvC csc (clFold X.env csc.names []) C X.env, outer := X.stack, ex := fp, fn := fun _ => false, pn := [], xe := fun _ _ => False }

def capV (caps : List (Str × Nat)) (σ : St) : St := caps.map fun p => (σ[p.2]?).join
/-- W: by the turn, a measure, and what has been made so far -/
def CompW (J : It) (caps : List (Str × Nat)) (te : TE) (σ : St) (H1 : Hp) (Q : VK) : Prop := ∃ W : Nat → Nat → List V → Hp → Prop, (∃ m, W 0 m [] H1) ∧ ∀ i m ys H, W i m ys H →
  (J.stop i H ∧ ∀ D, H D = none → Q (.ref D) (upd H D (.lst ys))) ∨ (J.go i H ∧ ys.length < sizeLine ∧ ∀ x H', J.yld i H x H' → te (capV caps σ ++ [some x]) H' fun y H2 => ∃ m', m' < m ∧ W (i + 1) m' (ys ++ [y]) H2)
def tComp (caps : List (Str × Nat)) (wi : TI) (te : TE) : TE := fun σ H Q => wi σ H fun J H1 => CompW J caps te σ H1 Q

theorem lookup_relabel {env : Env} (hk : env.scope.kind = .function) : ∀ {names : List (Str × NameKind)} {x : Str}, (∀ p ∈ names, p.2 = .free → env.kindOf p.1 = some .cell) → names.lookup x = some .free →
    (names.map fun (n, k) => if (k == NameKind.free && env.scope.kind == .function && env.kindOf n == some .cell) then (n, NameKind.cell) else (n, k)).lookup x = some .cell
  | [], _, _, h => by simp at h
  | (n, k) :: r, x, hf, h => by
    have ih := @lookup_relabel env hk r x (fun p hp => hf p (List.mem_cons_of_mem _ hp))
    show List.lookup x ((if (k == NameKind.free && env.scope.kind == .function && env.kindOf n == some .cell) = true then (n, NameKind.cell) else (n, k)) :: _) = _
    cases hx : x == n with
    | true =>
      simp only [List.lookup_cons, hx] at h
      cases h
      have := hf (n, .free) List.mem_cons_self rfl
      have hk' : (env.scope.kind == ScopeKind.function) = true := by rw [hk]; rfl
      simp [List.lookup_cons, hx, this, hk']
    | false =>
      simp only [List.lookup_cons, hx] at h
      by_cases hc : (k == NameKind.free && env.scope.kind == .function && env.kindOf n == some .cell) = true
      · rw [if_pos hc]; simp only [List.lookup_cons, hx]; exact ih h
      · rw [if_neg hc]; simp only [List.lookup_cons, hx]; exact ih h
theorem lookup_relabel_inv {env : Env} : ∀ {names : List (Str × NameKind)} {x : Str} {k' : NameKind}, 
    (names.map fun (n, k) => if (k == NameKind.free && env.scope.kind == .function && env.kindOf n == some .cell) then (n, NameKind.cell) else (n, k)).lookup x = some k' → (k' = .cell ∨ k' = .free) → (∀ p ∈ names, p.2 ≠ .cell) → (x, NameKind.free) ∈ names
  | [], _, _, h, _, _ => by simp at h
  | (n, k) :: r, x, k', h, hk, hn => by
    have ih := @lookup_relabel_inv env r x k'
    have h : List.lookup x ((if (k == NameKind.free && env.scope.kind == .function && env.kindOf n == some .cell) = true then (n, NameKind.cell) else (n, k)) :: (r.map fun (n, k) => if (k == NameKind.free && env.scope.kind == .function && env.kindOf n == some .cell) then (n, NameKind.cell) else (n, k))) = some k' := h
    cases hx : x == n with
    | true =>
      have e : x = n := eq_of_beq hx
      subst e
      by_cases hc : (k == NameKind.free && env.scope.kind == .function && env.kindOf x == some .cell) = true
      · have : k = .free := by
          simp only [Bool.and_eq_true] at hc
          simpa using hc.1.1
        subst this
        exact List.mem_cons_self
      · rw [if_neg hc] at h
        simp only [List.lookup_cons, hx] at h
        cases h
        rcases hk with z | z
        · exact absurd z (hn _ List.mem_cons_self)
        · subst z; exact List.mem_cons_self
    | false =>
      refine List.mem_cons_of_mem _ (ih ?_ hk fun p hp => hn p (List.mem_cons_of_mem _ hp))
      by_cases hc : (k == NameKind.free && env.scope.kind == .function && env.kindOf n == some .cell) = true
      · rw [if_pos hc] at h; simp only [List.lookup_cons, hx] at h; exact h
      · rw [if_neg hc] at h; simp only [List.lookup_cons, hx] at h; exact h

section
variable {X : Cx} {pins : List (Addr × Obj)} {σ : St} {H : Hp} {s : Shared}
theorem capV_len (caps : List (Str × Nat)) (σ : St) : (capV caps σ).length = caps.length := by simp [capV]
/-- the block's context at its start -/
theorem comp_start {csc : Scope} {x : Str} {caps : List (Str × Nat)} {fp : List Addr} {h4 : Heap} {t4 : Nat} {C : Addr} {m0 : Str → Option Value} (I : Inv X pins σ H s) (ck : CompOk X.env.scope csc X.N x caps) (hf : ∀ b ∈ fp, FpOk X pins H b)
    (hfs : ∀ b ∈ fp, b < s.heap.objs.size) (hC : s.heap.objs.size ≤ C) (hk : ∀ b o, s.heap.get? b = some o → h4.get? b = some o) (hn : h4.Ns C m0) :
    Inv (compCx X (caps.map (·.1) ++ [x]) csc C s H fp) [] (capV caps σ ++ [none]) H { s with heap := h4, toks := t4 } := by
  have cellsOk : ∀ p ∈ csc.names, p.2 = .free → ∃ c, X.env.cells.lookup p.1 = some c := fun p hp e => I.ok.has p.1 (.inl (ck.free p hp e))
  have inX : ∀ y c, (clFold X.env csc.names []).lookup y = some c → X.env.cells.lookup y = some c := clFold_in _ _ cellsOk (fun y c h => by simp at h)
  have kf : ∀ p ∈ csc.names, p.2 = .free → X.env.kindOf p.1 = some .cell := ck.free
  refine ⟨⟨I.ok.mod, ck.kind, I.ok.glob, I.ok.blt, hC, fun y z c h1 h2 => I.ok.inj y z c (inX y c h1) (inX z c h2), fun y hy => ?_, fun y c h => (nomatch h), I.ok.hd, I.ok.frames, .inl rfl, fun b hb => ⟨?_, fun y c h => ?_⟩, ?_, ?_, ?_, ?_, I.stack, I.stkFree⟩, rfl, I.bare, Un.kept hk, ⟨m0, hn, fun i y v h1 h2 h3 => ?_⟩, fun y c h => ?_, I.hok.fresh hC, fun y c h => I.freeC y c (inX y c h), fun p hp => absurd hp (by simp), I.hok.kept hk, ?_⟩
  · have hy' : (csc.names.map fun (n, k) => if (k == NameKind.free && X.env.scope.kind == .function && X.env.kindOf n == some .cell) then (n, NameKind.cell) else (n, k)).lookup y = some .cell ∨ (csc.names.map fun (n, k) => if (k == NameKind.free && X.env.scope.kind == .function && X.env.kindOf n == some .cell) then (n, NameKind.cell) else (n, k)).lookup y = some .free := hy
    refine clFold_has _ _ y (.inl ?_)
    rcases hy' with z | z
    · exact lookup_relabel_inv z (.inl rfl) ck.cell
    · exact lookup_relabel_inv z (.inr rfl) ck.cell
  · exact Nat.ne_of_lt (Nat.lt_of_lt_of_le (hfs b hb) hC)
  · exact (hf b hb).2.2.2.2.1 y c (inX y c h)
  · exact fun b o e => I.bs b o e
  · exact Nat.le_trans I.ok.bsz I.sz
  · intro b o e hb
    rcases (hf b hb).2.2.2.1 with z | z
    · exact I.ok.noex b o e z
    · exact absurd (Nat.lt_of_lt_of_le (Heap.lt_size (I.ok.bs b o e).1) z) (Nat.lt_irrefl _)
  · intro b hb z
    rcases List.mem_cons.mp (I.stkSub b z) with e | e
    · exact (hf b hb).2.1 e
    · exact (hf b hb).2.2.1 e
  · have hi : i < caps.length := by
      by_cases hi : i < caps.length
      · exact hi
      · rw [List.getElem?_append_right (by rw [capV_len]; omega), capV_len] at h2
        cases q : i - caps.length with
        | zero => rw [q] at h2; simp at h2
        | succ k => rw [q] at h2; simp at h2
    rw [List.getElem?_append_left (by rw [List.length_map]; exact hi), List.getElem?_map] at h1
    rw [List.getElem?_append_left (by rw [capV_len]; exact hi)] at h2
    unfold capV at h2
    rw [List.getElem?_map] at h2
    cases e : caps[i]? with
    | none => rw [e] at h1; cases h1
    | some p =>
      rw [e] at h1 h2
      simp only [Option.map_some, Option.some.injEq] at h1 h2
      subst h1
      obtain ⟨hN, hfr⟩ := ck.cap p (List.mem_of_getElem? e)
      have h2' : σ[p.2]? = some (some v) := by
        cases q : σ[p.2]? with
        | none => rw [q] at h2; cases h2
        | some w => rw [q] at h2; simp at h2; rw [h2]
      have hcX : X.env.scope.names.lookup p.1 = some .cell := ck.free (p.1, .free) (PySem.mem_of_lookup hfr) rfl
      obtain ⟨m, _, hl⟩ := I.loc
      obtain ⟨u, r, l⟩ := hl p.2 p.1 v hN h2' (.inr (.inl hcX))
      refine ⟨u, r, ?_⟩
      rcases l with ⟨k, _⟩ | ⟨_, c, hc, z⟩
      · have k' : X.env.scope.names.lookup p.1 = some .local := k
        rw [hcX] at k'; cases k'
      · obtain ⟨c', hc'⟩ := clFold_has (env := X.env) csc.names [] p.1 (.inl (PySem.mem_of_lookup hfr))
        have : c' = c := by
          have := inX p.1 c' hc'
          rw [hc] at this
          exact (Option.some.inj this).symm
        subst this
        refine .inr ⟨.inl (lookup_relabel I.ok.kind kf hfr), c', hc', ?_⟩
        obtain ⟨o, ho, hd⟩ := z
        exact ⟨o, hk _ _ ho, hd⟩
  · obtain ⟨v, o, ho, hd⟩ := I.cell y c (inX y c h)
    exact ⟨v, o, hk _ _ ho, hd⟩
  · rw [List.length_append, capV_len, List.length_append, List.length_map]; rfl
end
end L2
namespace L2
open PySem PySem.Spec PyProof.Rows
/-- the loop of a comprehension, with the step ahead of the store -/
theorem compLoop_go {prog : Program} {w : World} {A : Around} {R : Result → Shared → Prop} {s : Shared} {elt target iter : Expr} {scope : Scope} {pos : Pos} {it acc : Value} {env : Env} (J : Nat → Shared → Prop)
    (turn : ∀ n s, J n s → wpAny (model prog w) A (pyNext it) (fun r s₁ => match r with
      | none => R (.ok .next) s₁
      | some v => wpAny (model prog w) A (letOwnedTupleGo target it v) (fun _ s₁ => wpAny (model prog w) A (assign target env v) (fun _ s₂ => wpAny (model prog w) A (eval elt env) (fun x s₃ =>
          wpAny (model prog w) A (call (.builtin "list.append") [acc, x]) (fun _ s₄ => ∃ m, m < n ∧ J m s₄) (fun _ _ => False) s₃)
          (fun _ _ => False) s₂) (fun _ _ => False) s₁) (fun _ _ => False) s₁) (fun _ _ => False) s)
    (n : Nat) (h : J n s) :
    codeAny (model prog w) A (.compLoop (.ListComp elt [⟨target, iter, [], 0⟩] scope pos) 0 it acc env) R s := by
  refine codeAny_loop rfl J (fun n s hI => ?_) n h
  show wpAny _ _ ((compTurn (.ListComp elt [⟨target, iter, [], 0⟩] scope pos) 0 it acc env).onRaise (fun x => do noteFrame x env; theTreesLotGoes x)) _ _ s
  refine wpAny_noted ?_
  rw [compTurn_list1]
  refine wpAny_bind (wpAny_standAt (wpAny_bind (wpAny_mono (turn n s hI) (fun r s₁ h₁ => ?_) fun _ _ h' => h'.elim)))
  cases r with
  | none => exact wpAny_pure h₁
  | some v =>
    refine wpAny_bind (wpAny_mono h₁ (fun _ s₁' h₁ => ?_) fun _ _ h' => h'.elim)
    exact wpAny_bind (wpAny_mono h₁ (fun _ s₂ h₂ => wpAny_bind (wpAny_bind (wpAny_mono h₂ (fun x s₃ h₃ => wpAny_bind (wpAny_mono h₃
      (fun _ s₄ h₄ => wpAny_pure (wpAny_pure ⟨rfl, h₄⟩)) fun _ _ h' => h'.elim)) fun _ _ h' => h'.elim))) fun _ _ h' => h'.elim)
theorem nlt {a b : Nat} (h : a < b) : a ≠ b := Nat.ne_of_lt h
theorem nlt1 {a b : Nat} (h : a < b) : a ≠ b + 1 := Nat.ne_of_lt (Nat.lt_succ_of_lt h)
theorem ns1 {a : Nat} : a ≠ a + 1 := Nat.ne_of_lt (Nat.lt_succ_self a)
section
variable {X : Cx}
/-- behind the block -/
theorem comp_done {csc : Scope} {N' : List Str} {fp : List Addr} {C D : Addr} {pins pl : List (Addr × Obj)} {σ σ' : St} {H H' : Hp} {s s' : Shared} {h' : Heap} {ys : List V} {its : List Value} {n : Nat} (I : Inv X pins σ H s)
    (J : Inv (compCx X N' csc C s H fp) pl σ' H' s') (hf : ∀ b ∈ fp, FpOk X pins H b) (hC : s.heap.objs.size ≤ C) (hD : s.heap.objs.size ≤ D) (hDC : D ≠ C) (hs : Heap.SameBut C s'.heap h') (hv : Vals ys its) (hz : ys.length ≤ sizeLine)
    (hd : s'.heap.get? D = some { cls := .type "list", data := .seq its.toArray n }) (hDn : H' D = none) : Inv X pins σ (upd H' D (.lst ys)) { s' with heap := h' } := by
  have ne : ∀ b o, s.heap.get? b = some o → b ≠ C ∧ b ≠ D := fun b o e => ⟨Nat.ne_of_lt (Nat.lt_of_lt_of_le (Heap.lt_size e) hC), Nat.ne_of_lt (Nat.lt_of_lt_of_le (Heap.lt_size e) hD)⟩
  have u : Un (frs X.stack) fp H H' s.heap s'.heap := J.base
  have nDt : ∀ b o, H' b = some o → b ≠ D := fun b o e => ne_of_none e hDn
  refine I.call' (s' := { s' with heap := h' }) (ch := fp) J.os ?_ ?_ J.bare fun b hb => ⟨(hf b hb).2.2.2.1, (hf b hb).2.1, (hf b hb).2.2.2.2.1, (hf b hb).2.2.2.2.2⟩
  · refine ⟨fun b o q n hb he => ?_, fun b o q n hb he => ?_, fun b o q n he => ?_, fun b o q he => ?_, fun b xs q => ?_, fun b o xs q => ?_, fun b ps q => ?_⟩
    · exact (hs.2 b (ne b o q).1).trans (u.keep b o q n hb he)
    · obtain ⟨sl, e⟩ := u.slot b o q n hb he
      exact ⟨sl, (hs.2 b (ne b o q).1).trans e⟩
    · rw [upd_ne (ne b o q).2]; exact u.free b o q n he
    · obtain ⟨o', e⟩ := u.there b o q he
      exact ⟨o', (hs.2 b (ne b o q).1).trans e⟩
    · have := u.tups b xs q
      rw [upd_ne (nDt b _ this)]; exact this
    · have := u.frzs b o xs q
      rw [upd_ne (nDt b _ this)]; exact this
    · obtain ⟨more, this⟩ := u.tbls b ps q
      exact ⟨more, by rw [upd_ne (nDt b _ this)]; exact this⟩
  · intro b o e
    by_cases hb : b = D
    · subst hb
      rw [upd_same] at e; cases e
      exact ⟨hz, its, n, hv, (hs.2 b hDC).trans hd⟩
    · rw [upd_ne hb] at e
      refine (J.hok b o e).stay (fun c v hc q => (hs.2 c ?_).trans q) (fun c q => by rw [upd_ne (nDt c _ q)]; exact q) fun c xs q => by rw [upd_ne (nDt c _ q)]; exact q
      have hfree : H' C = none := J.free
      rcases hc with z | z
      · rw [z]; exact ne_of_none e hfree
      · exact ne_of_none z hfree

end
end L2
namespace L2
open PySem PySem.Spec PyProof.Rows
section
variable {X : Cx}
/-- sep.join(a list of texts) -/
def rJoin (K : PySem.W.Frag) : V → List V → Hp → VK → Prop := fun x vs H Q => ∃ z p ys, x = .str z ∧ vs = [.ref p] ∧ SqL K H p (ys.map V.str) ∧ (ys.map (·.length)).sum + ys.length * z.length ≤ 16777216 ∧ Q (.str (Txt.join z ys)) H
/-- x.startswith(y, i), 0 ≤ i -/
def rStarts3 : V → List V → Hp → VK → Prop := fun x vs H Q => ∃ a b i, x = .str a ∧ vs = [.str b, .int i] ∧ Q (.bl (fromIndex a.length i + b.length ≤ a.length && Builtin.Str.subAt a b (fromIndex a.length i))) H
/-- x.startswith(y) -/
def rStarts2 : V → List V → Hp → VK → Prop := fun x vs H Q => ∃ a b, x = .str a ∧ vs = [.str b] ∧ Q (.bl (0 + b.length ≤ a.length && Builtin.Str.subAt a b 0)) H
/-- isinstance(x, c) -/
theorem call_isi : CallR X (.builtin "isinstance") (fun xs H Q => ∃ x c cv t b, xs = [x, c] ∧ (c = V.ty cv ∨ False) ∧ TyOf X.K H x t ∧ PySem.W.kitOne X.K t (.type cv) = some b ∧ Q (.bl b) H) := by
  intro pins s σ H xs us Q I r h
  obtain ⟨x, c, cv, t, b, rfl, hc, ty, e, q⟩ := h
  obtain ⟨u, w', rfl, ru, rw'⟩ := vals2 r
  rcases hc with rfl | hc
  · cases rw'
    exact isinst_ok I ru ty e fun tk => ⟨.bl b, H, I.tok _, rfl, q⟩
  · exact hc.elim
end
end L2
namespace L2
open PySem PySem.Spec PyProof.Rows
def At (X : Cx) (D : Ends) (sts : List Stmt) (σ : St) (H : Hp) : Prop := ∀ (pins : List (Addr × Obj)) (s : Shared), Inv X pins σ H s → wpAny (model X.prog X.w) X.A (execs sts X.env) (SP X pins D) X.xe s
section
variable {X : Cx} {D : Ends} {st : Stmt} {rest sts : List Stmt} {t : TS} {σ : St} {H : Hp}
theorem pss_at : PSs X sts (fun D σ H => At X D sts σ H) := fun pins s σ H D I h => h pins s I
theorem at_nil (h : D.nx σ H) : At X D [] σ H := fun _ _ I => wpAny_execs_nil ⟨σ, H, I, h⟩
theorem at_cons (h : PS X st t) (q : t { D with nx := fun σ H => At X D rest σ H } σ H) : At X D (st :: rest) σ H := fun pins s I =>
  (pss_cons h pss_at) pins s σ H D I q
theorem at_one (h : PS X st t) (q : t D σ H) : At X D [st] σ H := fun pins s I => (pss_one h) pins s σ H D I q
theorem at_body (h : At X D sts σ H) : ∃ t, PSs X sts t ∧ t D σ H := ⟨fun D' σ' H' => D' = D ∧ σ' = σ ∧ H' = H, fun pins s σ' H' D' I ⟨e1, e2, e3⟩ => by subst e1 e2 e3; exact h pins s I, rfl, rfl, rfl⟩
end
/-- a test at a value, both ways -/
theorem ifd {c : Prop} [Decidable c] {A B : Prop} (h1 : c → A) (h2 : ¬ c → B) : if decide c = true then A else B := by
  by_cases h : c
  · rw [decide_eq_true h]; exact h1 h
  · rw [decide_eq_false h]; exact h2 h
theorem ifnd {c : Prop} [Decidable c] {A B : Prop} (h1 : ¬ c → A) (h2 : c → B) : if (!decide c) = true then A else B := by
  by_cases h : c
  · rw [decide_eq_true h]; exact h2 h
  · rw [decide_eq_false h]; exact h1 h
theorem Same.upd {H : Hp} {p : Addr} {o : HO} (h : H p = none) : Same H (upd H p o) := fun b u e => by rw [upd_ne (ne_of_none e h)]; exact e
theorem Same.to {H H1 : Hp} {p : Addr} {o : HO} (s : Same H H1) (h : H1 p = none) : Same H (L2.upd H1 p o) := s.trans (Same.upd h)
theorem SqL.same {K : PySem.W.Frag} {H H' : Hp} {a : Addr} {xs : List V} (h : SqL K H a xs) (e : Same H H') : SqL K H' a xs := e.seq h
section
variable {X : Cx} {C : Addr} {x : Str} {p pos : Pos}
def tMakeO (C : Addr) : TE := fun _ H Q => ∀ x dx, H x = none → H dx = none → dx ≠ x → Q (.ref x) (upd (upd H dx (.own x)) x (.ins C dx []))
end
end L2
namespace L2
open PySem PySem.Spec PyProof.Rows
section
variable {X : Cx} {C : Addr} {x : Str} {p pos : Pos}
end
end L2
namespace L2
open PySem PySem.Spec PyProof.Rows
section
variable {X : Cx}
def rSlS : V → Option Int → Option Int → Hp → VK → Prop := fun x lo hi H Q => ∃ z, x = .str z ∧ z.length ≤ sizeLine ∧ Q (.str (Txt.slice z lo hi)) H
end
end L2
namespace L2
open PySem PySem.Spec PyProof.Rows
section
variable {X : Cx} {D : Ends} {st : Stmt} {rest sts : List Stmt} {t : TS} {σ : St} {H : Hp}
/-- a cut behind a statement -/
theorem at_consR (R : St → Hp → Prop) (h : PS X st t) (q : t { D with nx := R } σ H) (r : ∀ σ H, R σ H → At X D rest σ H) : At X D (st :: rest) σ H := fun pins s I =>
  (pss_cons h (u := fun D' σ H => D' = D ∧ R σ H) (fun pins s σ H D' I ⟨e, z⟩ => by subst e; exact r σ H z pins s I)) pins s σ H D I (by
    have e : (fun σ H => D = D ∧ R σ H) = R := by funext σ H; simp
    show t { D with nx := fun σ H => D = D ∧ R σ H } σ H
    rw [e]; exact q)
theorem cxOf_K {CX : CXT} {P : Program} {w : World} {K : PySem.W.Frag} {mg : Str → Option Value} {base : Heap} {N : List Str} {qual : Str} {scope : Scope} {f : Addr} {cd : Value} {A : Around} {outer : List Env} {s : Shared} {H : Hp} {E : XK} :
    (cxOf CX P w K mg base N qual scope f cd A outer s H E).K = K := rfl
end
end L2
namespace L2
open PySem PySem.Spec PyProof.Rows
theorem comp_list {K : PySem.W.Frag} {a : Addr} {xs : List V} {caps : List (Str × Nat)} {te : TE} {σ : St} {H : Hp} {Q : VK} (Pv : Nat → List V → Hp → Prop) (h0 : Pv 0 [] H) (hn : xs.length < sizeLine)
    (hq : ∀ i ys H, i ≤ xs.length → Pv i ys H → SqL K H a xs)
    (hs : ∀ i x ys H, xs[i]? = some x → ys.length = i → Pv i ys H → te (capV caps σ ++ [some x]) H fun y H2 => ∃ m', m' < xs.length - i ∧ m' = xs.length - (i + 1) ∧ i + 1 ≤ xs.length ∧ (ys ++ [y]).length = i + 1 ∧ Pv (i + 1) (ys ++ [y]) H2) (hd : ∀ ys H, ys.length = xs.length → Pv xs.length ys H → ∀ D, H D = none → Q (.ref D) (upd H D (.lst ys))) :
    CompW (Itl K a) caps te σ H Q := by
  refine ⟨fun i m ys H => m = xs.length - i ∧ i ≤ xs.length ∧ ys.length = i ∧ Pv i ys H, ⟨xs.length, by simp, Nat.zero_le _, rfl, h0⟩, ?_⟩
  rintro i m ys H ⟨rfl, hi, hl, p⟩
  have q := hq i ys H hi p
  by_cases hlt : i < xs.length
  · refine .inr ⟨⟨xs, xs[i], q, by simp [hlt]⟩, by omega, fun x H' y => ?_⟩
    obtain ⟨e, y⟩ := y
    subst e
    exact hs i x ys _ (y xs q) hl p
  · have e : i = xs.length := by omega
    subst e
    exact .inl ⟨⟨xs, q, Nat.le_refl _⟩, hd ys H hl p⟩
/-- the turn's end of comp_range, comp_list -/
theorem comp_turn {n i : Nat} {ys : List V} {y : V} {R : Prop} (hi : i < n) (hl : ys.length = i) (r : R) : ∃ m', m' < n - i ∧ m' = n - (i + 1) ∧ i + 1 ≤ n ∧ (ys ++ [y]).length = i + 1 ∧ R :=
  ⟨n - (i + 1), by omega, rfl, hi, by simp [hl], r⟩
theorem atI_in {α : Type} (xs : List α) {i : Int} (h0 : 0 ≤ i) (h1 : i < xs.length) : ∃ v, xs[i.toNat]? = some v ∧ atI xs i = some v := by
  have h3 : i.toNat < xs.length := by omega
  refine ⟨xs[i.toNat], List.getElem?_eq_getElem h3, ?_⟩
  have q := atI_nat (xs := xs) (List.getElem?_eq_getElem h3)
  rw [Int.toNat_of_nonneg h0] at q
  exact q
theorem emod_rng (a : Int) {m : Int} (h : 0 < m) : 0 ≤ a % m ∧ a % m < m := ⟨Int.emod_nonneg _ (by omega), Int.emod_lt_of_pos _ h⟩
theorem sl_lt {n : Nat} (h : n ≤ 1000000) : n < sizeLine := Nat.lt_of_le_of_lt h (by decide)
def ForW (J : It) (g : TG) (tb : TS) (D : Ends) (σ : St) (H1 : Hp) : Prop := ∃ W : Nat → Nat → St → Hp → Prop, (∃ m, W 0 m σ H1) ∧ ∀ i m σ H, W i m σ H →
  (J.stop i H ∧ D.nx σ H) ∨ (J.go i H ∧ ∃ N : St → Hp → Prop, (∀ σ' H', N σ' H' → ∃ m', m' < m ∧ W (i + 1) m' σ' H') ∧ ∀ x H', J.yld i H x H' → g x σ H' fun σ2 H2 => tb { D with nx := N, ct := N, bk := D.nx } σ2 H2)
def tForA (wi : TI) (g : TG) (tb : TS) : TS := fun D σ H => wi σ H fun J H1 => ForW J g tb D σ H1
theorem ps_forA {X : Cx} {tg iter : Expr} {body : List Stmt} {wi : TI} {g : TG} {tb : TS} {pos : Pos} (hp : PassesOwn (model X.prog X.w) X.A X.env X.xe) (hc : X.calm = true) (hi : PI X tg iter wi) (hg : PG X tg g) (hb : PSs X body tb)
    (hs : ∀ x, foldedSetIterable iter X.env x = pure x := by intro _; rfl) : PS X (.For tg iter body [] pos) (tForA wi g tb) := ps_for hp hc hi hg hb hs
theorem forW_range {lo : Int} {n : Nat} {g : TG} {tb : TS} {D : Ends} {σ : St} {H : Hp} (Pv : Nat → St → Hp → Prop) (h0 : Pv 0 σ H)
    (hs : ∀ i σ H, i < n → Pv i σ H → g (.int (lo + i)) σ H fun σ2 H2 => tb { D with nx := Pv (i + 1), ct := Pv (i + 1), bk := D.nx } σ2 H2) (hd : ∀ σ H, Pv n σ H → D.nx σ H) : ForW (Itr lo n) g tb D σ H := for_range Pv h0 hs hd
theorem forW_list {K : PySem.W.Frag} {a : Addr} {xs : List V} {g : TG} {tb : TS} {D : Ends} {σ : St} {H : Hp} (Pv : Nat → St → Hp → Prop) (h0 : Pv 0 σ H) (hl : ∀ i σ H, i ≤ xs.length → Pv i σ H → SqL K H a xs)
    (hs : ∀ i x σ H, xs[i]? = some x → Pv i σ H → g x σ H fun σ2 H2 => tb { D with nx := Pv (i + 1), ct := Pv (i + 1), bk := D.nx } σ2 H2) (hd : ∀ σ H, Pv xs.length σ H → D.nx σ H) : ForW (Itl K a) g tb D σ H := for_list Pv h0 hl hs hd
end L2
namespace L2
open PySem PySem.Spec PyProof.Rows

section
variable {κ : Type} [DecidableEq κ]
end


section
variable {P : Program} {w : World} {H : Hp} {h : Heap} {a : Addr}
end

section
variable {X : Cx} {pins : List (Addr × Obj)} {σ : St} {H : Hp} {s : Shared} {a : Addr} {y v : V} {u r : Value} {o : Option V} {A : Around} {E : Value → Shared → Prop}

end

section
variable {X : Cx} {pins : List (Addr × Obj)} {σ : St} {H : Hp} {s : Shared} {a : Addr} {kvs : List (Key × V)} {k : Key} {u : Value} {A : Around} {E : Value → Shared → Prop}
end


section
variable {X : Cx} {o i e value : Expr} {pos pos' tpos : Pos} {td ty tv : TE}
end


section
variable {X : Cx} {pos : Pos}
end

section
variable {X : Cx} {pins : List (Addr × Obj)} {σ : St} {H : Hp} {s : Shared} {a : Addr} {y d : V} {u r : Value} {o : Option V} {A : Around} {E : Value → Shared → Prop}
end

section
variable {X : Cx} {o e f : Expr} {apos cpos : Pos} {td ty tx : TE}
end

section
variable {X : Cx} {pins : List (Addr × Obj)} {σ : St} {H : Hp} {s : Shared} {a : Addr} {kvs : List (Key × V)} {A : Around} {E : Value → Shared → Prop}
end


section
variable {X : Cx} {pins : List (Addr × Obj)} {σ : St} {H : Hp} {s : Shared} {a : Addr} {y : V} {u : Value} {A : Around} {E : Value → Shared → Prop}
end
section
variable {X : Cx}
end
section
variable {κ : Type} [DecidableEq κ]
end
end L2
namespace L2
open PySem PySem.Spec PyProof.Rows
section
variable {X : Cx}
def rSplit : V → List V → Hp → VK → Prop := fun x vs H Q => ∃ a b : Str, x = .str a ∧ vs = [.str b] ∧ (b.length == 0) = false ∧ a.length + 2 ≤ sizeLine ∧ ∀ p, H p = none → Q (.ref p) (upd H p (.lst ((PySem.Txt.split a b).map V.str)))
end
section
variable {X : Cx} {tg : Expr}
def Ite (K : PySem.W.Frag) (a : Addr) : It :=
  ⟨fun i H => ∃ xs x, SqL K H a xs ∧ xs[i]? = some x, fun i H x H' => ∃ p v, H p = none ∧ x = .ref p ∧ H' = upd H p (.tup [.int i, v]) ∧ ∀ xs, SqL K H a xs → xs[i]? = some v, fun i H => ∃ xs, SqL K H a xs ∧ xs.length ≤ i⟩
theorem turn_enum {P : Program} {w : World} {K : PySem.W.Frag} {elts : List Expr} {x1} {pos : Pos} (a e it : Addr) (hne : e ≠ it) : Turn P w K (.Tuple elts x1 pos) (Ite K a) [e, it] e (fun i h => ∃ old, IsEnum h e it i old ∧ h.IsListIter it a i) where
  mem := by simp
  obj := fun i h st b hb => by
    obtain ⟨old, st, si⟩ := st
    rcases List.mem_cons.mp hb with z | z
    · subst z
      exact ⟨_, st, fun v q => by cases q⟩
    · have e : b = it := by simpa using z
      subst e
      obtain ⟨o, e, c, d⟩ := si
      exact ⟨o, e, fun v q => by rw [d] at q; cases q⟩
  keep := fun i h h' st k => by
    obtain ⟨old, st, si⟩ := st
    exact ⟨old, k e (by simp) _ st, si.at fun o q => k it (by simp) o q⟩
  item := by
    intro X hP hw hK hc i pins s σ H E I hf st hg
    subst hP hw hK
    obtain ⟨old, st, si⟩ := st
    obtain ⟨xs, x, hq, hx⟩ := hg
    obtain ⟨its, rv, p, hz⟩ := I.list hq
    obtain ⟨u, hu, ru⟩ := rv.get hx
    have f := hf e (by simp)
    have g := hf it (by simp)
    refine wpAny_pyNext_enum_item st si p.isList (x := u) (by simpa using hu) hne fun h1 eo si1 ht hsz hk => ?_
    refine ⟨_, rfl, wpAny_letOwnedTupleGo_enum (s := { s with heap := h1, toks := s.toks + 1 }) eo fun h2 en sb => ?_⟩
    have hs1 : e ≠ s.heap.objs.size := Nat.ne_of_lt (Heap.lt_size st)
    have hs2 : it ≠ s.heap.objs.size := by obtain ⟨o, q, _⟩ := si; exact Nat.ne_of_lt (Heap.lt_size q)
    have k2 : ∀ b o, b ≠ e → b ≠ it → s.heap.get? b = some o → h2.get? b = some o := fun b o n1 n2 q => (sb.2 b n1).trans (hk b o n1 n2 q)
    have fresh := I.hok.fresh (Nat.le_refl s.heap.objs.size)
    have I1 : Inv X pins σ (upd H s.heap.objs.size (.tup [.int i, x])) { s with heap := h2, toks := s.toks + 1 } := by
      refine I.step (g' := s.gens) (d' := s.drawn) (ch := [e, it]) (fun b hb => ?_) (fun b o _ _ hc q _ => ?_) (fun b o _ _ hc q _ => ?_) (fun b o hc q n => ?_) (fun b o hc q => ?_) (fun b ys q => ?_) (fun b o ys q => ?_) (fun b ps q => ?_) (fun m hm => ?_) (fun b u' q => ?_) I.bare
      · rcases List.mem_cons.mp hb with z | z
        · rw [z]; exact ⟨f.2.2.2.1, f.2.1, f.2.2.2.2.1, f.2.2.2.2.2⟩
        · have z : b = it := by simpa using z
          rw [z]; exact ⟨g.2.2.2.1, g.2.1, g.2.2.2.2.1, g.2.2.2.2.2⟩
      · exact k2 b o (fun z => hc (by simp [z])) (fun z => hc (by simp [z])) q
      · exact ⟨o.slots, k2 b o (fun z => hc (by simp [z])) (fun z => hc (by simp [z])) q⟩
      · rw [upd_ne (Nat.ne_of_lt (Heap.lt_size q))]; exact n
      · exact ⟨o, k2 b o (fun z => hc (by simp [z])) (fun z => hc (by simp [z])) q⟩
      · rw [upd_ne (ne_of_none q fresh)]; exact q
      · rw [upd_ne (ne_of_none q fresh)]; exact q
      · exact ⟨#[], by rw [upd_ne (ne_of_none q fresh), q]; simp⟩
      · obtain ⟨o, es, ep, ho, r⟩ := hm
        exact ⟨o, es, ep, k2 _ o (Ne.symm f.2.1) (Ne.symm g.2.1) ho, r⟩
      · by_cases hb : b = s.heap.objs.size
        · subst hb
          rw [upd_same] at q; cases q
          refine ⟨by show 2 ≤ sizeLine; decide, [_, u], .cons ⟨_, rfl⟩ (.cons ru .nil), ⟨_, (sb.2 _ (Ne.symm hs1)).trans ht, rfl, _, rfl⟩⟩
        · rw [upd_ne hb] at q
          refine (I.hok b u' q).stay (fun c v hc' r => k2 c v ?_ ?_ r) (fun c r => by rw [upd_ne (ne_of_none r fresh)]; exact r) fun c ys r => by rw [upd_ne (ne_of_none r fresh)]; exact r
          · rcases hc' with z | z
            · rw [z]; exact ne_of_none q f.1
            · exact ne_of_none z f.1
          · rcases hc' with z | z
            · rw [z]; exact ne_of_none q g.1
            · exact ne_of_none z g.1
    refine ⟨.ref s.heap.objs.size, _, I1, rfl, ⟨_, x, fresh, rfl, rfl, fun ys hy => by rw [I.list_inj hy hq]; exact hx⟩, ⟨_, en, ?_⟩, fun b hb => ?_⟩
    · obtain ⟨o, q, r⟩ := si1
      exact ⟨o, (sb.2 it (Ne.symm hne)).trans q, r⟩
    · have hb' := (hf b hb).1
      rcases List.mem_cons.mp hb with z | z
      · rw [upd_ne (by rw [z]; exact hs1)]; exact hb'
      · have z : b = it := by simpa using z
        rw [upd_ne (by rw [z]; exact hs2)]; exact hb'
  done := by
    intro X hP hw hK hc i pins s σ H E I hf st hg
    subst hP hw hK
    obtain ⟨old, st, si⟩ := st
    obtain ⟨xs, hq, hx⟩ := hg
    obtain ⟨its, rv, p, hz⟩ := I.list hq
    obtain ⟨f0, f1, f2, f3, f4, f5⟩ := hf it (by simp)
    have hl := rv.length
    exact wpAny_pyNext_enum_end (I.ok.hd hc) st si p.isList (by simp; omega) fun h' eb => ⟨rfl, I.turned (t' := s.toks) (fun b o hb e => eb b o hb e) f0 f1 f3 f4 f5⟩
  self := fun _ _ _ _ _ st h => by
    obtain ⟨old, st, si⟩ := st
    exact wpAny_pyIter_enum st h
def iEnum (K : PySem.W.Frag) (ta : TA) : TI := fun σ H R => ta σ H fun vs H1 => ∃ a xs, vs = [.ref a] ∧ SqL K H1 a xs ∧ R (Ite K a) H1
theorem pi_enum {a : Expr} {ta : TA} {p pos tp : Pos} {elts : List Expr} {x1} (hg : Gl X "enumerate") (hm : X.mg "enumerate" = none) (ha : PA X [a] ta) (hs : starEach [a] X.env = [(false, eval a X.env)] := by rfl) :
    PI X (.Tuple elts x1 tp) (.Call (.Name "enumerate" p) [a] [] pos) (iEnum X.K ta) := by
  intro pins s σ H R I h
  refine Call_ (ld_blt I hg hm (show bootBuiltins "enumerate" = some (.type "enumerate") by decide +kernel) (PyProof.Rows.callWith_type1 (thn (ha pos pins s σ H _ I h) fun us s1 ⟨vs, H1, I1, r1, q1⟩ => ?_) hs rfl))
  obtain ⟨l, xs, rfl, hq, q⟩ := q1
  obtain ⟨u, rfl, ru⟩ := r1.one
  cases ru
  obtain ⟨its, rv, pl, hz⟩ := I1.list hq
  refine call_enumerate_list pl.isList fun h' he hi hsz hk => ?_
  refine wpAny_pyIter_enum (s := { s1 with heap := h' }) he ?_
  refine ⟨s1.heap.objs.size + 1, [s1.heap.objs.size + 1, s1.heap.objs.size], _, _, H1, rfl, I1.kept (t' := s1.toks) hk, turn_enum l _ _ (Nat.succ_ne_self _), ⟨_, he, hi⟩, fun b hb => ?_, q⟩
  have hb' : s1.heap.objs.size ≤ b := by
    rcases List.mem_cons.mp hb with z | z
    · rw [z]; exact Nat.le_succ _
    · have z : b = s1.heap.objs.size := by simpa using z
      rw [z]; exact Nat.le_refl _
  exact I1.fpOk hb' (I1.hok.fresh hb')
end
end L2
namespace L2
open PySem PySem.Spec PyProof.Rows
end L2
namespace L2
open PySem PySem.Spec PyProof.Rows
section
variable {X : Cx} {o e : Expr} {to te : TE} {apos cpos pos p1 p2 p3 p4 p5 : Pos} {j1 j2 j3 : Nat}
end
end L2
namespace L2
open PySem PySem.Spec PyProof.Rows
section
variable {X : Cx}
theorem eqV_refl : ∀ {x : V}, flatV x = true → eqV x x = true
  | .non, _ => rfl
  | .bl b, _ => by simp [eqV]
  | .int b, _ => by simp [eqV]
  | .str b, _ => by simp [eqV]
theorem forW_enum {K : PySem.W.Frag} {a : Addr} {xs : List V} {g : TG} {tb : TS} {D : Ends} {σ : St} {H : Hp} (Pv : Nat → St → Hp → Prop) (h0 : Pv 0 σ H) (hl : ∀ i σ H, i ≤ xs.length → Pv i σ H → SqL K H a xs)
    (hs : ∀ i x p σ H, xs[i]? = some x → H p = none → Pv i σ H → g (.ref p) σ (upd H p (.tup [.int i, x])) fun σ2 H2 => tb { D with nx := Pv (i + 1), ct := Pv (i + 1), bk := D.nx } σ2 H2) (hd : ∀ σ H, Pv xs.length σ H → D.nx σ H) : ForW (Ite K a) g tb D σ H := by
  refine ⟨fun i m σ H => m = xs.length - i ∧ i ≤ xs.length ∧ Pv i σ H, ⟨xs.length, by simp, Nat.zero_le _, h0⟩, ?_⟩
  rintro i m σ H ⟨rfl, hi, p⟩
  have q := hl i σ H hi p
  by_cases hlt : i < xs.length
  · refine .inr ⟨⟨xs, xs[i], q, by simp [hlt]⟩, Pv (i + 1), fun σ' H' p' => ⟨xs.length - (i + 1), by omega, rfl, hlt, p'⟩, fun x H' y => ?_⟩
    obtain ⟨pp, v, h1, rfl, rfl, h2⟩ := y
    exact hs i v pp σ H (h2 xs q) h1 p
  · have e : i = xs.length := by omega
    subst e
    exact .inl ⟨⟨xs, q, Nat.le_refl _⟩, hd σ H p⟩
end
end L2
namespace L2
open PySem PySem.Spec PyProof.Rows
section
variable {X : Cx}
/-- a list comprehension, whatever becomes of its list -/
theorem comp_gen {sc csc : Scope} {N : List Str} {elt iter : Expr} {x : Str} {px pos ppos : Pos} {caps : List (Str × Nat)} {wi : TI} {te : TE} (ck : CompOk sc csc N x caps) (hi : PI X (.Name x px) iter wi)
    (he : ∀ C s2 H2 fp, PE (compCx X (caps.map (·.1) ++ [x]) csc C s2 H2 fp) elt te) (hc : X.calm = true) (hsc : X.env.scope = sc) (hXN : X.N = N) (hs : ∀ x, foldedSetIterable iter X.env x = pure x)
    {pins : List (Addr × Obj)} {s : Shared} {σ : St} {H : Hp} {Q : VK} (I : Inv X pins σ H s) (h : tComp caps wi te σ H Q) (use : Option (Value → Sem Unit)) (QQ : Value → Shared → Prop)
    (fin : ∀ (s2 : Shared) (H2 : Hp) (D C : Addr) (ys : List V) (H' : Hp) (s4 : Shared) (m : Str → Option Value), Inv X pins σ H2 s2 → s2.heap.objs.size ≤ C → s2.heap.objs.size ≤ D → D ≠ C → s4.heap.Ns C m →
      (∀ h', Heap.SameBut C s4.heap h' → Inv X pins σ (upd H' D (.lst ys)) { s4 with heap := h' }) → H' C = none → Q (.ref D) (upd H' D (.lst ys)) →
      compPost (model X.prog X.w) X.A X.xe use QQ (.ref D) C (.ok .next) s4) :
    wpAny (model X.prog X.w) X.A (comprehension (.ListComp elt [⟨.Name x px, iter, [], 0⟩] csc pos) csc X.env ppos (newList []) false (eval iter X.env) use) QQ X.xe s := by
  subst hsc hXN
  have cellsOk : ∀ p ∈ csc.names, p.2 = .free → ∃ c, X.env.cells.lookup p.1 = some c := fun p hp e => I.ok.has p.1 (.inl (ck.free p hp e))
  refine wpAny_comprehension_free (use := use) rfl hs (closureFor_eq cellsOk) ck.kind ck.loc (thn (hi pins s σ H _ I h) fun v s1 h1 => thn h1 fun itv s2 h2 => ?_)
  obtain ⟨it, fp, tn, J, H2, e, I2, T, st2, f2, W, ⟨m0, w0⟩, turn⟩ := h2
  subst e
  refine wpAny_newObj_type (wpAny_newFunctionEnv ck.cell (by intro y hy; simp at hy) (fun h4 hns4 hsb4 => ?_) ck.kind)
  dsimp only at hns4 hsb4 ⊢
  generalize hD : s2.heap.objs.size = D at hns4 hsb4 ⊢
  generalize hH2 : s2.heap.push { cls := .type "list", dict := none, data := .seq ([] : List Value).toArray } = G at hns4 hsb4 ⊢
  have hGs : G.objs.size = D + 1 := by rw [← hH2, Heap.size_push, hD]
  rw [hGs] at hns4 hsb4 ⊢
  have lt2 : ∀ b o, s2.heap.get? b = some o → b < D := fun b o e => hD ▸ Heap.lt_size e
  have old : ∀ b o, s2.heap.get? b = some o → b ≠ D + 1 ∧ b ≠ D := fun b o e => ⟨nlt1 (lt2 b o e), nlt (lt2 b o e)⟩
  have leD : s2.heap.objs.size ≤ D := Nat.le_of_eq hD
  have leD1 : s2.heap.objs.size ≤ D + 1 := Nat.le_succ_of_le leD
  have keep4 : ∀ b o, s2.heap.get? b = some o → h4.get? b = some o := fun b o e => hsb4.extBut b o (old b o e).1 (Heap.get?_push_of_some _ (hH2 ▸ Heap.get?_push_of_some _ e))
  have hDo : h4.get? D = some { cls := .type "list", data := .seq ([] : List Value).toArray 0 } := by
    refine hsb4.extBut D _ ns1 (Heap.get?_push_of_some _ ?_)
    rw [← hH2, ← hD]
    exact Heap.get?_push_size _ rfl
  have fps : ∀ b ∈ fp, b < s2.heap.objs.size := fun b hb => by
    obtain ⟨o, e, _⟩ := T.obj _ _ st2 b hb
    exact Heap.lt_size e
  have I4 : ∀ t4, Inv (compCx X (caps.map (·.1) ++ [x]) csc (D + 1) s2 H2 fp) [] (capV caps σ ++ [none]) H2 { s2 with heap := h4, toks := t4 } := fun t4 => comp_start (m0 := fun x => [].reverse.lookup x) I2 ck f2 fps leD1 keep4 hns4
  have cellsLt : ∀ y c, (clFold X.env csc.names []).lookup y = some c → c < D := fun y c e => by
    obtain ⟨v, o, ho, _⟩ := I2.cell y c (clFold_in _ _ cellsOk (fun y c h => by simp at h) y c e)
    exact lt2 c o ho
  have fsLt : ∀ b ∈ frs X.stack, b < D := fun b hb => by
    obtain ⟨_, o, ho, _⟩ := I2.stack.mem hb
    exact lt2 b o ho
  -- the iterator's objects within the block
  have fpC : ∀ {pl : List (Addr × Obj)} {H' : Hp}, (∀ p ∈ pl, p.1 = D) → (∀ b ∈ fp, H' b = none) → ∀ b ∈ fp, FpOk (compCx X (caps.map (·.1) ++ [x]) csc (D + 1) s2 H2 fp) pl H' b := fun {pl H'} hpl hn b hb => by
    have hb' : b < D := hD ▸ fps b hb
    refine ⟨hn b hb, nlt1 hb', ?_, .inl hb, fun y c e => ?_, fun p hp => ?_⟩
    · intro z
      rcases List.mem_cons.mp (I2.stkSub b z) with e | e
      · exact (f2 b hb).2.1 e
      · exact (f2 b hb).2.2.1 e
    · exact (f2 b hb).2.2.2.2.1 y c (clFold_in _ _ cellsOk (fun y c h => by simp at h) y c e)
    · have : p.1 = D := hpl p (by simpa using hp)
      rw [this]; exact fun z => nlt hb' z.symm
  have loop : ∀ t4, codeAny (model X.prog X.w) X.A (.compLoop (.ListComp elt [⟨.Name x px, iter, [], 0⟩] csc pos) 0 (.ref it) (.ref D) (compEnvC csc (clFold X.env csc.names []) (D + 1) X.env))
      (compPost (model X.prog X.w) X.A X.xe use QQ (.ref D) (D + 1)) { s2 with heap := h4, toks := t4 } := by
    intro t4
    refine compLoop_go (fun n s' => ∃ (i : Nat) (ys : List V) (its : List Value) (k : Nat) (σ' : St) (H' : Hp), Inv (compCx X (caps.map (·.1) ++ [x]) csc (D + 1) s2 H2 fp) [(D, { cls := .type "list", data := .seq its.toArray k })] σ' H' s' ∧ tn i s'.heap ∧ (∀ b ∈ fp, H' b = none) ∧ Vals ys its ∧ ys.length ≤ sizeLine ∧ W i n ys H' ∧ (∃ z, σ' = capV caps σ ++ [z])) ?_ m0 ?_
    · rintro n s3 ⟨i, ys, its, k, σ3, H3, I3, st3, fr3, hv, hz, w3, z3, rfl⟩
      have pl1 : ∀ p ∈ [((D, { cls := .type "list", data := .seq its.toArray k }) : Addr × Obj)], p.1 = D := fun p hp => by rw [List.mem_singleton.mp hp]
      rcases turn i n ys H3 w3 with ⟨stop, qn⟩ | ⟨go, hlt, step⟩
      · refine wpAny_mono (T.done (compCx X (caps.map (·.1) ++ [x]) csc (D + 1) s2 H2 fp) rfl rfl rfl hc i _ s3 _ H3 (fun _ _ => False) I3 (fpC pl1 fr3) st3 stop) (fun r s4 ⟨hr, I4'⟩ => ?_) fun _ _ f => f.elim
        subst hr
        obtain ⟨m, hn, _⟩ := id I4'.loc
        have pD := I4'.pin (D, { cls := .type "list", data := .seq its.toArray k }) (by simp)
        exact fin s2 H2 D (D + 1) ys H3 s4 m I2 leD1 leD ns1 hn (fun h' hs' => comp_done I2 I4' f2 leD1 leD ns1 hs' hv hz pD.1 pD.2.1) I4'.free (qn D pD.2.1)
      · refine wpAny_mono (T.item (compCx X (caps.map (·.1) ++ [x]) csc (D + 1) s2 H2 fp) rfl rfl rfl hc i _ s3 _ H3 (fun _ _ => False) I3 (fpC pl1 fr3) st3 go) (fun r s4 ⟨u, hr, h4'⟩ => ?_) fun _ _ f => f.elim
        subst hr
        refine wpAny_mono h4' (fun _ s4 ⟨xv, H5, I5, r5, y5, st5, fr5⟩ => ?_) fun _ _ f => f.elim
        have I5' := I5.pinned (fpC pl1 fr5) (T.obj _ _ st5)
        have hiN : (caps.map (·.1) ++ [x])[caps.length]? = some x := by rw [List.getElem?_append_right (by simp)]; simp
        refine wpAny_mono (pg_name (X := compCx X (caps.map (·.1) ++ [x]) csc (D + 1) s2 H2 fp) (i := caps.length) ck.nd hiN (.inl (lookup_relabel_local ck.tg)) (.inr (lookup_relabel_local ck.tg)) _ s4 _ H5 xv u _ I5' r5 (show gName caps.length xv _ H5 (fun σ6 H6 => σ6 = capV caps σ ++ [some xv] ∧ H6 = H5) from ⟨?_, rfl⟩)) (fun _ s6 ⟨σ6, H6, I6, hσ, hH⟩ => ?_) fun _ _ f => f.elim
        · rw [List.set_append_right _ _ (by rw [capV_len]; exact Nat.le_refl _), capV_len, Nat.sub_self]; rfl
        subst hσ hH
        refine wpAny_mono (he (D + 1) s2 H2 fp _ s6 _ H6 _ I6 (step xv H6 y5)) (fun w7 s7 ⟨y, H7, I7, r7, m', hm, w8⟩ => ?_) fun _ _ f => f.elim
        have pD := I7.pin (D, { cls := .type "list", data := .seq its.toArray k }) (by simp)
        have hll := hv.length
        refine call_meets F.slot_list_append ⟨_, pD.1, rfl⟩ F.entry_list_append (F.args_list_append_2 _ _) (PySem.list_append D its.toArray k w7 (by rw [List.size_toArray]; omega)) ⟨pD.1, ?_⟩
        have q := PySem.IsL.update pD.1 (·.push w7)
        have hpush : its.toArray.push w7 = (its ++ [w7]).toArray := by simp
        rw [hpush] at q
        obtain ⟨k', q⟩ : ∃ k', (s7.heap.update D (Obj.mapSeq (·.push w7))).get? D = some { cls := .type "list", data := .seq (its ++ [w7]).toArray k' } := ⟨_, q⟩
        have I7u : Inv (compCx X (caps.map (·.1) ++ [x]) csc (D + 1) s2 H2 fp) (pinsAt fp s4.heap) _ H7 s7 := I7.pins_of fun p hp => I7.pin p (List.mem_append_right _ (List.mem_append_right _ hp))
        have pfp : ∀ p ∈ pinsAt fp s4.heap, p.1 < D := fun p hp => hD ▸ fps p.1 (of_pinsAt hp).1
        have I8 := I7u.turned (h' := s7.heap.update D (Obj.mapSeq (·.push w7))) (t' := s7.toks) (it := D) (fun b o hb e => (Heap.get?_update_other s7.heap _ (Ne.symm hb)).trans e) pD.2.1 ns1 (.inr leD) (fun y c e => nlt (cellsLt y c e)) (fun p hp => nlt (pfp p (by simpa using hp)))
        refine ⟨m', hm, i + 1, ys ++ [y], its ++ [w7], k', _, H7, I8.pins_of fun p hp => ?_, T.keep _ _ _ st5 fun b hb o e => (I8.pin (b, o) (List.mem_append_right _ (mem_pinsAt hb e))).1, fun b hb => ?_, hv.append (.cons r7 .nil), ?_, w8, _, rfl⟩
        · rw [List.mem_singleton.mp hp]
          exact ⟨q, pD.2.1, pD.2.2.1, pD.2.2.2.1, fun v => by simp⟩
        · obtain ⟨o, e, d⟩ := T.obj _ _ st5 b hb
          exact (I8.pin (b, o) (List.mem_append_right _ (mem_pinsAt hb e))).2.1
        · rw [List.length_append, List.length_singleton]; omega
    · refine ⟨0, [], [], 0, _, H2, (I4 t4).pins_of fun p hp => ?_, T.keep _ _ _ st2 fun b hb o e => keep4 b o e, fun b hb => (f2 b hb).1, .nil, Nat.zero_le _, w0, _, rfl⟩
      rw [List.mem_singleton.mp hp]
      refine ⟨hDo, I2.hok.fresh leD, ns1, fun z => absurd (fsLt D z) (Nat.lt_irrefl _), fun v => by simp⟩
  exact codeAny_compStart_list (loop _) (T.self _ 0 _ _ _ (T.keep _ _ _ st2 fun b hb o e => keep4 b o e) (loop _))

/-- x = [..]: the list is stored ahead of the block's own names being let go -/
theorem ps_setC {i : Nat} {y : Str} {sc csc : Scope} {N : List Str} {elt iter : Expr} {x : Str} {px pos pos' spos : Pos} {caps : List (Str × Nat)} {wi : TI} {te : TE} (hN : X.N.Nodup) (hiy : X.N[i]? = some y) (hy : Loc X.env.scope y) (ck : CompOk sc csc N x caps) (hi : PI X (.Name x px) iter wi)
    (he : ∀ C s2 H2 fp, PE (compCx X (caps.map (·.1) ++ [x]) csc C s2 H2 fp) elt te) (hc : X.calm = true := by rfl) (hsc : X.env.scope = sc := by rfl) (hXN : X.N = N := by rfl) (hs : ∀ x, foldedSetIterable iter X.env x = pure x := by intro _; rfl)
    (hsw : swapsWith (.ListComp elt [⟨.Name x px, iter, [], 0⟩] csc pos) (some (.Name y pos')) spos.line X.env = pure true := by rfl) (hf : X.fn y = true ∨ X.env.scope.names.lookup y = some .local := by first | exact .inl rfl | exact .inr rfl | assumption) :
    PS X (.Assign [.Name y pos'] (.ListComp elt [⟨.Name x px, iter, [], 0⟩] csc pos) spos) (tAsg (tComp caps wi te) (gName i)) := by
  intro pins s σ H D I h
  rw [exec_Assign_Name_used _ _ _ _ hsw]
  refine wpAny_bind (wpAny_standAt (wpAny_bind ?_))
  show wpAny _ X.A (do let _ ← comprehension (.ListComp elt [⟨.Name x px, iter, [], 0⟩] csc pos) csc X.env _ (newList []) false (eval iter X.env) (some (assign (.Name y pos') X.env))) _ _ s
  refine wpAny_bind (wpAny_mono (comp_gen ck hi he hc hsc hXN hs I h (some (assign (.Name y pos') X.env)) (fun _ s' => SP X pins D .next s') ?_) (fun _ s' hq => wpAny_pure (wpAny_pure hq)) fun _ _ e => e)
  intro s2 H2 Dl C ys H' s4 m I2 leC leD nDC hns hI hfC q
  have I0 : Inv X pins σ (upd H' Dl (.lst ys)) s4 := hI s4.heap (Heap.SameBut.refl _ _)
  have hCD : C ≠ Dl := Ne.symm nDC
  have hHC : upd H' Dl (.lst ys) C = none := by rw [upd_ne hCD]; exact hfC
  have hCL : C ≠ X.env.locals := fun z => by have := I2.lt; rw [← z] at this; exact absurd this (Nat.not_lt.mpr leC)
  have hCfs : C ∉ X.fs := I2.nofs leC
  have pinlt : ∀ p ∈ X.pn ++ pins, p.1 ≠ C := fun p hp z => by
    have := (I2.pin p hp).1
    have := Heap.lt_size this
    rw [z] at this
    exact absurd this (Nat.not_lt.mpr leC)
  have celllt : ∀ z c, X.env.cells.lookup z = some c → c ≠ C := fun z c e w => by
    obtain ⟨v, o, ho, _⟩ := I2.cell z c e
    have := Heap.lt_size ho
    rw [w] at this
    exact absurd this (Nat.not_lt.mpr leC)
  obtain ⟨oC, es, ep, eC, dC, rC⟩ := id hns
  have I1 : Inv X (pins ++ [(C, oC)]) σ (upd H' Dl (.lst ys)) s4 := I0.pins_of fun p hp => by
    rcases List.mem_append.mp hp with hp | hp
    · exact I0.pin p (List.mem_append_right _ hp)
    · rw [List.mem_singleton.mp hp]
      exact ⟨eC, hHC, hCL, hCfs, fun v z => by rw [dC] at z; cases z⟩
  refine thn (pg_name (i := i) (pos := pos') hN hiy hy hf (pins ++ [(C, oC)]) s4 σ _ (.ref Dl) (.ref Dl) D.nx I1 rfl q) fun _ s5 ⟨σ5, H5, I5, q5⟩ => ?_
  have pC := I5.pin (C, oC) (by simp)
  refine ⟨m, ⟨oC, es, ep, pC.1, dC, rC⟩, fun h' hs' => ?_⟩
  have I6 : Inv X pins σ5 H5 s5 := I5.pins_of fun p hp => I5.pin p (List.mem_append_right _ (List.mem_append_left _ hp))
  exact ⟨σ5, H5, I6.turned (h' := h') (t' := s5.toks) (it := C) (fun b o hb e => (hs'.2 b hb).trans e) pC.2.1 hCL (.inr (Nat.le_trans I2.sz leC)) celllt pinlt, q5⟩
theorem ix_tupK {K : PySem.W.Frag} (hK : X.K = K) : IxR X (rIxT K) := by subst hK; exact ix_tup
end
end L2
namespace L2
open PySem PySem.Spec PyProof.Rows
section
variable {X : Cx}
end
end L2
namespace L2
open PySem PySem.Spec PyProof.Rows
/-- all is kept, but the slots of the frames at F, and the records at ch -/
structure Kept (F ch : List Addr) (g h : Heap) : Prop where
  keep : ∀ b o, g.get? b = some o → b ∉ F → b ∉ ch → h.get? b = some o
  slot : ∀ b o, g.get? b = some o → b ∈ F → b ∉ ch → ∃ sl, h.get? b = some { o with slots := sl }
  there : ∀ b o, g.get? b = some o → ∃ u, h.get? b = some u
theorem Kept.trans {F c1 c2 : List Addr} {g h k : Heap} (x : Kept F c1 g h) (y : Kept F c2 h k) : Kept F (c1 ++ c2) g k where
  keep b o e n1 n2 := y.keep b o (x.keep b o e n1 fun z => n2 (List.mem_append_left _ z)) n1 fun z => n2 (List.mem_append_right _ z)
  slot b o e n1 n2 := by
    obtain ⟨sl, e1⟩ := x.slot b o e n1 fun z => n2 (List.mem_append_left _ z)
    obtain ⟨sl2, e2⟩ := y.slot b _ e1 n1 fun z => n2 (List.mem_append_right _ z)
    exact ⟨sl2, e2⟩
  there b o e := let ⟨u, e1⟩ := x.there b o e; y.there b u e1
/-- one record changed -/
theorem Kept.one {F : List Addr} {h : Heap} {a : Addr} {o : Obj} {f : Obj → Obj} (e : h.get? a = some o) (nf : (f o).isFreed = false) : Kept F [a] h (h.update a f) where
  keep b u q n1 n2 := by rw [Heap.get?_update_other _ _ (fun z => n2 (by simp [z]))]; exact q
  slot b u q n1 n2 := ⟨u.slots, by rw [Heap.get?_update_other _ _ (fun z => n2 (by simp [z]))]; exact q⟩
  there b u q := by
    by_cases z : b = a
    · subst z; exact ⟨_, Heap.get?_update_self _ e nf⟩
    · exact ⟨u, by rw [Heap.get?_update_other _ _ (Ne.symm z)]; exact q⟩
theorem Kept.push {F : List Addr} {h : Heap} {o : Obj} : Kept F [] h (h.push o) :=
  ⟨fun b u q _ _ => Heap.get?_push_of_some _ q, fun b u q _ _ => ⟨u.slots, Heap.get?_push_of_some _ q⟩, fun b u q => ⟨u, Heap.get?_push_of_some _ q⟩⟩
theorem Kept.slots {F : List Addr} {h k : Heap} (x : Heap.SlotsOnly F h k) : Kept F [] h k :=
  ⟨fun b u q n _ => (x.2.1 b n).trans q, fun b u q _ _ => x.2.2 b u q, fun b u q => let ⟨sl, e⟩ := x.2.2 b u q; ⟨_, e⟩⟩
theorem Kept.mono {F c1 c2 : List Addr} {g h : Heap} (x : Kept F c1 g h) (s : ∀ b ∈ c1, b ∈ c2) : Kept F c2 g h :=
  ⟨fun b o e n1 n2 => x.keep b o e n1 fun z => n2 (s b z), fun b o e n1 n2 => x.slot b o e n1 fun z => n2 (s b z), x.there⟩
theorem Kept.frame {ch : List Addr} {g h : Heap} (x : Kept [] ch g h) (F : List Addr) : Kept F ch g h :=
  ⟨fun b o e _ n => x.keep b o e (by simp) n, fun b o e _ n => ⟨o.slots, x.keep b o e (by simp) n⟩, x.there⟩
/-- what is tracked stands by itself: the records that change are not tracked -/
theorem Kept.un {F ch : List Addr} {g h : Heap} {H : Hp} (x : Kept F ch g h) : Un F ch H H g h :=
  ⟨fun b o e _ n1 n2 => x.keep b o e n1 n2, fun b o e _ n1 n2 => x.slot b o e n1 n2, fun _ _ _ n _ => n, fun b o e _ => x.there b o e, fun _ _ e => e, fun _ _ _ e => e, fun b ps e => ⟨#[], by rw [e]; simp⟩⟩
theorem Kept.hok {P : Program} {w : World} {F ch : List Addr} {g h : Heap} {H : Hp} (x : Kept F ch g h) (k : HOk P w H g) (hF : ∀ b ∈ F, H b = none) (hc : ∀ b ∈ ch, H b = none) : HOk P w H h := fun a o e => by
  refine (k a o e).stay (fun b u hb q => x.keep b u q (fun z => ?_) fun z => ?_) (fun _ q => q) fun _ _ q => q
  · rcases hb with y | y
    · rw [y] at z; rw [hF a z] at e; cases e
    · rw [hF b z] at y; cases y
  · rcases hb with y | y
    · rw [y] at z; rw [hc a z] at e; cases e
    · rw [hc b z] at y; cases y
section
variable {M : Model} {A : Around} {E : Value → Shared → Prop} {s : Shared} {base : Heap} {env : Env} {outer : List Env} {L e : Addr}
/-- a frame's entry is made -/
theorem note_core {oe : Obj} {vs : Array Value} {head : Value} {hn : Bool} {Q : Unit → Shared → Prop} (hfr : A.frames = some (env :: outer)) (hl : s.heap.FunFrames base (env :: outer)) (hf : env.frame = some L)
    (he : s.heap.get? e = some oe) (hd : oe.data = .fields vs) (hsz : 1 < vs.size)
    (h : ∀ (h2 : Heap) (T : Addr) (oT : Obj) (ts : Array Value), Kept (frs (env :: outer)) [e] s.heap h2 → s.heap.objs.size ≤ T → T ≠ e → h2.get? e = some (oe.mapFields (·.setIfInBounds 1 (.ref T))) → h2.get? T = some oT → oT.data = .fields ts → ts[3]? = some (rawInt L) → Q () { s with heap := h2 }) :
    wpAny M A (do let a ← frameOf env; let pl ← entryPlaceOf L hn; let b ← EntryCells.newEntry head a .none (rawInt L) .none pl; setField (.ref e) 1 b) Q E s := by
  have ef : e ∉ frs (env :: outer) := fun z => by
    obtain ⟨_, o, q, nf⟩ := hl.mem z
    rw [he] at q; cases q
    exact nf vs hd
  refine wpAny_bind (wpAny_frameOf_fun hfr hl hf fun g1 so => ?_)
  have k1 : Kept (frs (env :: outer)) [] s.heap g1 := Kept.slots so
  refine wpAny_bind (wpAny_entryPlaceOf fun pl isp => ?_)
  unfold EntryCells.newEntry newFields
  refine wpAny_bind (wpAny_newObj_type ?_ (isp.sizeOk5 _ _ _ _ _))
  have e1 : g1.get? e = some oe := k1.keep e oe he ef (by simp)
  generalize hO : ({ cls := .type "traceback", dict := none, data := .fields ([head, .ref L, .none, rawInt L, .none] ++ (if pl.isEmpty then List.replicate 6 Value.none else pl)).toArray } : Obj) = O
  have dO : O.data = .fields ([head, .ref L, .none, rawInt L, .none] ++ (if pl.isEmpty then List.replicate 6 Value.none else pl)).toArray := by rw [← hO]
  have fO : O.isFreed = false := Obj.isFreed_of_fields dO
  have e2 : (g1.push O).get? e = some oe := Heap.get?_push_of_some _ e1
  have d3 := Obj.data_mapFields hd (·.setIfInBounds 1 (Value.ref g1.objs.size))
  have nT : g1.objs.size ≠ e := Nat.ne_of_gt (Heap.lt_size e1)
  refine wpAny_setField e2 hd hsz (h _ g1.objs.size O _ ?_ ?_ nT (Heap.get?_update_self _ e2 (Obj.isFreed_of_fields d3)) ?_ dO ?_)
  · exact ((k1.trans Kept.push).trans (Kept.one e2 (Obj.isFreed_of_fields d3))).mono (by simp)
  · exact Nat.le_of_eq so.1.symm
  · rw [Heap.get?_update_other _ _ (Ne.symm nT)]
    exact Heap.get?_push_size g1 fO
  · simp
end
/-- the exception at e of the class C, with the dict d: its newest entry stands at T, and says fl of the flight -/
structure Flown (h : Heap) (e C : Addr) (d : Option Addr) (T : Addr) (fl : Value) : Prop where
  ob : ∃ oe vs, h.get? e = some oe ∧ oe.cls = .ref C ∧ oe.dict = d ∧ oe.data = .fields vs ∧ vs[1]? = some (.ref T)
  ne : T ≠ e
  tb : ∃ oT ts, h.get? T = some oT ∧ oT.data = .fields ts ∧ ts[3]? = some fl
/-- a new one: no frame has noted it -/
def Unflown (h : Heap) (e C : Addr) (d : Option Addr) : Prop := ∃ oe vs, h.get? e = some oe ∧ oe.cls = .ref C ∧ oe.dict = d ∧ oe.data = .fields vs ∧ vs[1]? = some .none
section
variable {M : Model} {A : Around} {E : Value → Shared → Prop} {s : Shared} {base : Heap} {env : Env} {outer : List Env} {L e C T : Addr} {d : Option Addr}
theorem note_new {Q : Unit → Shared → Prop} (hfr : A.frames = some (env :: outer)) (hl : s.heap.FunFrames base (env :: outer)) (hf : env.frame = some L) (x : Unflown s.heap e C d)
    (h : ∀ (h2 : Heap) (T : Addr), Kept (frs (env :: outer)) [e] s.heap h2 → s.heap.objs.size ≤ T → Flown h2 e C d T (rawInt L) → Q () { s with heap := h2 }) : wpAny M A (noteFrame (.ref e) env) Q E s := by
  obtain ⟨oe, vs, h1, h2, h3, h4, h5⟩ := x
  unfold noteFrame
  simp only [hf]
  refine wpAny_bind (wpAny_field h1 h4 h5 ?_)
  rw [if_neg (by decide)]
  have sz : 1 < vs.size := (Array.getElem?_eq_some_iff.mp h5).1
  refine note_core hfr hl hf h1 h4 sz fun g T oT ts k n ne q1 q2 q3 q4 => h g T k n ⟨⟨_, _, q1, ?_, ?_, Obj.data_mapFields h4 _, ?_⟩, ne, oT, ts, q2, q3, q4⟩
  · rw [Obj.cls_mapFields]; exact h2
  · obtain ⟨c, dd, dt, sl⟩ := oe
    cases dt <;> exact h3
  · simp [sz]
theorem note_on {Q : Unit → Shared → Prop} (hfr : A.frames = some (env :: outer)) (hl : s.heap.FunFrames base (env :: outer)) (hf : env.frame = some L) (x : Flown s.heap e C d T .none)
    (h : ∀ (h2 : Heap) (T2 : Addr), Kept (frs (env :: outer)) [T, e] s.heap h2 → s.heap.objs.size ≤ T2 → Flown h2 e C d T2 (rawInt L) → Q () { s with heap := h2 }) : wpAny M A (noteFrame (.ref e) env) Q E s := by
  obtain ⟨⟨oe, vs, h1, h2, h3, h4, h5⟩, ne, oT, ts, t1, t2, t3⟩ := x
  unfold noteFrame
  simp only [hf]
  refine wpAny_bind (wpAny_field h1 h4 h5 ?_)
  rw [if_pos (by simp)]
  refine wpAny_bind (wpAny_field t1 t2 t3 ?_)
  rw [if_neg (by simp [rawInt])]
  have sT : 3 < ts.size := (Array.getElem?_eq_some_iff.mp t3).1
  refine wpAny_bind (wpAny_setField t1 t2 sT ?_)
  have dT := Obj.data_mapFields t2 (·.setIfInBounds 3 Value.none)
  have kT : Kept (frs (env :: outer)) [T] s.heap (s.heap.update T (Obj.mapFields (·.setIfInBounds 3 Value.none))) := Kept.one t1 (Obj.isFreed_of_fields dT)
  have he2 : (s.heap.update T (Obj.mapFields (·.setIfInBounds 3 Value.none))).get? e = some oe := by rw [Heap.get?_update_other _ _ ne]; exact h1
  have hl2 : (s.heap.update T (Obj.mapFields (·.setIfInBounds 3 Value.none))).FunFrames base (env :: outer) := hl.of_keeps fun b o q nf => ⟨o, by
    rw [Heap.get?_update_other _ _ (fun z => by rw [← z, t1] at q; cases q; exact nf ts t2)]; exact q, rfl⟩
  have sz : 1 < vs.size := (Array.getElem?_eq_some_iff.mp h5).1
  refine note_core (s := { s with heap := s.heap.update T (Obj.mapFields (·.setIfInBounds 3 Value.none)) }) hfr hl2 hf he2 h4 sz fun g T2 o2 ts2 k n ne2 q1 q2 q3 q4 => h g T2 (kT.trans k) ?_ ⟨⟨_, _, q1, ?_, ?_, Obj.data_mapFields h4 _, ?_⟩, ne2, o2, ts2, q2, q3, q4⟩
  · have n : (s.heap.update T (Obj.mapFields (·.setIfInBounds 3 Value.none))).objs.size ≤ T2 := n
    rw [Heap.size_after_update] at n
    exact n
  · rw [Obj.cls_mapFields]; exact h2
  · obtain ⟨c, dd, dt, sl⟩ := oe
    cases dt <;> exact h3
  · simp [sz]
/-- the frame lets it go -/
theorem flight_none {fl : Value} {Q : Unit → Shared → Prop} (x : Flown s.heap e C d T fl) (h : ∀ h2 : Heap, Kept [] [T] s.heap h2 → Flown h2 e C d T .none → Q () { s with heap := h2 }) : wpAny M A (setFlight (.ref e) none) Q E s := by
  obtain ⟨⟨oe, vs, h1, h2, h3, h4, h5⟩, ne, oT, ts, t1, t2, t3⟩ := x
  have sT : 3 < ts.size := (Array.getElem?_eq_some_iff.mp t3).1
  unfold setFlight
  refine wpAny_bind (wpAny_field h1 h4 h5 ?_)
  rw [if_pos (by simp)]
  have dT := Obj.data_mapFields t2 (·.setIfInBounds 3 ((none : Option Addr).elim Value.none fun f => rawInt f))
  refine wpAny_setField t1 t2 sT (h _ (Kept.one t1 (Obj.isFreed_of_fields dT)) ⟨⟨oe, vs, ?_, h2, h3, h4, h5⟩, ne, _, _, Heap.get?_update_self _ t1 (Obj.isFreed_of_fields dT), dT, ?_⟩)
  · rw [Heap.get?_update_other _ _ ne]; exact h1
  · simp [sT]
theorem leave_new {Q : Unit → Shared → Prop} (hfr : A.frames = some (env :: outer)) (hl : s.heap.FunFrames base (env :: outer)) (hf : env.frame = some L) (x : Unflown s.heap e C d)
    (h : ∀ (h2 : Heap) (T : Addr), Kept (frs (env :: outer)) [e, T] s.heap h2 → s.heap.objs.size ≤ T → Flown h2 e C d T .none → Q () { s with heap := h2 }) : wpAny M A (leaving env (.ref e)) Q E s := by
  unfold leaving
  refine wpAny_bind (note_new hfr hl hf x fun g T k n y => flight_none (s := { s with heap := g }) y fun g2 k2 y2 => h g2 T (k.trans (k2.frame _)) n y2)
end
end L2
namespace L2
open PySem PySem.Spec PyProof.Rows
def xobj (e C : Addr) (d : Option Addr) : HO := .ext fun h => ∃ oe vs, h.get? e = some oe ∧ oe.cls = .ref C ∧ oe.dict = d ∧ oe.data = .fields vs ∧ 1 < vs.size
theorem xobj_ok {P : Program} {w : World} {H : Hp} {h : Heap} {e C : Addr} {d : Option Addr} {oe : Obj} {vs : Array Value} (h1 : h.get? e = some oe) (h2 : oe.cls = .ref C) (h3 : oe.dict = d) (h4 : oe.data = .fields vs) (h5 : 1 < vs.size) : ObjOk P w H h e (xobj e C d) :=
  ⟨⟨oe, vs, h1, h2, h3, h4, h5⟩, ⟨oe, h1⟩, fun g1 g2 ⟨o, v, q1, q2⟩ k => ⟨o, v, k o q1, q2⟩⟩
theorem Flown.ok {P : Program} {w : World} {H : Hp} {h : Heap} {e C T : Addr} {d : Option Addr} {fl : Value} (x : Flown h e C d T fl) : ObjOk P w H h e (xobj e C d) := by
  obtain ⟨oe, vs, h1, h2, h3, h4, h5⟩ := x.ob
  exact xobj_ok h1 h2 h3 h4 (Array.getElem?_eq_some_iff.mp h5).1
/-- what is tracked stands by itself, the exception too -/
theorem Kept.hokX {P : Program} {w : World} {F ch : List Addr} {g h : Heap} {H : Hp} {e C : Addr} {d : Option Addr} (x : Kept F ch g h) (k : HOk P w H g) (hF : ∀ b ∈ F, H b = none) (hc : ∀ b ∈ ch, b = e ∨ H b = none) (he : H e = some (xobj e C d)) (ok : ObjOk P w H h e (xobj e C d)) : HOk P w H h := fun a o q => by
  by_cases z : a = e
  · subst z
    rw [he] at q
    cases q
    exact ok
  refine (k a o q).stay (fun b u hb r => x.keep b u r (fun y => ?_) fun y => ?_) (fun _ r => r) fun _ _ r => r
  · rcases hb with v | v
    · rw [v] at y; rw [hF a y] at q; cases q
    · rw [hF b y] at v; cases v
  · rcases hc b y with n | n
    · rcases hb with v | v
      · exact z (v.symm.trans n)
      · rw [n, he] at v; cases v
    · rcases hb with v | v
      · rw [v] at n; rw [n] at q; cases q
      · rw [n] at v; cases v
theorem ObjOk.there {P : Program} {w : World} {H : Hp} {h : Heap} {a : Addr} {o : HO} (x : ObjOk P w H h a o) : ∃ ob, h.get? a = some ob := by
  induction o with
  | lst xs => obtain ⟨_, _, _, _, e⟩ := x; exact ⟨_, e⟩
  | tup xs => obtain ⟨_, _, _, p⟩ := x; obtain ⟨ob, e, _⟩ := p; exact ⟨ob, e⟩
  | dK kvs => obtain ⟨_, _, _, _, o, _, _, e, _⟩ := x; exact ⟨o, e⟩
  | dT kvs => obtain ⟨_, _, _, _, o, _, _, e, _⟩ := x; exact ⟨o, e⟩
  | set S n => obtain ⟨o, _, _, _, e, _⟩ := x; exact ⟨o, e⟩
  | ins C dx fs => obtain ⟨_, _, _, e, _⟩ := x; exact ⟨_, e⟩
  | own y => exact x
  | xd fs => obtain ⟨_, ⟨o, _, _, e, _⟩, _⟩ := x; exact ⟨o, e⟩
  | met f y => exact ⟨_, x⟩
  | rng lo hi => obtain ⟨_, _, _, e⟩ := x; exact ⟨_, e⟩
  | frz o u _ => exact ⟨o, x.1⟩
  | tbl ps => exact ⟨_, x⟩
  | ext φ => exact x.2.1
theorem HOk.new {P : Program} {w : World} {H : Hp} {h : Heap} {a : Addr} (k : HOk P w H h) (e : h.get? a = none) : H a = none := by
  cases q : H a with
  | none => rfl
  | some o =>
    obtain ⟨ob, q2⟩ := (k a o q).there
    rw [e] at q2; cases q2
/-- how an exception lies behind a call: it is new, tracked, and flies through the callers' frames -/
def CXE (P : Program) (w : World) : CXT := fun outer H s E ev s' => ∃ (e C T : Addr) (d : Option Addr) (H' : Hp), ev = .ref e ∧ Flown s'.heap e C d T .none ∧ s'.os = s.os ∧ AllBare s'.gens ∧ Un (frs outer) [] H H' s.heap s'.heap ∧ HOk P w H' s'.heap ∧
  H' e = some (xobj e C d) ∧ H' T = none ∧ s.heap.objs.size ≤ T ∧ s.heap.get? e = none ∧ E (.ref C) (some e) H'
section
variable {P : Program} {w : World} {K : PySem.W.Frag} {mg : Str → Option Value} {base : Heap} {N : List Str} {qual : Str} {scope : Scope} {f : Addr} {cd : Value} {A : Around} {outer : List Env} {s : Shared} {H : Hp} {E : XK}
theorem xe_end {X : Cx} {pins : List (Addr × Obj)} {σ : St} {H' : Hp} {s' : Shared} {h2 : Heap} {e C T2 : Addr} {d : Option Addr} {ch : List Addr} (hfs : X.fs = frs outer) (hex : X.ex = []) (hH : X.H₀ = H) (hs : X.s₀ = s) (hP : X.prog = P) (hw : X.w = w) (J : Inv X pins σ H' s') (k : Kept (frs X.stack) ch s'.heap h2) (y : Flown h2 e C d T2 .none)
    (he : H' e = some (xobj e C d)) (l2 : s'.heap.objs.size ≤ T2) (le : s.heap.get? e = none) (hch : ∀ b ∈ ch, (b = e ∨ H' b = none) ∧ s.heap.get? b = none) (hE : E (.ref C) (some e) H') : CXE P w outer H s E (.ref e) { s' with heap := h2 } := by
  subst hH hs hP hw
  have ll : ∀ b o, X.s₀.heap.get? b = some o → b ∉ ch ∧ b ≠ X.env.locals := fun b o q => by
    have lt := Heap.lt_size q
    refine ⟨(fun z => by rw [(hch b z).2] at q; cases q), fun z => ?_⟩
    have := J.ok.above
    rw [← z] at this
    exact absurd this (Nat.not_le.mpr lt)
  have nst : ∀ b o, X.s₀.heap.get? b = some o → b ∉ frs outer → b ∉ frs X.stack := fun b o q n z => by
    rcases List.mem_cons.mp (J.stkSub b z) with y | y
    · exact (ll b o q).2 y
    · rw [hfs] at y; exact n y
  have hb := J.base
  rw [hfs, hex] at hb
  refine ⟨e, C, T2, d, H', rfl, y, J.os, J.bare, ⟨fun b o q n n1 n2 => ?_, fun b o q n n1 n2 => ?_, fun b o q n n2 => hb.free b o q n n2, fun b o q n2 => ?_, hb.tups, hb.frzs, hb.tbls⟩, k.hokX J.hok J.stkFree (fun b z => (hch b z).1) he y.ok, he, J.hok.fresh l2, Nat.le_trans J.sz l2, le, hE⟩
  · exact k.keep b o (hb.keep b o q n n1 n2) (nst b o q n1) (ll b o q).1
  · obtain ⟨sl, q2⟩ := hb.slot b o q n n1 n2
    by_cases z : b ∈ frs X.stack
    · obtain ⟨sl2, q3⟩ := k.slot b _ q2 z (ll b o q).1
      exact ⟨sl2, q3⟩
    · exact ⟨sl, k.keep b _ q2 z (ll b o q).1⟩
  · obtain ⟨u, q2⟩ := hb.there b o q n2
    exact k.there b u q2
/-- an exception that is raised here -/
theorem raiseE {pins : List (Addr × Obj)} {σ : St} {H1 : Hp} {s1 : Shared} {e C : Addr} {d : Option Addr} (I : Inv (cxOf (CXE P w) P w K mg base N qual scope f cd A outer s H E) pins σ H1 s1) (u : Unflown s1.heap e C d) (he : H1 e = some (xobj e C d)) (le : s.heap.get? e = none) (hE : E (.ref C) (some e) H1) :
    (cxOf (CXE P w) P w K mg base N qual scope f cd A outer s H E).xe (.ref e) s1 := by
  refine leave_new (base := base) I.ok.frames I.stack rfl u fun h2 T2 k n y => ?_
  have szJ := I.sz
  refine xe_end (X := cxOf (CXE P w) P w K mg base N qual scope f cd A outer s H E) rfl rfl rfl rfl rfl rfl I k y he n le (fun b hb => ?_) hE
  simp only [List.mem_cons, List.not_mem_nil, or_false] at hb
  rcases hb with z | z
  · rw [z]; exact ⟨.inl rfl, le⟩
  · rw [z]; exact ⟨.inr (I.hok.fresh n), Heap.get?_none_of_le (Nat.le_trans szJ n)⟩
end
end L2
namespace L2
open PySem PySem.Spec PyProof.Rows
section
variable {X : Cx} {pins : List (Addr × Obj)} {σ : St} {H : Hp} {s : Shared} {h' : Heap}
/-- a new object at an address that was free -/
theorem Inv.laidN {a : Addr} {o : HO} {t' : Nat} (I : Inv X pins σ H s) (k : ∀ b u, s.heap.get? b = some u → h'.get? b = some u) (hp : s.heap.get? a = none) (new : ObjOk X.prog X.w (upd H a o) h' a o) : Inv X pins σ (upd H a o) { s with heap := h', toks := t' } := by
  have hn : H a = none := I.hok.new hp
  have ne : ∀ b u, s.heap.get? b = some u → b ≠ a := fun b u q z => by rw [z, hp] at q; cases q
  have ne2 : ∀ b u, H b = some u → b ≠ a := fun b u q => ne_of_none q hn
  refine I.un ⟨fun b u q _ _ _ => k b u q, fun b u q _ _ _ => ⟨u.slots, k b u q⟩, fun b u q n _ => by rw [upd_ne (ne b u q)]; exact n, fun b u q _ => ⟨u, k b u q⟩, fun b xs q => by rw [upd_ne (ne2 b _ q)]; exact q, fun b u xs q => by rw [upd_ne (ne2 b _ q)]; exact q, fun b ps q => ⟨#[], by rw [upd_ne (ne2 b _ q), q]; simp⟩⟩ fun b u q => ?_
  by_cases z : b = a
  · subst z
    rw [upd_same] at q
    cases q
    exact new
  · rw [upd_ne z] at q
    exact (I.hok b u q).stay (fun c v _ r => k c v r) (fun c r => by rw [upd_ne (ne2 c _ r)]; exact r) fun c xs r => by rw [upd_ne (ne2 c _ r)]; exact r
end
/-- the classes under ValueError -/
abbrev VE : List Value := [.type "ValueError", .type "Exception", .type "BaseException", .type "object"]
structure ExcAt (h : Heap) (C : Addr) (bm : List Value) (Nn : Addr) (mN : Str → Option Value) : Prop where
  ob : ∃ nm q bs hdct sn sub ab col dd k0 k1 k2 k3 k5, h.get? C = some (excClassObj nm q C Nn bs bm hdct sn sub ab col dd k0 k1 k2 k3 k5 "ValueError.__new__")
  ns : h.Ns Nn mN
  tail : OwnTail h VE bm
theorem ExcAt.keeps {h h2 : Heap} {C Nn : Addr} {bm : List Value} {mN : Str → Option Value} (x : ExcAt h C bm Nn mN) (k : ∀ b o, h.get? b = some o → h2.get? b = some o) : ExcAt h2 C bm Nn mN :=
  ⟨let ⟨a1, a2, a3, a4, a5, a6, a7, a8, a9, b0, b1, b2, b3, b4, e⟩ := x.ob; ⟨a1, a2, a3, a4, a5, a6, a7, a8, a9, b0, b1, b2, b3, b4, k _ _ e⟩, x.ns.keeps k, x.tail.keeps k⟩
theorem exc_at {K : PySem.W.Frag} {h : Heap} {C : Addr} (kin : K.In h) (q : PySem.W.excIn K C VE "ValueError.__new__" = true) : ∃ bm Nn mN, ExcAt h C bm Nn mN ∧ mN "__init__" = none := by
  unfold PySem.W.excIn at q
  split at q
  next dd cd sl look =>
    split at q
    next C2 bm c0 c1 c2 c3 nn c5 em es =>
      simp only [Bool.and_eq_true, beq_iff_eq, Bool.not_eq_true'] at q
      obtain ⟨⟨⟨⟨⟨e1, e2⟩, del⟩, tl⟩, nsok⟩, noinit⟩ := q
      subst e1 e2
      have esl : sl = #[c0, c1, c2, c3, some (.builtin "ValueError.__new__"), c5] := Array.toList_inj.mp es
      obtain ⟨f1, f2, f3, f4, f5, f6, f7, f8, f9, f10, f11⟩ := cd
      have em : f3 = .ref C2 :: bm := em
      have del : f11 = false := del
      subst em del esl
      exact ⟨bm, f4, _, ⟨⟨_, _, _, _, _, _, _, _, _, _, _, _, _, _, kin _ _ look⟩, .of_isNs (PySem.W.isNs_of_in kin nsok), PySem.W.tail_of_in kin tl⟩, PySem.W.nsMap_none_of_in kin nsok noinit⟩
    next => cases q
  next => cases q
section
variable {P : Program} {w : World} {K : PySem.W.Frag} {mg : Str → Option Value} {base : Heap} {N : List Str} {qual : Str} {scope : Scope} {f : Addr} {cd : Value} {A : Around} {outer : List Env} {s : Shared} {H : Hp} {E : XK}
/-- raise C(..), C an own class under ValueError without an __init__ of its own -/
theorem ps_raise0 {x : Str} {np cpos pos : Pos} {e1 : Expr} {es : List Expr} {ta : TA} {C : Addr} (hx : PySem.W.excIn K C VE "ValueError.__new__" = true) (hg : Gl (cxOf (CXE P w) P w K mg base N qual scope f cd A outer s H E) x) (hm : mg x = some (.ref C))
    (ha : PA (cxOf (CXE P w) P w K mg base N qual scope f cd A outer s H E) (e1 :: es) ta) (hd : (x == ("__debug__" : Str)) = false := by decide)
    (he : starEach (e1 :: es) (cxOf (CXE P w) P w K mg base N qual scope f cd A outer s H E).env = (false, eval e1 (cxOf (CXE P w) P w K mg base N qual scope f cd A outer s H E).env) :: starEach es (cxOf (CXE P w) P w K mg base N qual scope f cd A outer s H E).env := by rfl)
    (hpl : (backTo cpos (starEach (e1 :: es) (cxOf (CXE P w) P w K mg base N qual scope f cd A outer s H E).env)).any (·.1) = false := by rfl) :
    PS (cxOf (CXE P w) P w K mg base N qual scope f cd A outer s H E) (.Raise (some (.Call (.Name x np) (e1 :: es) [] cpos)) none pos) (fun _ σ H1 => ta σ H1 fun vs H2 => vs.length ≤ sizeLine ∧ ∀ e, H2 e = none → E (.ref C) (some e) (upd H2 e (xobj e C none))) := by
  intro pins s1 σ H1 D I h
  obtain ⟨bm, Nn, mN, ex, ni⟩ := exc_at (h := base) I.ok.mod.kin hx
  obtain ⟨nm, q, bs, hdct, sn, sub, ab, col, dd, k0, k1, k2, k3, k5, eC⟩ := ex.ob
  refine wpAny_Raise_call_subT PySem.F.excBase_ValueError (C := C) (nm := nm) (q := q) (N := Nn) (bs := bs) (bm := bm) (hdct := hdct) (sn := sn) (sub := sub) (ab := ab) (col := col) (dd := dd) (k0 := k0) (k1 := k1) (k2 := k2) (k3 := k3) (k5 := k5) (mN := mN) (ex.tail.hasType (by decide)) (I.ok.hd rfl) hpl ni ?_
  refine thn (pe_glob (pos := np) hg hm (v := .ref C) rfl hd pins s1 σ H1 (fun v H' => v = .ref C ∧ H' = H1) I ⟨rfl, rfl⟩) fun u s2 ⟨v, H2, I2, r, e2, e3⟩ => ?_
  subst e2 e3
  refine ⟨r, ?_⟩
  rw [he]
  show wpAny _ _ (evalArgs (.ref C) true ((false, eval e1 _) :: backTo cpos (starEach es _)) []) _ _ s2
  refine Calls.evalArgs_plain ?_
  have hp := ha cpos pins s2 σ H2 _ I2 h
  rw [he] at hp
  refine thn hp fun us s3 ⟨vs, H3, I3, rv, sz, k⟩ => ⟨rfl, by rw [← rv.length]; exact sz, I3.bk _ _ eC, ex.ns.keeps I3.bk, ex.tail.keeps I3.bk, fun g e md => ?_⟩
  obtain ⟨t0, g1, _, _⟩ := md.there
  have new := I3.hok.new md.new
  have I4 := I3.laidN (h' := g) (t' := s3.toks) (o := xobj e C none) md.keeps md.new (xobj_ok g1 rfl rfl rfl (by show 1 < 6; decide))
  refine raiseE I4 ⟨_, _, g1, rfl, rfl, rfl, rfl⟩ upd_same ?_ (k e new)
  cases z : s.heap.get? e with
  | none => rfl
  | some o =>
    obtain ⟨u, z2⟩ := I3.base.there e o z (by show e ∉ []; simp)
    rw [md.new] at z2; cases z2
end
end L2
namespace L2
open PySem PySem.Spec PyProof.Rows
section
variable {M : Model} {A : Around} {E : Value → Shared → Prop}
/-- does the clause's class take the exception? -/
theorem exc_match {hp : Heap} {g : Array GenState} {dr : Drawn} {tk : Nat} {os : OsState} {e C C2 Nn N2 : Addr} {bm bm2 : List Value} {mN m2 : Str → Option Value} {oe : Obj} {b : Bool} {Q : Bool → Shared → Prop} (x : ExcAt hp C bm Nn mN) (y : ExcAt hp C2 bm2 N2 m2) (he : hp.get? e = some oe) (hcls : oe.cls = .ref C)
    (hb : (Value.ref C :: bm).contains (.ref C2) = b) (hq : Q b ⟨hp, g, dr, tk, os⟩) : wpAny M A (excMatches (.ref e) (.ref C2)) Q E ⟨hp, g, dr, tk, os⟩ := by
  obtain ⟨a1, a2, a3, a4, a5, a6, a7, a8, a9, b0, b1, b2, b3, b4, eC⟩ := x.ob
  obtain ⟨c1, c2, c3, c4, c5, c6, c7, c8, c9, d0, d1, d2, d3, d4, eD⟩ := y.ob
  have base2 : (Value.ref C2 :: bm2).contains (.type "BaseException") = true := by rw [List.contains_cons, y.tail.hasType (b := true) (by decide), Bool.or_true]
  have nt := tc_notTuple
  unfold excMatches
  repeat (first
    | (with_reducible refine wpAny_loadPart_at he ?_; rw [hcls])
    | with_reducible refine wpAny_loadPart_at eD ?_
    | (with_reducible refine wpAny_isSubtype_exc eD ?_; rw [base2])
    | (with_reducible refine wpAny_isSubtype_exc eC ?_; rw [hb])
    | wp_step)
  cases b <;> (try wp_walk) <;> exact hq
end
end L2
namespace L2
open PySem PySem.Spec PyProof.Rows
section
variable {X : Cx} {pins pins' : List (Addr × Obj)} {σ : St} {H : Hp} {s : Shared}
/-- what is wanted of an exception that leaves a try's body: it flies, and Th holds of it and of the names as they are -/
def TryX (X : Cx) (pins : List (Addr × Obj)) (Th : St → Addr → Addr → Hp → Prop) (ev : Value) (s' : Shared) : Prop :=
  ∃ (e C T : Addr) (d : Option Addr) (σ : St) (H' : Hp), ev = .ref e ∧ Inv X pins σ H' s' ∧ Flown s'.heap e C d T .none ∧ H' e = some (xobj e C d) ∧ H' T = none ∧ X.s₀.heap.objs.size ≤ T ∧ (∀ p ∈ X.pn ++ pins, p.1 ≠ T) ∧ Th σ C e H'
abbrev Cx.trying (X : Cx) (pins : List (Addr × Obj)) (Th : St → Addr → Addr → Hp → Prop) : Cx := { X with pn := X.pn ++ pins, xe := TryX X pins Th }
theorem Cx.Ok.cast {X Y : Cx} (ok : X.Ok) (h1 : Y.K = X.K) (h2 : Y.mg = X.mg) (h3 : Y.base = X.base) (h4 : Y.env = X.env) (h5 : Y.s₀ = X.s₀) (h6 : Y.H₀ = X.H₀) (h7 : Y.outer = X.outer) (h8 : Y.stack = X.stack) (h9 : Y.ex = X.ex) (h10 : Y.fn = X.fn) (hd : Y.calm = true → Y.A.handled = none) (hf : Y.A.frames = some Y.stack) : Y.Ok := by
  obtain ⟨P, w, K, mg, base, A, N, s0, H0, env, outer, stack, ex, fn, calm, pn, xe⟩ := Y
  dsimp only at h1 h2 h3 h4 h5 h6 h7 h8 h9 h10
  subst h1 h2 h3 h4 h5 h6 h7 h8 h9 h10
  exact ⟨ok.mod, ok.kind, ok.glob, ok.blt, ok.above, ok.inj, ok.has, ok.cab, hd, hf, ok.stk, ok.exf, ok.bs, ok.bsz, ok.noex, ok.exfs, ok.funs, ok.frf⟩
theorem Inv.trying (I : Inv X pins σ H s) (Th : St → Addr → Addr → Hp → Prop) : Inv (X.trying pins Th) [] σ H s :=
  ⟨I.ok.cast rfl rfl rfl rfl rfl rfl rfl rfl rfl rfl I.ok.hd I.ok.frames, I.os, I.bare, I.base, I.loc, I.cell, I.free, I.freeC, fun p hp => I.pin p (by simpa using hp), I.hok, I.len⟩
theorem Inv.tried {Th : St → Addr → Addr → Hp → Prop} (I : Inv (X.trying pins Th) pins' σ H s) : Inv X pins σ H s :=
  ⟨I.ok.cast rfl rfl rfl rfl rfl rfl rfl rfl rfl rfl I.ok.hd I.ok.frames, I.os, I.bare, I.base, I.loc, I.cell, I.free, I.freeC, fun p hp => I.pin p (List.mem_append_left _ hp), I.hok, I.len⟩
/-- within an except suite -/
abbrev Cx.held (X : Cx) (e : Addr) : Cx := { X with A := X.A.mark (some (.ref e)), calm := false, xe := fun _ _ => False }
theorem Inv.held (I : Inv X pins σ H s) (e : Addr) : Inv (X.held e) pins σ H s :=
  ⟨I.ok.cast rfl rfl rfl rfl rfl rfl rfl rfl rfl rfl (fun z => nomatch z) I.ok.frames, I.os, I.bare, I.base, I.loc, I.cell, I.free, I.freeC, I.pin, I.hok, I.len⟩
theorem Inv.unheld {e : Addr} (hd : X.calm = true → X.A.handled = none) (I : Inv (X.held e) pins σ H s) : Inv X pins σ H s :=
  ⟨I.ok.cast rfl rfl rfl rfl rfl rfl rfl rfl rfl rfl hd I.ok.frames, I.os, I.bare, I.base, I.loc, I.cell, I.free, I.freeC, I.pin, I.hok, I.len⟩
/-- an exception of a callee, the names being σ -/
def PassesAt (CX : CXT) (X : Cx) (σ : St) (E : XK) : Prop := ∀ (pins : List (Addr × Obj)) (H : Hp) (s : Shared) (e : Value) (s' : Shared), Inv X pins σ H s → CX X.stack H s E e s' → X.xe e s'
theorem pass_try {P : Program} {w : World} {Th : St → Addr → Addr → Hp → Prop} {E : XK} (hP : X.prog = P) (hw : X.w = w) (hE : ∀ C e H', E (.ref C) (some e) H' → Th σ C e H') : PassesAt (CXE P w) (X.trying pins Th) σ E := by
  subst hP hw
  rintro pins1 H1 s1 ev s' I ⟨e, C, T, d, H', rfl, fl, os, bare, un, hok, he, hT, lT, le, hE'⟩
  have J := I.call' (ch := []) os un hok bare (by simp)
  refine ⟨e, C, T, d, σ, H', rfl, J.tried, fl, he, hT, Nat.le_trans I.sz lT, fun p hp z => ?_, hE _ _ _ hE'⟩
  have := (I.tried.pin p hp).1
  have := Heap.lt_size this
  rw [z] at this
  exact absurd lT (Nat.not_le.mpr this)
/-- the frame's own names changed, none that is known but the i-th -/
theorem Inv.forget {i : Nat} {n : Str} {m : Str → Option Value} {v : Option Value} {h' : Heap} {t' : Nat} (I : Inv X pins σ H s) (hN : X.N.Nodup) (hi : X.N[i]? = some n) (hn : s.heap.Ns X.env.locals m)
    (hk : ∀ (j : Nat) (x : Str) (v : V), X.N[j]? = some x → σ[j]? = some (some v) → Vis X.env.scope x → ∃ u, RelV v u ∧ Look X.env s.heap m x u) (hn' : h'.Ns X.env.locals (fun x => if x = n then v else m x)) (hs : Heap.SameBut X.env.locals s.heap h') : Inv X pins (σ.set i none) H { s with heap := h', toks := t' } := by
  have cne := I.cne
  have nl : ∀ b o, X.s₀.heap.get? b = some o → b ≠ X.env.locals := fun b o q => Nat.ne_of_lt (Nat.lt_of_lt_of_le (Heap.lt_size q) I.ok.above)
  refine ⟨I.ok, I.os, I.bare, ⟨fun b o q a1 a2 a3 => (hs.2 b (nl b o q)).trans (I.base.keep b o q a1 a2 a3), fun b o q a1 a2 a3 => ?_, I.base.free, fun b o q a1 => ?_, I.base.tups, I.base.frzs, I.base.tbls⟩, ⟨_, hn', fun j y w' q1 q2 q3 => ?_⟩, fun y c q => ?_, I.free, I.freeC, fun p hp => ?_, fun b o q => ?_, by rw [List.length_set]; exact I.len⟩
  · obtain ⟨sl, z⟩ := I.base.slot b o q a1 a2 a3
    exact ⟨sl, (hs.2 b (nl b o q)).trans z⟩
  · obtain ⟨u, z⟩ := I.base.there b o q a1
    exact ⟨u, (hs.2 b (nl b o q)).trans z⟩
  · have hj : j ≠ i := fun z => by
      rw [z] at q2
      have : i < σ.length := by rw [I.len]; exact (List.getElem?_eq_some_iff.mp hi).1
      rw [List.getElem?_set_self this] at q2
      cases q2
    rw [List.getElem?_set_ne (Ne.symm hj)] at q2
    obtain ⟨u, r, l⟩ := hk j y w' q1 q2 q3
    refine ⟨u, r, ?_⟩
    rcases l with ⟨k1, k2⟩ | ⟨k1, c, k2, k3⟩
    · have : y ≠ n := fun z => hj (nodup_ix hN q1 (z ▸ hi))
      exact .inl ⟨k1, by simp [this, k2]⟩
    · exact .inr ⟨k1, c, k2, k3.sameBut hs (cne y c k2)⟩
  · obtain ⟨w', z⟩ := I.cell y c q
    exact ⟨w', z.sameBut hs (cne y c q)⟩
  · obtain ⟨a1, a2, a3, a4, a5⟩ := I.pin p hp
    exact ⟨(hs.2 p.1 a3).trans a1, a2, a3, a4, a5⟩
  · refine (I.hok b o q).stay (fun c u hc r => (hs.2 c fun z => ?_).trans r) (fun _ r => r) fun _ _ r => r
    have fr := I.free
    rw [← z] at fr
    rcases hc with y | y
    · rw [y] at fr; rw [fr] at q; cases q
    · rw [fr] at y; cases y
end
end L2
namespace L2
open PySem PySem.Spec PyProof.Rows
section
variable {X : Cx} {pins : List (Addr × Obj)} {σ : St} {H : Hp} {s : Shared} {h2 : Heap} {e C T T2 : Addr} {d : Option Addr}
theorem Inv.noFields (I : Inv X pins σ H s) {o : Obj} {vs : Array Value} (q : s.heap.get? T = some o) (z : o.data = .fields vs) : T ≠ X.env.locals ∧ ∀ x c, X.env.cells.lookup x = some c → c ≠ T := by
  obtain ⟨m, ⟨o1, es, ep, q1, d1, _⟩, _⟩ := I.loc
  refine ⟨fun y => ?_, fun x c l y => ?_⟩
  · rw [y, q1] at q; cases q; rw [d1] at z; cases z
  · obtain ⟨v, o2, q2, d2⟩ := I.cell x c l
    rw [y, q] at q2; cases q2; rw [z] at d2; cases d2
/-- the frame has noted the exception -/
theorem Inv.noted (hst : X.stack = X.env :: X.outer) (I : Inv X pins σ H s) (fl : Flown s.heap e C d T .none) (he : H e = some (xobj e C d)) (hT : H T = none) (lT : X.s₀.heap.objs.size ≤ T) (pT : ∀ p ∈ X.pn ++ pins, p.1 ≠ T)
    (k : Kept (frs (X.env :: X.outer)) [T, e] s.heap h2) (y : ObjOk X.prog X.w H h2 e (xobj e C d)) : Inv X pins σ H { s with heap := h2 } := by
  rw [← hst] at k
  obtain ⟨oT, ts, t1, t2, _⟩ := fl.tb
  obtain ⟨n1, n2⟩ := I.noFields t1 t2
  have nin : ∀ b, H b = none → b ∉ [T] → b ∉ [T, e] := fun b hb z w => by
    simp only [List.mem_cons, List.not_mem_nil, or_false] at z w
    rcases w with w | w
    · exact z w
    · rw [w, he] at hb; cases hb
  refine I.call' (s' := { s with heap := h2 }) (ch := [T]) rfl ⟨fun b o q a1 a2 a3 => k.keep b o q a2 (nin b a1 a3), fun b o q a1 a2 a3 => k.slot b o q a2 (nin b a1 a3), fun _ _ _ n _ => n, fun b o q _ => k.there b o q, fun _ _ q => q, fun _ _ _ q => q, fun b ps q => ⟨#[], by rw [q]; simp⟩⟩ ?_ I.bare ?_
  · refine k.hokX I.hok I.stkFree (fun b hb => ?_) he y
    simp only [List.mem_cons, List.not_mem_nil, or_false] at hb
    rcases hb with z | z
    · rw [z]; exact .inr hT
    · exact .inl z
  · intro b hb
    rw [List.mem_singleton.mp hb]
    exact ⟨.inr lT, n1, n2, pT⟩
/-- a record of the flight turned -/
theorem Inv.flown {o : Obj} {vs : Array Value} (I : Inv X pins σ H s) (q : s.heap.get? T = some o) (z : o.data = .fields vs) (hT : H T = none) (lT : X.s₀.heap.objs.size ≤ T) (pT : ∀ p ∈ X.pn ++ pins, p.1 ≠ T) (k : Kept [] [T] s.heap h2) : Inv X pins σ H { s with heap := h2 } := by
  obtain ⟨n1, n2⟩ := I.noFields q z
  refine I.call' (s' := { s with heap := h2 }) (ch := [T]) rfl (k.frame _).un (k.hok I.hok (by simp) fun b hb => ?_) I.bare fun b hb => ?_
  · rw [List.mem_singleton.mp hb]; exact hT
  · rw [List.mem_singleton.mp hb]; exact ⟨.inr lT, n1, n2, pT⟩
/-- the clause takes it: the suite runs, then its name goes -/
theorem catch_as {x n : Str} {np hpos : Pos} {b0 : Stmt} {suite : List Stmt} {rest : List ExceptHandler} {i : Nat} {C2 : Addr} {D : Ends} (hst : X.stack = X.env :: X.outer) (hfr : X.env.frame = some X.env.locals) (hN : X.N.Nodup) (hi : X.N[i]? = some n) (hloc : X.env.scope.names.lookup n = some .local)
    (hg : Gl (X.held e) x) (hm : X.mg x = some (.ref C2)) (hdb : (x == ("__debug__" : Str)) = false) (hC : ∃ bm Nn mN, ExcAt X.base C bm Nn mN ∧ (Value.ref C :: bm).contains (.ref C2) = true) (hC2 : ∃ bm Nn mN, ExcAt X.base C2 bm Nn mN)
    (I : Inv X pins σ H s) (fl : Flown s.heap e C d T .none) (he : H e = some (xobj e C d)) (hT : H T = none) (lT : X.s₀.heap.objs.size ≤ T) (pT : ∀ p ∈ X.pn ++ pins, p.1 ≠ T)
    (hs : At (X.held e) { nx := fun σ2 H2 => D.nx (σ2.set i none) H2, rt := D.rt, bk := fun σ2 H2 => D.bk (σ2.set i none) H2, ct := fun σ2 H2 => D.ct (σ2.set i none) H2 } (b0 :: suite) (σ.set i (some (.ref e))) H) :
    wpAny (model X.prog X.w) X.A (noteFrame (.ref e) X.env) (fun _ s2 => wpAny (model X.prog X.w) X.A (setFlight (.ref e) none) (fun _ s3 =>
      wpAny (model X.prog X.w) X.A (handleBy (.ref e) X.env (.ExceptHandler (some (.Name x np)) (some n) (b0 :: suite) hpos :: rest)) (SP X pins D) X.xe s3) X.xe s2) X.xe s := by
  obtain ⟨bm, Nn, mN, xC, sub⟩ := hC
  obtain ⟨bm2, N2, m2, xC2⟩ := hC2
  have fs : s.heap.FunFrames X.base (X.env :: X.outer) := hst ▸ I.stack
  have ff : X.A.frames = some (X.env :: X.outer) := by rw [I.ok.frames, hst]
  refine note_on (base := X.base) ff fs hfr fl fun g2 T2 k n2 y => ?_
  have I2 := I.noted hst fl he hT lT pT k y.ok
  have l2 : X.s₀.heap.objs.size ≤ T2 := Nat.le_trans I.sz n2
  have h2T : H T2 = none := I.hok.fresh n2
  have p2 : ∀ p ∈ X.pn ++ pins, p.1 ≠ T2 := fun p hp z => by
    have := Heap.lt_size (I.pin p hp).1
    rw [z] at this
    exact absurd n2 (Nat.not_le.mpr this)
  refine flight_none (s := { s with heap := g2 }) y fun g3 k3 y3 => ?_
  obtain ⟨oT2, ts2, u1, u2, _⟩ := y.tb
  have I3 := I2.flown u1 u2 h2T l2 p2 k3
  refine wpAny_handleBy_cons (codeAny_handlers_test ?_) (by intro q; cases q)
  refine wpAny_mono (ld_glob (X := X.held e) (pos := np) (E := fun _ _ => False) (Q := fun u s4 => u = .ref C2 ∧ s4 = { s with heap := g3 }) (I3.held e) hg hm ⟨rfl, rfl⟩ hdb) (fun u s4 z => ?_) fun _ _ z => z.elim
  obtain ⟨rfl, rfl⟩ := z
  obtain ⟨oe, vs, o1, o2, _⟩ := y3.ob
  obtain ⟨hp, gg, dr, tk, os⟩ := s
  refine exc_match (xC.keeps I3.bk) (xC2.keeps I3.bk) o1 o2 sub ?_
  show codeAny _ _ _ _ _
  refine codeAny_handlers_suite_as ?_
  refine flight_none (s := ⟨g3, gg, dr, tk, os⟩) y3 fun g4 k4 y4 => ?_
  obtain ⟨oT3, ts3, w1, w2, _⟩ := y3.tb
  have I4 := I3.flown w1 w2 h2T l2 p2 k4
  refine store_ok (X := X.held e) (v := .ref e) (I4.held e) hN hi (.inl hloc) rfl (fun s5 I5 => ?_) (.inr hloc)
  refine wpAny_mono (hs pins s5 I5) (fun fw s6 sp => ?_) fun _ _ z => z.elim
  have fin : ∀ {σ6 : St} {H6 : Hp} {Q : Unit → Shared → Prop}, Inv (X.held e) pins σ6 H6 s6 → (∀ s7, Inv X pins (σ6.set i none) H6 s7 → Q () s7) → wpAny (model X.prog X.w) X.A (do bindName X.env n .none; unbindBehindTheSuite X.env n hpos) Q X.xe s6 := fun {σ6 H6 Q} I6 q => by
    obtain ⟨m, hn, hk⟩ := I6.loc
    exact wpAny_nameGoes_keeps hloc hn (by rw [I6.ok.kind]; rfl) fun h7 v hn7 hs7 => q _ ((I6.unheld I.ok.hd).forget hN hi hn hk hn7 hs7)
  cases fw with
  | next => obtain ⟨σ6, H6, I6, q⟩ := sp; exact fin I6 fun s7 I7 => ⟨_, H6, I7, q⟩
  | brk => obtain ⟨σ6, H6, I6, q⟩ := sp; exact fin I6 fun s7 I7 => ⟨_, H6, I7, q⟩
  | cont => obtain ⟨σ6, H6, I6, q⟩ := sp; exact fin I6 fun s7 I7 => ⟨_, H6, I7, q⟩
  | ret u => obtain ⟨v, σ6, H6, I6, r, q⟩ := sp; exact fin I6 fun s7 I7 => ⟨v, _, H6, I7, r, q⟩
end
end L2
namespace L2
open PySem PySem.Spec PyProof.Rows
section
variable {X : Cx}
/-- the ends of a suite behind which the i-th name goes -/
abbrev Ends.less (D : Ends) (i : Nat) : Ends := { nx := fun σ2 H2 => D.nx (σ2.set i none) H2, rt := D.rt, bk := fun σ2 H2 => D.bk (σ2.set i none) H2, ct := fun σ2 H2 => D.ct (σ2.set i none) H2 }
/-- what the clause's class takes -/
def Takes (X : Cx) (C C2 : Addr) : Prop := ∃ bm Nn mN, ExcAt X.base C bm Nn mN ∧ (Value.ref C :: bm).contains (.ref C2) = true
theorem ps_try {x n : Str} {np hpos pos : Pos} {b0 : Stmt} {body suite : List Stmt} {i : Nat} {C2 : Addr} (hst : X.stack = X.env :: X.outer) (hfr : X.env.frame = some X.env.locals) (hN : X.N.Nodup) (hi : X.N[i]? = some n) (hloc : X.env.scope.names.lookup n = some .local)
    (hg : Gl X x) (hm : X.mg x = some (.ref C2)) (hdb : (x == ("__debug__" : Str)) = false) (hC2 : ∃ bm Nn mN, ExcAt X.base C2 bm Nn mN) :
    PS X (.Try body [.ExceptHandler (some (.Name x np)) (some n) (b0 :: suite) hpos] [] [] pos) (fun D σ H => ∃ Th, (∀ pins, At (X.trying pins Th) D body σ H) ∧
      ∀ σ' C e H', Th σ' C e H' → Takes X C C2 ∧ At (X.held e) (D.less i) (b0 :: suite) (σ'.set i (some (.ref e))) H') := by
  rintro pins s σ H D I ⟨Th, hb, hh⟩
  refine wpAny_Try_except (wpAny_mono (hb pins [] s (I.trying Th)) (fun f s1 sp => ?_) fun ev s1 z => ?_)
  · cases f with
    | next => obtain ⟨σ1, H1, I1, q⟩ := sp; exact wpAny_execs_nil ⟨σ1, H1, I1.tried, q⟩
    | brk => obtain ⟨σ1, H1, I1, q⟩ := sp; exact ⟨σ1, H1, I1.tried, q⟩
    | cont => obtain ⟨σ1, H1, I1, q⟩ := sp; exact ⟨σ1, H1, I1.tried, q⟩
    | ret u => obtain ⟨v, σ1, H1, I1, r, q⟩ := sp; exact ⟨v, σ1, H1, I1.tried, r, q⟩
  · obtain ⟨e, C, T, d, σ1, H1, rfl, I1, fl, he, hT, lT, pT, th⟩ := z
    obtain ⟨tk, hs⟩ := hh σ1 C e H1 th
    exact catch_as hst hfr hN hi hloc hg hm hdb tk hC2 I1 fl he hT lT pT hs
end
section
variable {X : Cx} {CX : CXT} {k : Nat} {f C : Addr} {fd : FuncData} {ps : List Str} {sp : Sp} {dvs : List V} {ds : List Value} {x m : Str} {p pos apos : Pos} {e o : Expr} {es : List Expr} {ta : TE} {t : TA}
/-- the promise, and how its exceptions pass -/
abbrev Thru (CX : CXT) (X : Cx) (sp : Sp) (σ : St) (vs : List V) (H : Hp) (Q : VK) : Prop := ∃ E, PassesAt CX X σ E ∧ sp vs H Q E
theorem run_thru {pins : List (Addr × Obj)} {σ : St} {H : Hp} {s : Shared} {Q : VK} {us : List Value} {vs : List V} (F : FnOk X.prog X.w X.K X.mg X.base CX k f fd ps sp) (hr : Room k X.A) (hb : Binds X.K fd ps ds) (hd : Vals dvs ds)
    (I : Inv X pins σ H s) (r : Vals vs us) (h : Thru CX X sp σ (vs ++ dvs) H Q) : wpAny (model X.prog X.w) X.A (call (.ref f) us) (EP X pins σ Q) X.xe s := by
  obtain ⟨E, hx, h⟩ := h
  have r2 : Vals (vs ++ dvs) (us ++ ds) := r.append hd
  have hl : (us ++ ds).length = ps.length := (F.len _ _ _ _ h ▸ r2.length).symm
  refine wpAny_call (codeAny_mono (F.run X.A X.stack s H ⟨us, []⟩ _ _ Q E hr I.env0 (hb s us I.kIn hl) r2 h) fun y s' hq => ?_)
  match y, hq with
  | .error ev, hq => exact hx pins H s ev s' I hq
  | .ok (.ret _), hq => exact I.after hq
def tCallX (CX : CXT) (X : Cx) (sp : Sp) (dvs : List V) (t : TA) : TE := fun σ H Q => t σ H fun vs H1 => Thru CX X sp σ (vs ++ dvs) H1 Q
/-- x(e, ..) -/
theorem pe_callX (F : FnOk X.prog X.w X.K X.mg X.base CX k f fd ps sp) (hr : Room k X.A) (hg : Gl X x) (hm : X.mg x = some (.ref f)) (hk : PySem.W.keepIn X.K (.ref f) = true) (hb : Binds X.K fd ps ds) (hd : Vals dvs ds)
    (ha : PA X (e :: es) t) (hdb : (x == ("__debug__" : Str)) = false := by decide) (he : starEach (e :: es) X.env = (false, eval e X.env) :: starEach es X.env := by rfl) (hpl : (backTo pos (starEach es X.env)).any (·.1) = false := by rfl) :
    PE X (.Call (.Name x p) (e :: es) [] pos) (tCallX CX X sp dvs t) := fun pins s σ H Q I h =>
  wpAny_Call_Name_kw (ld_glob I hg hm (PySem.W.callWith_K (h₀ := X.base) I.ok.mod.kin hk (thn (ha pos pins s σ H _ I h) fun us s1 ⟨vs, H1, I1, r, q⟩ => ⟨I1.kIn, run_thru F hr hb hd I1 r q⟩) he hpl) hdb)
end
section
variable {P : Program} {w : World} {K : PySem.W.Frag} {mg : Str → Option Value} {base : Heap}
theorem Fun.okE {x qual : Str} {st : Stmt} {f : Addr} {fd : FuncData} {N ps : List Str} {k : Nat} {sp : Sp} (F : Fun K x qual st f fd) (S : FnScope N ps (defScope st)) (len : ∀ vs H Q E, sp vs H Q E → vs.length = ps.length)
    (hbody : ∀ (cdv : Value) (A : Around) (outer : List Env) (s : Shared) (H : Hp) (vs : List V) (Q : VK) (E : XK), Room k (A.deeper (envOfC qual (defScope st) s.heap.objs.size f cdv)) → sp vs H Q E →
      At (cxOf (CXE P w) P w K mg base N qual (defScope st) f cdv A outer s H E) { nx := fun _ H' => Q .non H', rt := Q } (defBody st) (start N vs) H) : FnOk P w K mg base (CXE P w) (k + 1) f fd ps sp := by
  obtain ⟨oc, od, kV, doc, pm, an, cdv, ct, osl, rfl, lk, hcd⟩ := F.ex
  exact fn_of lk hcd S len fun A outer s H vs Q E hr hsp => at_body (hbody cdv A outer s H vs Q E hr hsp)
end
end L2
namespace L2
open PySem PySem.Spec PyProof.Rows PySem.W
/-- the class's own say on attributes is none -/
structure ExcGet (K : Frag) (C : Addr) : Prop where
  ga : findIn K (.ref C) "__getattribute__" = some (some (.builtin "BaseException.__getattribute__"))
  gh : findIn K (.ref C) "__getattr__" = some none
  sub : mroIn K C (.type "BaseException") = some true
section
variable {prog : Program} {w : World} {A : Around} {E : Value → Shared → Prop} {s : Shared} {K : Frag} {x C : Addr} {ox : Obj} {od : Option Obj} {name : Str}
theorem bex_check {M : Model} {nm : Value} {Q : Unit → Shared → Prop} (G : ExcGet K C) (X : K.In s.heap) (I : InstAt s.heap x ox C od) (q : Q () s) : wpAny M A (checkBuiltinCall "BaseException.__getattribute__" ⟨[.ref x, nm], []⟩) Q E s := by
  obtain ⟨h0, g, d, tt, os⟩ := s
  have k1 : builtinKind "BaseException.__getattribute__" = some .slot := by decide +kernel
  have k2 : splitId "BaseException.__getattribute__" = some ("BaseException", "__getattribute__") := by decide +kernel
  have k3 := F.args_bexc_ga (.ref x) nm
  have LI : Looks M h0 (isInstance (.ref x) (.type "BaseException")) true := I.type.andThen (looks_mroIn X G.sub)
  simp only [checkBuiltinCall, k1, k2]
  refine wpAny_bind (LI.at ?_)
  repeat (first | assumption | wp_step)
theorem bex_by {fill ex : Bool} {tk : Tok} {Q : Value → Shared → Prop} (G : ExcGet K C) (X : K.In s.heap) (I : InstAt s.heap x ox C od)
    (h : wpAny (model prog w) A.in1 (Builtin.«object.__getattribute__» ⟨[.ref x, .str name tk], []⟩) (fun fin s' => match fin with
      | .done (.ret v) => wpAny (model prog w) A (handedOut v) Q E s'
      | _ => False) (fun _ _ => False) s) : wpAny (model prog w) A (getAttrBy (.ref x) (.str name tk) fill ex) Q E s := by
  have X0 := X
  have I0 := I
  obtain ⟨h0, g, d, tt, os⟩ := s
  have f3 := (F.excAttr_ValueError).ga.bind (.ref x)
  have e0 : (ex && onTheHeap (Value.builtin "BaseException.__getattribute__")) = false := by cases ex <;> rfl
  have e2 : (Value.builtin "BaseException.__getattribute__" == Value.builtin "object.__getattribute__") = false := by decide +kernel
  have e1 : (onTheHeap (Value.ref C) && Value.builtin "BaseException.__getattribute__" == Value.builtin "object.__getattribute__") = false := by rw [e2]; rfl
  unfold getAttrBy
  refine wpAny_holding (wpAny_bind (I.type.at (wpAny_bind ((looks_findIn X G.ga).at ?_))))
  dsimp only
  rw [e1]
  unfold getAttrByItsOwn hookBefore callGetattribute boundAndCalled
  rw [e0]
  refine wpAny_bind (show wpAny _ _ (if onTheHeap (Value.ref C) = true then typeLookup (.ref C) "__getattr__" else pure none) _ _ _ from ?_)
  refine ((looks_findIn X G.gh).at ?_)
  simp only [Bool.false_eq_true, if_false]
  refine wpAny_bind (wpAny_attempt (wpAny_holding ?_))
  refine wpAny_bind ?_
  rw [f3]
  refine wpAny_pure ?_
  refine wpAny_call (codeAny_call_builtin (F.excAttr_ValueError).ga.plain F.entry_bexc_ga (bex_check (s := ⟨h0, g, d, tt, os⟩) G X0 I0 (wpAny_mono h (fun fin s' z => ?_) fun _ _ z => z.elim)))
  rcases fin with (_ | _ | _ | _) | _ <;> first | exact z.elim | exact z
/-- its class -/
theorem bex_class {Q : Option Value → Shared → Prop} (G : ExcGet K C) (X : K.In s.heap) (I : InstAt s.heap x ox C od) (hm : mroIn K C (.type "object") = some true) (hf : findObj K C od "__class__" = some (.bind (.builtin "getset_descriptor.__get__") (.builtin "object.__class__")))
    (h : Q (some (.ref C)) { s with toks := s.toks + 1 }) : wpAny (model prog w) A (getAttr? (.ref x) "__class__") Q E s := by
  have L1 : ∀ M, Looks M s.heap _ _ := fun M => looks_find (M := M) X I hf
  have L0 : ∀ M, Looks M s.heap _ _ := fun M => I.type (M := M)
  obtain ⟨h0, g, d, tt, os⟩ := s
  unfold getAttr? getAttrBy?
  refine wpAny_bind (wpAny_mkText (wpAny_bind (wpAny_attempt (bex_by (s := ⟨h0, g, d, tt + 1, os⟩) G X I ?_))))
  unfold Builtin.«object.__getattribute__»
  refine wpAny_bind (wpAny_pure (wpAny_bind (wpAny_pure (wpAny_bind ((L0 _).at (wpAny_bind ((L1 _).at ?_)))))))
  refine wpAny_bind (wpAny_holding (wpAny_call (class_get (s := ⟨h0, g, d, tt + 1, os⟩) X I hm ?_)))
  refine wpAny_pure ?_
  show wpAny _ _ (handedOut (.ref C)) _ _ _
  exact wpAny_pure (wpAny_pure h)
/-- isinstance takes it -/
theorem kitx_exc {cd : ClassData} (G : ExcGet K C) (hc : clsIn K C = some cd) (hm : mroIn K C (.type "object") = some true) (ha : findIn K (.ref C) "__class__" = some (some (.builtin "object.__class__")))
    (hn : specialIn K (.builtin "object.__class__") "__get__" = some (some (.builtin "getset_descriptor.__get__"))) (htk : takesIn K (.builtin "object.__class__") = some true) : KitX K (.ref x) (.ref C) (fun h => ∃ ox od, InstAt h x ox C od) where
  ty := fun _ _ _ ⟨_, _, I⟩ => I.type
  it := fun _ _ X _ => by
    unfold clsIn at hc
    split at hc
    next ho => exact fun A' Q' E' s' k q => wpAny_bind (wpAny_loadPart (k _ _ (X _ _ ho)) (wpAny_pure q))
    next => cases hc
  ne := fun h tp dd its n sl X htp => by
    refine Bool.eq_false_iff.mpr fun q => ?_
    have e : C = tp := Value.ref.inj (beq_iff_eq.mp q)
    unfold clsIn at hc
    split at hc
    next ho => rw [e] at ho; have z := (X _ _ ho).symm.trans htp; cases z
    next => cases hc
  ca := fun X ⟨_, _, I⟩ k => bex_class G X I hm (by unfold findObj; rw [hc]; simp only [Option.bind_some, ha, hn, htk]) k
end
end L2
namespace L2
open PySem PySem.Spec PyProof.Rows PySem.W
def excC (K : Frag) (C : Addr) : Bool :=
  match K.lookup C with
  | some ⟨.type "type", _, .cls cd, sl⟩ =>
    match cd.mro, sl.toList with
    | .ref D :: r, [_, _, _, _, some (.builtin m), _] => (D == C && m == "ValueError.__new__") && (!cd.hasDel && (tailIn K VE r && nsOkIn K cd.ns))
    | _, _ => false
  | _ => false
theorem exc_atC {K : Frag} {h : Heap} {C : Addr} (kin : K.In h) (q : excC K C = true) : ∃ bm Nn mN, ExcAt h C bm Nn mN := by
  unfold excC at q
  split at q
  next dd cd sl look =>
    split at q
    next D r c0 c1 c2 c3 m c5 em es =>
      simp only [Bool.and_eq_true, beq_iff_eq, Bool.not_eq_true'] at q
      obtain ⟨⟨e1, e2⟩, del, tl, nsok⟩ := q
      subst e1 e2
      have esl : sl = #[c0, c1, c2, c3, some (.builtin "ValueError.__new__"), c5] := Array.toList_inj.mp es
      obtain ⟨f1, f2, f3, f4, f5, f6, f7, f8, f9, f10, f11⟩ := cd
      have em : f3 = .ref D :: r := em
      have del : f11 = false := del
      subst em del esl
      exact ⟨r, f4, _, ⟨_, _, _, _, _, _, _, _, _, _, _, _, _, _, kin _ _ look⟩, .of_isNs (isNs_of_in kin nsok), tail_of_in kin tl⟩
    next => cases q
  next => cases q
section
variable {prog : Program} {w : World} {A : Around} {E : Value → Shared → Prop} {h : Heap} {g : Array GenState} {d : Drawn} {t : Nat} {os : OsState} {K : Frag} {C fI : Addr} {oI : Obj} {bm : List Value} {Nn : Addr} {mN : Str → Option Value} {rest : List Value}
end
end L2
namespace L2
open PySem PySem.Spec PyProof.Rows PySem.W
section
variable {prog : Program} {w : World} {A : Around} {E : Value → Shared → Prop} {s : Shared} {K : Frag} {e C : Addr} {oe : Obj} {od : Option Obj} {bm : List Value} {Nn : Addr} {mN : Str → Option Value} {name : Str} {v : Value} {vs : Array Value}
end
end L2
namespace L2
open PySem PySem.Spec PyProof.Rows PySem.W
/-- what of the text an exception's class must have -/
structure ExcC (K : Frag) (C : Addr) : Prop where
  at_ : excC K C = true
  ge : ExcGet K C
  sa : findIn K (.ref C) "__setattr__" = some (some (.builtin "object.__setattr__"))
  ob : mroIn K C (.type "object") = some true
  hd : hasDictIn K C = true
section
variable {X : Cx} {pins : List (Addr × Obj)} {σ : St} {H : Hp} {s : Shared} {e C dx : Addr} {d : Option Addr} {fs : List (Str × V)} {f : Str} {A : Around} {E : Value → Shared → Prop}
theorem xd_get {P : Program} {w : World} {h : Heap} (k : HOk P w H h) (q : H dx = some (.xd fs)) : ∃ mA, h.Ns1 dx mA ∧ ∀ g, RelO (fs.lookup g) (mA g) := k dx _ q
end
end L2
namespace L2
open PySem PySem.Spec PyProof.Rows PySem.W
section
variable {X : Cx} {o value ex : Expr} {f : Str} {pos pos' : Pos} {ta tv : TE}
/-- isinstance of an exception -/
structure ExcI (K : Frag) (C : Addr) : Prop extends ExcC K C where
  ca : findIn K (.ref C) "__class__" = some (some (.builtin "object.__class__"))
  cg : specialIn K (.builtin "object.__class__") "__get__" = some (some (.builtin "getset_descriptor.__get__"))
  ct : takesIn K (.builtin "object.__class__") = some true
theorem xisinst {pins : List (Addr × Obj)} {σ : St} {H : Hp} {s : Shared} {e C : Addr} {d : Option Addr} {c : Value} {b : Bool} {A : Around} {E : Value → Shared → Prop} {Q : Value → Shared → Prop} (I : Inv X pins σ H s) (he : H e = some (xobj e C d)) (hd : ∀ dx, d = some dx → ∃ fs, H dx = some (.xd fs))
    (k : ExcI X.K C) (q : kitOne X.K (.ref C) c = some b) (h : ∀ tk, Q (.bool b) { s with toks := tk }) : wpAny (model X.prog X.w) A (call (.builtin "isinstance") [.ref e, c]) Q E s := by
  obtain ⟨oe, vs, a1, a2, a3, a4, _⟩ := (I.hok e _ he).1
  obtain ⟨cd, hc, _⟩ := any_some k.hd
  refine kia_one (kitx_exc k.ge hc k.ob k.ca k.cg k.ct) I.kIn ?_ q (fun z => nomatch z) h
  cases d with
  | none => exact ⟨oe, none, a1, a2, by unfold notCls; rw [a4], by rw [a3]; trivial⟩
  | some dx =>
    obtain ⟨fs, hx⟩ := hd dx rfl
    obtain ⟨mA, n1, _⟩ := xd_get I.hok hx
    obtain ⟨od, god, _⟩ := lookIn_ns n1
    exact ⟨oe, some od, a1, a2, by unfold notCls; rw [a4], by rw [a3]; exact god⟩
theorem call_isiX : CallR X (.builtin "isinstance") (fun xs H Q => ∃ e C d a b, xs = [.ref e, .ref a] ∧ H e = some (xobj e C d) ∧ (∀ dx, d = some dx → ∃ fs, H dx = some (.xd fs)) ∧ ExcI X.K C ∧ kitOne X.K (.ref C) (.ref a) = some b ∧ Q (.bl b) H) := by
  intro pins s σ H xs us Q I r h
  obtain ⟨e, C, d, a, b, rfl, he, hd, k, kk, q⟩ := h
  obtain ⟨u, w', rfl, ru, rw'⟩ := vals2 r
  cases rw'
  cases ru
  exact xisinst I he hd k kk fun tk => ⟨.bl b, H, I.tok _, rfl, q⟩
theorem call_isiXT : CallR X (.builtin "isinstance") (fun xs H Q => ∃ e C d cv b, xs = [.ref e, .ty cv] ∧ H e = some (xobj e C d) ∧ (∀ dx, d = some dx → ∃ fs, H dx = some (.xd fs)) ∧ ExcI X.K C ∧ kitOne X.K (.ref C) (.type cv) = some b ∧ Q (.bl b) H) := by
  intro pins s σ H xs us Q I r h
  obtain ⟨e, C, d, a, b, rfl, he, hd, k, kk, q⟩ := h
  obtain ⟨u, w', rfl, ru, rw'⟩ := vals2 r
  cases rw'
  cases ru
  exact xisinst I he hd k kk fun tk => ⟨.bl b, H, I.tok _, rfl, q⟩
end
end L2
namespace L2
open PySem PySem.Spec PyProof.Rows PySem.W
section
variable {P : Program} {w : World} {K : PySem.W.Frag} {mg : Str → Option Value} {base : Heap} {N : List Str} {qual : Str} {scope : Scope} {f : Addr} {cd : Value} {A : Around} {outer : List Env} {s : Shared} {H : Hp} {E : XK}
end
end L2
namespace L2
open PySem PySem.Spec PyProof.Rows PySem.W
section
variable {P : Program} {w : World} {K : Frag} {mg : Str → Option Value} {base : Heap} {CX : CXT} {k : Nat} {f : Addr} {fd : FuncData} {ps : List Str} {sp : Sp}
end
section
variable {X : Cx} {CX : CXT} {k : Nat} {f : Addr} {fd : FuncData} {ps : List Str} {sp : Sp} {x : Str} {p pos : Pos} {e : Expr} {es : List Expr} {t : TA} {E : XK}
end
end L2
namespace L2
open PySem PySem.Spec PyProof.Rows PySem.W
section
variable {X : Cx} {pins : List (Addr × Obj)} {σ : St} {H : Hp} {s : Shared} {e C : Addr} {d : Option Addr} {A : Around} {E : Value → Shared → Prop}
end
section
variable {X : Cx} {T : Str} {tp apos pos : Pos} {e1 : Expr} {es : List Expr} {t : TA} {D : Addr}
end
end L2
namespace L2
open PySem PySem.Spec PyProof.Rows PySem.W
/-- the clause's class takes it, out of the text -/
theorem takes_of {X : Cx} {C C2 : Addr} (kin : X.K.In X.base) (q : excC X.K C = true) (m : mroIn X.K C (.ref C2) = some true) : Takes X C C2 := by
  unfold excC at q
  split at q
  next dd cd sl look =>
    split at q
    next D r c0 c1 c2 c3 mm c5 em es =>
      simp only [Bool.and_eq_true, beq_iff_eq, Bool.not_eq_true'] at q
      obtain ⟨⟨e1, e2⟩, del, tl, nsok⟩ := q
      subst e1 e2
      have esl : sl = #[c0, c1, c2, c3, some (.builtin "ValueError.__new__"), c5] := Array.toList_inj.mp es
      have con : cd.mro.contains (.ref C2) = true := by
        unfold mroIn clsIn at m
        rw [look] at m
        simp only [Option.bind_some] at m
        split at m
        · cases m
        · exact Option.some.inj m
      obtain ⟨f1, f2, f3, f4, f5, f6, f7, f8, f9, f10, f11⟩ := cd
      have em : f3 = .ref D :: r := em
      have del : f11 = false := del
      subst em del esl
      exact ⟨r, f4, _, ⟨⟨_, _, _, _, _, _, _, _, _, _, _, _, _, _, kin _ _ look⟩, .of_isNs (isNs_of_in kin nsok), tail_of_in kin tl⟩, con⟩
    next => cases q
  next => cases q
end L2
namespace L2
open PySem PySem.Spec PyProof.Rows
section
variable {X : Cx} {pins : List (Addr × Obj)} {σ : St} {H : Hp} {s : Shared}
end
/-- try, by what the text says of the classes -/
theorem ps_tryK {X : Cx} {x n : Str} {np hpos pos : Pos} {b0 : Stmt} {body suite : List Stmt} {i : Nat} {C2 : Addr} (hst : X.stack = X.env :: X.outer) (hfr : X.env.frame = some X.env.locals) (hN : X.N.Nodup) (hi : X.N[i]? = some n) (hloc : X.env.scope.names.lookup n = some .local)
    (hg : Gl X x) (hm : X.mg x = some (.ref C2)) (hdb : (x == ("__debug__" : Str)) = false) (h2 : excC X.K C2 = true) :
    PS X (.Try body [.ExceptHandler (some (.Name x np)) (some n) (b0 :: suite) hpos] [] [] pos) (fun D σ H => ∃ Th, (∀ pins, At (X.trying pins Th) D body σ H) ∧
      ∀ σ' C e H', Th σ' C e H' → excC X.K C = true ∧ PySem.W.mroIn X.K C (.ref C2) = some true ∧ At (X.held e) (D.less i) (b0 :: suite) (σ'.set i (some (.ref e))) H') := fun pins s σ H D I ⟨Th, hb, hh⟩ =>
  (ps_try hst hfr hN hi hloc hg hm hdb (exc_atC I.ok.mod.kin h2)) pins s σ H D I ⟨Th, hb, fun σ' C e H' th => let ⟨a, b, c⟩ := hh σ' C e H' th; ⟨takes_of I.ok.mod.kin a b, c⟩⟩
end L2
namespace L2
open PySem PySem.Spec PyProof.Rows
section
variable {X : Cx} {pins : List (Addr × Obj)} {σ : St} {H : Hp} {s : Shared}
def PlainV (xs ys : List V) : Prop := ∀ x ∈ xs, ∀ y ∈ ys, flatV x = true ∧ flatV y = true ∧ eqV x y = decide (x = y)
theorem plain_items {xs ys : List V} {is js : List Value} {A : Around} (p : PlainV xs ys) (r1 : Vals xs is) (r2 : Vals ys js) :
    ∀ j (h1 : j < is.toArray.size) (h2 : j < js.toArray.size), SeqAt.EqAt A s is.toArray[j] js.toArray[j] ((fun j => decide (xs[j]? = ys[j]?)) j) := by
  intro j h1 h2
  have l1 := r1.length
  have l2 := r2.length
  have j1 : j < xs.length := by simpa [l1] using h1
  have j2 : j < ys.length := by simpa [l2] using h2
  have e1 := List.getElem?_eq_getElem j1
  have e2 := List.getElem?_eq_getElem j2
  obtain ⟨u1, g1, q1⟩ := r1.get e1
  obtain ⟨u2, g2, q2⟩ := r2.get e2
  have g1' : is.toArray[j] = u1 := by simpa [List.getElem?_eq_some_iff] using (List.getElem?_eq_some_iff.mp g1).2
  have g2' : js.toArray[j] = u2 := by simpa [List.getElem?_eq_some_iff] using (List.getElem?_eq_some_iff.mp g2).2
  rw [g1', g2']
  obtain ⟨f1, f2, f3⟩ := p _ (List.getElem_mem j1) _ (List.getElem_mem j2)
  have := eqAt_V (A := A) (s := s) q1 q2 f1 f2
  rw [f3] at this
  have e : decide (xs[j]? = ys[j]?) = decide (xs[j] = ys[j]) := by rw [e1, e2]; simp
  show SeqAt.EqAt A s u1 u2 (decide (xs[j]? = ys[j]?))
  rw [e]
  exact this
theorem all_same {xs ys : List V} (h : xs.length = ys.length) : ((List.range xs.length).all fun j => decide (xs[j]? = ys[j]?)) = decide (xs = ys) := by
  rw [Bool.eq_iff_iff, List.all_eq_true, decide_eq_true_eq]
  constructor
  · intro z
    refine List.ext_getElem? fun j => ?_
    by_cases hj : j < xs.length
    · simpa using z j (List.mem_range.mpr hj)
    · rw [List.getElem?_eq_none (by omega), List.getElem?_eq_none (by omega)]
  · intro z j _
    rw [z]; simp
def rNeLs (K : PySem.W.Frag) : R2 := fun x y H Q => ∃ a b xs ys, x = .ref a ∧ y = .ref b ∧ SqL K H a xs ∧ SqL K H b ys ∧ PlainV xs ys ∧ Q (.bl (!decide (xs = ys))) H
theorem op_neLs (hu : X.A.units < cLine) : OpR X (compareOp .NotEq) (rNeLs X.K) := by
  intro pins s σ H x y v u Q I rx ry h
  obtain ⟨a, b, xs, ys, rfl, rfl, ha, hb, hp, q⟩ := h
  cases rx
  cases ry
  obtain ⟨is, r1, p1, _⟩ := I.list ha
  obtain ⟨js, r2, p2, _⟩ := I.list hb
  obtain ⟨o1, n1, e1, c1, _, d1⟩ := p1
  obtain ⟨o2, n2, e2, c2, _, d2⟩ := p2
  have l1 := r1.length
  have l2 := r2.length
  by_cases hl : xs.length = ys.length
  · refine PySem.SeqAt.RcNeAt.lists (e := fun j => decide (xs[j]? = ys[j]?)) ⟨o1, e1, c1, n1, d1⟩ ⟨o2, e2, c2, n2, d2⟩ (by simp [← l1, ← l2, hl]) hu (plain_items hp r1 r2) _ _ _ _ ?_
    have z : is.toArray.size = xs.length := by simp [← l1]
    rw [z, all_same hl]
    exact ⟨.bl _, H, I, rfl, q⟩
  · refine PySem.SeqAt.RcNeAt.lists_lengths ⟨o1, e1, c1, n1, d1⟩ ⟨o2, e2, c2, n2, d2⟩ (by simpa [← l1, ← l2] using hl) hu _ _ _ _ ?_
    rw [decide_eq_false (fun z => hl (by rw [z]))] at q
    exact ⟨.bl true, H, I, rfl, q⟩
theorem plain_ints {α β : Type} (f : α → Int) (g : β → Int) (xs : List α) (ys : List β) : PlainV (xs.map fun x => V.int (f x)) (ys.map fun y => V.int (g y)) := by
  intro x hx y hy
  obtain ⟨a, _, rfl⟩ := List.mem_map.mp hx
  obtain ⟨b, _, rfl⟩ := List.mem_map.mp hy
  refine ⟨rfl, rfl, ?_⟩
  show (f a == g b) = _
  rw [Bool.eq_iff_iff]
  simp
end
end L2
namespace L2
open PySem PySem.Spec PyProof.Rows
section
variable {X : Cx} {pins : List (Addr × Obj)} {σ : St} {H : Hp} {s : Shared}
end
end L2
namespace L2
open PySem PySem.Spec PyProof.Rows
def AlikeR (K : PySem.W.Frag) (H : Hp) : Nat → V → V → Prop
  | 0, x, y => x = y ∧ (flatV x = true ∨ ∃ a, x = .ref a)
  | n + 1, x, y => (x = y ∧ (flatV x = true ∨ ∃ a, x = .ref a)) ∨ ∃ a b xs ys, x = .ref a ∧ y = .ref b ∧ ((SqL K H a xs ∧ SqL K H b ys) ∨ (SqT K H a xs ∧ SqT K H b ys)) ∧ xs.length = ys.length ∧ ∀ (j : Nat) (x y : V), xs[j]? = some x → ys[j]? = some y → AlikeR K H n x y
section
variable {X : Cx} {pins : List (Addr × Obj)} {σ : St} {H : Hp} {s : Shared}
theorem alikeR_items {n : Nat} {xs ys : List V} {is js : List Value} {A : Around} (ih : ∀ (x y : V) (u v : Value), RelV x u → RelV y v → AlikeR X.K H n x y → SeqAt.EqAt A s u v true) (r1 : Vals xs is) (r2 : Vals ys js) (h : ∀ (j : Nat) (x y : V), xs[j]? = some x → ys[j]? = some y → AlikeR X.K H n x y) :
    ∀ j (h1 : j < is.toArray.size) (h2 : j < js.toArray.size), SeqAt.EqAt A s is.toArray[j] js.toArray[j] ((fun _ => true) j) := by
  intro j h1 h2
  have l1 := r1.length
  have l2 := r2.length
  have j1 : j < xs.length := by simpa [l1] using h1
  have j2 : j < ys.length := by simpa [l2] using h2
  obtain ⟨u1, g1, q1⟩ := r1.get (List.getElem?_eq_getElem j1)
  obtain ⟨u2, g2, q2⟩ := r2.get (List.getElem?_eq_getElem j2)
  have g1' : is.toArray[j] = u1 := by simpa [List.getElem?_eq_some_iff] using (List.getElem?_eq_some_iff.mp g1).2
  have g2' : js.toArray[j] = u2 := by simpa [List.getElem?_eq_some_iff] using (List.getElem?_eq_some_iff.mp g2).2
  rw [g1', g2']
  exact ih _ _ _ _ q1 q2 (h j _ _ (List.getElem?_eq_getElem j1) (List.getElem?_eq_getElem j2))
theorem same_eq {A : Around} {x : V} {u v : Value} (rx : RelV x u) (ry : RelV x v) (h : flatV x = true ∨ ∃ a, x = .ref a) : SeqAt.EqAt A s u v true := by
  rcases h with f | ⟨a, rfl⟩
  · have := eqAt_V (A := A) (s := s) rx ry f f
    rwa [eqV_refl f] at this
  · cases rx
    cases ry
    exact SeqAt.EqAt.same _
theorem alikeR_eq (I : Inv X pins σ H s) : ∀ (n : Nat) (A : Around) (x y : V) (u v : Value), A.units + n < cLine → RelV x u → RelV y v → AlikeR X.K H n x y → SeqAt.EqAt A s u v true
  | 0, A, x, y, u, v, _, rx, ry, ⟨e, f⟩ => by
    subst e
    exact same_eq rx ry f
  | n + 1, A, x, y, u, v, hu, rx, ry, h => by
    rcases h with ⟨e, f⟩ | ⟨a, b, xs, ys, rfl, rfl, hs, hl, hj⟩
    · subst e
      exact same_eq rx ry f
    · cases rx
      cases ry
      by_cases ne : a = b
      · subst ne; exact SeqAt.EqAt.same _
      have ih := fun x y u v => alikeR_eq I n A.in1 x y u v (by show A.units + 1 + n < cLine; omega)
      rcases hs with ⟨h1, h2⟩ | ⟨h1, h2⟩
      · obtain ⟨is, r1, p1, _⟩ := I.list h1
        obtain ⟨js, r2, p2, _⟩ := I.list h2
        obtain ⟨o1, n1, e1, c1, _, d1⟩ := p1
        obtain ⟨o2, n2, e2, c2, _, d2⟩ := p2
        have sz : is.toArray.size = js.toArray.size := by simp [← r1.length, ← r2.length, hl]
        have := SeqAt.EqAt.of_refs ne (SeqAt.RcAt.lists ⟨o1, e1, c1, n1, d1⟩ ⟨o2, e2, c2, n2, d2⟩ sz (by omega) (alikeR_items ih r1 r2 hj))
        have z : ((List.range is.toArray.size).all fun _ => true) = true := List.all_eq_true.mpr fun _ _ => rfl
        rwa [z] at this
      · obtain ⟨is, r1, p1, _⟩ := I.tuple h1
        obtain ⟨js, r2, p2, _⟩ := I.tuple h2
        obtain ⟨o1, e1, c1, n1, d1⟩ := p1
        obtain ⟨o2, e2, c2, n2, d2⟩ := p2
        have := SeqAt.EqAt.of_refs ne (SeqAt.RcAt.tuples ⟨o1, e1, c1, n1, d1⟩ ⟨o2, e2, c2, n2, d2⟩ (by omega) (alikeR_items ih r1 r2 hj))
        have z : (((List.range (min is.toArray.size js.toArray.size)).all fun _ => true) && is.toArray.size == js.toArray.size) = true := by simp [← r1.length, ← r2.length, hl]
        rwa [z] at this
def rNeR (K : PySem.W.Frag) (n : Nat) : R2 := fun x y H Q => ∃ a b xs ys, x = .ref a ∧ y = .ref b ∧ ((SqL K H a xs ∧ SqL K H b ys) ∨ (SqT K H a xs ∧ SqT K H b ys)) ∧ xs.length = ys.length ∧ (∀ (j : Nat) (x y : V), xs[j]? = some x → ys[j]? = some y → AlikeR K H n x y) ∧ Q (.bl false) H
theorem op_neR (n : Nat) (hu : X.A.units + (n + 1) < cLine) : OpR X (compareOp .NotEq) (rNeR X.K n) := by
  intro pins s σ H x y v u Q I rx ry h
  obtain ⟨a, b, xs, ys, rfl, rfl, hs, hl, hj, q⟩ := h
  cases rx
  cases ry
  have ih := fun x y u v => alikeR_eq I n X.A.in1 x y u v (by show X.A.units + 1 + n < cLine; omega)
  rcases hs with ⟨ha, hb⟩ | ⟨ha, hb⟩
  · obtain ⟨is, r1, p1, _⟩ := I.list ha
    obtain ⟨js, r2, p2, _⟩ := I.list hb
    obtain ⟨o1, n1, e1, c1, _, d1⟩ := p1
    obtain ⟨o2, n2, e2, c2, _, d2⟩ := p2
    refine PySem.SeqAt.RcNeAt.lists (e := fun _ => true) ⟨o1, e1, c1, n1, d1⟩ ⟨o2, e2, c2, n2, d2⟩ (by simp [← r1.length, ← r2.length, hl]) (by omega) (alikeR_items ih r1 r2 hj) _ _ _ _ ?_
    have z : ((List.range is.toArray.size).all fun _ => true) = true := List.all_eq_true.mpr fun _ _ => rfl
    rw [z]
    exact ⟨.bl false, H, I, rfl, q⟩
  · obtain ⟨is, r1, p1, _⟩ := I.tuple ha
    obtain ⟨js, r2, p2, _⟩ := I.tuple hb
    obtain ⟨o1, e1, c1, n1, d1⟩ := p1
    obtain ⟨o2, e2, c2, n2, d2⟩ := p2
    refine PySem.SeqAt.RcNeAt.tuples (e := fun _ => true) ⟨o1, e1, c1, n1, d1⟩ ⟨o2, e2, c2, n2, d2⟩ (by omega) (alikeR_items ih r1 r2 hj) _ _ _ _ ?_
    have z : (((List.range (min is.toArray.size js.toArray.size)).all fun _ => true) && is.toArray.size == js.toArray.size) = true := by simp [← r1.length, ← r2.length, hl]
    rw [z]
    exact ⟨.bl false, H, I, rfl, q⟩
end
end L2
namespace L2
open PySem PySem.Spec PyProof.Rows
section
variable {X : Cx} {e v1 v2 : Expr} {es : List Expr} {te : TE} {pos : Pos}
/-- the parts of an f-string, from the left -/
abbrev TF := St → Hp → Str → (Str → Hp → Prop) → Prop
def PF (X : Cx) (es : List Expr) (t : TF) : Prop :=
  ∀ (pins : List (Addr × Obj)) (s : Shared) (σ : St) (H : Hp) (acc : Str) (Q : Str → Hp → Prop), Inv X pins σ H s → t σ H acc Q → wpAny (model X.prog X.w) X.A (joinParts acc (evalEach es X.env)) (EP X pins σ (fun v H' => ∃ z, v = .str z ∧ Q z H')) X.xe s
def tfNil : TF := fun _ H acc Q => acc.length ≤ sizeLine ∧ Q acc H
def tfStr (x : Str) (t : TF) : TF := fun σ H acc Q => (acc ++ x).length ≤ sizeLine ∧ t σ H (acc ++ x) Q
def tfVal (te : TE) (t : TF) : TF := fun σ H acc Q => te σ H fun v H1 => ∃ x, ((v = .str x ∧ x.length ≤ sizeLine) ∨ (∃ i : Int, v = .int i ∧ i.natAbs.log2 < 1920 ∧ x = PySem.Str.ofString (toString i))) ∧ (acc ++ x).length ≤ sizeLine ∧ t σ H1 (acc ++ x) Q
variable {t : TF}
theorem pf_nil : PF X [] tfNil := fun pins s σ H acc Q I h => joinParts_nil (s := s) ⟨.str acc, H, I.tok _, ⟨_, rfl⟩, acc, rfl, h.2⟩ h.1
theorem pf_str {x : Str} {j : Nat} {p : Pos} (hr : PF X es t) : PF X (.Constant (.str x) j p :: es) (tfStr x t) := by
  intro pins s σ H acc Q I h
  show wpAny _ _ (joinParts acc (eval (.Constant (.str x) j p) X.env :: evalEach es X.env)) _ _ s
  refine joinParts_cons (thn (pe_str pins s σ H (fun v H' => v = .str x ∧ H' = H) I ⟨rfl, rfl⟩) fun u s1 ⟨v, H1, I1, r1, e1, e2⟩ => ?_)
  subst e1 e2
  obtain ⟨tk, rfl⟩ := r1
  exact ⟨h.1, hr pins s1 σ _ _ Q I1 h.2⟩
theorem pf_val {p : Pos} (he : PE X e te) (hr : PF X es t) : PF X (.FormattedValue e (-1) none p :: es) (tfVal te t) := by
  intro pins s σ H acc Q I h
  show wpAny _ _ (joinParts acc (eval (.FormattedValue e (-1) none p) X.env :: evalEach es X.env)) _ _ s
  refine joinParts_cons (FormattedValue_plain (thn (he pins s σ H _ I h) fun u s1 ⟨v, H1, I1, r1, x, hx, hl, q⟩ => ?_))
  rcases hx with ⟨rfl, hz⟩ | ⟨i, rfl, hz, rfl⟩
  · obtain ⟨tk, rfl⟩ := r1
    exact formatField_str (fun t' tk' => ⟨hl, hr pins _ σ _ _ Q (I1.tok _) q⟩) hz
  · obtain ⟨tk, rfl⟩ := r1
    exact formatField_int_small hz ⟨hl, hr pins _ σ _ _ Q (I1.tok _) q⟩
theorem pe_fstr (h : PF X (v1 :: v2 :: es) t) : PE X (.JoinedStr (v1 :: v2 :: es) pos) (fun σ H Q => t σ H Str.empty fun z H' => Q (.str z) H') := by
  intro pins s σ H Q I hq
  refine JoinedStr_many (thn (h pins s σ H Str.empty _ I hq) fun u s1 ⟨v, H1, I1, r1, z, e, q⟩ => ⟨v, H1, I1, r1, by rw [e]; exact q⟩)
end
end L2
namespace L2
open PySem PySem.Spec PyProof.Rows PySem.W
section
variable {X : Cx}
theorem vals_refs : ∀ {as : List Addr} {us : List Value}, Vals (as.map V.ref) us → us = as.map Value.ref
  | [], _, .nil => rfl
  | a :: as, _, .cons h t => by
    cases h
    rw [vals_refs t]
    rfl
/-- isinstance of an exception, several classes -/
theorem call_isiXs : CallR X (.builtin "isinstance") (fun xs H Q => ∃ (e C : Addr) (d : Option Addr) (p : Addr) (as : List Addr) (b : Bool), xs = [.ref e, .ref p] ∧ SqT X.K H p (as.map V.ref) ∧ H e = some (xobj e C d) ∧ (∀ dx, d = some dx → ∃ fs, H dx = some (.xd fs)) ∧ ExcI X.K C ∧ kitAny X.K (.ref C) (as.map Value.ref) = some b ∧ Q (.bl b) H) := by
  intro pins s σ H xs us Q I r h
  obtain ⟨e, C, d, p, as, b, rfl, hp, he, hd, k, kk, q⟩ := h
  obtain ⟨u, w', rfl, ru, rw'⟩ := vals2 r
  cases rw'
  cases ru
  obtain ⟨its, r1, ⟨⟨oc, od, odt, osl⟩, g1, g2, n, g3⟩, _⟩ := I.tuple hp
  obtain rfl := vals_refs r1
  have g2 : oc = .type "tuple" := g2
  have g3 : odt = _ := g3
  subst g2 g3
  obtain ⟨oe, vs, a1, a2, a3, a4, _⟩ := (I.hok e _ he).1
  obtain ⟨cd, hc, _⟩ := any_some k.hd
  refine kia_tup (kitx_exc k.ge hc k.ob k.ca k.cg k.ct) I.kIn ?_ g1 kk (fun z => nomatch z) fun tk => ⟨.bl b, H, I.tok _, rfl, q⟩
  cases d with
  | none => exact ⟨oe, none, a1, a2, by unfold notCls; rw [a4], by rw [a3]; trivial⟩
  | some dx =>
    obtain ⟨fs, hx⟩ := hd dx rfl
    obtain ⟨mA, n1, _⟩ := xd_get I.hok hx
    obtain ⟨od, god, _⟩ := lookIn_ns n1
    exact ⟨oe, some od, a1, a2, by unfold notCls; rw [a4], by rw [a3]; exact god⟩
theorem kitAny_none {K : Frag} {t : Value} : ∀ {as : List Addr}, (∀ a ∈ as, kitOne K t (.ref a) = some false) → kitAny K t (as.map Value.ref) = some false
  | [], _ => rfl
  | a :: as, h => by
    rw [List.map_cons, kitAny, h a (by simp)]
    exact kitAny_none fun b hb => h b (List.mem_cons_of_mem _ hb)
end
end L2
namespace L2
open PySem PySem.Spec PyProof.Rows
/-- the loop of a comprehension with a test -/
theorem compIfLoop_go {prog : Program} {w : World} {A : Around} {R : Result → Shared → Prop} {s : Shared} {elt target iter c : Expr} {scope : Scope} {pos : Pos} {it acc : Value} {env : Env} (J : Nat → Shared → Prop)
    (turn : ∀ n s, J n s → wpAny (model prog w) A (pyNext it) (fun r s₁ => match r with
      | none => R (.ok .next) s₁
      | some v => wpAny (model prog w) A (letOwnedTupleGo target it v) (fun _ s₁ => wpAny (model prog w) A (assign target env v) (fun _ s₂ => wpAny (model prog w) A (isTrue c env (eval c env)) (fun ok s₂ => if ok = true then wpAny (model prog w) A (eval elt env) (fun x s₃ =>
          wpAny (model prog w) A (call (.builtin "list.append") [acc, x]) (fun _ s₄ => ∃ m, m < n ∧ J m s₄) (fun _ _ => False) s₃)
          (fun _ _ => False) s₂ else ∃ m, m < n ∧ J m s₂) (fun _ _ => False) s₂) (fun _ _ => False) s₁) (fun _ _ => False) s₁) (fun _ _ => False) s)
    (n : Nat) (h : J n s) :
    codeAny (model prog w) A (.compLoop (.ListComp elt [⟨target, iter, [c], 0⟩] scope pos) 0 it acc env) R s := by
  refine codeAny_loop rfl J (fun n s hI => ?_) n h
  show wpAny _ _ ((compTurn (.ListComp elt [⟨target, iter, [c], 0⟩] scope pos) 0 it acc env).onRaise (fun x => do noteFrame x env; theTreesLotGoes x)) _ _ s
  refine wpAny_noted ?_
  rw [compTurn_list]
  refine wpAny_bind (wpAny_standAt (wpAny_bind (wpAny_mono (turn n s hI) (fun r s₁ h₁ => ?_) fun _ _ h' => h'.elim)))
  cases r with
  | none => exact wpAny_pure h₁
  | some v =>
    refine wpAny_bind (wpAny_mono h₁ (fun _ s₁' h₁ => ?_) fun _ _ h' => h'.elim)
    refine wpAny_bind (wpAny_mono h₁ (fun _ s₂ h₂ => wpAny_bind (wpAny_tests_one (wpAny_mono h₂ (fun ok s₃ h₃ => ?_) fun _ _ h' => h'.elim))) fun _ _ h' => h'.elim)
    cases ok with
    | false =>
      rw [if_neg (by decide)] at h₃
      exact wpAny_pure ⟨rfl, h₃⟩
    | true =>
      rw [if_pos rfl] at h₃
      refine wpAny_bind (wpAny_bind (wpAny_mono h₃ (fun x s₃ h₃ => wpAny_bind (wpAny_mono h₃
        (fun _ s₄ h₄ => wpAny_pure (wpAny_pure ⟨rfl, h₄⟩)) fun _ _ h' => h'.elim)) fun _ _ h' => h'.elim))
section
variable {X : Cx}
def CompIfW (J : It) (caps : List (Str × Nat)) (tt : TT) (te : TE) (σ : St) (H1 : Hp) (Q : VK) : Prop := ∃ W : Nat → Nat → List V → Hp → Prop, (∃ m, W 0 m [] H1) ∧ ∀ i m ys H, W i m ys H →
  (J.stop i H ∧ ∀ D, H D = none → Q (.ref D) (upd H D (.lst ys))) ∨ (J.go i H ∧ ys.length < sizeLine ∧ ∀ x H', J.yld i H x H' → tt (capV caps σ ++ [some x]) H' fun b H2 => if b = true then te (capV caps σ ++ [some x]) H2 fun y H3 => ∃ m', m' < m ∧ W (i + 1) m' (ys ++ [y]) H3 else ∃ m', m' < m ∧ W (i + 1) m' ys H2)
def tCompIf (caps : List (Str × Nat)) (wi : TI) (tt : TT) (te : TE) : TE := fun σ H Q => wi σ H fun J H1 => CompIfW J caps tt te σ H1 Q
theorem pe_compIf {sc csc : Scope} {N : List Str} {elt iter c : Expr} {x : Str} {px pos : Pos} {caps : List (Str × Nat)} {wi : TI} {te : TE} {tt : TT} (ck : CompOk sc csc N x caps) (hi : PI X (.Name x px) iter wi)
    (ht : ∀ C s2 H2 fp, PT (compCx X (caps.map (·.1) ++ [x]) csc C s2 H2 fp) c tt) (he : ∀ C s2 H2 fp, PE (compCx X (caps.map (·.1) ++ [x]) csc C s2 H2 fp) elt te) (hc : X.calm = true := by rfl) (hsc : X.env.scope = sc := by rfl) (hXN : X.N = N := by rfl) (hs : ∀ x, foldedSetIterable iter X.env x = pure x := by intro _; rfl) :
    PE X (.ListComp elt [⟨.Name x px, iter, [c], 0⟩] csc pos) (tCompIf caps wi tt te) := by
  subst hsc hXN
  intro pins s σ H Q I h
  rw [eval_ListComp]
  have cellsOk : ∀ p ∈ csc.names, p.2 = .free → ∃ c, X.env.cells.lookup p.1 = some c := fun p hp e => I.ok.has p.1 (.inl (ck.free p hp e))
  refine wpAny_comprehension_free (use := none) rfl hs (closureFor_eq cellsOk) ck.kind ck.loc (thn (hi pins s σ H _ I h) fun v s1 h1 => thn h1 fun itv s2 h2 => ?_)
  obtain ⟨it, fp, tn, J, H2, e, I2, T, st2, f2, W, ⟨m0, w0⟩, turn⟩ := h2
  subst e
  refine wpAny_newObj_type (wpAny_newFunctionEnv ck.cell (by intro y hy; simp at hy) (fun h4 hns4 hsb4 => ?_) ck.kind)
  dsimp only at hns4 hsb4 ⊢
  generalize hD : s2.heap.objs.size = D at hns4 hsb4 ⊢
  generalize hH2 : s2.heap.push { cls := .type "list", dict := none, data := .seq ([] : List Value).toArray } = G at hns4 hsb4 ⊢
  have hGs : G.objs.size = D + 1 := by rw [← hH2, Heap.size_push, hD]
  rw [hGs] at hns4 hsb4 ⊢
  have lt2 : ∀ b o, s2.heap.get? b = some o → b < D := fun b o e => hD ▸ Heap.lt_size e
  have old : ∀ b o, s2.heap.get? b = some o → b ≠ D + 1 ∧ b ≠ D := fun b o e => ⟨nlt1 (lt2 b o e), nlt (lt2 b o e)⟩
  have leD : s2.heap.objs.size ≤ D := Nat.le_of_eq hD
  have leD1 : s2.heap.objs.size ≤ D + 1 := Nat.le_succ_of_le leD
  have keep4 : ∀ b o, s2.heap.get? b = some o → h4.get? b = some o := fun b o e => hsb4.extBut b o (old b o e).1 (Heap.get?_push_of_some _ (hH2 ▸ Heap.get?_push_of_some _ e))
  have hDo : h4.get? D = some { cls := .type "list", data := .seq ([] : List Value).toArray 0 } := by
    refine hsb4.extBut D _ ns1 (Heap.get?_push_of_some _ ?_)
    rw [← hH2, ← hD]
    exact Heap.get?_push_size _ rfl
  have fps : ∀ b ∈ fp, b < s2.heap.objs.size := fun b hb => by
    obtain ⟨o, e, _⟩ := T.obj _ _ st2 b hb
    exact Heap.lt_size e
  have I4 : ∀ t4, Inv (compCx X (caps.map (·.1) ++ [x]) csc (D + 1) s2 H2 fp) [] (capV caps σ ++ [none]) H2 { s2 with heap := h4, toks := t4 } := fun t4 => comp_start (m0 := fun x => [].reverse.lookup x) I2 ck f2 fps leD1 keep4 hns4
  have cellsLt : ∀ y c, (clFold X.env csc.names []).lookup y = some c → c < D := fun y c e => by
    obtain ⟨v, o, ho, _⟩ := I2.cell y c (clFold_in _ _ cellsOk (fun y c h => by simp at h) y c e)
    exact lt2 c o ho
  have fsLt : ∀ b ∈ frs X.stack, b < D := fun b hb => by
    obtain ⟨_, o, ho, _⟩ := I2.stack.mem hb
    exact lt2 b o ho
  -- the iterator's objects within the block
  have fpC : ∀ {pl : List (Addr × Obj)} {H' : Hp}, (∀ p ∈ pl, p.1 = D) → (∀ b ∈ fp, H' b = none) → ∀ b ∈ fp, FpOk (compCx X (caps.map (·.1) ++ [x]) csc (D + 1) s2 H2 fp) pl H' b := fun {pl H'} hpl hn b hb => by
    have hb' : b < D := hD ▸ fps b hb
    refine ⟨hn b hb, nlt1 hb', ?_, .inl hb, fun y c e => ?_, fun p hp => ?_⟩
    · intro z
      rcases List.mem_cons.mp (I2.stkSub b z) with e | e
      · exact (f2 b hb).2.1 e
      · exact (f2 b hb).2.2.1 e
    · exact (f2 b hb).2.2.2.2.1 y c (clFold_in _ _ cellsOk (fun y c h => by simp at h) y c e)
    · have : p.1 = D := hpl p (by simpa using hp)
      rw [this]; exact fun z => nlt hb' z.symm
  have loop : ∀ t4, codeAny (model X.prog X.w) X.A (.compLoop (.ListComp elt [⟨.Name x px, iter, [c], 0⟩] csc pos) 0 (.ref it) (.ref D) (compEnvC csc (clFold X.env csc.names []) (D + 1) X.env))
      (compPost (model X.prog X.w) X.A X.xe none (EP X pins σ Q) (.ref D) (D + 1)) { s2 with heap := h4, toks := t4 } := by
    intro t4
    refine compIfLoop_go (fun n s' => ∃ (i : Nat) (ys : List V) (its : List Value) (k : Nat) (σ' : St) (H' : Hp), Inv (compCx X (caps.map (·.1) ++ [x]) csc (D + 1) s2 H2 fp) [(D, { cls := .type "list", data := .seq its.toArray k })] σ' H' s' ∧ tn i s'.heap ∧ (∀ b ∈ fp, H' b = none) ∧ Vals ys its ∧ ys.length ≤ sizeLine ∧ W i n ys H' ∧ (∃ z, σ' = capV caps σ ++ [z])) ?_ m0 ?_
    · rintro n s3 ⟨i, ys, its, k, σ3, H3, I3, st3, fr3, hv, hz, w3, z3, rfl⟩
      have pl1 : ∀ p ∈ [((D, { cls := .type "list", data := .seq its.toArray k }) : Addr × Obj)], p.1 = D := fun p hp => by rw [List.mem_singleton.mp hp]
      rcases turn i n ys H3 w3 with ⟨stop, qn⟩ | ⟨go, hlt, step⟩
      · refine wpAny_mono (T.done (compCx X (caps.map (·.1) ++ [x]) csc (D + 1) s2 H2 fp) rfl rfl rfl hc i _ s3 _ H3 (fun _ _ => False) I3 (fpC pl1 fr3) st3 stop) (fun r s4 ⟨hr, I4'⟩ => ?_) fun _ _ f => f.elim
        subst hr
        obtain ⟨m, hn, _⟩ := id I4'.loc
        have pD := I4'.pin (D, { cls := .type "list", data := .seq its.toArray k }) (by simp)
        refine ⟨m, hn, fun h' hs' => ⟨.ref D, _, comp_done I2 I4' f2 leD1 leD ns1 hs' hv hz pD.1 pD.2.1, rfl, qn D pD.2.1⟩⟩
      · refine wpAny_mono (T.item (compCx X (caps.map (·.1) ++ [x]) csc (D + 1) s2 H2 fp) rfl rfl rfl hc i _ s3 _ H3 (fun _ _ => False) I3 (fpC pl1 fr3) st3 go) (fun r s4 ⟨u, hr, h4'⟩ => ?_) fun _ _ f => f.elim
        subst hr
        refine wpAny_mono h4' (fun _ s4 ⟨xv, H5, I5, r5, y5, st5, fr5⟩ => ?_) fun _ _ f => f.elim
        have I5' := I5.pinned (fpC pl1 fr5) (T.obj _ _ st5)
        have hiN : (caps.map (·.1) ++ [x])[caps.length]? = some x := by rw [List.getElem?_append_right (by simp)]; simp
        refine wpAny_mono (pg_name (X := compCx X (caps.map (·.1) ++ [x]) csc (D + 1) s2 H2 fp) (i := caps.length) ck.nd hiN (.inl (lookup_relabel_local ck.tg)) (.inr (lookup_relabel_local ck.tg)) _ s4 _ H5 xv u _ I5' r5 (show gName caps.length xv _ H5 (fun σ6 H6 => σ6 = capV caps σ ++ [some xv] ∧ H6 = H5) from ⟨?_, rfl⟩)) (fun _ s6 ⟨σ6, H6, I6, hσ, hH⟩ => ?_) fun _ _ f => f.elim
        · rw [List.set_append_right _ _ (by rw [capV_len]; exact Nat.le_refl _), capV_len, Nat.sub_self]; rfl
        subst hσ hH
        refine wpAny_mono (ht (D + 1) s2 H2 fp _ s6 _ H6 _ I6 (step xv H6 y5)) (fun ok s6 ⟨H6, I6, q6⟩ => ?_) fun _ _ f => f.elim
        cases ok with
        | false =>
          rw [if_neg (by decide)] at q6 ⊢
          obtain ⟨m', hm, w8⟩ := q6
          have pD := I6.pin (D, { cls := .type "list", data := .seq its.toArray k }) (by simp)
          refine ⟨m', hm, i + 1, ys, its, k, _, H6, I6.pins_of fun p hp => ?_, T.keep _ _ _ st5 fun b hb o e => (I6.pin (b, o) (List.mem_append_right _ (List.mem_append_right _ (mem_pinsAt hb e)))).1, fun b hb => ?_, hv, hz, w8, _, rfl⟩
          · rw [List.mem_singleton.mp hp]; exact pD
          · obtain ⟨o, e, d⟩ := T.obj _ _ st5 b hb
            exact (I6.pin (b, o) (List.mem_append_right _ (List.mem_append_right _ (mem_pinsAt hb e)))).2.1
        | true =>
        rw [if_pos rfl] at q6 ⊢
        refine wpAny_mono (he (D + 1) s2 H2 fp _ s6 _ H6 _ I6 q6) (fun w7 s7 ⟨y, H7, I7, r7, m', hm, w8⟩ => ?_) fun _ _ f => f.elim
        have pD := I7.pin (D, { cls := .type "list", data := .seq its.toArray k }) (by simp)
        have hll := hv.length
        refine call_meets F.slot_list_append ⟨_, pD.1, rfl⟩ F.entry_list_append (F.args_list_append_2 _ _) (PySem.list_append D its.toArray k w7 (by rw [List.size_toArray]; omega)) ⟨pD.1, ?_⟩
        have q := PySem.IsL.update pD.1 (·.push w7)
        have hpush : its.toArray.push w7 = (its ++ [w7]).toArray := by simp
        rw [hpush] at q
        obtain ⟨k', q⟩ : ∃ k', (s7.heap.update D (Obj.mapSeq (·.push w7))).get? D = some { cls := .type "list", data := .seq (its ++ [w7]).toArray k' } := ⟨_, q⟩
        have I7u : Inv (compCx X (caps.map (·.1) ++ [x]) csc (D + 1) s2 H2 fp) (pinsAt fp s4.heap) _ H7 s7 := I7.pins_of fun p hp => I7.pin p (List.mem_append_right _ (List.mem_append_right _ hp))
        have pfp : ∀ p ∈ pinsAt fp s4.heap, p.1 < D := fun p hp => hD ▸ fps p.1 (of_pinsAt hp).1
        have I8 := I7u.turned (h' := s7.heap.update D (Obj.mapSeq (·.push w7))) (t' := s7.toks) (it := D) (fun b o hb e => (Heap.get?_update_other s7.heap _ (Ne.symm hb)).trans e) pD.2.1 ns1 (.inr leD) (fun y c e => nlt (cellsLt y c e)) (fun p hp => nlt (pfp p (by simpa using hp)))
        refine ⟨m', hm, i + 1, ys ++ [y], its ++ [w7], k', _, H7, I8.pins_of fun p hp => ?_, T.keep _ _ _ st5 fun b hb o e => (I8.pin (b, o) (List.mem_append_right _ (mem_pinsAt hb e))).1, fun b hb => ?_, hv.append (.cons r7 .nil), ?_, w8, _, rfl⟩
        · rw [List.mem_singleton.mp hp]
          exact ⟨q, pD.2.1, pD.2.2.1, pD.2.2.2.1, fun v => by simp⟩
        · obtain ⟨o, e, d⟩ := T.obj _ _ st5 b hb
          exact (I8.pin (b, o) (List.mem_append_right _ (mem_pinsAt hb e))).2.1
        · rw [List.length_append, List.length_singleton]; omega
    · refine ⟨0, [], [], 0, _, H2, (I4 t4).pins_of fun p hp => ?_, T.keep _ _ _ st2 fun b hb o e => keep4 b o e, fun b hb => (f2 b hb).1, .nil, Nat.zero_le _, w0, _, rfl⟩
      rw [List.mem_singleton.mp hp]
      refine ⟨hDo, I2.hok.fresh leD, ns1, fun z => absurd (fsLt D z) (Nat.lt_irrefl _), fun v => by simp⟩
  exact codeAny_compStart_list (loop _) (T.self _ 0 _ _ _ (T.keep _ _ _ st2 fun b hb o e => keep4 b o e) (loop _))
theorem compIf_turn {n i : Nat} {ys : List V} {R : Prop} (hi : i < n) (hl : ys.length ≤ i + 1) (r : R) : ∃ m', m' < n - i ∧ m' = n - (i + 1) ∧ i + 1 ≤ n ∧ ys.length ≤ i + 1 ∧ R := ⟨n - (i + 1), by omega, rfl, hi, hl, r⟩
theorem compIf_list {K : PySem.W.Frag} {a : Addr} {xs : List V} {caps : List (Str × Nat)} {tt : TT} {te : TE} {σ : St} {H : Hp} {Q : VK} (Pv : Nat → List V → Hp → Prop) (h0 : Pv 0 [] H) (hn : xs.length < sizeLine)
    (hq : ∀ i ys H, i ≤ xs.length → Pv i ys H → SqL K H a xs)
    (hs : ∀ i x ys H, xs[i]? = some x → ys.length ≤ i → Pv i ys H → tt (capV caps σ ++ [some x]) H fun b H2 => if b = true then te (capV caps σ ++ [some x]) H2 fun y H3 => ∃ m', m' < xs.length - i ∧ m' = xs.length - (i + 1) ∧ i + 1 ≤ xs.length ∧ (ys ++ [y]).length ≤ i + 1 ∧ Pv (i + 1) (ys ++ [y]) H3
      else ∃ m', m' < xs.length - i ∧ m' = xs.length - (i + 1) ∧ i + 1 ≤ xs.length ∧ ys.length ≤ i + 1 ∧ Pv (i + 1) ys H2) (hd : ∀ ys H, ys.length ≤ xs.length → Pv xs.length ys H → ∀ D, H D = none → Q (.ref D) (upd H D (.lst ys))) :
    CompIfW (Itl K a) caps tt te σ H Q := by
  refine ⟨fun i m ys H => m = xs.length - i ∧ i ≤ xs.length ∧ ys.length ≤ i ∧ Pv i ys H, ⟨xs.length, by simp, Nat.zero_le _, Nat.zero_le _, h0⟩, ?_⟩
  rintro i m ys H ⟨rfl, hi, hl, p⟩
  have q := hq i ys H hi p
  by_cases hlt : i < xs.length
  · refine .inr ⟨⟨xs, xs[i], q, by simp [hlt]⟩, by omega, fun x H' y => ?_⟩
    obtain ⟨e, y⟩ := y
    subst e
    exact hs i x ys _ (y xs q) hl p
  · have e : i = xs.length := by omega
    subst e
    exact .inl ⟨⟨xs, q, Nat.le_refl _⟩, hd ys H hl p⟩
end
end L2
namespace L2
open PySem PySem.Spec PyProof.Rows
section
variable {X : Cx}
def rEqR (K : PySem.W.Frag) (n : Nat) : R2 := fun x y H Q => ∃ a b xs ys, x = .ref a ∧ y = .ref b ∧ ((SqL K H a xs ∧ SqL K H b ys) ∨ (SqT K H a xs ∧ SqT K H b ys)) ∧ xs.length = ys.length ∧ (∀ (j : Nat) (x y : V), xs[j]? = some x → ys[j]? = some y → AlikeR K H n x y) ∧ Q (.bl true) H
theorem op_eqR (n : Nat) (hu : X.A.units + (n + 1) < cLine) : OpR X (compareOp .Eq) (rEqR X.K n) := by
  intro pins s σ H x y v u Q I rx ry h
  obtain ⟨a, b, xs, ys, rfl, rfl, hs, hl, hj, q⟩ := h
  cases rx
  cases ry
  have ih := fun x y u v => alikeR_eq I n X.A.in1 x y u v (by show X.A.units + 1 + n < cLine; omega)
  rcases hs with ⟨ha, hb⟩ | ⟨ha, hb⟩
  · obtain ⟨is, r1, p1, _⟩ := I.list ha
    obtain ⟨js, r2, p2, _⟩ := I.list hb
    obtain ⟨o1, n1, e1, c1, _, d1⟩ := p1
    obtain ⟨o2, n2, e2, c2, _, d2⟩ := p2
    refine PySem.SeqAt.RcAt.lists (e := fun _ => true) ⟨o1, e1, c1, n1, d1⟩ ⟨o2, e2, c2, n2, d2⟩ (by simp [← r1.length, ← r2.length, hl]) (by omega) (alikeR_items ih r1 r2 hj) _ _ _ _ ?_
    have z : ((List.range is.toArray.size).all fun _ => true) = true := List.all_eq_true.mpr fun _ _ => rfl
    rw [z]
    exact ⟨.bl true, H, I, rfl, q⟩
  · obtain ⟨is, r1, p1, _⟩ := I.tuple ha
    obtain ⟨js, r2, p2, _⟩ := I.tuple hb
    obtain ⟨o1, e1, c1, n1, d1⟩ := p1
    obtain ⟨o2, e2, c2, n2, d2⟩ := p2
    refine PySem.SeqAt.RcAt.tuples (e := fun _ => true) ⟨o1, e1, c1, n1, d1⟩ ⟨o2, e2, c2, n2, d2⟩ (by omega) (alikeR_items ih r1 r2 hj) _ _ _ _ ?_
    have z : (((List.range (min is.toArray.size js.toArray.size)).all fun _ => true) && is.toArray.size == js.toArray.size) = true := by simp [← r1.length, ← r2.length, hl]
    rw [z]
    exact ⟨.bl true, H, I, rfl, q⟩
end
theorem call_list_ofK {X : Cx} {K : PySem.W.Frag} (hK : X.K = K) : CallR X (.type "list") (fun xs H Q => ∃ p ys, xs = [.ref p] ∧ (SqL K H p ys ∨ SqT K H p ys) ∧ ∀ l, H l = none → Q (.ref l) (upd H l (.lst ys))) := by subst hK; exact call_list_of
theorem hu4 {A : Around} {k : Nat} (hr : Room k A) : A.units + 4 < cLine := Nat.lt_of_le_of_lt (Nat.add_le_add_left (by decide : 4 ≤ 64) _) hr.units
end L2
namespace K60
open PySem L2
def top (i : Nat) : Stmt := PySem.Challenge.pw_tintrow_k60_folds.main.body.getD i (.Pass ⟨0, 0, 0, 0⟩)
abbrev s_folds : Stmt := top 9
theorem sc_folds : FnScope ["rows_marks", "told", "waiting", "row", "marks", "place", "kind", "number"] ["rows_marks"] (defScope s_folds) := ⟨rfl, rfl, rfl, by decide +kernel, rfl, by decide +kernel, by decide +kernel⟩
abbrev s_depths : Stmt := top 10
theorem sc_depths : FnScope ["rows_marks", "told", "waiting", "marks", "mark"] ["rows_marks"] (defScope s_depths) := ⟨rfl, rfl, rfl, by decide +kernel, rfl, by decide +kernel, by decide +kernel⟩
abbrev s_fold_of : Stmt := top 11
theorem sc_fold_of : FnScope ["rows_marks", "row", "fold", "end"] ["rows_marks", "row"] (defScope s_fold_of) := ⟨rfl, rfl, rfl, by decide +kernel, rfl, by decide +kernel, by decide +kernel⟩
abbrev s__law_draw : Stmt := top 13
theorem sc__law_draw : FnScope ["_law_script", "_law_k", "_law_many", "_law_cell", "_law_left", "_law_seed"] ["_law_script", "_law_k", "_law_many"] (defScope s__law_draw) := ⟨rfl, rfl, rfl, by decide +kernel, rfl, by decide +kernel, by decide +kernel⟩
abbrev s__law_folds : Stmt := top 14
theorem sc__law_folds : FnScope ["_law_rows_marks", "_law_found", "_law_waiting", "_law_row", "_law_place", "_law_kind", "_law_number"] ["_law_rows_marks"] (defScope s__law_folds) := ⟨rfl, rfl, rfl, by decide +kernel, rfl, by decide +kernel, by decide +kernel⟩
abbrev s__law_asked : Stmt := top 15
theorem sc__law_asked : FnScope ["_law_rows_marks", "_law_row", "_law_found", "_law_caught", "e"] ["_law_rows_marks", "_law_row"] (defScope s__law_asked) := ⟨rfl, rfl, rfl, by decide +kernel, rfl, by decide +kernel, by decide +kernel⟩
abbrev s__law_fold_of : Stmt := top 16
theorem sc__law_fold_of : FnScope ["_law_found", "_law_row", "_law_one"] ["_law_found", "_law_row"] (defScope s__law_fold_of) := ⟨rfl, rfl, rfl, by decide +kernel, rfl, by decide +kernel, by decide +kernel⟩
abbrev s__law_made : Stmt := top 17
theorem sc__law_made : FnScope ["_law_script", "_law_rows_marks", "_law_row", "_law_marks", "_law_place", "_law_k"] ["_law_script"] (defScope s__law_made) := ⟨rfl, rfl, rfl, by decide +kernel, rfl, by decide +kernel, by decide +kernel⟩
abbrev s_law : Stmt := top 18
theorem sc_law : FnScope ["_law_script", "_law_rows_marks", "_law_handed", "_law_due", "_law_due_depths", "_law_row", "_law_ahead", "_law_k", "_law_found", "_law_found_depths", "_law_one", "_law_far"] ["_law_script"] (defScope s_law) := ⟨rfl, rfl, rfl, by decide +kernel, rfl, by decide +kernel, by decide +kernel⟩
structure Adr where
  c_TintError : Addr
  c_NoRules : Addr
  c_Rings : Addr
  c_NoPlace : Addr
  c_Nothing : Addr
  c_NoMark : Addr
  c_NoLine : Addr
  f_folds : Addr
  d_folds : FuncData
  f_depths : Addr
  d_depths : FuncData
  f_fold_of : Addr
  d_fold_of : FuncData
  f__law_draw : Addr
  d__law_draw : FuncData
  f__law_folds : Addr
  d__law_folds : FuncData
  f__law_asked : Addr
  d__law_asked : FuncData
  f__law_fold_of : Addr
  d__law_fold_of : FuncData
  f__law_made : Addr
  d__law_made : FuncData
structure Txt (K : PySem.W.Frag) (mg : Str → Option Value) (t : Adr) : Prop where
  mgc_TintError : mg "TintError" = some (.ref t.c_TintError)
  mgc_NoRules : mg "NoRules" = some (.ref t.c_NoRules)
  mgc_Rings : mg "Rings" = some (.ref t.c_Rings)
  mgc_NoPlace : mg "NoPlace" = some (.ref t.c_NoPlace)
  mgc_Nothing : mg "Nothing" = some (.ref t.c_Nothing)
  mgc_NoMark : mg "NoMark" = some (.ref t.c_NoMark)
  mgc_NoLine : mg "NoLine" = some (.ref t.c_NoLine)
  F_folds : Fun K "folds" "folds" s_folds t.f_folds t.d_folds
  mg_folds : mg "folds" = some (.ref t.f_folds)
  F_depths : Fun K "depths" "depths" s_depths t.f_depths t.d_depths
  mg_depths : mg "depths" = some (.ref t.f_depths)
  F_fold_of : Fun K "fold_of" "fold_of" s_fold_of t.f_fold_of t.d_fold_of
  mg_fold_of : mg "fold_of" = some (.ref t.f_fold_of)
  F__law_draw : Fun K "_law_draw" "_law_draw" s__law_draw t.f__law_draw t.d__law_draw
  mg__law_draw : mg "_law_draw" = some (.ref t.f__law_draw)
  F__law_folds : Fun K "_law_folds" "_law_folds" s__law_folds t.f__law_folds t.d__law_folds
  mg__law_folds : mg "_law_folds" = some (.ref t.f__law_folds)
  F__law_asked : Fun K "_law_asked" "_law_asked" s__law_asked t.f__law_asked t.d__law_asked
  mg__law_asked : mg "_law_asked" = some (.ref t.f__law_asked)
  F__law_fold_of : Fun K "_law_fold_of" "_law_fold_of" s__law_fold_of t.f__law_fold_of t.d__law_fold_of
  mg__law_fold_of : mg "_law_fold_of" = some (.ref t.f__law_fold_of)
  F__law_made : Fun K "_law_made" "_law_made" s__law_made t.f__law_made t.d__law_made
  mg__law_made : mg "_law_made" = some (.ref t.f__law_made)
  x_TintError : ExcI K t.c_TintError
  xn_TintError : PySem.W.excIn K t.c_TintError VE "ValueError.__new__" = true
  x_NoPlace : ExcI K t.c_NoPlace
  xn_NoPlace : PySem.W.excIn K t.c_NoPlace VE "ValueError.__new__" = true
  tk_NoPlace_TintError : PySem.W.mroIn K t.c_NoPlace (.ref t.c_TintError) = some true
  kx_NoPlace_NoRules : PySem.W.kitOne K (.ref t.c_NoPlace) (.ref t.c_NoRules) = some false
  kx_NoPlace_Rings : PySem.W.kitOne K (.ref t.c_NoPlace) (.ref t.c_Rings) = some false
  kx_NoPlace_Nothing : PySem.W.kitOne K (.ref t.c_NoPlace) (.ref t.c_Nothing) = some false
  kx_NoPlace_NoMark : PySem.W.kitOne K (.ref t.c_NoPlace) (.ref t.c_NoMark) = some false
  kx_NoPlace_NoLine : PySem.W.kitOne K (.ref t.c_NoPlace) (.ref t.c_NoLine) = some false
  kx_NoPlace_NoPlace : PySem.W.kitOne K (.ref t.c_NoPlace) (.ref t.c_NoPlace) = some true
  kx_NoPlace_ValueError : PySem.W.kitOne K (.ref t.c_NoPlace) (.type "ValueError") = some true
  kb_list_list : PySem.W.kitOne K (.type "list") (.type "list") = some true
  kb_tuple_tuple : PySem.W.kitOne K (.type "tuple") (.type "tuple") = some true
  z_ValueError : mg "ValueError" = none
  z_enumerate : mg "enumerate" = none
  z_isinstance : mg "isinstance" = none
  z_len : mg "len" = none
  z_list : mg "list" = none
  z_max : mg "max" = none
  z_range : mg "range" = none
  z_tuple : mg "tuple" = none
section
variable {P : Program} {w : World} {K : PySem.W.Frag} {mg : Str → Option Value} {base : Heap} {t : Adr}
theorem bd_folds (T : Txt K mg t) : Binds K t.d_folds ["rows_marks"] [] := T.F_folds.binds fun _ _ _ _ _ _ us hl => match us, hl with | [_], _ => rfl
theorem bd_depths (T : Txt K mg t) : Binds K t.d_depths ["rows_marks"] [] := T.F_depths.binds fun _ _ _ _ _ _ us hl => match us, hl with | [_], _ => rfl
theorem bd_fold_of (T : Txt K mg t) : Binds K t.d_fold_of ["rows_marks", "row"] [] := T.F_fold_of.binds fun _ _ _ _ _ _ us hl => match us, hl with | [_, _], _ => rfl
theorem bd__law_draw (T : Txt K mg t) : Binds K t.d__law_draw ["_law_script", "_law_k", "_law_many"] [] := T.F__law_draw.binds fun _ _ _ _ _ _ us hl => match us, hl with | [_, _, _], _ => rfl
theorem bd__law_folds (T : Txt K mg t) : Binds K t.d__law_folds ["_law_rows_marks"] [] := T.F__law_folds.binds fun _ _ _ _ _ _ us hl => match us, hl with | [_], _ => rfl
theorem bd__law_asked (T : Txt K mg t) : Binds K t.d__law_asked ["_law_rows_marks", "_law_row"] [] := T.F__law_asked.binds fun _ _ _ _ _ _ us hl => match us, hl with | [_, _], _ => rfl
theorem bd__law_fold_of (T : Txt K mg t) : Binds K t.d__law_fold_of ["_law_found", "_law_row"] [] := T.F__law_fold_of.binds fun _ _ _ _ _ _ us hl => match us, hl with | [_, _], _ => rfl
theorem bd__law_made (T : Txt K mg t) : Binds K t.d__law_made ["_law_script"] [] := T.F__law_made.binds fun _ _ _ _ _ _ us hl => match us, hl with | [_], _ => rfl
end
local macro_rules | `(tactic| walk_at "rd") => `(tactic| simp only [tSeq, tAsg, tIf, tTest, tB, tOp, tCB, tCons, tNil, tVar, tC, L2.start, rI, rI0, gName, tIfS, tAnd, tOr, tNot, tTup, tLst, tUn, rU, rEq, rNe, rIn, tRet, tNext, rIxL, rIxT, rIxS, tCall, tMeth, tMake, tMakeO, tDrop, tBM, tBM0, tAug, ipI, tAndV, tOrV, tNotV, tSl, rSlS, tPart, tNoPart, rJoin, rStarts3, rStarts2, rSplit, cxOf_K, capV, Option.join_some, Option.join_none, if_true, if_false, Bool.false_eq_true, List.map_cons, List.map_nil, List.length_cons, List.length_nil, List.replicate, List.cons_append, List.nil_append, List.append_nil, List.getElem?_cons_zero, List.getElem?_cons_succ, List.set_cons_zero, List.set_cons_succ, Option.some.injEq, exists_eq_left', exists_eq_left, V.int.injEq, V.str.injEq, V.ref.injEq, V.bl.injEq, List.cons.injEq, and_true, true_and, and_assoc, exists_and_left, exists_eq, exists_const])
local macro_rules | `(tactic| walk_at "ck") => `(tactic| exact ⟨by decide +kernel, rfl, by decide +kernel, by decide +kernel, by decide +kernel, by decide +kernel, by decide +kernel⟩)
local macro_rules | `(tactic| walk_at "u") => `(tactic| first | rfl | decide | exact Or.inl rfl | exact Or.inr rfl | exact Or.inr (Or.inl rfl) | exact Or.inr (Or.inr rfl) | assumption | (intro _; rfl) | exact nobehind _ (by decide) (by decide))
section
variable {P : Program} {w : World} {K : PySem.W.Frag} {mg : Str → Option Value} {base : Heap} {t : Adr}
/-! ### the law's draws -/
theorem join_eq (sep : Str) (ys : List Str) : PySem.Txt.join sep ys = Str.join sep ys := eq_of_beq (PyProof.Rows.join_plain_closes sep ys)
theorem pick {xs : List Str} {d : Int} (h0 : 0 ≤ d) (h1 : d < xs.length) : ∃ x ∈ xs, atI (xs.map V.str) d = some (.str x) := by
  obtain ⟨v, e1, e2⟩ := atI_in (xs.map V.str) h0 (by rw [List.length_map]; exact h1)
  rw [List.getElem?_map] at e1
  obtain ⟨x, e3, rfl⟩ := Option.map_eq_some_iff.mp e1
  exact ⟨x, List.mem_of_getElem? e3, e2⟩
theorem ifeq {b c : Bool} {A B : Prop} (h : b = c) (k : if c = true then A else B) : if b = true then A else B := by rw [h]; exact k
def spDraw (K : PySem.W.Frag) : Sp := fun vs H Q _ => ∃ (a : Addr) (ns : List Int) (k m : Int), vs = [.ref a, .int k, .int m] ∧ SqL K H a (ns.map V.int) ∧ 0 ≤ k ∧ k ≤ 100000 ∧ 0 < m ∧ m ≤ 1000000 ∧ ns.length ≤ 63 ∧
  ∀ d H', 0 ≤ d → d < m → Same H H' → Q (.int d) H'
theorem ok__law_draw (T : Txt K mg t) : FnOk P w K mg base CX0 1 t.f__law_draw t.d__law_draw ["_law_script", "_law_k", "_law_many"] (spDraw K) := by
  refine T.F__law_draw.ok sc__law_draw (fun vs H Q E h => ?_) (fun cdv A outer s H vs Q E hr h => at_body ?_)
  · obtain ⟨a, ns, k, m, rfl, _⟩ := h
    rfl
  · obtain ⟨a, ns, k, m, rfl, hS, hk0, hk1, hm, hm1, hl, q⟩ := h
    refine @at_consR _ _ _ _ _ _ _ (fun σ' H' => ∃ c : Int, σ' = [some (.ref a), some (.int k), some (.int m), some (.int c), none, none] ∧ (ns = [] → c = 0) ∧ H' = H) (@ps_set _ _ 3 _ _ _ _ sc__law_draw.nd rfl (Or.inl rfl) (@pe_ifExp _ _ _ _ _ _ _ _ (@pt_cmpR _ _ _ _ _ _ _ _ op_gt (@pe_callB _ _ _ _ _ _ _ _ _ call_len_seq (by rfl) T.z_len (by decide +kernel) (@pa_cons _ _ _ _ _ (pv 0) pa_nil (by walk_at "u")) (by walk_at "u") (by walk_at "u") (by walk_at "u") (by walk_at "u")) pe_int (nomark _)) (@pe_ix _ _ _ _ _ _ _ ix_list (pv 0) (@pe_op _ _ _ _ _ _ _ _ op_mod (pv 1) (@pe_callB _ _ _ _ _ _ _ _ _ call_len_seq (by rfl) T.z_len (by decide +kernel) (@pa_cons _ _ _ _ _ (pv 0) pa_nil (by walk_at "u")) (by walk_at "u") (by walk_at "u") (by walk_at "u") (by walk_at "u"))) (fun _ _ => rfl)) pe_int) (by walk_at "u") (by walk_at "u")) ?_ ?_
    · refine ⟨_, rfl, _, _, rfl, .inl hS, _, _, rfl, rfl, _, rfl, ifd (fun h => ?_) (fun h => ⟨0, rfl, fun _ => rfl, rfl⟩)⟩
      refine ⟨_, rfl, _, rfl, _, rfl, _, _, rfl, .inl hS, _, _, rfl, rfl, h, ?_⟩
      obtain ⟨h1, h2⟩ := emod_rng k h
      obtain ⟨v, e1, e2⟩ := atI_in (ns.map V.int) h1 h2
      rw [List.getElem?_map] at e1
      obtain ⟨c, e3, rfl⟩ := Option.map_eq_some_iff.mp e1
      exact ⟨_, _, _, _, rfl, rfl, hS, e2, c, rfl, (fun z => by rw [z] at h; simp at h), rfl⟩
    rintro σ' H' ⟨c, rfl, hc0, e⟩
    rw [e]
    clear e H'
    refine @at_consR _ _ _ _ _ _ _ (fun σ' H' => ∃ x : Int, σ' = [some (.ref a), some (.int k), some (.int m), some (.int c), some (.int x), none] ∧ (ns = [] → x = 0) ∧ H' = H) (@ps_set _ _ 4 _ _ _ _ sc__law_draw.nd rfl (Or.inl rfl) (@pe_op _ _ _ _ _ _ _ _ op_shr (pv 3) (@pe_op _ _ _ _ _ _ _ _ op_add (@pe_op _ _ _ _ _ _ _ _ op_mul pe_int (@pe_op _ _ _ _ _ _ _ _ op_fdiv (pv 1) (@pe_callB _ _ _ _ _ _ _ _ _ (call_max2 rfl) (by rfl) T.z_max (by decide +kernel) (@pa_cons _ _ _ _ _ pe_int (@pa_cons _ _ _ _ _ (@pe_callB _ _ _ _ _ _ _ _ _ call_len_seq (by rfl) T.z_len (by decide +kernel) (@pa_cons _ _ _ _ _ (pv 0) pa_nil (by walk_at "u")) (by walk_at "u") (by walk_at "u") (by walk_at "u") (by walk_at "u")) pa_nil (by walk_at "u")) (by walk_at "u")) (by walk_at "u") (by walk_at "u") (by walk_at "u") (by walk_at "u")))) pe_int)) (by walk_at "u") (by walk_at "u")) ?_ ?_
    · refine ⟨_, rfl, _, rfl, _, rfl, _, _, rfl, .inl hS, _, _, rfl, _, _, rfl, rfl, ?_⟩
      have hmx : (1 : Int) ≤ (if ((ns.map V.int).length : Int) > 1 then ((ns.map V.int).length : Int) else 1) ∧ (if ((ns.map V.int).length : Int) > 1 then ((ns.map V.int).length : Int) else 1) < 1073741824 := by
        rw [List.length_map]; split <;> omega
      refine ⟨⟨by omega, hmx.2⟩, _, _, rfl, rfl, .inl ⟨by decide, by decide⟩, _, _, rfl, rfl, _, _, rfl, rfl, ?_, _, rfl, fun z => ?_, rfl⟩
      · have : 0 ≤ k / (if ((ns.map V.int).length : Int) > 1 then ((ns.map V.int).length : Int) else 1) := Int.ediv_nonneg hk0 (by omega)
        omega
      · rw [hc0 z, Int.zero_ediv]
    rintro σ' H' ⟨x, rfl, hx0, e⟩
    rw [e]
    clear e H'
    refine @at_consR _ _ _ _ _ _ _ (fun σ' H' => (σ' = [some (.ref a), some (.int k), some (.int m), some (.int c), some (.int x), none]) ∧ Same H H') (@ps_if _ _ _ _ _ _ _ _ (@PW.pt _ _ _ (@pw_and _ _ _ _ _ _ _ (@pt_cmpR _ _ _ _ _ _ _ _ op_notIn_seq (pv 4) (@pe_tup _ _ _ _ _ (@pa_cons _ _ _ _ _ pe_int (@pa_cons _ _ _ _ _ (@pe_un _ _ _ _ _ _ un_neg pe_int) pa_nil (by walk_at "u")) (by walk_at "u"))) rfl) (@pw_and1 _ _ _ _ (@pt_cmpR _ _ _ _ _ _ _ _ op_eq (@pe_op _ _ _ _ _ _ _ _ op_mod (@pe_ix _ _ _ _ _ _ _ ix_list (pv 0) pe_int (fun _ _ => rfl)) pe_int) pe_int (nomark _))))) pss_at pss_at) ?_ ?_
    · refine ⟨_, rfl, _, rfl, by show 2 ≤ sizeLine; decide, fun p hp => ⟨p, _, rfl, .inr (SqT.of upd_same), rfl, rfl, _, rfl, ?_⟩⟩
      have s1 : Same H (upd H p (.tup [.int 0, .int (-1)])) := Same.upd hp
      by_cases hin : inV (V.int x) [.int 0, .int (-1)] = true
      · refine ifeq (c := false) (by show (!inV (V.int x) [.int 0, .int (-1)]) = false; rw [hin]; rfl) ?_
        exact at_nil ⟨rfl, s1⟩
      · refine ifeq (c := true) (by show (!inV (V.int x) [.int 0, .int (-1)]) = true; rw [Bool.not_eq_true] at hin; rw [hin]; rfl) ?_
        obtain ⟨n0, r0, rfl⟩ : ∃ n0 r0, ns = n0 :: r0 := by
          cases ns with
          | nil => rw [hx0 rfl] at hin; exact absurd (by decide) hin
          | cons x r => exact ⟨x, r, rfl⟩
        have hS1 := hS.same s1
        refine ⟨_, rfl, _, _, _, _, rfl, rfl, hS1, atI_nat (j := 0) rfl, _, _, rfl, rfl, (by show (0 : Int) < 2; decide), rfl, _, rfl, ifd (fun h2 => ?_) (fun h2 => at_nil ⟨rfl, s1⟩)⟩
        have hd := emod_rng (x % 1048576) hm
        exact @at_one _ _ _ _ _ _ (@ps_ret _ _ _ _ (@pe_op _ _ _ _ _ _ _ _ op_mod (@pe_op _ _ _ _ _ _ _ _ op_mod (pv 4) pe_int) (pv 2))) ⟨_, rfl, _, _, rfl, rfl, (by show (0 : Int) < 1048576; decide), _, rfl, _, _, rfl, rfl, hm, q _ _ hd.1 hd.2 s1⟩
    rintro σ' H' ⟨rfl, s1⟩
    refine @at_cons _ _ _ _ _ _ _ (@ps_set _ _ 5 _ _ _ _ sc__law_draw.nd rfl (Or.inl rfl) (@pe_op _ _ _ _ _ _ _ _ op_add (@pe_op _ _ _ _ _ _ _ _ op_add (@pe_op _ _ _ _ _ _ _ _ op_mod (pv 3) pe_int) (@pe_op _ _ _ _ _ _ _ _ op_mul (@pe_op _ _ _ _ _ _ _ _ op_mul pe_int (pv 1)) (pv 1))) pe_int) (by walk_at "u") (by walk_at "u")) ?_
    walk_at "rd"
    refine ⟨by decide, .inl ⟨by decide, by decide⟩, .inr ⟨by omega, by omega⟩, ?_⟩
    refine @at_one _ _ _ _ _ _ (@ps_ret _ _ _ _ (@pe_op _ _ _ _ _ _ _ _ op_mod (@pe_op _ _ _ _ _ _ _ _ op_mod (@pe_op _ _ _ _ _ _ _ _ op_mul (@pe_op _ _ _ _ _ _ _ _ op_mod (@pe_op _ _ _ _ _ _ _ _ op_mul (pv 5) pe_int) pe_int) pe_int) pe_int) (pv 2))) ?_
    walk_at "rd"
    have hd := emod_rng ((c % 1000003 + 31 * k * k + 1) * 48271 % 999983 * 7919 % 524287) hm
    exact ⟨.inr ⟨by decide, by decide⟩, by decide, .inr ⟨by decide, by decide⟩, by decide, hm, q _ _ hd.1 hd.2 s1⟩
end
section
variable {P : Program} {w : World} {K : PySem.W.Frag} {mg : Str → Option Value} {base : Heap} {t : Adr}
/-- two lists, place by place -/
def All2 {α β : Type} (R : α → β → Prop) (as : List α) (bs : List β) : Prop := as.length = bs.length ∧ ∀ (i : Nat) a b, as[i]? = some a → bs[i]? = some b → R a b
theorem All2.nil {α β : Type} {R : α → β → Prop} : All2 R [] [] := ⟨rfl, fun i a b h => by simp at h⟩
theorem All2.mono {α β : Type} {R S : α → β → Prop} {as : List α} {bs : List β} (h : All2 R as bs) (f : ∀ a b, R a b → S a b) : All2 S as bs := ⟨h.1, fun i a b x y => f a b (h.2 i a b x y)⟩
theorem snoc_get {α : Type} {as : List α} {a x : α} {i : Nat} (h : (as ++ [a])[i]? = some x) : as[i]? = some x ∨ (i = as.length ∧ x = a) := by
  by_cases hi : i < as.length
  · rw [List.getElem?_append_left hi] at h; exact .inl h
  · rw [List.getElem?_append_right (by omega)] at h
    have : i - as.length = 0 := by
      cases e : i - as.length with
      | zero => rfl
      | succ n => rw [e] at h; simp at h
    rw [this] at h
    simp at h
    exact .inr ⟨by omega, h.symm⟩
theorem All2.snoc {α β : Type} {R : α → β → Prop} {as : List α} {bs : List β} {a : α} {b : β} (h : All2 R as bs) (r : R a b) : All2 R (as ++ [a]) (bs ++ [b]) := by
  refine ⟨by simp [h.1], fun i x y hx hy => ?_⟩
  have hl := h.1
  rcases snoc_get hx with h1 | ⟨e1, rfl⟩
  · rcases snoc_get hy with h2 | ⟨e2, rfl⟩
    · exact h.2 i x y h1 h2
    · have := (List.getElem?_eq_some_iff.mp h1).1; omega
  · rcases snoc_get hy with h2 | ⟨e2, rfl⟩
    · have := (List.getElem?_eq_some_iff.mp h2).1; omega
    · exact r
theorem All2.at {α β : Type} {R : α → β → Prop} {as : List α} {bs : List β} (h : All2 R as bs) {i : Nat} {b : β} (e : bs[i]? = some b) : ∃ a, as[i]? = some a ∧ R a b := by
  have hi := (List.getElem?_eq_some_iff.mp e).1
  have hi2 : i < as.length := by rw [h.1]; exact hi
  exact ⟨as[i], List.getElem?_eq_getElem hi2, h.2 i _ _ (List.getElem?_eq_getElem hi2) e⟩
theorem drop_at {α : Type} {l : List α} {i : Nat} {x : α} (h : l[i]? = some x) : l.drop i = x :: l.drop (i + 1) := by
  rw [List.drop_eq_getElem?_toList_append, h]; rfl
theorem at_ref {as : List Addr} {k : Nat} {b : Addr} (h : as[k]? = some b) : atI (as.map V.ref) ((k : Nat) : Int) = some (.ref b) := atI_nat (by rw [List.getElem?_map, h]; rfl)
/-! ### folds, plainly -/
abbrev Mark := Nat × Str
abbrev Fold := Nat × Nat × Option (Nat × Nat)
abbrev FSt := List Fold × List Nat
def closed (f : Option Fold) (r p : Nat) : Fold := ((f.getD (0, 0, none)).1, (f.getD (0, 0, none)).2.1, some (r, p))
def stepF (r : Nat) (st : FSt) (m : Mark) : FSt :=
  if m.2 = "open" then (st.1 ++ [(r, m.1, none)], st.2 ++ [st.1.length]) else match st.2.getLast? with
    | none => st
    | some n => (st.1.set n (closed st.1[n]? r m.1), st.2.dropLast)
def foldsN (rows : List (List Mark)) : Nat → FSt
  | 0 => ([], [])
  | i + 1 => (rows[i]?.getD []).foldl (stepF i) (foldsN rows i)
def foldsP (rows : List (List Mark)) : List Fold := (foldsN rows rows.length).1
def isN (f : Fold) : Bool := f.2.2.isNone
structure WF (st : FSt) : Prop where
  nd : st.2.Nodup
  ok : ∀ n ∈ st.2, ∃ f, st.1[n]? = some f ∧ isN f = true
  ct : st.1.countP isN = st.2.length
theorem last_split {l : List Nat} {n : Nat} (h : l.getLast? = some n) : l = l.dropLast ++ [n] := by
  obtain ⟨ys, rfl⟩ := List.getLast?_eq_some_iff.mp h
  rw [List.dropLast_concat]
theorem WF.step {r : Nat} {st : FSt} {m : Mark} (h : WF st) : WF (stepF r st m) := by
  unfold stepF
  by_cases ho : m.2 = "open"
  · rw [if_pos ho]
    refine ⟨?_, fun n hn => ?_, ?_⟩
    · refine List.nodup_append.mpr ⟨h.nd, by simp, fun a ha b hb => ?_⟩
      obtain ⟨f, hf, _⟩ := h.ok a ha
      have := (List.getElem?_eq_some_iff.mp hf).1
      rw [List.mem_singleton.mp hb]
      omega
    · rcases List.mem_append.mp hn with hn | hn
      · obtain ⟨f, hf, hi⟩ := h.ok n hn
        refine ⟨f, ?_, hi⟩
        show (st.1 ++ _)[n]? = _
        rw [List.getElem?_append_left (List.getElem?_eq_some_iff.mp hf).1]; exact hf
      · rw [List.mem_singleton.mp hn]
        exact ⟨(r, m.1, none), by show (st.1 ++ _)[st.1.length]? = _; rw [List.getElem?_append_right (Nat.le_refl _), Nat.sub_self]; rfl, rfl⟩
    · show (st.1 ++ [_]).countP isN = (st.2 ++ [_]).length
      rw [List.countP_append, h.ct, List.length_append]
      rfl
  · rw [if_neg ho]
    cases e : st.2.getLast? with
    | none => exact h
    | some n =>
      have hs := last_split e
      obtain ⟨f, hf, hi⟩ := h.ok n (by rw [hs]; simp)
      have hn := (List.getElem?_eq_some_iff.mp hf).1
      have nd := h.nd
      rw [hs] at nd
      have nd2 := List.nodup_append.mp nd
      refine ⟨nd2.1, fun k hk => ?_, ?_⟩
      · have hk2 : k ∈ st.2 := by rw [hs]; exact List.mem_append_left _ hk
        obtain ⟨g, hg, gi⟩ := h.ok k hk2
        refine ⟨g, ?_, gi⟩
        show (st.1.set n _)[k]? = _
        rw [List.getElem?_set_ne (fun z => nd2.2.2 k hk n (by simp) z.symm)]
        exact hg
      · show (st.1.set n _).countP isN = st.2.dropLast.length
        rw [List.countP_set hn, h.ct]
        have hfn : st.1[n] = f := (List.getElem?_eq_some_iff.mp hf).2
        have hl : st.2.length = st.2.dropLast.length + 1 := by
          conv => lhs; rw [hs]
          rw [List.length_append]; rfl
        rw [hfn, if_pos hi, if_neg (by unfold closed isN; simp)]
        omega
theorem WF.fold {r : Nat} : ∀ {ms : List Mark} {st : FSt}, WF st → WF (ms.foldl (stepF r) st)
  | [], _, h => h
  | m :: ms, st, h => WF.fold (ms := ms) h.step
theorem wf_all (rows : List (List Mark)) : ∀ i, WF (foldsN rows i)
  | 0 => ⟨List.nodup_nil, fun n hn => by simp [foldsN] at hn, rfl⟩
  | i + 1 => (wf_all rows i).fold
theorem step_len (r : Nat) (st : FSt) (m : Mark) : (stepF r st m).1.length ≤ st.1.length + 1 ∧ (stepF r st m).2.length ≤ st.2.length + 1 := by
  unfold stepF
  split
  · simp
  · split
    · omega
    · simp; omega
theorem fold_len (r : Nat) : ∀ (ms : List Mark) (st : FSt), (ms.foldl (stepF r) st).1.length ≤ st.1.length + ms.length ∧ (ms.foldl (stepF r) st).2.length ≤ st.2.length + ms.length
  | [], st => by simp
  | m :: ms, st => by
    have h1 := fold_len r ms (stepF r st m)
    have h2 := step_len r st m
    rw [List.foldl_cons, List.length_cons]
    omega
def Small (rows : List (List Mark)) : Prop := rows.length ≤ 10 ∧ ∀ r ∈ rows, r.length ≤ 10
theorem folds_len {rows : List (List Mark)} (h : Small rows) : ∀ i, (foldsN rows i).1.length ≤ 10 * i ∧ (foldsN rows i).2.length ≤ 10 * i
  | 0 => by simp [foldsN]
  | i + 1 => by
    have ih := folds_len h i
    have h1 := fold_len i (rows[i]?.getD []) (foldsN rows i)
    have h2 : (rows[i]?.getD []).length ≤ 10 := by
      cases e : rows[i]? with
      | none => simp
      | some r => exact h.2 r (List.mem_of_getElem? e)
    rw [foldsN]
    omega
/-! ### as they lie in the heap -/
def MarksAt (H : Hp) (l : Addr) (ms : List Mark) : Prop := ∃ ps : List Addr, H l = some (.lst (ps.map V.ref)) ∧ All2 (fun p (m : Mark) => H p = some (.tup [.int m.1, .str m.2])) ps ms
def RowsAt (H : Hp) (l : Addr) (rows : List (List Mark)) : Prop := ∃ ls : List Addr, H l = some (.lst (ls.map V.ref)) ∧ All2 (MarksAt H) ls rows
theorem MarksAt.same {H H' : Hp} {l : Addr} {ms : List Mark} (h : MarksAt H l ms) (s : Same H H') : MarksAt H' l ms := let ⟨ps, a, b⟩ := h; ⟨ps, s _ _ a, b.mono fun _ _ z => s _ _ z⟩
theorem RowsAt.same {H H' : Hp} {l : Addr} {rows : List (List Mark)} (h : RowsAt H l rows) (s : Same H H') : RowsAt H' l rows := let ⟨ps, a, b⟩ := h; ⟨ps, s _ _ a, b.mono fun _ _ z => z.same s⟩
def FoldAt (H : Hp) (p : Addr) (f : Fold) : Prop := match f.2.2 with
  | none => H p = some (.tup [.int f.1, .int f.2.1, .non])
  | some e => ∃ q, H p = some (.tup [.int f.1, .int f.2.1, .ref q]) ∧ H q = some (.tup [.int e.1, .int e.2])
theorem FoldAt.tup {H : Hp} {p : Addr} {f : Fold} (h : FoldAt H p f) : ∃ v, H p = some (.tup [.int f.1, .int f.2.1, v]) := by
  obtain ⟨a, b, e⟩ := f
  cases e with
  | none => exact ⟨_, h⟩
  | some e => obtain ⟨q, h, _⟩ := h; exact ⟨_, h⟩
theorem FoldAt.same {H H' : Hp} {p : Addr} {f : Fold} (h : FoldAt H p f) (s : ∀ b xs, H b = some (.tup xs) → H' b = some (.tup xs)) : FoldAt H' p f := by
  obtain ⟨a, b, e⟩ := f
  cases e with
  | none => exact s _ _ h
  | some e => obtain ⟨q, h1, h2⟩ := h; exact ⟨q, s _ _ h1, s _ _ h2⟩
def FoldsAt (H : Hp) (l : Addr) (fs : List Fold) : Prop := ∃ ps : List Addr, H l = some (.lst (ps.map V.ref)) ∧ All2 (FoldAt H) ps fs
theorem FoldsAt.same {H H' : Hp} {l : Addr} {fs : List Fold} (h : FoldsAt H l fs) (s : Same H H') : FoldsAt H' l fs := let ⟨ps, a, b⟩ := h; ⟨ps, s _ _ a, b.mono fun _ _ z => z.same fun b xs => s b _⟩
theorem tup_upd {H : Hp} {l : Addr} {xs ys : List V} (h : H l = some (.lst xs)) : ∀ b zs, H b = some (.tup zs) → upd H l (.lst ys) b = some (.tup zs) := fun b zs e => by
  rw [upd_ne (ne_of e h (by intro z; cases z))]; exact e
theorem All2.set {α β : Type} {R : α → β → Prop} {as : List α} {bs : List β} {a : α} {b : β} {n : Nat} (h : All2 R as bs) (r : R a b) : All2 R (as.set n a) (bs.set n b) := by
  refine ⟨by simp [h.1], fun i x y hx hy => ?_⟩
  rw [List.getElem?_set] at hx hy
  by_cases hn : n = i
  · rw [if_pos hn] at hx hy
    split at hx
    · split at hy
      · cases hx; cases hy; exact r
      · cases hy
    · cases hx
  · rw [if_neg hn] at hx hy
    exact h.2 i x y hx hy
end
section
variable {P : Program} {w : World} {K : PySem.W.Frag} {mg : Str → Option Value} {base : Heap} {t : Adr}
theorem Same.up {G H : Hp} {x : Addr} {o : HO} (s : Same G H) (h : G x = none) : Same G (L2.upd H x o) := fun b u e => by rw [upd_ne (ne_of_none e h)]; exact s b u e
def natV (n : Nat) : V := V.int (n : Int)
/-- what stands amid the folding: both lists are new -/
structure Mid (H0 H : Hp) (lt lw : Addr) (st : FSt) : Prop where
  ft : FoldsAt H lt st.1
  fw : H lw = some (.lst (st.2.map natV))
  ne : lt ≠ lw
  s : Same H0 H
theorem Mid.to {H0 H H' : Hp} {lt lw : Addr} {st : FSt} (h : Mid H0 H lt lw st) (s : Same H H') : Mid H0 H' lt lw st := ⟨h.ft.same s, s _ _ h.fw, h.ne, h.s.trans s⟩
theorem Mid.opened {H0 H : Hp} {lt lw p : Addr} {st : FSt} {r : Nat} {m : Mark} (h : Mid H0 H lt lw st) (h1 : H0 lt = none) (h2 : H0 lw = none) (hm : m.2 = "open") {ps : List Addr} (hps : H lt = some (.lst (ps.map V.ref))) (hA : All2 (FoldAt H) ps st.1) (hp : upd H lw (.lst (st.2.map natV ++ [natV st.1.length])) p = none) :
    Mid H0 (upd (upd (upd H lw (.lst (st.2.map natV ++ [natV st.1.length]))) p (.tup [.int r, .int m.1, .non])) lt (.lst (ps.map V.ref ++ [.ref p]))) lt lw (stepF r st m) := by
  unfold stepF
  rw [if_pos hm]
  have nlp : lt ≠ p := fun z => by rw [← z, upd_ne h.ne, hps] at hp; cases hp
  have nwp : lw ≠ p := fun z => by rw [← z, upd_same] at hp; cases hp
  have keep : ∀ b zs, H b = some (.tup zs) → upd (upd (upd H lw (.lst (st.2.map natV ++ [natV st.1.length]))) p (.tup [.int r, .int m.1, .non])) lt (.lst (ps.map V.ref ++ [.ref p])) b = some (.tup zs) := fun b zs e => by
    rw [upd_ne (ne_of e hps (by intro z; cases z))]
    have e2 := tup_upd (ys := st.2.map natV ++ [natV st.1.length]) h.fw b zs e
    rw [upd_ne (ne_of_none e2 hp)]; exact e2
  refine ⟨⟨ps ++ [p], by rw [upd_same, List.map_append]; rfl, (hA.mono fun _ _ z => z.same keep).snoc ?_⟩, ?_, h.ne, fun b o e => ?_⟩
  · show upd _ lt _ p = _
    rw [upd_ne (Ne.symm nlp), upd_same]
  · rw [upd_ne (Ne.symm h.ne), upd_ne nwp, upd_same, List.map_append]; rfl
  · have e3 := Same.up (Same.to (Same.up h.s h2 (o := .lst (st.2.map natV ++ [natV st.1.length]))) hp (o := .tup [.int r, .int m.1, .non])) h1 (o := .lst (ps.map V.ref ++ [.ref p]))
    exact e3 b o e
theorem Mid.shut {H0 H H3 : Hp} {lt lw p q : Addr} {st : FSt} {r n : Nat} {m : Mark} {f : Fold} (h : Mid H0 H lt lw st) (h1 : H0 lt = none) (h2 : H0 lw = none) (hm : m.2 ≠ "open") (e : st.2.getLast? = some n) (hf : st.1[n]? = some f) {ps : List Addr} (hps : H lt = some (.lst (ps.map V.ref))) (hA : All2 (FoldAt H) ps st.1)
    (s3 : Same (upd H lw (.lst (st.2.map natV).dropLast)) H3) (hp : H3 p = some (.tup [.int f.1, .int f.2.1, .ref q])) (hq : H3 q = some (.tup [.int r, .int m.1])) : Mid H0 (upd H3 lt (.lst ((ps.map V.ref).set n (.ref p)))) lt lw (stepF r st m) := by
  have es : stepF r st m = (st.1.set n (f.1, f.2.1, some (r, m.1)), st.2.dropLast) := by
    unfold stepF
    rw [if_neg hm, e]
    show (st.1.set n (closed st.1[n]? r m.1), _) = _
    rw [hf]
    rfl
  have hl3 : H3 lt = some (.lst (ps.map V.ref)) := s3 _ _ (by rw [upd_ne h.ne]; exact hps)
  have hw3 : H3 lw = some (.lst (st.2.map natV).dropLast) := s3 _ _ upd_same
  have k3 : ∀ b zs, H b = some (.tup zs) → upd H3 lt (.lst ((ps.map V.ref).set n (.ref p))) b = some (.tup zs) := fun b zs z => tup_upd hl3 b zs (s3 _ _ (tup_upd h.fw b zs z))
  rw [es]
  refine ⟨⟨ps.set n p, by rw [upd_same, List.map_set], (hA.mono fun _ _ z => z.same k3).set ⟨q, tup_upd hl3 _ _ hp, tup_upd hl3 _ _ hq⟩⟩, ?_, h.ne, fun b o z => ?_⟩
  · rw [upd_ne (Ne.symm h.ne), hw3, List.map_dropLast]
  · rw [upd_ne (ne_of_none z h1)]
    exact s3 _ _ (by rw [upd_ne (ne_of_none z h2)]; exact h.s _ _ z)
theorem last_at {l : List Nat} {n : Nat} (h : l.getLast? = some n) : (l.map natV)[(l.map natV).length - 1]? = some (natV n) := by
  rw [List.length_map, List.getElem?_map, ← List.getLast?_eq_getElem?, h]; rfl
theorem step_none {r : Nat} {st : FSt} {m : Mark} (hm : m.2 ≠ "open") (e : st.2 = []) : stepF r st m = st := by
  unfold stepF
  rw [if_neg hm, e]
  rfl
theorem some_last {l : List Nat} (h : l ≠ []) : ∃ n, l.getLast? = some n := ⟨l.getLast h, List.getLast?_eq_getLast h⟩
theorem ixN_nat {n j : Nat} (h : j < n) : ixN n (j : Int) = some j := by
  rw [ixN, if_pos (by omega), if_pos (by omega), Int.toNat_natCast]
def spFolds : Sp := fun vs H Q _ => ∃ (l : Addr) (rows : List (List Mark)), vs = [.ref l] ∧ RowsAt H l rows ∧ Small rows ∧ ∀ lt H', FoldsAt H' lt (foldsP rows) → H lt = none → Same H H' → Q (.ref lt) H'
theorem ok_folds (T : Txt K mg t) : FnOk P w K mg base CX0 2 t.f_folds t.d_folds ["rows_marks"] spFolds := by
  refine T.F_folds.ok sc_folds (fun vs H Q E h => ?_) (fun cdv A outer s H vs Q E hr h => at_body ?_)
  · obtain ⟨l, rows, rfl, _⟩ := h
    rfl
  · obtain ⟨l, rows, rfl, hR, hS, q⟩ := h
    have sz := sizeLine_eq
    obtain ⟨ls, hl, hA⟩ := id hR
    refine @at_cons _ _ _ _ _ _ _ (@ps_set _ _ 1 _ _ _ _ sc_folds.nd rfl (Or.inl rfl) (@pe_lst _ _ _ _ pa_nil) (by walk_at "u") (by walk_at "u")) ⟨by show 0 ≤ sizeLine; decide, fun lt hlt => ?_⟩
    refine @at_cons _ _ _ _ _ _ _ (@ps_set _ _ 2 _ _ _ _ sc_folds.nd rfl (Or.inl rfl) (@pe_lst _ _ _ _ pa_nil) (by walk_at "u") (by walk_at "u")) ⟨by show 0 ≤ sizeLine; decide, fun lw hlw => ?_⟩
    have s1 : Same H (upd H lt (.lst [])) := Same.upd hlt
    have nlw : lt ≠ lw := fun z => by rw [← z, upd_same] at hlw; cases hlw
    have hlw0 : H lw = none := s1.free hlw
    have M0 : Mid H (upd (upd H lt (.lst [])) lw (.lst [])) lt lw ([], []) := ⟨⟨[], by rw [upd_ne nlw, upd_same]; rfl, All2.nil⟩, by rw [upd_same]; rfl, nlw, s1.to hlw⟩
    generalize upd (upd H lt (.lst [])) lw (.lst []) = H1 at M0
    show At _ _ _ [some (.ref l), some (.ref lt), some (.ref lw), none, none, none, none, none] H1
    refine @at_consR _ _ _ _ _ _ _ (fun σ' H' => (∃ x3 x4 x5 x6 x7, σ' = [some (.ref l), some (.ref lt), some (.ref lw), x3, x4, x5, x6, x7]) ∧ Mid H H' lt lw (foldsN rows rows.length)) (@ps_forA _ _ _ _ _ _ _ _ PassesOwn.never rfl (@pi_enum _ _ _ _ _ _ _ _ rfl T.z_enumerate (@pa_cons _ _ _ _ _ (pv 0) pa_nil (by walk_at "u")) (by walk_at "u")) (@pg_tup _ _ _ _ _ _ rfl (@pgs_cons _ _ _ _ _ (@pg_name _ _ 3 _ sc_folds.nd rfl (Or.inl rfl) (by walk_at "u")) (@pgs_cons _ _ _ _ _ (@pg_name _ _ 4 _ sc_folds.nd rfl (Or.inl rfl) (by walk_at "u")) pgs_nil (by walk_at "u")) (by walk_at "u")) (by walk_at "u") (by walk_at "u")) pss_at (by walk_at "u")) ?_ ?_
    · refine ⟨_, rfl, l, _, rfl, SqL.of (M0.s _ _ hl), forW_enum (xs := ls.map V.ref) (fun i σ' H' => (∃ x3 x4 x5 x6 x7, σ' = [some (.ref l), some (.ref lt), some (.ref lw), x3, x4, x5, x6, x7]) ∧ Mid H H' lt lw (foldsN rows i)) ⟨⟨_, _, _, _, _, rfl⟩, M0⟩ ?_ ?_ ?_⟩
      · rintro i σ' H2 _ ⟨_, M⟩
        exact SqL.of (M.s _ _ hl)
      · rintro i xv pt σ' H2 hx hpt ⟨⟨x3, x4, x5, x6, x7, rfl⟩, M⟩
        rw [List.getElem?_map] at hx
        obtain ⟨lm, hlm, rfl⟩ := Option.map_eq_some_iff.mp hx
        obtain ⟨row, hrow⟩ : ∃ r, rows[i]? = some r := ⟨rows[i]'(by rw [← hA.1]; exact (List.getElem?_eq_some_iff.mp hlm).1), List.getElem?_eq_getElem _⟩
        obtain ⟨ps, hlm1, hP⟩ := hA.2 i lm row hlm hrow
        have hi := (List.getElem?_eq_some_iff.mp hrow).1
        have hrl := hS.2 row (List.mem_of_getElem? hrow)
        have M2 := M.to (Same.upd hpt (o := .tup [.int i, .ref lm]))
        refine ⟨pt, [.int i, .ref lm], rfl, SqT.of upd_same, rfl, _, _, rfl, _, _, rfl, rfl, ?_⟩
        generalize upd H2 pt (.tup [.int i, .ref lm]) = H3 at M2
        have eN : foldsN rows (i + 1) = row.foldl (stepF i) (foldsN rows i) := by rw [foldsN, hrow]; rfl
        refine @at_one _ _ _ _ _ _ (@ps_forA _ _ _ _ _ _ _ _ PassesOwn.never rfl (@pi_list _ _ _ _ (pv 4)) (@pg_tup _ _ _ _ _ _ rfl (@pgs_cons _ _ _ _ _ (@pg_name _ _ 5 _ sc_folds.nd rfl (Or.inl rfl) (by walk_at "u")) (@pgs_cons _ _ _ _ _ (@pg_name _ _ 6 _ sc_folds.nd rfl (Or.inl rfl) (by walk_at "u")) pgs_nil (by walk_at "u")) (by walk_at "u")) (by walk_at "u") (by walk_at "u")) pss_at (by walk_at "u")) ⟨_, rfl, lm, rfl, ⟨_, SqL.of (M2.s _ _ hlm1)⟩, forW_list (xs := ps.map V.ref) (fun j σ' H' => (∃ x5 x6 x7, σ' = [some (.ref l), some (.ref lt), some (.ref lw), some (.int i), some (.ref lm), x5, x6, x7]) ∧ Mid H H' lt lw ((row.take j).foldl (stepF i) (foldsN rows i))) ⟨⟨_, _, _, rfl⟩, M2⟩ ?_ ?_ ?_⟩
        · rintro j σ' H4 _ ⟨_, M⟩
          exact SqL.of (M.s _ _ hlm1)
        · rintro j xv σ' H4 hx ⟨⟨x5, x6, x7, rfl⟩, M4⟩
          rw [List.getElem?_map] at hx
          obtain ⟨p, hp, rfl⟩ := Option.map_eq_some_iff.mp hx
          obtain ⟨m, hm⟩ : ∃ r, row[j]? = some r := ⟨row[j]'(by rw [← hP.1]; exact (List.getElem?_eq_some_iff.mp hp).1), List.getElem?_eq_getElem _⟩
          have hpt := M4.s _ _ (hP.2 j p m hp hm)
          have eT : (row.take (j + 1)).foldl (stepF i) (foldsN rows i) = stepF i ((row.take j).foldl (stepF i) (foldsN rows i)) m := by
            rw [List.take_add_one, hm, Option.toList_some, List.foldl_append]; rfl
          have wf : WF ((row.take j).foldl (stepF i) (foldsN rows i)) := (wf_all rows i).fold
          have hjl := (List.getElem?_eq_some_iff.mp hm).1
          have ln := fold_len i (row.take j) (foldsN rows i)
          have ln2 := folds_len hS i
          rw [List.length_take] at ln
          have hrr := hS.1
          rw [eT]
          generalize (row.take j).foldl (stepF i) (foldsN rows i) = st at M4 wf ln
          obtain ⟨qs, hq1, hq2⟩ := id M4.ft
          refine ⟨p, [.int m.1, .str m.2], rfl, SqT.of hpt, rfl, _, _, rfl, _, _, rfl, rfl, ?_⟩
          refine @at_one _ _ _ _ _ _ (@ps_if _ _ _ _ _ _ _ _ (@pt_cmpR _ _ _ _ _ _ _ _ op_eq (pv 6) pe_str (nomark _)) pss_at pss_at) ⟨_, rfl, rfl, _, rfl, ifd (fun h => ?_) (fun h => ?_)⟩
          · have ho : m.2 = "open" := by injection h
            have eq1 : upd H4 lw (.lst (st.2.map natV ++ [.int ((qs.map V.ref).length : Nat)])) lt = some (.lst (qs.map V.ref)) := by rw [upd_ne M4.ne]; exact hq1
            refine @at_cons _ _ _ _ _ _ _ (@ps_expr _ _ _ _ (@pe_bm _ _ _ _ _ _ _ _ _ _ _ _ PySem.F.plainAttrs_list PySem.F.slot_list_append PySem.F.type_list_append mt_append (pv 2) (@pa_cons _ _ _ _ _ (@pe_callB _ _ _ _ _ _ _ _ _ call_len_seq (by rfl) T.z_len (by decide +kernel) (@pa_cons _ _ _ _ _ (pv 1) pa_nil (by walk_at "u")) (by walk_at "u") (by walk_at "u") (by walk_at "u") (by walk_at "u")) pa_nil (by walk_at "u")) (by walk_at "u") (by walk_at "u") (by walk_at "u") (by walk_at "u") (by walk_at "u")) (by walk_at "u")) ⟨_, rfl, .inl ⟨rfl, _, SqL.of M4.fw⟩, _, rfl, _, _, rfl, .inl (SqL.of hq1), lw, _, _, rfl, rfl, M4.fw, sl_lt (by rw [List.length_map]; omega), ?_⟩
            refine @at_one _ _ _ _ _ _ (@ps_expr _ _ _ _ (@pe_bm _ _ _ _ _ _ _ _ _ _ _ _ PySem.F.plainAttrs_list PySem.F.slot_list_append PySem.F.type_list_append mt_append (pv 1) (@pa_cons _ _ _ _ _ (@pe_tup _ _ _ _ _ (@pa_cons _ _ _ _ _ (pv 3) (@pa_cons _ _ _ _ _ (pv 5) (@pa_cons _ _ _ _ _ pe_non pa_nil (by walk_at "u")) (by walk_at "u")) (by walk_at "u"))) pa_nil (by walk_at "u")) (by walk_at "u") (by walk_at "u") (by walk_at "u") (by walk_at "u") (by walk_at "u")) (by walk_at "u")) ⟨_, rfl, .inl ⟨rfl, _, SqL.of eq1⟩, _, rfl, _, rfl, by show 3 ≤ sizeLine; decide, fun p2 hp2 => ⟨lt, _, _, rfl, rfl, ?_, sl_lt (n := (qs.map V.ref).length) (by rw [List.length_map, hq2.1]; omega), ?_⟩⟩
            · rw [upd_ne (fun z => by rw [← z, upd_ne M4.ne, hq1] at hp2; cases hp2), upd_ne M4.ne]; exact hq1
            · refine ⟨⟨_, _, _, rfl⟩, ?_⟩
              have e0 : (qs.map V.ref).length = st.1.length := by rw [List.length_map, hq2.1]
              rw [e0] at hp2 ⊢
              exact M4.opened hlt hlw0 ho hq1 hq2 hp2
          · have ho : m.2 ≠ "open" := fun z => h (by rw [z])
            refine @at_one _ _ _ _ _ _ (@ps_if _ _ _ _ _ _ _ _ (@pt_truth _ _ _ (pv 2) (fun _ => rfl)) pss_at pss_at) ⟨_, rfl, !(st.2.map natV).isEmpty, .inl ⟨_, SqL.of M4.fw, rfl⟩, ?_⟩
            by_cases hw : st.2 = []
            · refine ifeq (c := false) (by rw [hw]; rfl) ?_
              refine at_nil ⟨⟨_, _, _, rfl⟩, ?_⟩
              rw [step_none ho hw]
              exact M4
            · refine ifeq (c := true) (by cases e : st.2 with | nil => exact absurd e hw | cons a b => rfl) ?_
              obtain ⟨n, hn⟩ := some_last hw
              obtain ⟨f, hf, _⟩ := wf.ok n (List.mem_of_getLast? hn)
              have hnl := (List.getElem?_eq_some_iff.mp hf).1
              obtain ⟨pf, hpf, hFA⟩ := hq2.at hf
              obtain ⟨v, hv⟩ := hFA.tup
              refine @at_cons _ _ _ _ _ _ _ (@ps_set _ _ 7 _ _ _ _ sc_folds.nd rfl (Or.inl rfl) (@pe_bm0 _ _ _ _ _ _ _ _ _ PySem.F.plainAttrs_list PySem.F.slot_list_pop PySem.F.type_list_pop mt_pop (pv 2) (by walk_at "u") (by walk_at "u")) (by walk_at "u") (by walk_at "u")) ⟨_, rfl, .inl ⟨rfl, _, SqL.of M4.fw⟩, lw, _, _, rfl, rfl, M4.fw, last_at hn, ?_⟩
              have hq5 : upd H4 lw (.lst (st.2.map natV).dropLast) lt = some (.lst (qs.map V.ref)) := by rw [upd_ne M4.ne]; exact hq1
              have hv5 := tup_upd (ys := (st.2.map natV).dropLast) M4.fw _ _ hv
              refine @at_one _ _ _ _ _ _ (@ps_asg _ _ _ _ _ _ (@pe_tup _ _ _ _ _ (@pa_cons _ _ _ _ _ (@pe_ix _ _ _ _ _ _ _ ix_tup (@pe_ix _ _ _ _ _ _ _ ix_list (pv 1) (pv 7) (fun _ _ => rfl)) pe_int (fun _ _ => rfl)) (@pa_cons _ _ _ _ _ (@pe_ix _ _ _ _ _ _ _ ix_tup (@pe_ix _ _ _ _ _ _ _ ix_list (pv 1) (pv 7) (fun _ _ => rfl)) pe_int (fun _ _ => rfl)) (@pa_cons _ _ _ _ _ (@pe_tup _ _ _ _ _ (@pa_cons _ _ _ _ _ (pv 3) (@pa_cons _ _ _ _ _ (pv 5) pa_nil (by walk_at "u")) (by walk_at "u"))) pa_nil (by walk_at "u")) (by walk_at "u")) (by walk_at "u"))) (@pg_sub _ _ _ _ _ _ _ (pv 1) (pv 7) set_list (by walk_at "u")) (by walk_at "u") (by walk_at "u") (by walk_at "u")) ⟨_, rfl, _, rfl, _, _, _, _, rfl, rfl, SqL.of hq5, at_ref hpf, _, _, _, _, rfl, rfl, SqT.of hv5, atI_nat (j := 0) rfl, _, rfl, _, rfl, _, _, _, _, rfl, rfl, SqL.of hq5, at_ref hpf, _, _, _, _, rfl, rfl, SqT.of hv5, atI_nat (j := 1) rfl, _, rfl, _, rfl, by show 2 ≤ sizeLine; decide, fun q6 h6 => ⟨by show 3 ≤ sizeLine; decide, fun p7 h7 => ?_⟩⟩
              have s7 := (Same.upd h6 (o := .tup [.int i, .int m.1])).to h7 (o := .tup [.int f.1, .int f.2.1, .ref q6])
              refine ⟨_, rfl, _, rfl, lt, _, _, n, rfl, rfl, s7 _ _ hq5, ixN_nat (by rw [List.length_map, hq2.1]; exact hnl), ⟨_, _, _, rfl⟩, ?_⟩
              exact M4.shut hlt hlw0 ho hn hf hq1 hq2 s7 upd_same (Same.upd h7 _ _ upd_same)
        · rintro σ' H4 ⟨⟨x5, x6, x7, rfl⟩, M4⟩
          rw [List.length_map, hP.1, List.take_length, ← eN] at M4
          exact ⟨⟨_, _, _, _, _, rfl⟩, M4⟩
      · rintro σ' H2 ⟨h1, M⟩
        rw [List.length_map, hA.1] at M
        exact ⟨h1, M⟩
    rintro σ' H2 ⟨⟨x3, x4, x5, x6, x7, rfl⟩, M⟩
    exact @at_one _ _ _ _ _ _ (@ps_ret _ _ _ _ (pv 1)) ⟨_, rfl, q lt H2 M.ft hlt M.s⟩
end
section
variable {P : Program} {w : World} {K : PySem.W.Frag} {mg : Str → Option Value} {base : Heap} {t : Adr}
theorem ok__law_folds (T : Txt K mg t) : FnOk P w K mg base CX0 2 t.f__law_folds t.d__law_folds ["_law_rows_marks"] spFolds := by
  refine T.F__law_folds.ok sc__law_folds (fun vs H Q E h => ?_) (fun cdv A outer s H vs Q E hr h => at_body ?_)
  · obtain ⟨l, rows, rfl, _⟩ := h
    rfl
  · obtain ⟨l, rows, rfl, hR, hS, q⟩ := h
    have sz := sizeLine_eq
    obtain ⟨ls, hl, hA⟩ := id hR
    refine @at_cons _ _ _ _ _ _ _ (@ps_set _ _ 1 _ _ _ _ sc__law_folds.nd rfl (Or.inl rfl) (@pe_lst _ _ _ _ pa_nil) (by walk_at "u") (by walk_at "u")) ⟨by show 0 ≤ sizeLine; decide, fun lt hlt => ?_⟩
    refine @at_cons _ _ _ _ _ _ _ (@ps_set _ _ 2 _ _ _ _ sc__law_folds.nd rfl (Or.inl rfl) (@pe_lst _ _ _ _ pa_nil) (by walk_at "u") (by walk_at "u")) ⟨by show 0 ≤ sizeLine; decide, fun lw hlw => ?_⟩
    have s1 : Same H (upd H lt (.lst [])) := Same.upd hlt
    have nlw : lt ≠ lw := fun z => by rw [← z, upd_same] at hlw; cases hlw
    have hlw0 : H lw = none := s1.free hlw
    have M0 : Mid H (upd (upd H lt (.lst [])) lw (.lst [])) lt lw ([], []) := ⟨⟨[], by rw [upd_ne nlw, upd_same]; rfl, All2.nil⟩, by rw [upd_same]; rfl, nlw, s1.to hlw⟩
    generalize upd (upd H lt (.lst [])) lw (.lst []) = H1 at M0
    show At _ _ _ [some (.ref l), some (.ref lt), some (.ref lw), none, none, none, none] H1
    refine @at_consR _ _ _ _ _ _ _ (fun σ' H' => (∃ x3 x5 x6 x7, σ' = [some (.ref l), some (.ref lt), some (.ref lw), x3, x5, x6, x7]) ∧ Mid H H' lt lw (foldsN rows rows.length)) (@ps_forA _ _ _ _ _ _ _ _ PassesOwn.never rfl (@pi_range1 _ _ _ _ _ _ rfl T.z_range (@pa_cons _ _ _ _ _ (@pe_callB _ _ _ _ _ _ _ _ _ call_len_seq (by rfl) T.z_len (by decide +kernel) (@pa_cons _ _ _ _ _ (pv 0) pa_nil (by walk_at "u")) (by walk_at "u") (by walk_at "u") (by walk_at "u") (by walk_at "u")) pa_nil (by walk_at "u")) (by walk_at "u")) (@pg_name _ _ 3 _ sc__law_folds.nd rfl (Or.inl rfl) (by walk_at "u")) pss_at (by walk_at "u")) ?_ ?_
    · refine ⟨_, rfl, _, _, rfl, .inl (SqL.of (M0.s _ _ hl)), _, rfl, by rw [List.length_map, hA.1]; omega, by rw [List.length_map, hA.1]; have := hS.1; omega, ?_⟩
      rw [show (((ls.map V.ref).length : Nat) : Int).toNat = rows.length by rw [List.length_map, hA.1]; omega]
      refine forW_range (n := rows.length) (fun i σ' H' => (∃ x3 x5 x6 x7, σ' = [some (.ref l), some (.ref lt), some (.ref lw), x3, x5, x6, x7]) ∧ Mid H H' lt lw (foldsN rows i)) ⟨⟨_, _, _, _, rfl⟩, M0⟩ ?_ ?_
      · rintro i σ' H3 hi ⟨⟨x3, x5, x6, x7, rfl⟩, M2⟩
        have hrow : rows[i]? = some rows[i] := List.getElem?_eq_getElem hi
        generalize rows[i] = row at hrow
        obtain ⟨lm, hlm, ps, hlm1, hP⟩ := hA.at hrow
        have hrl := hS.2 row (List.mem_of_getElem? hrow)
        have eN : foldsN rows (i + 1) = row.foldl (stepF i) (foldsN rows i) := by rw [foldsN, hrow]; rfl
        show At _ _ _ [some (.ref l), some (.ref lt), some (.ref lw), some (.int (0 + (i : Int))), x5, x6, x7] H3
        rw [Int.zero_add]
        refine @at_one _ _ _ _ _ _ (@ps_forA _ _ _ _ _ _ _ _ PassesOwn.never rfl (@pi_list _ _ _ _ (@pe_ix _ _ _ _ _ _ _ ix_list (pv 0) (pv 3) (fun _ _ => rfl))) (@pg_tup _ _ _ _ _ _ rfl (@pgs_cons _ _ _ _ _ (@pg_name _ _ 4 _ sc__law_folds.nd rfl (Or.inl rfl) (by walk_at "u")) (@pgs_cons _ _ _ _ _ (@pg_name _ _ 5 _ sc__law_folds.nd rfl (Or.inl rfl) (by walk_at "u")) pgs_nil (by walk_at "u")) (by walk_at "u")) (by walk_at "u") (by walk_at "u")) pss_at (by walk_at "u")) ⟨_, rfl, _, rfl, _, _, _, _, rfl, rfl, SqL.of (M2.s _ _ hl), at_ref hlm, lm, rfl, ⟨_, SqL.of (M2.s _ _ hlm1)⟩, forW_list (xs := ps.map V.ref) (fun j σ' H' => (∃ x5 x6 x7, σ' = [some (.ref l), some (.ref lt), some (.ref lw), some (.int i), x5, x6, x7]) ∧ Mid H H' lt lw ((row.take j).foldl (stepF i) (foldsN rows i))) ⟨⟨_, _, _, rfl⟩, M2⟩ ?_ ?_ ?_⟩
        · rintro j σ' H4 _ ⟨_, M⟩
          exact SqL.of (M.s _ _ hlm1)
        · rintro j xv σ' H4 hx ⟨⟨x5, x6, x7, rfl⟩, M4⟩
          rw [List.getElem?_map] at hx
          obtain ⟨p, hp, rfl⟩ := Option.map_eq_some_iff.mp hx
          obtain ⟨m, hm⟩ : ∃ r, row[j]? = some r := ⟨row[j]'(by rw [← hP.1]; exact (List.getElem?_eq_some_iff.mp hp).1), List.getElem?_eq_getElem _⟩
          have hpt := M4.s _ _ (hP.2 j p m hp hm)
          have eT : (row.take (j + 1)).foldl (stepF i) (foldsN rows i) = stepF i ((row.take j).foldl (stepF i) (foldsN rows i)) m := by
            rw [List.take_add_one, hm, Option.toList_some, List.foldl_append]; rfl
          have wf : WF ((row.take j).foldl (stepF i) (foldsN rows i)) := (wf_all rows i).fold
          have hjl := (List.getElem?_eq_some_iff.mp hm).1
          have ln := fold_len i (row.take j) (foldsN rows i)
          have ln2 := folds_len hS i
          rw [List.length_take] at ln
          have hrr := hS.1
          rw [eT]
          generalize (row.take j).foldl (stepF i) (foldsN rows i) = st at M4 wf ln
          obtain ⟨qs, hq1, hq2⟩ := id M4.ft
          refine ⟨p, [.int m.1, .str m.2], rfl, SqT.of hpt, rfl, _, _, rfl, _, _, rfl, rfl, ?_⟩
          refine @at_one _ _ _ _ _ _ (@ps_if _ _ _ _ _ _ _ _ (@pt_cmpR _ _ _ _ _ _ _ _ op_eq (pv 5) pe_str (nomark _)) pss_at pss_at) ⟨_, rfl, rfl, _, rfl, ifd (fun h => ?_) (fun h => ?_)⟩
          · have ho : m.2 = "open" := by injection h
            have eq1 : upd H4 lw (.lst (st.2.map natV ++ [.int ((qs.map V.ref).length : Nat)])) lt = some (.lst (qs.map V.ref)) := by rw [upd_ne M4.ne]; exact hq1
            refine @at_cons _ _ _ _ _ _ _ (@ps_expr _ _ _ _ (@pe_bm _ _ _ _ _ _ _ _ _ _ _ _ PySem.F.plainAttrs_list PySem.F.slot_list_append PySem.F.type_list_append mt_append (pv 2) (@pa_cons _ _ _ _ _ (@pe_callB _ _ _ _ _ _ _ _ _ call_len_seq (by rfl) T.z_len (by decide +kernel) (@pa_cons _ _ _ _ _ (pv 1) pa_nil (by walk_at "u")) (by walk_at "u") (by walk_at "u") (by walk_at "u") (by walk_at "u")) pa_nil (by walk_at "u")) (by walk_at "u") (by walk_at "u") (by walk_at "u") (by walk_at "u") (by walk_at "u")) (by walk_at "u")) ⟨_, rfl, .inl ⟨rfl, _, SqL.of M4.fw⟩, _, rfl, _, _, rfl, .inl (SqL.of hq1), lw, _, _, rfl, rfl, M4.fw, sl_lt (by rw [List.length_map]; omega), ?_⟩
            refine @at_one _ _ _ _ _ _ (@ps_expr _ _ _ _ (@pe_bm _ _ _ _ _ _ _ _ _ _ _ _ PySem.F.plainAttrs_list PySem.F.slot_list_append PySem.F.type_list_append mt_append (pv 1) (@pa_cons _ _ _ _ _ (@pe_tup _ _ _ _ _ (@pa_cons _ _ _ _ _ (pv 3) (@pa_cons _ _ _ _ _ (pv 4) (@pa_cons _ _ _ _ _ pe_non pa_nil (by walk_at "u")) (by walk_at "u")) (by walk_at "u"))) pa_nil (by walk_at "u")) (by walk_at "u") (by walk_at "u") (by walk_at "u") (by walk_at "u") (by walk_at "u")) (by walk_at "u")) ⟨_, rfl, .inl ⟨rfl, _, SqL.of eq1⟩, _, rfl, _, rfl, by show 3 ≤ sizeLine; decide, fun p2 hp2 => ⟨lt, _, _, rfl, rfl, ?_, sl_lt (n := (qs.map V.ref).length) (by rw [List.length_map, hq2.1]; omega), ?_⟩⟩
            · rw [upd_ne (fun z => by rw [← z, upd_ne M4.ne, hq1] at hp2; cases hp2), upd_ne M4.ne]; exact hq1
            · refine ⟨⟨_, _, _, rfl⟩, ?_⟩
              have e0 : (qs.map V.ref).length = st.1.length := by rw [List.length_map, hq2.1]
              rw [e0] at hp2 ⊢
              exact M4.opened hlt hlw0 ho hq1 hq2 hp2
          · have ho : m.2 ≠ "open" := fun z => h (by rw [z])
            refine @at_one _ _ _ _ _ _ (@ps_if _ _ _ _ _ _ _ _ (@pt_cmpR _ _ _ _ _ _ _ _ op_gt (@pe_callB _ _ _ _ _ _ _ _ _ call_len_seq (by rfl) T.z_len (by decide +kernel) (@pa_cons _ _ _ _ _ (pv 2) pa_nil (by walk_at "u")) (by walk_at "u") (by walk_at "u") (by walk_at "u") (by walk_at "u")) pe_int (nomark _)) pss_at pss_at) ⟨_, rfl, _, _, rfl, .inl (SqL.of M4.fw), _, _, rfl, rfl, _, rfl, ?_⟩
            by_cases hw : st.2 = []
            · refine ifeq (c := false) (by rw [hw]; rfl) ?_
              refine at_nil ⟨⟨_, _, _, rfl⟩, ?_⟩
              rw [step_none ho hw]
              exact M4
            · refine ifeq (c := true) (decide_eq_true (by rw [List.length_map]; have := List.length_pos_iff.mpr hw; omega)) ?_
              obtain ⟨n, hn⟩ := some_last hw
              obtain ⟨f, hf, _⟩ := wf.ok n (List.mem_of_getLast? hn)
              have hnl := (List.getElem?_eq_some_iff.mp hf).1
              obtain ⟨pf, hpf, hFA⟩ := hq2.at hf
              obtain ⟨v, hv⟩ := hFA.tup
              refine @at_cons _ _ _ _ _ _ _ (@ps_set _ _ 6 _ _ _ _ sc__law_folds.nd rfl (Or.inl rfl) (@pe_bm0 _ _ _ _ _ _ _ _ _ PySem.F.plainAttrs_list PySem.F.slot_list_pop PySem.F.type_list_pop mt_pop (pv 2) (by walk_at "u") (by walk_at "u")) (by walk_at "u") (by walk_at "u")) ⟨_, rfl, .inl ⟨rfl, _, SqL.of M4.fw⟩, lw, _, _, rfl, rfl, M4.fw, last_at hn, ?_⟩
              have hq5 : upd H4 lw (.lst (st.2.map natV).dropLast) lt = some (.lst (qs.map V.ref)) := by rw [upd_ne M4.ne]; exact hq1
              have hv5 := tup_upd (ys := (st.2.map natV).dropLast) M4.fw _ _ hv
              refine @at_one _ _ _ _ _ _ (@ps_asg _ _ _ _ _ _ (@pe_op _ _ _ _ _ _ _ _ op_catT (@pe_slice _ _ _ _ _ _ _ _ _ _ sl_tup (@pe_ix _ _ _ _ _ _ _ ix_list (pv 1) (pv 6) (fun _ _ => rfl)) po_none (@po_some _ _ _ pe_int)) (@pe_tup _ _ _ _ _ (@pa_cons _ _ _ _ _ (@pe_tup _ _ _ _ _ (@pa_cons _ _ _ _ _ (pv 3) (@pa_cons _ _ _ _ _ (pv 4) pa_nil (by walk_at "u")) (by walk_at "u"))) pa_nil (by walk_at "u")))) (@pg_sub _ _ _ _ _ _ _ (pv 1) (pv 6) set_list (by walk_at "u")) (by walk_at "u") (by walk_at "u") (by walk_at "u")) ⟨_, rfl, _, rfl, _, _, _, _, rfl, rfl, SqL.of hq5, at_ref hpf, 2, rfl, pf, _, rfl, SqT.of hv5, (by show ¬ (HT.sIx 3 0 none = 0 ∧ HT.sIx 3 3 (some 2) = 3); decide), fun x6 h6 => ⟨_, rfl, _, rfl, by show 2 ≤ sizeLine; decide, fun q7 h7 => ⟨by show 1 ≤ sizeLine; decide, fun y8 h8 => ?_⟩⟩⟩
              have s8 := ((Same.upd h6 (o := .tup [.int f.1, .int f.2.1])).to h7 (o := .tup [.int i, .int m.1])).to h8 (o := .tup [.ref q7])
              refine ⟨x6, y8, [.int f.1, .int f.2.1], [.ref q7], rfl, rfl, SqT.of ?_, SqT.of upd_same, by simp, by show 3 ≤ sizeLine; decide, fun z => absurd z (by simp), fun _ p9 h9 => ?_⟩
              · exact Same.upd h8 _ _ (Same.upd h7 _ _ upd_same)
              have s9 := s8.to h9 (o := .tup ([.int f.1, .int f.2.1] ++ [.ref q7]))
              refine ⟨_, rfl, _, rfl, lt, _, _, n, rfl, rfl, s9 _ _ hq5, ixN_nat (by rw [List.length_map, hq2.1]; exact hnl), ⟨_, _, _, rfl⟩, ?_⟩
              exact M4.shut hlt hlw0 ho hn hf hq1 hq2 s9 upd_same (Same.upd h9 _ _ (Same.upd h8 _ _ upd_same))
        · rintro σ' H4 ⟨⟨x5, x6, x7, rfl⟩, M4⟩
          rw [List.length_map, hP.1, List.take_length, ← eN] at M4
          exact ⟨⟨_, _, _, _, rfl⟩, M4⟩
      · exact fun σ' H2 z => z
    rintro σ' H2 ⟨⟨x3, x5, x6, x7, rfl⟩, M⟩
    exact @at_one _ _ _ _ _ _ (@ps_ret _ _ _ _ (pv 1)) ⟨_, rfl, q lt H2 M.ft hlt M.s⟩
end
section
variable {P : Program} {w : World} {K : PySem.W.Frag} {mg : Str → Option Value} {base : Heap} {t : Adr}
theorem step_w {r : Nat} {st : FSt} {m : Mark} : (m.2 = "open" → (stepF r st m).2.length = st.2.length + 1) ∧ (m.2 ≠ "open" → (stepF r st m).2.length = st.2.length - 1) := by
  refine ⟨fun h => ?_, fun h => ?_⟩
  · unfold stepF; rw [if_pos h]; simp
  · unfold stepF
    rw [if_neg h]
    cases e : st.2.getLast? with
    | none =>
      have : st.2 = [] := List.getLast?_eq_none_iff.mp e
      show st.2.length = _
      rw [this]; rfl
    | some n => show st.2.dropLast.length = _; rw [List.length_dropLast]
def depthsP (rows : List (List Mark)) (i : Nat) : List V := (List.range i).map fun k => natV (foldsN rows k).2.length
def spDepths : Sp := fun vs H Q _ => ∃ (l : Addr) (rows : List (List Mark)), vs = [.ref l] ∧ RowsAt H l rows ∧ Small rows ∧ ∀ ld H', H' ld = some (.lst (depthsP rows rows.length)) → H ld = none → Same H H' → Q (.ref ld) H'
theorem ok_depths (T : Txt K mg t) : FnOk P w K mg base CX0 2 t.f_depths t.d_depths ["rows_marks"] spDepths := by
  refine T.F_depths.ok sc_depths (fun vs H Q E h => ?_) (fun cdv A outer s H vs Q E hr h => at_body ?_)
  · obtain ⟨l, rows, rfl, _⟩ := h
    rfl
  · obtain ⟨l, rows, rfl, hR, hS, q⟩ := h
    have sz := sizeLine_eq
    obtain ⟨ls, hl, hA⟩ := id hR
    refine @at_cons _ _ _ _ _ _ _ (@ps_set _ _ 1 _ _ _ _ sc_depths.nd rfl (Or.inl rfl) (@pe_lst _ _ _ _ pa_nil) (by walk_at "u") (by walk_at "u")) ⟨by show 0 ≤ sizeLine; decide, fun ld hld => ?_⟩
    have s1 : Same H (upd H ld (.lst [])) := Same.upd hld
    have hd1 : upd H ld (.lst []) ld = some (.lst (depthsP rows 0)) := upd_same
    generalize upd H ld (.lst []) = H1 at s1 hd1
    refine @at_cons _ _ _ _ _ _ _ (@ps_set _ _ 2 _ _ _ _ sc_depths.nd rfl (Or.inl rfl) pe_int (by walk_at "u") (by walk_at "u")) ?_
    show At _ _ _ [some (.ref l), some (.ref ld), some (.int 0), none, none] H1
    refine @at_consR _ _ _ _ _ _ _ (fun σ' H' => (∃ x2 x3 x4, σ' = [some (.ref l), some (.ref ld), x2, x3, x4]) ∧ H' ld = some (.lst (depthsP rows rows.length)) ∧ Same H H') (@ps_forA _ _ _ _ _ _ _ _ PassesOwn.never rfl (@pi_list _ _ _ _ (pv 0)) (@pg_name _ _ 3 _ sc_depths.nd rfl (Or.inl rfl) (by walk_at "u")) pss_at (by walk_at "u")) ?_ ?_
    · refine ⟨_, rfl, l, rfl, ⟨_, SqL.of (s1 _ _ hl)⟩, forW_list (xs := ls.map V.ref) (fun i σ' H' => (∃ x3 x4, σ' = [some (.ref l), some (.ref ld), some (natV (foldsN rows i).2.length), x3, x4]) ∧ H' ld = some (.lst (depthsP rows i)) ∧ Same H H') ⟨⟨_, _, rfl⟩, hd1, s1⟩ ?_ ?_ ?_⟩
      · rintro i σ' H2 _ ⟨_, _, s2⟩
        exact SqL.of (s2 _ _ hl)
      · rintro i xv σ' H2 hx ⟨⟨x3, x4, rfl⟩, hd2, s2⟩
        rw [List.getElem?_map] at hx
        obtain ⟨lm, hlm, rfl⟩ := Option.map_eq_some_iff.mp hx
        have hi : i < rows.length := by rw [← hA.1]; exact (List.getElem?_eq_some_iff.mp hlm).1
        have hrow : rows[i]? = some rows[i] := List.getElem?_eq_getElem hi
        generalize rows[i] = row at hrow
        obtain ⟨ps, hlm1, hP⟩ := hA.2 i lm row hlm hrow
        have hrl := hS.2 row (List.mem_of_getElem? hrow)
        have hrr := hS.1
        have eN : foldsN rows (i + 1) = row.foldl (stepF i) (foldsN rows i) := by rw [foldsN, hrow]; rfl
        refine @at_cons _ _ _ _ _ _ _ (@ps_expr _ _ _ _ (@pe_bm _ _ _ _ _ _ _ _ _ _ _ _ PySem.F.plainAttrs_list PySem.F.slot_list_append PySem.F.type_list_append mt_append (pv 1) (@pa_cons _ _ _ _ _ (pv 2) pa_nil (by walk_at "u")) (by walk_at "u") (by walk_at "u") (by walk_at "u") (by walk_at "u") (by walk_at "u")) (by walk_at "u")) ⟨_, rfl, .inl ⟨rfl, _, SqL.of hd2⟩, _, rfl, ld, _, _, rfl, rfl, hd2, sl_lt (by unfold depthsP; rw [List.length_map, List.length_range]; omega), ?_⟩
        have hd3 : upd H2 ld (.lst (depthsP rows i ++ [natV (foldsN rows i).2.length])) ld = some (.lst (depthsP rows (i + 1))) := by
          rw [upd_same]; unfold depthsP; rw [List.range_succ, List.map_append]; rfl
        have s3 : Same H (upd H2 ld (.lst (depthsP rows i ++ [natV (foldsN rows i).2.length]))) := Same.up s2 hld
        generalize upd H2 ld (.lst (depthsP rows i ++ [natV (foldsN rows i).2.length])) = H3 at hd3 s3
        refine @at_one _ _ _ _ _ _ (@ps_forA _ _ _ _ _ _ _ _ PassesOwn.never rfl (@pi_list _ _ _ _ (pv 3)) (@pg_name _ _ 4 _ sc_depths.nd rfl (Or.inl rfl) (by walk_at "u")) pss_at (by walk_at "u")) ⟨_, rfl, lm, rfl, ⟨_, SqL.of (s3 _ _ hlm1)⟩, forW_list (xs := ps.map V.ref) (fun j σ' H' => (∃ x4, σ' = [some (.ref l), some (.ref ld), some (natV ((row.take j).foldl (stepF i) (foldsN rows i)).2.length), some (.ref lm), x4]) ∧ H' = H3) ⟨⟨_, rfl⟩, rfl⟩ ?_ ?_ ?_⟩
        · rintro j σ' H4 _ ⟨_, rfl⟩
          exact SqL.of (s3 _ _ hlm1)
        · rintro j xv σ' H4 hx ⟨⟨x4, rfl⟩, rfl⟩
          rw [List.getElem?_map] at hx
          obtain ⟨p, hp, rfl⟩ := Option.map_eq_some_iff.mp hx
          obtain ⟨m, hm⟩ : ∃ r, row[j]? = some r := ⟨row[j]'(by rw [← hP.1]; exact (List.getElem?_eq_some_iff.mp hp).1), List.getElem?_eq_getElem _⟩
          have hpt := s3 _ _ (hP.2 j p m hp hm)
          have eT : (row.take (j + 1)).foldl (stepF i) (foldsN rows i) = stepF i ((row.take j).foldl (stepF i) (foldsN rows i)) m := by
            rw [List.take_add_one, hm, Option.toList_some, List.foldl_append]; rfl
          rw [eT]
          generalize (row.take j).foldl (stepF i) (foldsN rows i) = st
          refine @at_one _ _ _ _ _ _ (@ps_set _ _ 2 _ _ _ _ sc_depths.nd rfl (Or.inl rfl) (@pe_ifExp _ _ _ _ _ _ _ _ (@pt_cmpR _ _ _ _ _ _ _ _ op_eq (@pe_ix _ _ _ _ _ _ _ ix_tup (pv 4) pe_int (fun _ _ => rfl)) pe_str (nomark _)) (@pe_op _ _ _ _ _ _ _ _ op_add (pv 2) pe_int) (@pe_callB _ _ _ _ _ _ _ _ _ (call_max2 rfl) (by rfl) T.z_max (by decide +kernel) (@pa_cons _ _ _ _ _ (@pe_op _ _ _ _ _ _ _ _ op_sub (pv 2) pe_int) (@pa_cons _ _ _ _ _ pe_int pa_nil (by walk_at "u")) (by walk_at "u")) (by walk_at "u") (by walk_at "u") (by walk_at "u") (by walk_at "u"))) (by walk_at "u") (by walk_at "u")) ⟨_, rfl, _, _, _, _, rfl, rfl, SqT.of hpt, atI_nat (j := 1) rfl, rfl, _, rfl, ifd (fun h => ?_) (fun h => ?_)⟩
          · refine ⟨_, rfl, _, _, rfl, rfl, ⟨some (.ref p), ?_⟩, rfl⟩
            rw [(step_w (r := i) (st := st) (m := m)).1 (by injection h)]
            rfl
          · refine ⟨_, rfl, _, _, rfl, rfl, _, _, rfl, ⟨some (.ref p), ?_⟩, rfl⟩
            rw [(step_w (r := i) (st := st) (m := m)).2 (fun z => h (by rw [z]))]
            show [_, _, some (V.int (if (0 : Int) > (st.2.length : Int) - 1 then 0 else (st.2.length : Int) - 1)), _, _] = [_, _, some (V.int ((st.2.length - 1 : Nat) : Int)), _, _]
            rw [show (if (0 : Int) > (st.2.length : Int) - 1 then 0 else (st.2.length : Int) - 1) = ((st.2.length - 1 : Nat) : Int) by split <;> omega]
        · rintro σ' H4 ⟨⟨x4, rfl⟩, rfl⟩
          rw [List.length_map, hP.1, List.take_length, ← eN]
          exact ⟨⟨_, _, rfl⟩, hd3, s3⟩
      · rintro σ' H2 ⟨⟨x3, x4, rfl⟩, hd2, s2⟩
        rw [List.length_map, hA.1] at hd2
        exact ⟨⟨_, _, _, rfl⟩, hd2, s2⟩
    rintro σ' H2 ⟨⟨x2, x3, x4, rfl⟩, hd2, s2⟩
    exact @at_one _ _ _ _ _ _ (@ps_ret _ _ _ _ (pv 1)) ⟨_, rfl, q ld H2 hd2 hld s2⟩
/-! ### a row's fold -/
def hit (row : Int) (f : Fold) : Option Nat := match f.2.2 with
  | none => none
  | some e => if (f.1 : Int) = row ∧ row < (e.1 : Int) then some e.1 else none
def foldOf (row : Int) : List Fold → V
  | [] => .non
  | f :: fs => match hit row f with
    | some r => natV r
    | none => foldOf row fs
theorem foldOf_at {row : Int} {fs : List Fold} {i : Nat} {f : Fold} (h : fs[i]? = some f) : foldOf row (fs.drop i) = match hit row f with | some r => natV r | none => foldOf row (fs.drop (i + 1)) := by
  rw [drop_at h]; rfl
end
section
variable {P : Program} {w : World} {K : PySem.W.Frag} {mg : Str → Option Value} {base : Heap} {t : Adr}
theorem FoldAt.hit {H : Hp} {p : Addr} {f : Fold} (h : FoldAt H p f) : ∃ v, H p = some (.tup [.int f.1, .int f.2.1, v]) ∧ ((f.2.2 = none ∧ v = .non) ∨ ∃ e q, f.2.2 = some e ∧ v = .ref q ∧ H q = some (.tup [.int e.1, .int e.2])) := by
  obtain ⟨a, b, e⟩ := f
  cases e with
  | none => exact ⟨_, h, .inl ⟨rfl, rfl⟩⟩
  | some e => obtain ⟨q, h1, h2⟩ := h; exact ⟨_, h1, .inr ⟨e, q, rfl, rfl, h2⟩⟩
theorem hit_no {row : Int} {f : Fold} (h : (f.1 : Int) ≠ row) : hit row f = none := by
  unfold hit
  split
  · rfl
  · rw [if_neg (fun z => h z.1)]
theorem hit_none {row : Int} {f : Fold} (h : f.2.2 = none) : hit row f = none := by unfold hit; rw [h]
theorem hit_some {row : Int} {f : Fold} {e : Nat × Nat} (h : f.2.2 = some e) : hit row f = if (f.1 : Int) = row ∧ row < (e.1 : Int) then some e.1 else none := by unfold hit; rw [h]
def spLFold : Sp := fun vs H Q _ => ∃ (l : Addr) (fs : List Fold) (row : Int), vs = [.ref l, .int row] ∧ FoldsAt H l fs ∧ Q (foldOf row fs) H
theorem ok__law_fold_of (T : Txt K mg t) : FnOk P w K mg base CX0 1 t.f__law_fold_of t.d__law_fold_of ["_law_found", "_law_row"] spLFold := by
  refine T.F__law_fold_of.ok sc__law_fold_of (fun vs H Q E h => ?_) (fun cdv A outer s H vs Q E hr h => at_body ?_)
  · obtain ⟨l, fs, row, rfl, _⟩ := h
    rfl
  · obtain ⟨l, fs, row, rfl, ⟨ps, hl, hA⟩, q⟩ := h
    refine @at_consR _ _ _ _ _ _ _ (fun σ' H' => H' = H ∧ foldOf row fs = .non) (@ps_forA _ _ _ _ _ _ _ _ PassesOwn.never rfl (@pi_list _ _ _ _ (pv 0)) (@pg_name _ _ 2 _ sc__law_fold_of.nd rfl (Or.inl rfl) (by walk_at "u")) pss_at (by walk_at "u")) ?_ ?_
    · refine ⟨_, rfl, l, rfl, ⟨_, SqL.of hl⟩, forW_list (xs := ps.map V.ref) (fun i σ' H' => (∃ x, σ' = [some (.ref l), some (.int row), x]) ∧ H' = H ∧ foldOf row fs = foldOf row (fs.drop i)) ⟨⟨_, rfl⟩, rfl, rfl⟩ ?_ ?_ ?_⟩
      · rintro i σ' H' _ ⟨_, rfl, _⟩
        exact SqL.of hl
      · rintro i xv σ' H' hx ⟨⟨x, rfl⟩, rfl, hf⟩
        rw [List.getElem?_map] at hx
        obtain ⟨p, hp, rfl⟩ := Option.map_eq_some_iff.mp hx
        obtain ⟨f, hfi⟩ : ∃ r, fs[i]? = some r := ⟨fs[i]'(by rw [← hA.1]; exact (List.getElem?_eq_some_iff.mp hp).1), List.getElem?_eq_getElem _⟩
        obtain ⟨v, hv, hc⟩ := (hA.2 i p f hp hfi).hit
        rw [foldOf_at hfi] at hf
        refine @at_one _ _ _ _ _ _ (@ps_if _ _ _ _ _ _ _ _ (@PW.pt _ _ _ (@pw_and _ _ _ _ _ _ _ (@pt_cmpR _ _ _ _ _ _ _ _ op_eq (@pe_ix _ _ _ _ _ _ _ ix_tup (pv 2) pe_int (fun _ _ => rfl)) (pv 1) (nomark _)) (@pw_and _ _ _ _ _ _ _ (@pt_cmpR _ _ _ _ _ _ _ _ op_notN (@pe_ix _ _ _ _ _ _ _ ix_tup (pv 2) pe_int (fun _ _ => rfl)) pe_non (nomark _)) (@pw_and1 _ _ _ _ (@pt_cmpR _ _ _ _ _ _ _ _ op_gt (@pe_ix _ _ _ _ _ _ _ ix_tup (@pe_ix _ _ _ _ _ _ _ ix_tup (pv 2) pe_int (fun _ _ => rfl)) pe_int (fun _ _ => rfl)) (pv 1) (nomark _)))))) pss_at pss_at) ⟨_, rfl, _, _, _, _, rfl, rfl, SqT.of hv, atI_nat (j := 0) rfl, _, rfl, rfl, _, rfl, ifd (fun h => ?_) (fun h => at_nil ⟨⟨_, rfl⟩, rfl, ?_⟩)⟩
        · have h0 : (f.1 : Int) = row := by injection h
          rcases hc with ⟨e1, rfl⟩ | ⟨e, q2, e1, rfl, hq2⟩
          · refine ⟨_, rfl, _, _, _, _, rfl, rfl, SqT.of hv, atI_nat (j := 2) rfl, rfl, _, rfl, ifnd (fun h => absurd rfl h) (fun _ => at_nil ⟨⟨_, rfl⟩, rfl, ?_⟩)⟩
            rw [hit_none e1] at hf
            exact hf
          · refine ⟨_, rfl, _, _, _, _, rfl, rfl, SqT.of hv, atI_nat (j := 2) rfl, rfl, _, rfl, ifnd (fun _ => ?_) (fun h => by cases h)⟩
            rw [hit_some e1] at hf
            refine ⟨_, rfl, _, _, _, _, rfl, rfl, SqT.of hv, atI_nat (j := 2) rfl, _, _, _, _, rfl, rfl, SqT.of hq2, atI_nat (j := 0) rfl, _, rfl, _, _, rfl, rfl, _, rfl, ifd (fun h2 => ?_) (fun h2 => at_nil ⟨⟨_, rfl⟩, rfl, ?_⟩)⟩
            · rw [if_pos ⟨h0, h2⟩] at hf
              refine @at_one _ _ _ _ _ _ (@ps_ret _ _ _ _ (@pe_ix _ _ _ _ _ _ _ ix_tup (@pe_ix _ _ _ _ _ _ _ ix_tup (pv 2) pe_int (fun _ _ => rfl)) pe_int (fun _ _ => rfl))) ⟨_, rfl, _, _, _, _, rfl, rfl, SqT.of hv, atI_nat (j := 2) rfl, _, _, _, _, rfl, rfl, SqT.of hq2, atI_nat (j := 0) rfl, ?_⟩
              rw [hf] at q
              exact q
            · rw [if_neg (fun z => h2 z.2)] at hf
              exact hf
        · rw [hit_no (fun z => h (by rw [z]))] at hf
          exact hf
      · rintro σ' H' ⟨_, rfl, hf⟩
        rw [List.length_map, hA.1, List.drop_length] at hf
        exact ⟨rfl, hf⟩
    rintro σ' H' ⟨rfl, hf⟩
    rw [hf] at q
    exact @at_one _ _ _ _ _ _ (@ps_ret _ _ _ _ pe_non) q
/-- fold_of: told, or refused -/
def spFoldOf (t : Adr) : Sp := fun vs H Q E => ∃ (l : Addr) (rows : List (List Mark)) (row : Int), vs = [.ref l, .int row] ∧ RowsAt H l rows ∧ Small rows ∧ row.natAbs.log2 < 1000 ∧ (0 ≤ row ∧ row < rows.length → ∀ H', Same H H' → Q (foldOf row (foldsP rows)) H') ∧
  (¬ (0 ≤ row ∧ row < rows.length) → ∀ e H', H e = none → H' e = some (xobj e t.c_NoPlace none) → Same H H' → E (.ref t.c_NoPlace) (some e) H')
theorem ok_fold_of (T : Txt K mg t) : FnOk P w K mg base (CXE P w) 4 t.f_fold_of t.d_fold_of ["rows_marks", "row"] (spFoldOf t) := by
  refine T.F_fold_of.okE sc_fold_of (fun vs H Q E h => ?_) (fun cdv A outer s H vs Q E hr h => ?_)
  · obtain ⟨l, rows, row, rfl, _⟩ := h
    rfl
  · obtain ⟨l, rows, row, rfl, hR, hS, hlog, q, qe⟩ := h
    obtain ⟨ls, hl, hA⟩ := id hR
    have sz := sizeLine_eq
    have hlen : (Str.ofString (toString row)).length ≤ 1001 := by
      rw [ofString_length]; exact int_text_length_le (by decide) hlog
    have hw : (Str.ofString "there is no row ").length = 16 := by decide +kernel
    have l2 : (Str.empty ++ Str.ofString "there is no row " ++ Str.ofString (toString row)).length ≤ sizeLine := by
      rw [PySem.W.KT.empty_app, PySem.strLen_append]; omega
    refine @at_consR _ _ _ _ _ _ _ (fun σ' H' => H' = H ∧ σ' = [some (.ref l), some (.int row), none, none] ∧ 0 ≤ row ∧ row < rows.length) (@ps_if _ _ _ _ _ _ _ _ (@PW.pt _ _ _ (@pw_or _ _ _ _ _ _ _ (@pt_cmpR _ _ _ _ _ _ _ _ op_lt (pv 1) pe_int (nomark _)) (@pw_or1 _ _ _ _ (@pt_cmpR _ _ _ _ _ _ _ _ op_ge (pv 1) (@pe_callB _ _ _ _ _ _ _ _ _ call_len_seq (by rfl) T.z_len (by decide +kernel) (@pa_cons _ _ _ _ _ (pv 0) pa_nil (by walk_at "u")) (by walk_at "u") (by walk_at "u") (by walk_at "u") (by walk_at "u")) (nomark _))))) pss_at pss_at) ?_ ?_
    · refine ⟨_, rfl, _, _, rfl, rfl, _, rfl, ifd (fun h => ?_) (fun h => ⟨_, rfl, _, rfl, _, _, rfl, .inl (SqL.of hl), _, _, rfl, rfl, _, rfl, ifd (fun h2 => ?_) (fun h2 => ?_)⟩)⟩
      · refine @at_one _ _ _ _ _ _ (ps_raise0 T.xn_NoPlace rfl T.mgc_NoPlace (pa_cons (pe_fstr (pf_str (pf_val (pv 1) pf_nil))) pa_nil)) ⟨(by rw [PySem.W.KT.empty_app]; exact Nat.le_trans (Nat.le_of_eq hw) (by omega)), _, rfl, _, .inr ⟨row, rfl, (by omega), rfl⟩, l2, l2, by show 1 ≤ sizeLine; decide, fun e he => qe ?_ e _ he upd_same (Same.upd he)⟩
        intro z; omega
      · refine @at_one _ _ _ _ _ _ (ps_raise0 T.xn_NoPlace rfl T.mgc_NoPlace (pa_cons (pe_fstr (pf_str (pf_val (pv 1) pf_nil))) pa_nil)) ⟨(by rw [PySem.W.KT.empty_app]; exact Nat.le_trans (Nat.le_of_eq hw) (by omega)), _, rfl, _, .inr ⟨row, rfl, (by omega), rfl⟩, l2, l2, by show 1 ≤ sizeLine; decide, fun e he => qe ?_ e _ he upd_same (Same.upd he)⟩
        intro z
        rw [List.length_map, hA.1] at h2
        omega
      · rw [List.length_map, hA.1] at h2
        exact at_nil ⟨rfl, rfl, by omega, by omega⟩
    rintro σ' H' ⟨rfl, rfl, hin⟩
    have q := q hin
    refine @at_consR _ _ _ _ _ _ _ (fun σ' H1 => Same H' H1 ∧ foldOf row (foldsP rows) = .non) (@ps_forA _ _ _ _ _ _ _ _ PassesOwn.leaving rfl (@pi_list _ _ _ _ (@pe_call _ _ _ _ _ _ _ _ _ _ _ _ _ _ _ _ (ok_folds T) (hr.mono (by decide)) rfl T.mg_folds T.F_folds.kp (bd_folds T) .nil pass0 (@pa_cons _ _ _ _ _ (pv 0) pa_nil (by walk_at "u")) (by walk_at "u") (by walk_at "u") (by walk_at "u"))) (@pg_name _ _ 2 _ sc_fold_of.nd rfl (Or.inl rfl) (by walk_at "u")) pss_at (by walk_at "u")) ?_ ?_
    · refine ⟨_, rfl, l, rows, rfl, hR, hS, fun lt H1 hF hlt s1 => ?_⟩
      obtain ⟨ps, hl1, hA1⟩ := hF
      refine ⟨lt, rfl, ⟨_, SqL.of hl1⟩, forW_list (xs := ps.map V.ref) (fun i σ' H2 => (∃ x y, σ' = [some (.ref l), some (.int row), x, y]) ∧ H2 = H1 ∧ foldOf row (foldsP rows) = foldOf row ((foldsP rows).drop i)) ⟨⟨_, _, rfl⟩, rfl, rfl⟩ ?_ ?_ ?_⟩
      · rintro i σ' H2 _ ⟨_, rfl, _⟩
        exact SqL.of hl1
      · rintro i xv σ' H2 hx ⟨⟨x, y, rfl⟩, rfl, hf⟩
        rw [List.getElem?_map] at hx
        obtain ⟨p, hp, rfl⟩ := Option.map_eq_some_iff.mp hx
        obtain ⟨f, hfi⟩ : ∃ r, (foldsP rows)[i]? = some r := ⟨(foldsP rows)[i]'(by rw [← hA1.1]; exact (List.getElem?_eq_some_iff.mp hp).1), List.getElem?_eq_getElem _⟩
        obtain ⟨v, hv, hc⟩ := (hA1.2 i p f hp hfi).hit
        rw [foldOf_at hfi] at hf
        refine @at_cons _ _ _ _ _ _ _ (@ps_set _ _ 3 _ _ _ _ sc_fold_of.nd rfl (Or.inl rfl) (@pe_ix _ _ _ _ _ _ _ ix_tup (pv 2) pe_int (fun _ _ => rfl)) (by walk_at "u") (by walk_at "u")) ⟨_, rfl, _, _, _, _, rfl, rfl, SqT.of hv, atI_nat (j := 2) rfl, ?_⟩
        refine @at_one _ _ _ _ _ _ (@ps_if _ _ _ _ _ _ _ _ (@PW.pt _ _ _ (@pw_and _ _ _ _ _ _ _ (@pt_cmpR _ _ _ _ _ _ _ _ op_eq (@pe_ix _ _ _ _ _ _ _ ix_tup (pv 2) pe_int (fun _ _ => rfl)) (pv 1) (nomark _)) (@pw_and _ _ _ _ _ _ _ (@pt_cmpR _ _ _ _ _ _ _ _ op_notN (pv 3) pe_non (nomark _)) (@pw_and1 _ _ _ _ (@pt_cmpR _ _ _ _ _ _ _ _ op_gt (@pe_ix _ _ _ _ _ _ _ ix_tup (pv 3) pe_int (fun _ _ => rfl)) (pv 1) (nomark _)))))) pss_at pss_at) ⟨_, rfl, _, _, _, _, rfl, rfl, SqT.of hv, atI_nat (j := 0) rfl, _, rfl, rfl, _, rfl, ifd (fun h => ?_) (fun h => at_nil ⟨⟨_, _, rfl⟩, rfl, ?_⟩)⟩
        · have h0 : (f.1 : Int) = row := by injection h
          rcases hc with ⟨e1, rfl⟩ | ⟨e, q2, e1, rfl, hq2⟩
          · refine ⟨_, rfl, rfl, _, rfl, ifnd (fun h => absurd rfl h) (fun _ => at_nil ⟨⟨_, _, rfl⟩, rfl, ?_⟩)⟩
            rw [hit_none e1] at hf
            exact hf
          · refine ⟨_, rfl, rfl, _, rfl, ifnd (fun _ => ?_) (fun h => by cases h)⟩
            rw [hit_some e1] at hf
            refine ⟨_, rfl, _, _, _, _, rfl, rfl, SqT.of hq2, atI_nat (j := 0) rfl, _, rfl, _, _, rfl, rfl, _, rfl, ifd (fun h2 => ?_) (fun h2 => at_nil ⟨⟨_, _, rfl⟩, rfl, ?_⟩)⟩
            · rw [if_pos ⟨h0, h2⟩] at hf
              refine @at_one _ _ _ _ _ _ (@ps_ret _ _ _ _ (@pe_ix _ _ _ _ _ _ _ ix_tup (pv 3) pe_int (fun _ _ => rfl))) ⟨_, rfl, _, _, _, _, rfl, rfl, SqT.of hq2, atI_nat (j := 0) rfl, ?_⟩
              have := q _ s1
              rw [hf] at this
              exact this
            · rw [if_neg (fun z => h2 z.2)] at hf
              exact hf
        · rw [hit_no (fun z => h (by rw [z]))] at hf
          exact hf
      · rintro σ' H2 ⟨_, rfl, hf⟩
        rw [List.length_map, hA1.1, List.drop_length] at hf
        exact ⟨s1, hf⟩
    rintro σ' H1 ⟨s1, hf⟩
    have := q H1 s1
    rw [hf] at this
    exact @at_one _ _ _ _ _ _ (@ps_ret _ _ _ _ pe_non) this
end
section
variable {P : Program} {w : World} {K : PySem.W.Frag} {mg : Str → Option Value} {base : Heap} {t : Adr}
def askV (rows : List (List Mark)) (row : Int) : V := if 0 ≤ row ∧ row < rows.length then foldOf row (foldsP rows) else .str "place"
def spAsked : Sp := fun vs H Q _ => ∃ (l : Addr) (rows : List (List Mark)) (row : Int), vs = [.ref l, .int row] ∧ RowsAt H l rows ∧ Small rows ∧ row.natAbs.log2 < 1000 ∧ ∀ H', Same H H' → Q (askV rows row) H'
theorem ok__law_asked (T : Txt K mg t) : FnOk P w K mg base CX0 5 t.f__law_asked t.d__law_asked ["_law_rows_marks", "_law_row"] spAsked := by
  refine T.F__law_asked.ok sc__law_asked (fun vs H Q E h => ?_) (fun cdv A outer s H vs Q E hr h => at_body ?_)
  · obtain ⟨l, rows, row, rfl, _⟩ := h
    rfl
  · obtain ⟨l, rows, row, rfl, hR, hS, hlog, q⟩ := h
    refine @at_cons _ _ _ _ _ _ _ (@ps_set _ _ 2 _ _ _ _ sc__law_asked.nd rfl (Or.inl rfl) pe_non (by walk_at "u") (by walk_at "u")) ?_
    refine @at_cons _ _ _ _ _ _ _ (@ps_set _ _ 3 _ _ _ _ sc__law_asked.nd rfl (Or.inl rfl) pe_non (by walk_at "u") (by walk_at "u")) ?_
    show At _ _ _ [some (.ref l), some (.int row), some .non, some .non, none] H
    refine at_consR (fun σ' H' => Same H H' ∧ ((0 ≤ row ∧ row < rows.length ∧ σ' = [some (.ref l), some (.int row), some (foldOf row (foldsP rows)), some .non, none]) ∨
      (¬ (0 ≤ row ∧ row < rows.length) ∧ ∃ e, σ' = [some (.ref l), some (.int row), some .non, some (.ref e), none] ∧ H' e = some (xobj e t.c_NoPlace none)))) (ps_tryK (i := 4) rfl rfl sc__law_asked.nd rfl rfl rfl T.mgc_TintError (by decide) T.x_TintError.at_) ?_ ?_
    · refine ⟨fun σ' C e H' => σ' = [some (.ref l), some (.int row), some .non, some .non, none] ∧ C = t.c_NoPlace ∧ ¬ (0 ≤ row ∧ row < rows.length) ∧ H' e = some (xobj e t.c_NoPlace none) ∧ Same H H', fun pins => ?_, ?_⟩
      · refine @at_one _ _ _ _ _ _ (@ps_set _ _ 2 _ _ _ _ sc__law_asked.nd rfl (Or.inl rfl) (@pe_callX _ _ _ _ _ _ _ _ _ _ _ _ _ _ _ (ok_fold_of T) (hr.mono (by decide)) rfl T.mg_fold_of T.F_fold_of.kp (bd_fold_of T) .nil (@pa_cons _ _ _ _ _ (pv 0) (@pa_cons _ _ _ _ _ (pv 1) pa_nil (by walk_at "u")) (by walk_at "u")) (by walk_at "u") (by walk_at "u") (by walk_at "u")) (by walk_at "u") (by walk_at "u")) ⟨_, rfl, _, rfl, fun Cv eo H' => ∃ e, Cv = .ref t.c_NoPlace ∧ eo = some e ∧ ¬ (0 ≤ row ∧ row < rows.length) ∧ H' e = some (xobj e t.c_NoPlace none) ∧ Same H H', pass_try rfl rfl (fun C e H' => ?_), l, rows, row, rfl, hR, hS, hlog, fun hin H' s1 => ⟨s1, .inl ⟨hin.1, hin.2, rfl⟩⟩, fun hno e H' he h1 s1 => ⟨e, rfl, rfl, hno, h1, s1⟩⟩
        rintro ⟨e2, z1, z2, hno, h1, s1⟩
        cases z1
        cases z2
        exact ⟨rfl, rfl, hno, h1, s1⟩
      · rintro σ' C e H' ⟨rfl, rfl, hno, h1, s1⟩
        refine ⟨T.x_NoPlace.at_, T.tk_NoPlace_TintError, ?_⟩
        exact @at_one _ _ _ _ _ _ (@ps_set _ _ 3 _ _ _ _ sc__law_asked.nd rfl (Or.inl rfl) (pv 4) (by walk_at "u") (by walk_at "u")) ⟨_, rfl, s1, .inr ⟨hno, e, rfl, h1⟩⟩
    rintro σ' H' ⟨s1, ⟨h0, h1, rfl⟩ | ⟨hno, e, rfl, he⟩⟩
    · refine @at_cons _ _ _ _ _ _ _ (@ps_if _ _ _ _ _ _ _ _ (@pt_cmpR _ _ _ _ _ _ _ _ op_isN (pv 3) pe_non (nomark _)) pss_at pss_at) ⟨_, rfl, rfl, _, rfl, ifd (fun _ => ?_) (fun h => absurd rfl h)⟩
      have := q H' s1
      rw [askV, if_pos ⟨h0, h1⟩] at this
      exact @at_one _ _ _ _ _ _ (@ps_ret _ _ _ _ (pv 2)) ⟨_, rfl, this⟩
    · refine @at_cons _ _ _ _ _ _ _ (@ps_if _ _ _ _ _ _ _ _ (@pt_cmpR _ _ _ _ _ _ _ _ op_isN (pv 3) pe_non (nomark _)) pss_at pss_at) ⟨_, rfl, rfl, _, rfl, ifd (fun h => by cases h) (fun _ => at_nil ?_)⟩
      have hd : ∀ {H2 : Hp} dx, (none : Option Addr) = some dx → ∃ fs, H2 dx = some (.xd fs) := fun dx z => by cases z
      refine @at_consR _ _ _ _ _ _ _ (fun σ' H2 => Same H' H2 ∧ σ' = [some (.ref l), some (.int row), some .non, some (.ref e), none]) (@ps_if _ _ _ _ _ _ _ _ (@PW.pt _ _ _ (@pw_or _ _ _ _ _ _ _ (@pt_val _ _ _ (@pe_callB _ _ _ _ _ _ _ _ _ call_isiXs (by rfl) T.z_isinstance (by decide +kernel) (@pa_cons _ _ _ _ _ (pv 3) (@pa_cons _ _ _ _ _ (@pe_tup _ _ _ _ _ (@pa_cons _ _ _ _ _ (@pe_glob _ _ (V.ref _) _ _ rfl T.mgc_NoLine rfl (by walk_at "u")) (@pa_cons _ _ _ _ _ (@pe_glob _ _ (V.ref _) _ _ rfl T.mgc_NoMark rfl (by walk_at "u")) (@pa_cons _ _ _ _ _ (@pe_glob _ _ (V.ref _) _ _ rfl T.mgc_NoRules rfl (by walk_at "u")) (@pa_cons _ _ _ _ _ (@pe_glob _ _ (V.ref _) _ _ rfl T.mgc_Nothing rfl (by walk_at "u")) (@pa_cons _ _ _ _ _ (@pe_glob _ _ (V.ref _) _ _ rfl T.mgc_Rings rfl (by walk_at "u")) pa_nil (by walk_at "u")) (by walk_at "u")) (by walk_at "u")) (by walk_at "u")) (by walk_at "u"))) pa_nil (by walk_at "u")) (by walk_at "u")) (by walk_at "u") (by walk_at "u") (by walk_at "u") (by walk_at "u")) (by walk_at "u")) (@pw_or1 _ _ _ _ (@pt_not _ _ _ _ (@pt_val _ _ _ (@pe_callB _ _ _ _ _ _ _ _ _ call_isiXT (by rfl) T.z_isinstance (by decide +kernel) (@pa_cons _ _ _ _ _ (pv 3) (@pa_cons _ _ _ _ _ (@pe_bltn _ _ (V.ty "ValueError") (Value.type "ValueError") _ rfl T.z_ValueError (by decide +kernel) rfl (by walk_at "u") (by walk_at "u")) pa_nil (by walk_at "u")) (by walk_at "u")) (by walk_at "u") (by walk_at "u") (by walk_at "u") (by walk_at "u")) (by walk_at "u")))))) pss_at pss_at) ?_ ?_
      · refine ⟨_, rfl, by show 5 ≤ sizeLine; decide, fun tp htp => ⟨e, _, none, tp, [t.c_NoLine, t.c_NoMark, t.c_NoRules, t.c_Nothing, t.c_Rings], false, rfl, SqT.of upd_same, Same.upd htp _ _ he, hd, T.x_NoPlace, kitAny_none ?_, false, rfl, iteF ⟨_, rfl, e, _, none, "ValueError", true, rfl, Same.upd htp _ _ he, hd, T.x_NoPlace, T.kx_NoPlace_ValueError, true, rfl, iteF (at_nil ⟨Same.upd htp, rfl⟩)⟩⟩⟩
        intro a ha
        simp only [List.mem_cons, List.not_mem_nil, or_false] at ha
        rcases ha with rfl | rfl | rfl | rfl | rfl
        · exact T.kx_NoPlace_NoLine
        · exact T.kx_NoPlace_NoMark
        · exact T.kx_NoPlace_NoRules
        · exact T.kx_NoPlace_Nothing
        · exact T.kx_NoPlace_Rings
      rintro σ' H2 ⟨s2, rfl⟩
      have := q H2 (s1.trans s2)
      rw [askV, if_neg hno] at this
      exact @at_one _ _ _ _ _ _ (@ps_ret _ _ _ _ (@pe_ifExp _ _ _ _ _ _ _ _ (@pt_val _ _ _ (@pe_callB _ _ _ _ _ _ _ _ _ call_isiX (by rfl) T.z_isinstance (by decide +kernel) (@pa_cons _ _ _ _ _ (pv 3) (@pa_cons _ _ _ _ _ (@pe_glob _ _ (V.ref _) _ _ rfl T.mgc_NoPlace rfl (by walk_at "u")) pa_nil (by walk_at "u")) (by walk_at "u")) (by walk_at "u") (by walk_at "u") (by walk_at "u") (by walk_at "u")) (by walk_at "u")) pe_str pe_str)) ⟨_, rfl, e, _, none, _, true, rfl, s2 _ _ he, hd, T.x_NoPlace, T.kx_NoPlace_NoPlace, true, rfl, iteT this⟩
end
section
variable {P : Program} {w : World} {K : PySem.W.Frag} {mg : Str → Option Value} {base : Heap} {t : Adr}
/-! ### a heap without some of it -/
open Classical in
noncomputable def hid (S : Addr → Prop) (H : Hp) : Hp := fun b => if S b then none else H b
theorem hid_same {S : Addr → Prop} {H : Hp} : Same (hid S H) H := fun b o h => by
  unfold hid at h
  split at h
  · cases h
  · exact h
theorem hid_of {S : Addr → Prop} {H : Hp} {b : Addr} {o : HO} (h : H b = some o) (n : ¬ S b) : hid S H b = some o := by
  unfold hid
  rw [if_neg n]
  exact h
theorem hid_no {S : Addr → Prop} {H : Hp} {b : Addr} {o : HO} (h : hid S H b = some o) : ¬ S b := fun z => by
  unfold hid at h
  rw [if_pos z] at h
  cases h
theorem hid_two {S : Addr → Prop} {H H' : Hp} (s : Same H H') : Same (hid S H) (hid S H') := fun b o h => hid_of (s _ _ (hid_same _ _ h)) (hid_no h)
theorem hid_upd {S : Addr → Prop} {H : Hp} {l : Addr} {o : HO} (hl : S l) : hid S (upd H l o) = hid S H := by
  funext b
  unfold hid
  split
  · rfl
  · rename_i h; rw [upd_ne (fun z => h (by rw [z]; exact hl))]
theorem hid_less {S S' : Addr → Prop} {H : Hp} (h : ∀ b, S b → S' b) : Same (hid S' H) (hid S H) := fun b o e => hid_of (hid_same _ _ e) (fun z => hid_no e (h b z))
/-- what is hidden is there -/
def Ex (S : Addr → Prop) (H : Hp) : Prop := ∀ b, S b → ∃ o, H b = some o
theorem Ex.new {S : Addr → Prop} {H : Hp} (e : Ex S H) {b : Addr} (h : H b = none) : ¬ S b := fun z => by
  obtain ⟨o, ho⟩ := e b z
  rw [h] at ho
  cases ho
theorem Ex.same {S : Addr → Prop} {H H' : Hp} (e : Ex S H) (s : Same H H') : Ex S H' := fun b z => let ⟨o, ho⟩ := e b z; ⟨o, s _ _ ho⟩
theorem Ex.none (H : Hp) : Ex (fun _ => False) H := fun _ z => z.elim
theorem all_hid {H : Hp} : Same H (hid (fun _ => False) H) := fun b o h => hid_of h (fun z => z)
def Fine (rows : List (List Mark)) : Prop := 0 < rows.length ∧ rows.length ≤ 7 ∧ ∀ r ∈ rows, r.length ≤ 5
theorem Fine.small {rows : List (List Mark)} (h : Fine rows) : Small rows := ⟨by have := h.2.1; omega, fun r hr => by have := h.2.2 r hr; omega⟩
def spMade (K : PySem.W.Frag) : Sp := fun vs H Q _ => ∃ (a : Addr) (ns : List Int), vs = [.ref a] ∧ SqL K H a (ns.map V.int) ∧ ns.length ≤ 63 ∧ ∀ l rows H', RowsAt H' l rows → Fine rows → H l = none → Same H H' → Q (.ref l) H'
theorem ok__law_made (T : Txt K mg t) : FnOk P w K mg base CX0 2 t.f__law_made t.d__law_made ["_law_script"] (spMade K) := by
  refine T.F__law_made.ok sc__law_made (fun vs H Q E h => ?_) (fun cdv A outer s H vs Q E hr h => at_body ?_)
  · obtain ⟨a, ns, rfl, _⟩ := h
    rfl
  · obtain ⟨a, ns, rfl, hS, hl, q⟩ := h
    have sz := sizeLine_eq
    refine @at_cons _ _ _ _ _ _ _ (@ps_set _ _ 1 _ _ _ _ sc__law_made.nd rfl (Or.inl rfl) (@pe_lst _ _ _ _ pa_nil) (by walk_at "u") (by walk_at "u")) ⟨by show 0 ≤ sizeLine; decide, fun lr hlr => ?_⟩
    have s1 : Same H (upd H lr (.lst [])) := Same.upd hlr
    have hr1 : upd H lr (.lst []) lr = some (.lst (([] : List Addr).map V.ref)) := upd_same
    generalize upd H lr (.lst []) = H1 at s1 hr1
    show At _ _ _ [some (.ref a), some (.ref lr), none, none, none, none] H1
    refine @at_consR _ _ _ _ _ _ _ (fun σ' H' => (∃ x2 x3 x4 x5, σ' = [some (.ref a), some (.ref lr), x2, x3, x4, x5]) ∧ ∃ rows, Fine rows ∧ RowsAt H' lr rows ∧ Same H H') (@ps_forA _ _ _ _ _ _ _ _ PassesOwn.never rfl (@pi_range1 _ _ _ _ _ _ rfl T.z_range (@pa_cons _ _ _ _ _ (@pe_op _ _ _ _ _ _ _ _ op_add pe_int (@pe_call _ _ _ _ _ _ _ _ _ _ _ _ _ _ _ _ (ok__law_draw T) (hr.mono (by decide)) rfl T.mg__law_draw T.F__law_draw.kp (bd__law_draw T) .nil pass0 (@pa_cons _ _ _ _ _ (pv 0) (@pa_cons _ _ _ _ _ pe_int (@pa_cons _ _ _ _ _ pe_int pa_nil (by walk_at "u")) (by walk_at "u")) (by walk_at "u")) (by walk_at "u") (by walk_at "u") (by walk_at "u"))) pa_nil (by walk_at "u")) (by walk_at "u")) (@pg_name _ _ 2 _ sc__law_made.nd rfl (Or.inl rfl) (by walk_at "u")) pss_at (by walk_at "u")) ?_ ?_
    · refine ⟨_, rfl, a, ns, _, _, rfl, hS.same s1, (by decide), (by decide), (by decide), (by decide), hl, fun d H2 h0 h1 s2 => ⟨_, _, rfl, rfl, 1 + d, rfl, by omega, by omega, forW_range (n := (1 + d).toNat) (fun i σ' H' => (∃ x2 x3 x4 x5, σ' = [some (.ref a), some (.ref lr), x2, x3, x4, x5]) ∧ ∃ (ls : List Addr) (rows : List (List Mark)), H' lr = some (.lst (ls.map V.ref)) ∧ All2 (MarksAt (hid (fun c => c = lr) H')) ls rows ∧ rows.length = i ∧ (∀ r ∈ rows, r.length ≤ 5) ∧ Same H H') ⟨⟨_, _, _, _, rfl⟩, [], [], s2 _ _ hr1, All2.nil, rfl, (fun r hr => by simp at hr), s1.trans s2⟩ ?_ ?_⟩⟩
      · rintro i σ' H3 hi ⟨⟨x2, x3, x4, x5, rfl⟩, ls, rows, hr3, hA3, hri, hrs, s3⟩
        have hi8 : i < 8 := by omega
        refine @at_cons _ _ _ _ _ _ _ (@ps_set _ _ 3 _ _ _ _ sc__law_made.nd rfl (Or.inl rfl) (@pe_lst _ _ _ _ pa_nil) (by walk_at "u") (by walk_at "u")) ⟨by show 0 ≤ sizeLine; decide, fun lm hlm => ?_⟩
        have s4 : Same H3 (upd H3 lm (.lst [])) := Same.upd hlm
        have hm4 : upd H3 lm (.lst []) lm = some (.lst (([] : List Addr).map V.ref)) := upd_same
        generalize upd H3 lm (.lst []) = H4 at s4 hm4
        refine @at_cons _ _ _ _ _ _ _ (@ps_set _ _ 4 _ _ _ _ sc__law_made.nd rfl (Or.inl rfl) pe_int (by walk_at "u") (by walk_at "u")) ?_
        show At _ _ _ [some (.ref a), some (.ref lr), some (.int (0 + (i : Int))), some (.ref lm), some (.int (0 : Nat)), x5] H4
        refine @at_consR _ _ _ _ _ _ _ (fun σ' H' => (∃ x4 x5, σ' = [some (.ref a), some (.ref lr), some (.int (0 + (i : Int))), some (.ref lm), x4, x5]) ∧ ∃ (ps : List Addr) (ms : List Mark), H' lm = some (.lst (ps.map V.ref)) ∧ All2 (fun p (m : Mark) => H' p = some (.tup [.int m.1, .str m.2])) ps ms ∧ ms.length ≤ 5 ∧ Same H3 H') (@ps_forA _ _ _ _ _ _ _ _ PassesOwn.never rfl (@pi_range1 _ _ _ _ _ _ rfl T.z_range (@pa_cons _ _ _ _ _ (@pe_call _ _ _ _ _ _ _ _ _ _ _ _ _ _ _ _ (ok__law_draw T) (hr.mono (by decide)) rfl T.mg__law_draw T.F__law_draw.kp (bd__law_draw T) .nil pass0 (@pa_cons _ _ _ _ _ (pv 0) (@pa_cons _ _ _ _ _ (@pe_op _ _ _ _ _ _ _ _ op_add pe_int (@pe_op _ _ _ _ _ _ _ _ op_mul pe_int (pv 2))) (@pa_cons _ _ _ _ _ pe_int pa_nil (by walk_at "u")) (by walk_at "u")) (by walk_at "u")) (by walk_at "u") (by walk_at "u") (by walk_at "u")) pa_nil (by walk_at "u")) (by walk_at "u")) (@pg_name _ _ 5 _ sc__law_made.nd rfl (Or.inl rfl) (by walk_at "u")) pss_at (by walk_at "u")) ?_ ?_
        · refine ⟨_, rfl, _, rfl, _, _, rfl, rfl, .inl ⟨by decide, by decide⟩, _, _, rfl, rfl, a, ns, _, _, rfl, hS.same (s3.trans s4), (by omega), (by omega), (by decide), (by decide), hl, fun d5 H5 h5 h6 s5 => ⟨d5, rfl, by omega, by omega, forW_range (n := d5.toNat) (fun j σ' H' => ∃ pl : Nat, (∃ x5, σ' = [some (.ref a), some (.ref lr), some (.int (0 + (i : Int))), some (.ref lm), some (.int pl), x5]) ∧ ∃ (ps : List Addr) (ms : List Mark), H' lm = some (.lst (ps.map V.ref)) ∧ All2 (fun p (m : Mark) => H' p = some (.tup [.int m.1, .str m.2])) ps ms ∧ ms.length = j ∧ Same H3 H') ⟨0, ⟨_, rfl⟩, [], [], s5 _ _ hm4, All2.nil, rfl, s4.trans s5⟩ ?_ ?_⟩⟩
          · rintro j σ' H6 hj ⟨pl, ⟨x5, rfl⟩, ps, ms, hm6, hA6, hmj, s6⟩
            have hj6 : j < 6 := by omega
            have hS6 := hS.same (s3.trans s6)
            refine @at_cons _ _ _ _ _ _ _ (@ps_set _ _ 4 _ _ _ _ sc__law_made.nd rfl (Or.inl rfl) (@pe_op _ _ _ _ _ _ _ _ op_add (pv 4) (@pe_ix _ _ _ _ _ _ _ ix_list (@pe_lst _ _ _ _ (@pa_cons _ _ _ _ _ pe_int (@pa_cons _ _ _ _ _ pe_int (@pa_cons _ _ _ _ _ pe_int pa_nil (by walk_at "u")) (by walk_at "u")) (by walk_at "u"))) (@pe_call _ _ _ _ _ _ _ _ _ _ _ _ _ _ _ _ (ok__law_draw T) (hr.mono (by decide)) rfl T.mg__law_draw T.F__law_draw.kp (bd__law_draw T) .nil pass0 (@pa_cons _ _ _ _ _ (pv 0) (@pa_cons _ _ _ _ _ (@pe_op _ _ _ _ _ _ _ _ op_add (@pe_op _ _ _ _ _ _ _ _ op_add pe_int (@pe_op _ _ _ _ _ _ _ _ op_mul pe_int (pv 2))) (@pe_op _ _ _ _ _ _ _ _ op_mul pe_int (pv 5))) (@pa_cons _ _ _ _ _ pe_int pa_nil (by walk_at "u")) (by walk_at "u")) (by walk_at "u")) (by walk_at "u") (by walk_at "u") (by walk_at "u")) (fun _ _ => rfl))) (by walk_at "u") (by walk_at "u")) ⟨_, rfl, by show 3 ≤ sizeLine; decide, fun l0 hl0 => ⟨_, rfl, _, rfl, _, _, rfl, rfl, .inl ⟨by decide, by decide⟩, _, _, rfl, rfl, _, rfl, _, _, rfl, rfl, .inl ⟨by decide, by decide⟩, _, _, rfl, rfl, a, ns, _, _, rfl, hS6.same (Same.upd hl0), (by omega), (by omega), (by decide), (by decide), hl, fun d7 H7 h7 h8 s7 => ?_⟩⟩
            obtain ⟨dn, rfl⟩ : ∃ dn : Nat, d7 = dn := ⟨d7.toNat, by omega⟩
            obtain ⟨v, hv⟩ : ∃ v : Nat, atI [V.int 0, V.int 1, V.int 40] (dn : Int) = some (.int (v : Int)) := by
              have : dn < 3 := by omega
              rcases dn with _ | _ | _ | dn
              · exact ⟨0, rfl⟩
              · exact ⟨1, rfl⟩
              · exact ⟨40, rfl⟩
              · omega
            refine ⟨_, _, _, _, rfl, rfl, SqL.of (s7 _ _ upd_same), hv, _, _, rfl, rfl, ?_⟩
            have s7 := s6.trans ((Same.upd hl0).trans s7)
            have hm7 : H7 lm = some (.lst (ps.map V.ref)) := by
              have s67 : Same H6 H7 := (Same.upd hl0).trans (by assumption)
              exact s67 _ _ hm6
            have hA7 : All2 (fun p (m : Mark) => H7 p = some (.tup [.int m.1, .str m.2])) ps ms := by
              have s67 : Same H6 H7 := (Same.upd hl0).trans (by assumption)
              exact hA6.mono fun _ _ z => s67 _ _ z
            refine @at_one _ _ _ _ _ _ (@ps_expr _ _ _ _ (@pe_bm _ _ _ _ _ _ _ _ _ _ _ _ PySem.F.plainAttrs_list PySem.F.slot_list_append PySem.F.type_list_append mt_append (pv 3) (@pa_cons _ _ _ _ _ (@pe_tup _ _ _ _ _ (@pa_cons _ _ _ _ _ (pv 4) (@pa_cons _ _ _ _ _ (@pe_ix _ _ _ _ _ _ _ ix_list (@pe_lst _ _ _ _ (@pa_cons _ _ _ _ _ pe_str (@pa_cons _ _ _ _ _ pe_str pa_nil (by walk_at "u")) (by walk_at "u"))) (@pe_op _ _ _ _ _ _ _ _ op_fdiv (@pe_call _ _ _ _ _ _ _ _ _ _ _ _ _ _ _ _ (ok__law_draw T) (hr.mono (by decide)) rfl T.mg__law_draw T.F__law_draw.kp (bd__law_draw T) .nil pass0 (@pa_cons _ _ _ _ _ (pv 0) (@pa_cons _ _ _ _ _ (@pe_op _ _ _ _ _ _ _ _ op_add (@pe_op _ _ _ _ _ _ _ _ op_add pe_int (@pe_op _ _ _ _ _ _ _ _ op_mul pe_int (pv 2))) (@pe_op _ _ _ _ _ _ _ _ op_mul pe_int (pv 5))) (@pa_cons _ _ _ _ _ pe_int pa_nil (by walk_at "u")) (by walk_at "u")) (by walk_at "u")) (by walk_at "u") (by walk_at "u") (by walk_at "u")) pe_int) (fun _ _ => rfl)) pa_nil (by walk_at "u")) (by walk_at "u"))) pa_nil (by walk_at "u")) (by walk_at "u") (by walk_at "u") (by walk_at "u") (by walk_at "u") (by walk_at "u")) (by walk_at "u")) ⟨_, rfl, .inl ⟨rfl, _, SqL.of hm7⟩, _, rfl, by show 2 ≤ sizeLine; decide, fun l8 hl8 => ⟨_, rfl, _, rfl, _, _, rfl, rfl, .inl ⟨by decide, by decide⟩, _, _, rfl, rfl, _, rfl, _, _, rfl, rfl, .inl ⟨by decide, by decide⟩, _, _, rfl, rfl, a, ns, _, _, rfl, (hS.same (s3.trans s7)).same (Same.upd hl8), (by omega), (by omega), (by decide), (by decide), hl, fun d9 H9 h9 h10 s9 => ⟨_, _, rfl, rfl, ⟨by decide, by decide⟩, ?_⟩⟩⟩
            obtain ⟨dn2, rfl⟩ : ∃ dn : Nat, d9 = dn := ⟨d9.toNat, by omega⟩
            obtain ⟨w, hw⟩ : ∃ w : Str, atI [V.str "open", V.str "close"] ((dn2 : Int) / 3) = some (.str w) := by
              have : dn2 < 5 := by omega
              rcases dn2 with _ | _ | _ | _ | _ | dn
              · exact ⟨"open", rfl⟩
              · exact ⟨"open", rfl⟩
              · exact ⟨"open", rfl⟩
              · exact ⟨"close", rfl⟩
              · exact ⟨"close", rfl⟩
              · omega
            have s79 : Same H7 H9 := (Same.upd hl8).trans s9
            refine ⟨_, _, _, _, rfl, rfl, SqL.of (s9 _ _ upd_same), hw, by show 2 ≤ sizeLine; decide, fun p hp => ⟨lm, _, _, rfl, rfl, Same.upd hp _ _ (s79 _ _ hm7), sl_lt (by rw [List.length_map, hA7.1]; omega), ?_⟩⟩
            have hmp : upd H9 p (.tup [.int ((pl : Int) + (v : Int)), .str w]) lm = some (.lst (ps.map V.ref)) := Same.upd hp _ _ (s79 _ _ hm7)
            refine ⟨pl + v, ⟨_, rfl⟩, ps ++ [p], ms ++ [(pl + v, w)], by rw [upd_same, List.map_append]; rfl, ?_, by rw [List.length_append, hmj]; rfl, Same.up (s7.trans (s79.to hp)) hlm⟩
            refine (hA7.mono fun q m z => tup_upd hmp _ _ (Same.upd hp _ _ (s79 _ _ z))).snoc (tup_upd hmp _ _ upd_same)
          · rintro σ' H6 ⟨pl, ⟨x5, rfl⟩, ps, ms, hm6, hA6, hmj, s6⟩
            exact ⟨⟨_, _, rfl⟩, ps, ms, hm6, hA6, by omega, s6⟩
        rintro σ' H5 ⟨⟨x4, x5, rfl⟩, ps, ms, hm5, hA5, hml, s5⟩
        have hr5 := s5 _ _ hr3
        have nlm : lm ≠ lr := Ne.symm (ne_of_none hr3 hlm)
        refine @at_one _ _ _ _ _ _ (@ps_expr _ _ _ _ (@pe_bm _ _ _ _ _ _ _ _ _ _ _ _ PySem.F.plainAttrs_list PySem.F.slot_list_append PySem.F.type_list_append mt_append (pv 1) (@pa_cons _ _ _ _ _ (pv 3) pa_nil (by walk_at "u")) (by walk_at "u") (by walk_at "u") (by walk_at "u") (by walk_at "u") (by walk_at "u")) (by walk_at "u")) ⟨_, rfl, .inl ⟨rfl, _, SqL.of hr5⟩, _, rfl, lr, _, _, rfl, rfl, hr5, sl_lt (by rw [List.length_map, hA3.1]; omega), ⟨_, _, _, _, rfl⟩, ls ++ [lm], rows ++ [ms], by rw [upd_same, List.map_append]; rfl, ?_, by rw [List.length_append, hri]; rfl, fun r hr => ?_, Same.up (s3.trans s5) hlr⟩
        · rw [hid_upd (S := fun c => c = lr) rfl]
          refine (hA3.mono fun _ _ z => z.same (hid_two s5)).snoc ⟨ps, hid_of hm5 nlm, hA5.mono fun p m z => hid_of z (ne_of z hr5 (by intro y; cases y))⟩
        · rcases List.mem_append.mp hr with hr | hr
          · exact hrs r hr
          · rw [List.mem_singleton.mp hr]; exact hml
      · rintro σ' H3 ⟨⟨x2, x3, x4, x5, rfl⟩, ls, rows, hr3, hA3, hri, hrs, s3⟩
        exact ⟨⟨_, _, _, _, rfl⟩, rows, ⟨by omega, by omega, hrs⟩, ⟨ls, hr3, hA3.mono fun _ _ z => z.same hid_same⟩, s3⟩
    rintro σ' H2 ⟨⟨x2, x3, x4, x5, rfl⟩, rows, hF, hR, s2⟩
    exact @at_one _ _ _ _ _ _ (@ps_ret _ _ _ _ (pv 1)) ⟨_, rfl, q lr rows H2 hR hF hlr s2⟩
end
section
variable {P : Program} {w : World} {K : PySem.W.Frag} {mg : Str → Option Value} {base : Heap} {t : Adr}
theorem cut_to {xs : List V} {j : Nat} (hj : j ≤ xs.length) : cutV xs none (some (j : Int)) = xs.take j := by
  rw [cutV, HT.sIx_nat, HT.sIx_none, Nat.min_eq_left hj]; rfl
theorem foldsN_take (rows : List (List Mark)) (k : Nat) : ∀ i, i ≤ k → foldsN (rows.take k) i = foldsN rows i
  | 0, _ => rfl
  | i + 1, h => by
    rw [foldsN, foldsN, foldsN_take rows k i (by omega), List.getElem?_take_of_lt (by omega)]
theorem folds_ahead {rows : List (List Mark)} {k : Nat} (h : k ≤ rows.length) : foldsP (rows.take k) = (foldsN rows k).1 := by
  unfold foldsP
  rw [List.length_take, Nat.min_eq_left h, foldsN_take rows k k (Nat.le_refl _)]
theorem Small.take {rows : List (List Mark)} (h : Small rows) (k : Nat) : Small (rows.take k) := ⟨by have := h.1; rw [List.length_take]; omega, fun r hr => h.2 r (List.mem_of_mem_take hr)⟩
theorem count_take {fs : List Fold} {i : Nat} {f : Fold} (h : fs[i]? = some f) : (fs.take (i + 1)).countP isN = (fs.take i).countP isN + (if isN f = true then 1 else 0) := by
  rw [List.take_add_one, h, Option.toList_some, List.countP_append, List.countP_singleton]
theorem alike_fold {H : Hp} {p q : Addr} {f : Fold} (h1 : FoldAt H p f) (h2 : FoldAt H q f) : AlikeR K H 3 (.ref p) (.ref q) := by
  obtain ⟨a, b, e⟩ := f
  cases e with
  | none =>
    refine .inr ⟨p, q, _, _, rfl, rfl, .inr ⟨SqT.of h1, SqT.of h2⟩, rfl, fun j x y hx hy => ?_⟩
    rw [hx] at hy
    cases hy
    rcases j with _ | _ | _ | j
    · cases hx; exact .inl ⟨rfl, .inl rfl⟩
    · cases hx; exact .inl ⟨rfl, .inl rfl⟩
    · cases hx; exact .inl ⟨rfl, .inl rfl⟩
    · cases hx
  | some e =>
    obtain ⟨q1, a1, b1⟩ := h1
    obtain ⟨q2, a2, b2⟩ := h2
    refine .inr ⟨p, q, _, _, rfl, rfl, .inr ⟨SqT.of a1, SqT.of a2⟩, rfl, fun j x y hx hy => ?_⟩
    rcases j with _ | _ | _ | j
    · cases hx; cases hy; exact .inl ⟨rfl, .inl rfl⟩
    · cases hx; cases hy; exact .inl ⟨rfl, .inl rfl⟩
    · cases hx; cases hy
      refine .inr ⟨q1, q2, _, _, rfl, rfl, .inr ⟨SqT.of b1, SqT.of b2⟩, rfl, fun j x y hx hy => ?_⟩
      rw [hx] at hy
      cases hy
      rcases j with _ | _ | j
      · cases hx; exact .inl ⟨rfl, .inl rfl⟩
      · cases hx; exact .inl ⟨rfl, .inl rfl⟩
      · cases hx
    · cases hx
theorem alike_folds {H : Hp} {ps qs : List Addr} {fs : List Fold} (h1 : All2 (FoldAt H) ps fs) (h2 : All2 (FoldAt H) qs fs) : ∀ (j : Nat) (x y : V), (ps.map V.ref)[j]? = some x → (qs.map V.ref)[j]? = some y → AlikeR K H 3 x y := by
  intro j x y hx hy
  rw [List.getElem?_map] at hx hy
  obtain ⟨p, hp, rfl⟩ := Option.map_eq_some_iff.mp hx
  obtain ⟨q, hq, rfl⟩ := Option.map_eq_some_iff.mp hy
  have hj : j < fs.length := by rw [← h1.1]; exact (List.getElem?_eq_some_iff.mp hp).1
  exact alike_fold (h1.2 j p _ hp (List.getElem?_eq_getElem hj)) (h2.2 j q _ hq (List.getElem?_eq_getElem hj))
/-- each list has a twin of the very same items -/
def Twins (H : Hp) (ls' ls : List Addr) : Prop := All2 (fun a b => ∃ ps : List Addr, H a = some (.lst (ps.map V.ref)) ∧ H b = some (.lst (ps.map V.ref))) ls' ls
theorem Twins.same {H H' : Hp} {a b : List Addr} (h : Twins H a b) (s : Same H H') : Twins H' a b := h.mono fun _ _ ⟨ps, x, y⟩ => ⟨ps, s _ _ x, s _ _ y⟩
theorem alike_twins {H : Hp} {ls' ls : List Addr} (h : Twins H ls' ls) : ∀ (j : Nat) (x y : V), (ls'.map V.ref)[j]? = some x → (ls.map V.ref)[j]? = some y → AlikeR K H 3 x y := by
  intro j x y hx hy
  rw [List.getElem?_map] at hx hy
  obtain ⟨p, hp, rfl⟩ := Option.map_eq_some_iff.mp hx
  obtain ⟨q, hq, rfl⟩ := Option.map_eq_some_iff.mp hy
  obtain ⟨ps, h1, h2⟩ := h.2 j p q hp hq
  refine .inr ⟨p, q, _, _, rfl, rfl, .inl ⟨SqL.of h1, SqL.of h2⟩, rfl, fun j x y hx hy => ?_⟩
  rw [hx] at hy
  cases hy
  rw [List.getElem?_map] at hx
  obtain ⟨r, hr, rfl⟩ := Option.map_eq_some_iff.mp hx
  exact .inl ⟨rfl, .inr ⟨_, rfl⟩⟩
theorem plain_nats (xs : List V) (h : ∀ x ∈ xs, ∃ n : Nat, x = natV n) : PlainV xs xs := by
  intro x hx y hy
  obtain ⟨n, rfl⟩ := h x hx
  obtain ⟨m, rfl⟩ := h y hy
  exact plain_ints (α := Int) (fun i => i) (fun i => i) [(n : Int)] [(m : Int)] _ (by simp [natV]) _ (by simp [natV])
theorem foldOf_cases (row : Int) : ∀ fs : List Fold, foldOf row fs = .non ∨ ∃ n, foldOf row fs = natV n
  | [] => .inl rfl
  | f :: fs => by
    rw [foldOf]
    split
    · exact .inr ⟨_, rfl⟩
    · exact foldOf_cases row fs
theorem scal_fold (row : Int) (fs : List Fold) : scal (foldOf row fs) (foldOf row fs) = true := by
  rcases foldOf_cases row fs with h | ⟨n, h⟩
  · rw [h]; rfl
  · rw [h]; rfl
theorem log_small {r : Int} (h : r.natAbs < 10 ^ 31) : r.natAbs.log2 < 1000 := by
  by_cases h0 : r.natAbs = 0
  · rw [h0]; decide
  · exact (Nat.log2_lt h0).mpr (Nat.lt_of_lt_of_le h (by decide))
def spLaw (K : PySem.W.Frag) : Sp := fun vs H Q _ => ∃ (a : Addr) (ns : List Int), vs = [.ref a] ∧ SqL K H a (ns.map V.int) ∧ ns.length ≤ 63 ∧ ∀ H', Q (.bl true) H'
theorem ok_law {f : Addr} {fd : FuncData} (F : Fun K "law" "law" s_law f fd) (T : Txt K mg t) : FnOk P w K mg base CX0 6 f fd ["_law_script"] (spLaw K) := by
  refine F.ok sc_law (fun vs H Q E h => ?_) (fun cdv A outer s H vs Q E hr h => at_body ?_)
  · obtain ⟨a, ns, rfl, _⟩ := h
    rfl
  · obtain ⟨a, ns, rfl, hS, hl, q⟩ := h
    have sz := sizeLine_eq
    refine @at_cons _ _ _ _ _ _ _ (@ps_set _ _ 1 _ _ _ _ sc_law.nd rfl (Or.inl rfl) (@pe_call _ _ _ _ _ _ _ _ _ _ _ _ _ _ _ _ (ok__law_made T) (hr.mono (by decide)) rfl T.mg__law_made T.F__law_made.kp (bd__law_made T) .nil pass0 (@pa_cons _ _ _ _ _ (pv 0) pa_nil (by walk_at "u")) (by walk_at "u") (by walk_at "u") (by walk_at "u")) (by walk_at "u") (by walk_at "u")) ⟨_, rfl, a, ns, rfl, hS, hl, fun lr rows H1 hR hF _ s1 => ?_⟩
    have hSm := hF.small
    have hS1 := hS.same s1
    obtain ⟨ls, hl1, hA1⟩ := id hR
    show At _ _ _ [some (.ref a), some (.ref lr), none, none, none, none, none, none, none, none, none, none] H1
    -- the copies
    refine @at_consR _ _ _ _ _ _ _ (fun σ' H' => ∃ (lh : Addr) (ls' : List Addr), σ' = [some (.ref a), some (.ref lr), some (.ref lh), none, none, none, none, none, none, none, none, none] ∧ H' lh = some (.lst (ls'.map V.ref)) ∧ Twins H' ls' ls ∧ Same H1 H') (@ps_setC _ 2 _ (defScope s_law) _ ["_law_script", "_law_rows_marks", "_law_handed", "_law_due", "_law_due_depths", "_law_row", "_law_ahead", "_law_k", "_law_found", "_law_found_depths", "_law_one", "_law_far"] _ _ ("_law_marks") _ _ _ _ [] _ _ sc_law.nd rfl (Or.inl rfl) (by walk_at "ck") (@pi_list _ _ _ _ (pv 1)) (fun _ _ _ _ => by exact (@pe_callTy _ _ _ _ _ _ _ _ _ (call_list_ofK (K := K) rfl) (by rfl) T.z_list (by decide +kernel) (@pa_cons _ _ _ _ _ (pv 0) pa_nil (by walk_at "u")) (by walk_at "u") (by walk_at "u") (by walk_at "u") (by walk_at "u"))) (by walk_at "u") (by walk_at "u") (by walk_at "u") (by walk_at "u") (by walk_at "u") (by walk_at "u")) ?_ ?_
    · refine ⟨_, rfl, lr, rfl, ⟨_, SqL.of hl1⟩, comp_list (xs := ls.map V.ref) (fun i ys H2 => ∃ ls' : List Addr, ys = ls'.map V.ref ∧ Twins H2 ls' (ls.take i) ∧ Same H1 H2) ⟨[], rfl, All2.nil, Same.refl _⟩ (sl_lt (by rw [List.length_map, hA1.1]; have := hSm.1; omega)) ?_ ?_ ?_⟩
      · rintro i ys H2 _ ⟨_, _, _, s2⟩
        exact SqL.of (s2 _ _ hl1)
      · rintro i xv ys H2 hx hyl ⟨ls', rfl, hT, s2⟩
        rw [List.getElem?_map] at hx
        obtain ⟨lm, hlm, rfl⟩ := Option.map_eq_some_iff.mp hx
        have hi := (List.getElem?_eq_some_iff.mp hlm).1
        have hrow : rows[i]? = some (rows[i]'(by rw [← hA1.1]; exact hi)) := List.getElem?_eq_getElem _
        obtain ⟨ps, hp1, _⟩ := hA1.2 i lm _ hlm hrow
        refine ⟨_, rfl, lm, _, rfl, .inl (SqL.of (s2 _ _ hp1)), fun l3 h3 => comp_turn (by rw [List.length_map]; exact hi) hyl ⟨ls' ++ [l3], by rw [List.map_append]; rfl, ?_, s2.to h3⟩⟩
        rw [List.take_add_one, hlm, Option.toList_some]
        exact (hT.same (Same.upd h3)).snoc ⟨ps, upd_same, Same.upd h3 _ _ (s2 _ _ hp1)⟩
      · rintro ys H2 hyl ⟨ls', rfl, hT, s2⟩ D hD
        rw [List.length_map, List.take_length] at hT
        exact ⟨D, ls', rfl, upd_same, hT.same (Same.upd hD), s2.to hD⟩
    rintro σ' H2 ⟨lh, ls', rfl, hh2, hT2, s2⟩
    have hRh : RowsAt H2 lh rows := by
      refine ⟨ls', hh2, by rw [hT2.1, hA1.1], fun i l' row h1 h2 => ?_⟩
      have hi : i < ls.length := by rw [hA1.1]; exact (List.getElem?_eq_some_iff.mp h2).1
      have hlm : ls[i]? = some ls[i] := List.getElem?_eq_getElem hi
      obtain ⟨ps, e1, e2⟩ := hT2.2 i l' _ h1 hlm
      obtain ⟨ps2, e3, e4⟩ := hA1.2 i _ row hlm h2
      rw [s2 _ _ e3] at e2
      injection e2 with e2
      injection e2 with e2
      refine ⟨ps2, by rw [e1, ← e2], e4.mono fun _ _ z => s2 _ _ z⟩
    have hR2 := hR.same s2
    have hl2 := s2 _ _ hl1
    have hS2 := hS1.same s2
    refine @at_cons _ _ _ _ _ _ _ (@ps_set _ _ 3 _ _ _ _ sc_law.nd rfl (Or.inl rfl) (@pe_call _ _ _ _ _ _ _ _ _ _ _ _ _ _ _ _ (ok__law_folds T) (hr.mono (by decide)) rfl T.mg__law_folds T.F__law_folds.kp (bd__law_folds T) .nil pass0 (@pa_cons _ _ _ _ _ (pv 1) pa_nil (by walk_at "u")) (by walk_at "u") (by walk_at "u") (by walk_at "u")) (by walk_at "u") (by walk_at "u")) ⟨_, rfl, lr, rows, rfl, hR2, hSm, fun ld H3 hD3 _ s3 => ?_⟩
    refine @at_cons _ _ _ _ _ _ _ (@ps_set _ _ 4 _ _ _ _ sc_law.nd rfl (Or.inl rfl) (@pe_lst _ _ _ _ pa_nil) (by walk_at "u") (by walk_at "u")) ⟨by show 0 ≤ sizeLine; decide, fun le hle => ?_⟩
    have s4 : Same H2 (upd H3 le (.lst [])) := s3.to hle
    have he4 : upd H3 le (.lst []) le = some (.lst (depthsP rows 0)) := upd_same
    have s34 : Same H3 (upd H3 le (.lst [])) := Same.upd hle
    have hD4 := hD3.same (Same.upd hle (o := .lst []))
    have hle2 : H3 le = none := hle
    generalize upd H3 le (.lst []) = H4 at s4 he4 hD4 s34
    show At _ _ _ [some (.ref a), some (.ref lr), some (.ref lh), some (.ref ld), some (.ref le), none, none, none, none, none, none, none] H4
    -- the depths, each from the folds ahead
    refine @at_consR _ _ _ _ _ _ _ (fun σ' H' => (∃ x5 x6, σ' = [some (.ref a), some (.ref lr), some (.ref lh), some (.ref ld), some (.ref le), x5, x6, none, none, none, none, none]) ∧ H' le = some (.lst (depthsP rows rows.length)) ∧ FoldsAt H' ld (foldsP rows) ∧ Same H2 H') (@ps_forA _ _ _ _ _ _ _ _ PassesOwn.never rfl (@pi_range1 _ _ _ _ _ _ rfl T.z_range (@pa_cons _ _ _ _ _ (@pe_callB _ _ _ _ _ _ _ _ _ call_len_seq (by rfl) T.z_len (by decide +kernel) (@pa_cons _ _ _ _ _ (pv 1) pa_nil (by walk_at "u")) (by walk_at "u") (by walk_at "u") (by walk_at "u") (by walk_at "u")) pa_nil (by walk_at "u")) (by walk_at "u")) (@pg_name _ _ 5 _ sc_law.nd rfl (Or.inl rfl) (by walk_at "u")) pss_at (by walk_at "u")) ?_ ?_
    · refine ⟨_, rfl, _, _, rfl, .inl (SqL.of (s4 _ _ hl2)), _, rfl, by rw [List.length_map]; omega, by rw [List.length_map, hA1.1]; have := hSm.1; omega, ?_⟩
      rw [show (((ls.map V.ref).length : Nat) : Int).toNat = rows.length by rw [List.length_map, hA1.1]; omega]
      refine forW_range (n := rows.length) (fun i σ' H' => (∃ x5 x6, σ' = [some (.ref a), some (.ref lr), some (.ref lh), some (.ref ld), some (.ref le), x5, x6, none, none, none, none, none]) ∧ H' le = some (.lst (depthsP rows i)) ∧ Same H3 H') ⟨⟨_, _, rfl⟩, he4, s34⟩ ?_ ?_
      · rintro i σ' H5 hi ⟨⟨x5, x6, rfl⟩, he5, s5⟩
        have hi10 := hSm.1
        have c1 : cutV (ls.map V.ref) none (some ((0 : Int) + (i : Int))) = (ls.take i).map V.ref := by
          rw [Int.zero_add, cut_to (by rw [List.length_map, hA1.1]; omega), List.map_take]
        have hl5 := s5 _ _ (s3 _ _ hl2)
        refine @at_cons _ _ _ _ _ _ _ (@ps_set _ _ 6 _ _ _ _ sc_law.nd rfl (Or.inl rfl) (@pe_call _ _ _ _ _ _ _ _ _ _ _ _ _ _ _ _ (ok__law_folds T) (hr.mono (by decide)) rfl T.mg__law_folds T.F__law_folds.kp (bd__law_folds T) .nil pass0 (@pa_cons _ _ _ _ _ (@pe_slice _ _ _ _ _ _ _ _ _ _ sl_list (pv 1) po_none (@po_some _ _ _ (pv 5))) pa_nil (by walk_at "u")) (by walk_at "u") (by walk_at "u") (by walk_at "u")) (by walk_at "u") (by walk_at "u")) ⟨_, rfl, _, rfl, _, rfl, lr, _, rfl, SqL.of hl5, fun p1 g1 => ⟨p1, rows.take i, rfl, ⟨ls.take i, by rw [upd_same, c1], ?_⟩, hSm.take i, fun la H6 hF6 _ s6 => ?_⟩⟩
        · refine ⟨by rw [List.length_take, List.length_take, hA1.1], fun k x y hx hy => ?_⟩
          rw [List.getElem?_take] at hx hy
          split at hx
          · rename_i hk
            rw [if_pos hk] at hy
            exact ((hA1.2 k x y hx hy).same (s2.trans (s3.trans s5))).same (Same.upd g1)
          · cases hx
        rw [folds_ahead (by omega)] at hF6
        obtain ⟨ps, hp6, hP6⟩ := hF6
        have wf := wf_all rows i
        have ln := folds_len hSm i
        have s56 : Same H5 H6 := (Same.upd g1).trans s6
        have he6 := s56 _ _ he5
        have s36 := s5.trans s56
        refine @at_one _ _ _ _ _ _ (@ps_expr _ _ _ _ (@pe_bm _ _ _ _ _ _ _ _ _ _ _ _ PySem.F.plainAttrs_list PySem.F.slot_list_append PySem.F.type_list_append mt_append (pv 4) (@pa_cons _ _ _ _ _ (@pe_callB _ _ _ _ _ _ _ _ _ call_len_seq (by rfl) T.z_len (by decide +kernel) (@pa_cons _ _ _ _ _ (@pe_compIf _ (defScope s_law) _ ["_law_script", "_law_rows_marks", "_law_handed", "_law_due", "_law_due_depths", "_law_row", "_law_ahead", "_law_k", "_law_found", "_law_found_depths", "_law_one", "_law_far"] _ _ _ ("_law_one") _ _ [] _ _ _ (by walk_at "ck") (@pi_list _ _ _ _ (pv 6)) (fun _ _ _ _ => by exact (@pt_cmpR _ _ _ _ _ _ _ _ op_isN (@pe_ix _ _ _ _ _ _ _ (ix_tupK (K := K) rfl) (pv 0) pe_int (fun _ _ => rfl)) pe_non (nomark _))) (fun _ _ _ _ => by exact (pv 0)) (by walk_at "u") (by walk_at "u") (by walk_at "u") (by walk_at "u")) pa_nil (by walk_at "u")) (by walk_at "u") (by walk_at "u") (by walk_at "u") (by walk_at "u")) pa_nil (by walk_at "u")) (by walk_at "u") (by walk_at "u") (by walk_at "u") (by walk_at "u") (by walk_at "u")) (by walk_at "u")) ⟨_, rfl, .inl ⟨rfl, _, SqL.of he6⟩, _, rfl, la, rfl, ⟨_, SqL.of hp6⟩, compIf_list (xs := ps.map V.ref) (fun j ys H7 => ys.length = ((foldsN rows i).1.take j).countP isN ∧ H7 = H6) ⟨rfl, rfl⟩ (sl_lt (by rw [List.length_map, hP6.1]; omega)) ?_ ?_ ?_⟩
        · rintro j ys H7 _ ⟨_, rfl⟩
          exact SqL.of hp6
        · rintro j xv ys H7 hx hyl ⟨hyc, rfl⟩
          rw [List.getElem?_map] at hx
          obtain ⟨p, hp, rfl⟩ := Option.map_eq_some_iff.mp hx
          have hj := (List.getElem?_eq_some_iff.mp hp).1
          obtain ⟨f, hf⟩ : ∃ f, (foldsN rows i).1[j]? = some f := ⟨(foldsN rows i).1[j]'(by rw [← hP6.1]; exact hj), List.getElem?_eq_getElem _⟩
          obtain ⟨v, hv, hc⟩ := (hP6.2 j p f hp hf).hit
          have ct := count_take hf
          rcases hc with ⟨e1, rfl⟩ | ⟨e, q2, e1, rfl, hq2⟩
          · refine ⟨_, rfl, _, _, _, _, rfl, rfl, SqT.of hv, atI_nat (j := 2) rfl, rfl, true, rfl, ?_⟩
            refine iteT ⟨_, rfl, compIf_turn (by rw [List.length_map]; exact hj) (by rw [List.length_append]; show _ + 1 ≤ _; omega) ⟨?_, rfl⟩⟩
            rw [ct, if_pos (by unfold isN; rw [e1]; rfl), List.length_append, hyc]; rfl
          · refine ⟨_, rfl, _, _, _, _, rfl, rfl, SqT.of hv, atI_nat (j := 2) rfl, rfl, false, rfl, ?_⟩
            refine iteF (compIf_turn (by rw [List.length_map]; exact hj) (by omega) ⟨?_, rfl⟩)
            rw [ct, if_neg (by unfold isN; rw [e1]; exact Bool.false_ne_true), hyc]; rfl
        · rintro ys H7 hyl ⟨hyc, rfl⟩ D hD
          rw [List.length_map, hP6.1, List.take_length, wf.ct] at hyc
          have heD := Same.upd hD (o := .lst ys) _ _ he6
          refine ⟨D, _, rfl, .inl (SqL.of upd_same), le, _, _, rfl, rfl, heD, sl_lt (by unfold depthsP; rw [List.length_map, List.length_range]; omega), ⟨_, _, rfl⟩, ?_, Same.up (s36.to hD) hle2⟩
          rw [upd_same, hyc]
          unfold depthsP
          rw [List.range_succ, List.map_append]
          rfl
      · rintro σ' H5 ⟨h1, he5, s5⟩
        exact ⟨h1, he5, hD3.same s5, s3.trans s5⟩
    rintro σ' H5 ⟨⟨x5, x6, rfl⟩, he5, hD5, s5⟩
    have hRh5 := hRh.same s5
    have hT5 := hT2.same s5
    have hh5 := s5 _ _ hh2
    have hl5 := s5 _ _ hl2
    have hS5 := hS2.same s5
    clear hR hR2 hRh hT2 s4 s34 he4 hD4 hD3 s3 hle hle2 hS1 hS2 hh2 s1 s2 hS hl2 s5 hA1 hl1
    refine @at_consR _ _ _ _ _ _ _ (fun σ' H' => (∃ x5 x6 x7 x8 x9 x10, σ' = [some (.ref a), some (.ref lr), some (.ref lh), some (.ref ld), some (.ref le), x5, x6, x7, x8, x9, x10, none]) ∧ Same H5 H') (@ps_forA _ _ _ _ _ _ _ _ PassesOwn.never rfl (@pi_range1 _ _ _ _ _ _ rfl T.z_range (@pa_cons _ _ _ _ _ pe_int pa_nil (by walk_at "u")) (by walk_at "u")) (@pg_name _ _ 7 _ sc_law.nd rfl (Or.inl rfl) (by walk_at "u")) pss_at (by walk_at "u")) ?_ ?_
    · refine ⟨2, rfl, by decide, by decide, forW_range (n := 2) (fun i σ' H' => (∃ x5 x6 x7 x8 x9 x10, σ' = [some (.ref a), some (.ref lr), some (.ref lh), some (.ref ld), some (.ref le), x5, x6, x7, x8, x9, x10, none]) ∧ Same H5 H') ⟨⟨_, _, _, _, _, _, rfl⟩, Same.refl _⟩ ?_ (fun _ _ z => z)⟩
      rintro i σ' H6 hi ⟨⟨x5, x6, x7, x8, x9, x10, rfl⟩, s6⟩
      refine @at_cons _ _ _ _ _ _ _ (@ps_set _ _ 8 _ _ _ _ sc_law.nd rfl (Or.inl rfl) (@pe_call _ _ _ _ _ _ _ _ _ _ _ _ _ _ _ _ (ok_folds T) (hr.mono (by decide)) rfl T.mg_folds T.F_folds.kp (bd_folds T) .nil pass0 (@pa_cons _ _ _ _ _ (pv 2) pa_nil (by walk_at "u")) (by walk_at "u") (by walk_at "u") (by walk_at "u")) (by walk_at "u") (by walk_at "u")) ⟨_, rfl, lh, rows, rfl, hRh5.same s6, hSm, fun lf H7 hF7 f7 s7 => ?_⟩
      have s7' := s6.trans s7
      refine @at_cons _ _ _ _ _ _ _ (@ps_set _ _ 9 _ _ _ _ sc_law.nd rfl (Or.inl rfl) (@pe_call _ _ _ _ _ _ _ _ _ _ _ _ _ _ _ _ (ok_depths T) (hr.mono (by decide)) rfl T.mg_depths T.F_depths.kp (bd_depths T) .nil pass0 (@pa_cons _ _ _ _ _ (pv 2) pa_nil (by walk_at "u")) (by walk_at "u") (by walk_at "u") (by walk_at "u")) (by walk_at "u") (by walk_at "u")) ⟨_, rfl, lh, rows, rfl, hRh5.same s7', hSm, fun lg H8 hG8 f8 s8 => ?_⟩
      have s8' := s7'.trans s8
      have hF8 := hF7.same s8
      obtain ⟨ps, hf8, hP8⟩ := id hF8
      obtain ⟨qs, hd8, hQ8⟩ := hD5.same s8'
      have hps : ps.length ≤ 100 := by rw [hP8.1]; unfold foldsP; have := (folds_len hSm rows.length).1; have := hSm.1; omega
      refine @at_consR _ _ _ _ _ _ _ (fun σ' H' => H' = H8 ∧ σ' = [some (.ref a), some (.ref lr), some (.ref lh), some (.ref ld), some (.ref le), x5, x6, some (.int (0 + (i : Int))), some (.ref lf), some (.ref lg), x10, none]) (@ps_if _ _ _ _ _ _ _ _ (@PW.pt _ _ _ (@pw_or _ _ _ _ _ _ _ (@pt_not _ _ _ _ (@pt_val _ _ _ (@pe_callB _ _ _ _ _ _ _ _ _ call_isi (by rfl) T.z_isinstance (by decide +kernel) (@pa_cons _ _ _ _ _ (pv 8) (@pa_cons _ _ _ _ _ (@pe_bltn _ _ (V.ty "list") (Value.type "list") _ rfl T.z_list (by decide +kernel) rfl (by walk_at "u") (by walk_at "u")) pa_nil (by walk_at "u")) (by walk_at "u")) (by walk_at "u") (by walk_at "u") (by walk_at "u") (by walk_at "u")) (by walk_at "u"))) (@pw_or _ _ _ _ _ _ _ (@pt_cmpR _ _ _ _ _ _ _ _ (op_neR 3 (hu4 hr)) (pv 8) (pv 3) (nomark _)) (@pw_or _ _ _ _ _ _ _ (@pt_cmpR _ _ _ _ _ _ _ _ (op_neLs (Nat.lt_of_succ_lt (hu_of hr))) (pv 9) (pv 4) (nomark _)) (@pw_or1 _ _ _ _ (@pt_cmpR _ _ _ _ _ _ _ _ (op_neR 3 (hu4 hr)) (pv 2) (pv 1) (nomark _))))))) pss_at pss_at) ?_ ?_
      · refine ⟨_, rfl, _, _, _, _, true, rfl, .inl rfl, .lst hf8, T.kb_list_list, true, rfl, iteF ?_⟩
        refine ⟨_, rfl, _, rfl, lf, ld, _, _, rfl, rfl, .inl ⟨SqL.of hf8, SqL.of hd8⟩, (by rw [List.length_map, List.length_map, hP8.1, hQ8.1]), alike_folds hP8 hQ8, _, rfl, iteF ?_⟩
        refine ⟨_, rfl, _, rfl, lg, le, _, _, rfl, rfl, SqL.of hG8, SqL.of (s8' _ _ he5), plain_ints _ _ _ _, _, rfl, ifnd (fun h => absurd rfl h) (fun _ => ?_)⟩
        exact ⟨_, rfl, _, rfl, lh, lr, _, _, rfl, rfl, .inl ⟨SqL.of (s8' _ _ hh5), SqL.of (s8' _ _ hl5)⟩, (by rw [List.length_map, List.length_map, hT5.1]), alike_twins (hT5.same s8'), _, rfl, iteF (at_nil ⟨rfl, rfl⟩)⟩
      rintro σ' H8' ⟨rfl, rfl⟩
      refine @at_consR _ _ _ _ _ _ _ (fun σ' H' => H' = H8' ∧ ∃ x10, σ' = [some (.ref a), some (.ref lr), some (.ref lh), some (.ref ld), some (.ref le), x5, x6, some (.int (0 + (i : Int))), some (.ref lf), some (.ref lg), x10, none]) (@ps_forA _ _ _ _ _ _ _ _ PassesOwn.never rfl (@pi_list _ _ _ _ (pv 8)) (@pg_name _ _ 10 _ sc_law.nd rfl (Or.inl rfl) (by walk_at "u")) pss_at (by walk_at "u")) ?_ ?_
      · refine ⟨_, rfl, lf, rfl, ⟨_, SqL.of hf8⟩, forW_list (xs := ps.map V.ref) (fun j σ' H' => H' = H8' ∧ ∃ x10, σ' = [some (.ref a), some (.ref lr), some (.ref lh), some (.ref ld), some (.ref le), x5, x6, some (.int (0 + (i : Int))), some (.ref lf), some (.ref lg), x10, none]) ⟨rfl, _, rfl⟩ ?_ ?_ (fun _ _ z => z)⟩
        · rintro j σ' H' _ ⟨rfl, _⟩
          exact SqL.of hf8
        · rintro j xv σ' H' hx ⟨rfl, x10, rfl⟩
          rw [List.getElem?_map] at hx
          obtain ⟨p, hp, rfl⟩ := Option.map_eq_some_iff.mp hx
          have hj := (List.getElem?_eq_some_iff.mp hp).1
          obtain ⟨v, hv⟩ := (hP8.2 j p _ hp (List.getElem?_eq_getElem (by rw [← hP8.1]; exact hj))).tup
          exact @at_one _ _ _ _ _ _ (@ps_if _ _ _ _ _ _ _ _ (@pt_not _ _ _ _ (@pt_val _ _ _ (@pe_callB _ _ _ _ _ _ _ _ _ call_isi (by rfl) T.z_isinstance (by decide +kernel) (@pa_cons _ _ _ _ _ (pv 10) (@pa_cons _ _ _ _ _ (@pe_bltn _ _ (V.ty "tuple") (Value.type "tuple") _ rfl T.z_tuple (by decide +kernel) rfl (by walk_at "u") (by walk_at "u")) pa_nil (by walk_at "u")) (by walk_at "u")) (by walk_at "u") (by walk_at "u") (by walk_at "u") (by walk_at "u")) (by walk_at "u"))) pss_at pss_at) ⟨_, rfl, _, _, _, _, true, rfl, .inl rfl, .tup hv, T.kb_tuple_tuple, true, rfl, iteF (at_nil ⟨rfl, _, rfl⟩)⟩
      rintro σ' H9 ⟨rfl, x10, rfl⟩
      refine @at_cons _ _ _ _ _ _ _ (@ps_expr _ _ _ _ (@pe_bm _ _ _ _ _ _ _ _ _ _ _ _ PySem.F.plainAttrs_list PySem.F.slot_list_append PySem.F.type_list_append mt_append (pv 8) (@pa_cons _ _ _ _ _ pe_non pa_nil (by walk_at "u")) (by walk_at "u") (by walk_at "u") (by walk_at "u") (by walk_at "u") (by walk_at "u")) (by walk_at "u")) ⟨_, rfl, .inl ⟨rfl, _, SqL.of hf8⟩, lf, _, _, rfl, rfl, hf8, sl_lt (by rw [List.length_map]; omega), ?_⟩
      have nfg : lg ≠ lf := Ne.symm (ne_of_none (hF7.choose_spec.1) f8)
      have hG9 : upd H9 lf (.lst (ps.map V.ref ++ [.non])) lg = some (.lst (depthsP rows rows.length)) := by rw [upd_ne nfg]; exact hG8
      refine @at_one _ _ _ _ _ _ (@ps_expr _ _ _ _ (@pe_bm _ _ _ _ _ _ _ _ _ _ _ _ PySem.F.plainAttrs_list PySem.F.slot_list_append PySem.F.type_list_append mt_append (pv 9) (@pa_cons _ _ _ _ _ pe_non pa_nil (by walk_at "u")) (by walk_at "u") (by walk_at "u") (by walk_at "u") (by walk_at "u") (by walk_at "u")) (by walk_at "u")) ⟨_, rfl, .inl ⟨rfl, _, SqL.of hG9⟩, lg, _, _, rfl, rfl, hG9, sl_lt (by unfold depthsP; rw [List.length_map, List.length_range]; have := hSm.1; omega), ⟨_, _, _, _, _, _, rfl⟩, ?_⟩
      exact Same.up (Same.up s8' (s6.free f7)) (s7'.free f8)
    rintro σ' H6 ⟨⟨x5, x6, x7, x8, x9, x10, rfl⟩, s6⟩
    have hRh6 := hRh5.same s6
    have hT6 := hT5.same s6
    have hD6 := hD5.same s6
    have hh6 := s6 _ _ hh5
    have hl6 := s6 _ _ hl5
    have hS6 := hS5.same s6
    have hlsl : ls.length = rows.length := by
      obtain ⟨ls2, e1, e2⟩ := hRh6
      rw [hh6] at e1
      injection e1 with e1
      injection e1 with e1
      have := congrArg List.length e1
      rw [List.length_map, List.length_map] at this
      rw [← hT6.1, this, e2.1]
    -- each row's fold
    refine @at_consR _ _ _ _ _ _ _ (fun σ' H' => (∃ x5, σ' = [some (.ref a), some (.ref lr), some (.ref lh), some (.ref ld), some (.ref le), x5, x6, x7, x8, x9, x10, none]) ∧ Same H6 H') (@ps_forA _ _ _ _ _ _ _ _ PassesOwn.never rfl (@pi_range1 _ _ _ _ _ _ rfl T.z_range (@pa_cons _ _ _ _ _ (@pe_callB _ _ _ _ _ _ _ _ _ call_len_seq (by rfl) T.z_len (by decide +kernel) (@pa_cons _ _ _ _ _ (pv 1) pa_nil (by walk_at "u")) (by walk_at "u") (by walk_at "u") (by walk_at "u") (by walk_at "u")) pa_nil (by walk_at "u")) (by walk_at "u")) (@pg_name _ _ 5 _ sc_law.nd rfl (Or.inl rfl) (by walk_at "u")) pss_at (by walk_at "u")) ?_ ?_
    · refine ⟨_, rfl, _, _, rfl, .inl (SqL.of hl6), _, rfl, by rw [List.length_map]; omega, by rw [List.length_map, hlsl]; have := hSm.1; omega, ?_⟩
      rw [show (((ls.map V.ref).length : Nat) : Int).toNat = rows.length by rw [List.length_map, hlsl]; omega]
      refine forW_range (n := rows.length) (fun i σ' H' => (∃ x5, σ' = [some (.ref a), some (.ref lr), some (.ref lh), some (.ref ld), some (.ref le), x5, x6, x7, x8, x9, x10, none]) ∧ Same H6 H') ⟨⟨_, rfl⟩, Same.refl _⟩ ?_ ?_
      · rintro i σ' H7 hi ⟨⟨x5, rfl⟩, s7⟩
        have hi10 := hSm.1
        refine @at_one _ _ _ _ _ _ (@ps_if _ _ _ _ _ _ _ _ (@pt_cmpR _ _ _ _ _ _ _ _ op_ne (@pe_call _ _ _ _ _ _ _ _ _ _ _ _ _ _ _ _ (ok__law_asked T) (hr.mono (by decide)) rfl T.mg__law_asked T.F__law_asked.kp (bd__law_asked T) .nil pass0 (@pa_cons _ _ _ _ _ (pv 2) (@pa_cons _ _ _ _ _ (pv 5) pa_nil (by walk_at "u")) (by walk_at "u")) (by walk_at "u") (by walk_at "u") (by walk_at "u")) (@pe_call _ _ _ _ _ _ _ _ _ _ _ _ _ _ _ _ (ok__law_fold_of T) (hr.mono (by decide)) rfl T.mg__law_fold_of T.F__law_fold_of.kp (bd__law_fold_of T) .nil pass0 (@pa_cons _ _ _ _ _ (pv 3) (@pa_cons _ _ _ _ _ (pv 5) pa_nil (by walk_at "u")) (by walk_at "u")) (by walk_at "u") (by walk_at "u") (by walk_at "u")) (nomark _)) pss_at pss_at) ⟨_, rfl, _, rfl, lh, rows, _, rfl, hRh6.same s7, hSm, ?_, fun H8 s8 => ⟨_, rfl, _, rfl, ld, foldsP rows, _, rfl, (hD6.same s7).same s8, ?_, _, rfl, ifnd (fun h => absurd ?_ h) (fun _ => at_nil ⟨⟨_, rfl⟩, s7.trans s8⟩)⟩⟩
        · exact Nat.lt_of_le_of_lt (Nat.log2_le_self _) (by omega)
        · rw [askV, if_pos ⟨by omega, by omega⟩]; exact scal_fold _ _
        · rw [askV, if_pos ⟨by omega, by omega⟩]
      · exact fun _ _ z => z
    rintro σ' H7 ⟨⟨x5, rfl⟩, s7⟩
    refine @at_cons _ _ _ _ _ _ _ (@ps_set _ _ 11 _ _ _ _ sc_law.nd rfl (Or.inl rfl) (@pe_op _ _ _ _ _ _ _ _ op_add (@pe_op _ _ _ _ _ _ _ _ op_pow pe_int pe_int) (@pe_call _ _ _ _ _ _ _ _ _ _ _ _ _ _ _ _ (ok__law_draw T) (hr.mono (by decide)) rfl T.mg__law_draw T.F__law_draw.kp (bd__law_draw T) .nil pass0 (@pa_cons _ _ _ _ _ (pv 0) (@pa_cons _ _ _ _ _ pe_int (@pa_cons _ _ _ _ _ pe_int pa_nil (by walk_at "u")) (by walk_at "u")) (by walk_at "u")) (by walk_at "u") (by walk_at "u") (by walk_at "u"))) (by walk_at "u") (by walk_at "u")) ⟨_, _, rfl, rfl, ⟨by decide, by decide, by decide⟩, _, rfl, a, ns, _, _, rfl, hS6.same s7, (by decide), (by decide), (by decide), (by decide), hl, fun d H8 h0 h1 s8 => ⟨_, _, rfl, rfl, ?_⟩⟩
    have s8 := s7.trans s8
    have hl8 := s8 _ _ hl6
    refine @at_consR _ _ _ _ _ _ _ (fun σ' H' => (∃ x5, σ' = [some (.ref a), some (.ref lr), some (.ref lh), some (.ref ld), some (.ref le), x5, x6, x7, x8, x9, x10, some (.int (10 ^ 30 + d))]) ∧ Same H6 H') (@ps_forA _ _ _ _ _ _ _ _ PassesOwn.never rfl (@pi_list _ _ _ _ (@pe_lst _ _ _ _ (@pa_cons _ _ _ _ _ (@pe_un _ _ _ _ _ _ un_neg pe_int) (@pa_cons _ _ _ _ _ (@pe_callB _ _ _ _ _ _ _ _ _ call_len_seq (by rfl) T.z_len (by decide +kernel) (@pa_cons _ _ _ _ _ (pv 1) pa_nil (by walk_at "u")) (by walk_at "u") (by walk_at "u") (by walk_at "u") (by walk_at "u")) (@pa_cons _ _ _ _ _ (@pe_op _ _ _ _ _ _ _ _ op_add (@pe_callB _ _ _ _ _ _ _ _ _ call_len_seq (by rfl) T.z_len (by decide +kernel) (@pa_cons _ _ _ _ _ (pv 1) pa_nil (by walk_at "u")) (by walk_at "u") (by walk_at "u") (by walk_at "u") (by walk_at "u")) pe_int) (@pa_cons _ _ _ _ _ (pv 11) (@pa_cons _ _ _ _ _ (@pe_un _ _ _ _ _ _ un_neg (pv 11)) pa_nil (by walk_at "u")) (by walk_at "u")) (by walk_at "u")) (by walk_at "u")) (by walk_at "u")))) (@pg_name _ _ 5 _ sc_law.nd rfl (Or.inl rfl) (by walk_at "u")) pss_at (by walk_at "u")) ?_ ?_
    · refine ⟨_, rfl, _, rfl, _, _, rfl, .inl (SqL.of hl8), _, rfl, _, _, rfl, .inl (SqL.of hl8), _, _, rfl, rfl, _, rfl, _, rfl, _, rfl, by show 5 ≤ sizeLine; decide, fun l9 hl9 => ?_⟩
      refine ⟨l9, rfl, ⟨_, SqL.of upd_same⟩, forW_list (xs := [.int (-1), .int ((ls.map V.ref).length : Nat), .int (((ls.map V.ref).length : Nat) + 1), .int (10 ^ 30 + d), .int (-(10 ^ 30 + d))]) (fun i σ' H' => (∃ x5, σ' = [some (.ref a), some (.ref lr), some (.ref lh), some (.ref ld), some (.ref le), x5, x6, x7, x8, x9, x10, some (.int (10 ^ 30 + d))]) ∧ Same (upd H8 l9 (.lst [.int (-1), .int ((ls.map V.ref).length : Nat), .int (((ls.map V.ref).length : Nat) + 1), .int (10 ^ 30 + d), .int (-(10 ^ 30 + d))])) H') ⟨⟨_, rfl⟩, Same.refl _⟩ ?_ ?_ ?_⟩
      · rintro i σ' H9 _ ⟨_, s9⟩
        exact SqL.of (s9 _ _ upd_same)
      · rintro i xv σ' H9 hx ⟨⟨x5, rfl⟩, s9⟩
        have hi10 := hSm.1
        obtain ⟨r, rfl, hno, hlg⟩ : ∃ r : Int, xv = .int r ∧ ¬ (0 ≤ r ∧ r < rows.length) ∧ r.natAbs.log2 < 1000 := by
          rw [List.length_map, hlsl] at hx
          rcases i with _ | _ | _ | _ | _ | i
          · cases hx; exact ⟨_, rfl, by omega, by decide⟩
          · cases hx; exact ⟨_, rfl, by omega, log_small (by omega)⟩
          · cases hx; exact ⟨_, rfl, by omega, log_small (by omega)⟩
          · cases hx; exact ⟨_, rfl, by omega, log_small (by omega)⟩
          · cases hx; exact ⟨_, rfl, by omega, log_small (by omega)⟩
          · cases hx
        have s69 : Same H6 H9 := (s8.to hl9).trans s9
        refine @at_one _ _ _ _ _ _ (@ps_if _ _ _ _ _ _ _ _ (@pt_cmpR _ _ _ _ _ _ _ _ op_ne (@pe_call _ _ _ _ _ _ _ _ _ _ _ _ _ _ _ _ (ok__law_asked T) (hr.mono (by decide)) rfl T.mg__law_asked T.F__law_asked.kp (bd__law_asked T) .nil pass0 (@pa_cons _ _ _ _ _ (pv 2) (@pa_cons _ _ _ _ _ (pv 5) pa_nil (by walk_at "u")) (by walk_at "u")) (by walk_at "u") (by walk_at "u") (by walk_at "u")) pe_str (nomark _)) pss_at pss_at) ⟨_, rfl, _, rfl, lh, rows, r, rfl, hRh6.same s69, hSm, hlg, fun H10 s10 => ⟨?_, _, rfl, ifnd (fun h => absurd ?_ h) (fun _ => at_nil ⟨⟨_, rfl⟩, s9.trans s10⟩)⟩⟩
        · rw [askV, if_neg hno]; rfl
        · rw [askV, if_neg hno]
      · rintro σ' H9 ⟨h1, s9⟩
        exact ⟨h1, (s8.to hl9).trans s9⟩
    rintro σ' H9 ⟨⟨x5, rfl⟩, s9⟩
    refine @at_one _ _ _ _ _ _ (@ps_ret _ _ _ _ (@pe_cmpR _ _ _ _ _ _ _ _ (op_eqR 3 (hu4 hr)) (pv 2) (pv 1) (nomark _))) ⟨_, rfl, _, rfl, lh, lr, _, _, rfl, rfl, .inl ⟨SqL.of (s9 _ _ hh6), SqL.of (s9 _ _ hl6)⟩, (by rw [List.length_map, List.length_map, hT6.1]), alike_twins (hT6.same s9), q _⟩
end
theorem all_mk {l : PySem.W.OpenLaw} {w : World} {K : PySem.W.Frag} {h : Heap} {mg : Str → Option Value} {fa c_TintError c_NoRules c_Rings c_NoPlace c_Nothing c_NoMark c_NoLine f_folds f_depths f_fold_of f__law_draw f__law_folds f__law_asked f__law_fold_of f__law_made f_law : Addr} {d_folds : FuncData} {d_depths : FuncData} {d_fold_of : FuncData} {d__law_draw : FuncData} {d__law_folds : FuncData} {d__law_asked : FuncData} {d__law_fold_of : FuncData} {d__law_made : FuncData} {d_law : FuncData} (X : K.In h) (G : h.Ns mainGlobals mg) (hfa : mg "law" = some (.ref fa))
    (a_TintError : PySem.W.nsIn K mainGlobals "TintError" = some (some (.ref c_TintError)))
    (a_NoRules : PySem.W.nsIn K mainGlobals "NoRules" = some (some (.ref c_NoRules)))
    (a_Rings : PySem.W.nsIn K mainGlobals "Rings" = some (some (.ref c_Rings)))
    (a_NoPlace : PySem.W.nsIn K mainGlobals "NoPlace" = some (some (.ref c_NoPlace)))
    (a_Nothing : PySem.W.nsIn K mainGlobals "Nothing" = some (some (.ref c_Nothing)))
    (a_NoMark : PySem.W.nsIn K mainGlobals "NoMark" = some (some (.ref c_NoMark)))
    (a_NoLine : PySem.W.nsIn K mainGlobals "NoLine" = some (some (.ref c_NoLine)))
    (a_folds : PySem.W.nsIn K mainGlobals "folds" = some (some (.ref f_folds)))
    (F_folds : Fun K "folds" "folds" s_folds f_folds d_folds)
    (a_depths : PySem.W.nsIn K mainGlobals "depths" = some (some (.ref f_depths)))
    (F_depths : Fun K "depths" "depths" s_depths f_depths d_depths)
    (a_fold_of : PySem.W.nsIn K mainGlobals "fold_of" = some (some (.ref f_fold_of)))
    (F_fold_of : Fun K "fold_of" "fold_of" s_fold_of f_fold_of d_fold_of)
    (a__law_draw : PySem.W.nsIn K mainGlobals "_law_draw" = some (some (.ref f__law_draw)))
    (F__law_draw : Fun K "_law_draw" "_law_draw" s__law_draw f__law_draw d__law_draw)
    (a__law_folds : PySem.W.nsIn K mainGlobals "_law_folds" = some (some (.ref f__law_folds)))
    (F__law_folds : Fun K "_law_folds" "_law_folds" s__law_folds f__law_folds d__law_folds)
    (a__law_asked : PySem.W.nsIn K mainGlobals "_law_asked" = some (some (.ref f__law_asked)))
    (F__law_asked : Fun K "_law_asked" "_law_asked" s__law_asked f__law_asked d__law_asked)
    (a__law_fold_of : PySem.W.nsIn K mainGlobals "_law_fold_of" = some (some (.ref f__law_fold_of)))
    (F__law_fold_of : Fun K "_law_fold_of" "_law_fold_of" s__law_fold_of f__law_fold_of d__law_fold_of)
    (a__law_made : PySem.W.nsIn K mainGlobals "_law_made" = some (some (.ref f__law_made)))
    (F__law_made : Fun K "_law_made" "_law_made" s__law_made f__law_made d__law_made)
    (a_law : PySem.W.nsIn K mainGlobals "law" = some (some (.ref f_law)))
    (F_law : Fun K "law" "law" s_law f_law d_law)
    (xcg : PySem.W.specialIn K (.builtin "object.__class__") "__get__" = some (some (.builtin "getset_descriptor.__get__")))
    (xct : PySem.W.takesIn K (.builtin "object.__class__") = some true)
    (xa_TintError : excC K c_TintError = true)
    (xg_TintError : PySem.W.findIn K (.ref c_TintError) "__getattribute__" = some (some (.builtin "BaseException.__getattribute__")))
    (xh_TintError : PySem.W.findIn K (.ref c_TintError) "__getattr__" = some none)
    (xb_TintError : PySem.W.mroIn K c_TintError (.type "BaseException") = some true)
    (xs_TintError : PySem.W.findIn K (.ref c_TintError) "__setattr__" = some (some (.builtin "object.__setattr__")))
    (xo_TintError : PySem.W.mroIn K c_TintError (.type "object") = some true)
    (xd_TintError : PySem.W.hasDictIn K c_TintError = true)
    (xc_TintError : PySem.W.findIn K (.ref c_TintError) "__class__" = some (some (.builtin "object.__class__")))
    (xn_TintError : PySem.W.excIn K c_TintError VE "ValueError.__new__" = true)
    (xa_NoPlace : excC K c_NoPlace = true)
    (xg_NoPlace : PySem.W.findIn K (.ref c_NoPlace) "__getattribute__" = some (some (.builtin "BaseException.__getattribute__")))
    (xh_NoPlace : PySem.W.findIn K (.ref c_NoPlace) "__getattr__" = some none)
    (xb_NoPlace : PySem.W.mroIn K c_NoPlace (.type "BaseException") = some true)
    (xs_NoPlace : PySem.W.findIn K (.ref c_NoPlace) "__setattr__" = some (some (.builtin "object.__setattr__")))
    (xo_NoPlace : PySem.W.mroIn K c_NoPlace (.type "object") = some true)
    (xd_NoPlace : PySem.W.hasDictIn K c_NoPlace = true)
    (xc_NoPlace : PySem.W.findIn K (.ref c_NoPlace) "__class__" = some (some (.builtin "object.__class__")))
    (xn_NoPlace : PySem.W.excIn K c_NoPlace VE "ValueError.__new__" = true)
    (tk_NoPlace_TintError : PySem.W.mroIn K c_NoPlace (.ref c_TintError) = some true)
    (kx_NoPlace_NoRules : PySem.W.kitOne K (.ref c_NoPlace) (.ref c_NoRules) = some false)
    (kx_NoPlace_Rings : PySem.W.kitOne K (.ref c_NoPlace) (.ref c_Rings) = some false)
    (kx_NoPlace_Nothing : PySem.W.kitOne K (.ref c_NoPlace) (.ref c_Nothing) = some false)
    (kx_NoPlace_NoMark : PySem.W.kitOne K (.ref c_NoPlace) (.ref c_NoMark) = some false)
    (kx_NoPlace_NoLine : PySem.W.kitOne K (.ref c_NoPlace) (.ref c_NoLine) = some false)
    (kx_NoPlace_NoPlace : PySem.W.kitOne K (.ref c_NoPlace) (.ref c_NoPlace) = some true)
    (kx_NoPlace_ValueError : PySem.W.kitOne K (.ref c_NoPlace) (.type "ValueError") = some true)
    (kb_list_list : PySem.W.kitOne K (.type "list") (.type "list") = some true)
    (kb_tuple_tuple : PySem.W.kitOne K (.type "tuple") (.type "tuple") = some true)
    (z_ValueError : PySem.W.nsIn K mainGlobals "ValueError" = some none)
    (z_enumerate : PySem.W.nsIn K mainGlobals "enumerate" = some none)
    (z_isinstance : PySem.W.nsIn K mainGlobals "isinstance" = some none)
    (z_len : PySem.W.nsIn K mainGlobals "len" = some none)
    (z_list : PySem.W.nsIn K mainGlobals "list" = some none)
    (z_max : PySem.W.nsIn K mainGlobals "max" = some none)
    (z_range : PySem.W.nsIn K mainGlobals "range" = some none)
    (z_tuple : PySem.W.nsIn K mainGlobals "tuple" = some none)
    : ∃ fd : FuncData, (∀ (s : Shared) (v : Value), BindsTo s fd ⟨[v], []⟩ [("_law_script", v)]) ∧ ∀ base : Heap, K.In base → base.Ns mainGlobals mg → FnOk l.prog w K mg base CX0 6 fa fd ["_law_script"] (spLaw K) := by
  have e := hfa.symm.trans (PySem.W.mg_of X G a_law)
  cases e
  let t : Adr := ⟨c_TintError, c_NoRules, c_Rings, c_NoPlace, c_Nothing, c_NoMark, c_NoLine, f_folds, d_folds, f_depths, d_depths, f_fold_of, d_fold_of, f__law_draw, d__law_draw, f__law_folds, d__law_folds, f__law_asked, d__law_asked, f__law_fold_of, d__law_fold_of, f__law_made, d__law_made⟩
  have T : Txt K mg t := ⟨PySem.W.mg_of X G a_TintError, PySem.W.mg_of X G a_NoRules, PySem.W.mg_of X G a_Rings, PySem.W.mg_of X G a_NoPlace, PySem.W.mg_of X G a_Nothing, PySem.W.mg_of X G a_NoMark, PySem.W.mg_of X G a_NoLine, F_folds, PySem.W.mg_of X G a_folds, F_depths, PySem.W.mg_of X G a_depths, F_fold_of, PySem.W.mg_of X G a_fold_of, F__law_draw, PySem.W.mg_of X G a__law_draw, F__law_folds, PySem.W.mg_of X G a__law_folds, F__law_asked, PySem.W.mg_of X G a__law_asked, F__law_fold_of, PySem.W.mg_of X G a__law_fold_of, F__law_made, PySem.W.mg_of X G a__law_made, { at_ := xa_TintError, ge := ⟨xg_TintError, xh_TintError, xb_TintError⟩, sa := xs_TintError, ob := xo_TintError, hd := xd_TintError, ca := xc_TintError, cg := xcg, ct := xct }, xn_TintError, { at_ := xa_NoPlace, ge := ⟨xg_NoPlace, xh_NoPlace, xb_NoPlace⟩, sa := xs_NoPlace, ob := xo_NoPlace, hd := xd_NoPlace, ca := xc_NoPlace, cg := xcg, ct := xct }, xn_NoPlace, tk_NoPlace_TintError, kx_NoPlace_NoRules, kx_NoPlace_Rings, kx_NoPlace_Nothing, kx_NoPlace_NoMark, kx_NoPlace_NoLine, kx_NoPlace_NoPlace, kx_NoPlace_ValueError, kb_list_list, kb_tuple_tuple, PySem.W.mg_none_of X G z_ValueError, PySem.W.mg_none_of X G z_enumerate, PySem.W.mg_none_of X G z_isinstance, PySem.W.mg_none_of X G z_len, PySem.W.mg_none_of X G z_list, PySem.W.mg_none_of X G z_max, PySem.W.mg_none_of X G z_range, PySem.W.mg_none_of X G z_tuple⟩
  exact ⟨d_law, (by obtain ⟨_, _, _, _, _, _, _, _, _, e, _⟩ := F_law.ex; rw [e]; exact fun s v => .of_eq rfl), fun base _ _ => ok_law F_law T⟩
theorem walk {l : PySem.W.OpenLaw} {q : Program} {loose : List Str} {XP : (Str → Option Value) → Heap → Prop} {YP : World → Heap → Prop} {d : DefRec} {K : Params → PySem.W.Frag} (hn : l.most = some 63) (hdf : d.params.defaults = [])
    (hY : ∀ (w : World) (h : Heap), YP w h → (K w.params).In h)
    (F : ∀ (w : World) (mg : Str → Option Value) (fa : Addr) (h : Heap), (K w.params).In h → h.Ns mainGlobals mg → mg d.name = some (.ref fa) →
      ∃ fd : FuncData, (∀ (s : Shared) (u : Value), BindsTo s fd ⟨[u], []⟩ [("_law_script", u)]) ∧ ∀ base : Heap, (K w.params).In base → base.Ns mainGlobals mg → FnOk l.prog w (K w.params) mg base CX0 6 fa fd ["_law_script"] (spLaw (K w.params))) :
    PySem.W.WalkO q loose XP YP l.row.toRowW d [] (fun f vs => PySem.call f vs) :=
  L2.walk_of (n := 63) (k := 6) (x := "_law_script") (CX := fun _ => CX0) (sp := fun w => spLaw (K w.params)) hn (by decide) hdf ⟨rfl, by decide, by decide⟩ hY F (fun _ _ a ns hl _ hS => ⟨a, ns, rfl, hS, hl, fun _ => rfl⟩) fun _ _ _ _ _ z => z
end K60
open PySem PySem.W PyProof.Rows
set_option maxRecDepth 100000 in
set_option maxHeartbeats 0 in
theorem PySem.Challenge.cw_tintrow_k60_folds_holds : PySem.Challenge.rw_tintrow_k60_folds.Holds := by
  w_on; o_law; k_head; (case hw => w_witness2)
  k_fill
  refine K60.walk (l := PySem.Challenge.rw_tintrow_k60_folds) rfl rfl (fun w h Y => PySem.W.kIn_of Y) ?F
  case F =>
    intro w mg fa h KX G hmg
    refine' K60.all_mk KX G hmg ?a_TintError ?a_NoRules ?a_Rings ?a_NoPlace ?a_Nothing ?a_NoMark ?a_NoLine ?a_folds ?F_folds ?a_depths ?F_depths ?a_fold_of ?F_fold_of ?a__law_draw ?F__law_draw ?a__law_folds ?F__law_folds ?a__law_asked ?F__law_asked ?a__law_fold_of ?F__law_fold_of ?a__law_made ?F__law_made ?a_law ?F_law ?xcg ?xct ?xa_TintError ?xg_TintError ?xh_TintError ?xb_TintError ?xs_TintError ?xo_TintError ?xd_TintError ?xc_TintError ?xn_TintError ?xa_NoPlace ?xg_NoPlace ?xh_NoPlace ?xb_NoPlace ?xs_NoPlace ?xo_NoPlace ?xd_NoPlace ?xc_NoPlace ?xn_NoPlace ?tk_NoPlace_TintError ?kx_NoPlace_NoRules ?kx_NoPlace_Rings ?kx_NoPlace_Nothing ?kx_NoPlace_NoMark ?kx_NoPlace_NoLine ?kx_NoPlace_NoPlace ?kx_NoPlace_ValueError ?kb_list_list ?kb_tuple_tuple ?z_ValueError ?z_enumerate ?z_isinstance ?z_len ?z_list ?z_max ?z_range ?z_tuple
    (case a_TintError => k_is)
    (case a_NoRules => k_is)
    (case a_Rings => k_is)
    (case a_NoPlace => k_is)
    (case a_Nothing => k_is)
    (case a_NoMark => k_is)
    (case a_NoLine => k_is)
    (case a_folds => k_is)
    (case F_folds => (apply L2.fun_mk <;> k_is))
    (case a_depths => k_is)
    (case F_depths => (apply L2.fun_mk <;> k_is))
    (case a_fold_of => k_is)
    (case F_fold_of => (apply L2.fun_mk <;> k_is))
    (case a__law_draw => k_is)
    (case F__law_draw => (apply L2.fun_mk <;> k_is))
    (case a__law_folds => k_is)
    (case F__law_folds => (apply L2.fun_mk <;> k_is))
    (case a__law_asked => k_is)
    (case F__law_asked => (apply L2.fun_mk <;> k_is))
    (case a__law_fold_of => k_is)
    (case F__law_fold_of => (apply L2.fun_mk <;> k_is))
    (case a__law_made => k_is)
    (case F__law_made => (apply L2.fun_mk <;> k_is))
    (case a_law => k_is)
    (case F_law => (apply L2.fun_mk <;> k_is))
    (case xcg => k_is)
    (case xct => k_is)
    (case xa_TintError => kernel_rfl)
    (case xg_TintError => k_is)
    (case xh_TintError => k_is)
    (case xb_TintError => k_is)
    (case xs_TintError => k_is)
    (case xo_TintError => k_is)
    (case xd_TintError => k_is)
    (case xc_TintError => k_is)
    (case xn_TintError => k_exc)
    (case xa_NoPlace => kernel_rfl)
    (case xg_NoPlace => k_is)
    (case xh_NoPlace => k_is)
    (case xb_NoPlace => k_is)
    (case xs_NoPlace => k_is)
    (case xo_NoPlace => k_is)
    (case xd_NoPlace => k_is)
    (case xc_NoPlace => k_is)
    (case xn_NoPlace => k_exc)
    (case tk_NoPlace_TintError => k_is)
    (case kx_NoPlace_NoRules => kit_is)
    (case kx_NoPlace_Rings => kit_is)
    (case kx_NoPlace_Nothing => kit_is)
    (case kx_NoPlace_NoMark => kit_is)
    (case kx_NoPlace_NoLine => kit_is)
    (case kx_NoPlace_NoPlace => kit_is)
    (case kx_NoPlace_ValueError => kit_is)
    (case kb_list_list => kit_is)
    (case kb_tuple_tuple => kit_is)
    (case z_ValueError => k_is)
    (case z_enumerate => k_is)
    (case z_isinstance => k_is)
    (case z_len => k_is)
    (case z_list => k_is)
    (case z_max => k_is)
    (case z_range => k_is)
    (case z_tuple => k_is)
