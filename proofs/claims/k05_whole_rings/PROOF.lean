import PyProof.Rows.All
import Wide.All
import OpenK.AllK
import Wide.FinOn
import PyProof.EqAt
import PyProof.EqKinds
import PyProof.TupleCall
import PyProof.ListStr
import PyProof.EnumFor
import PyProof.EnumMake
import PyProof.EnumStmt
import PyProof.StrLawsTight
import PyProof.StrLawsReplace
import PyProof.StrCalls6
import PyProof.ToksMono
import PyProof.StationsW
import PyProof.RulesTry
import PyProof.ExcInit
import PyProof.ExcClass3
import OpenK.KOwn
import PyProof.ExcBaseAll.ValueError
import PyProof.RulesAs
import PyProof.NsDelKeeps
import KE.KIsAll
import PyProof.ExcArgsOwn
import PyProof.InstStoreFacts
import KE.KIntText
import PyProof.FString
import PyProof.CompMap
import KE.KListMore
import PyProof.ListRange
import PySem.Challenge.RW_tintrow_k05_whole_rings
set_option Elab.async false
set_option linter.all false
set_option maxRecDepth 100000
namespace L2
open PySem PySem.Spec PyProof.Rows

/-- a key: an int or a str -/
abbrev Key := Sum Int Str
def keyIs : Key → Value → Bool
  | .inl k, v => Value.isInt k v
  | .inr x, v => Value.isStrOf x v
def keyH (w : World) : Key → Int
  | .inl k => hashInt k
  | .inr x => hashStr w x
theorem keyIs_shape : ∀ {k : Key} {v : Value}, keyIs k v = true → (∃ i t, k = Sum.inl i ∧ v = Value.int i t) ∨ (∃ x t, k = Sum.inr x ∧ v = Value.str x t)
  | .inl i, v, h => by
    obtain ⟨t, e⟩ := Value.isInt_shape (k := i) (v := v) h
    exact .inl ⟨i, t, rfl, e⟩
  | .inr x, v, h => by
    obtain ⟨t, e⟩ := Value.isStrOf_shape (x := x) (v := v) h
    exact .inr ⟨x, t, rfl, e⟩
theorem keyIs_int (i : Int) (t : Tok) : keyIs (.inl i) (.int i t) = true := by simp [keyIs, Value.isInt]
theorem keyIs_str (x : Str) (t : Tok) : keyIs (.inr x) (.str x t) = true := by simp [keyIs, Value.isStrOf]
theorem key_ll (a b : Int) : decide ((Sum.inl a : Key) = Sum.inl b) = (a == b) := by
  by_cases e : a = b
  · subst e; simp
  · have h : ¬ (Sum.inl a : Key) = Sum.inl b := fun q => e (Sum.inl.inj q)
    rw [decide_eq_false h]
    exact (beq_eq_false_iff_ne.mpr e).symm
theorem key_rr (a b : Str) : decide ((Sum.inr a : Key) = Sum.inr b) = decide (a = b) := by
  by_cases e : a = b
  · subst e; simp
  · have h : ¬ (Sum.inr a : Key) = Sum.inr b := fun q => e (Sum.inr.inj q)
    rw [decide_eq_false h, decide_eq_false e]
theorem key_lr (a : Int) (b : Str) : decide ((Sum.inl a : Key) = Sum.inr b) = false := decide_eq_false (fun q => nomatch q)
theorem key_rl (a : Str) (b : Int) : decide ((Sum.inr a : Key) = Sum.inl b) = false := decide_eq_false (fun q => nomatch q)

def mixKind (prog : Program) (w : World) : PySem.KeyKind prog w Key where
  is := keyIs
  hash := keyH w
  inj := fun v a b ha hb => by
    rcases keyIs_shape ha with ⟨i, t, rfl, rfl⟩ | ⟨x, t, rfl, rfl⟩
    · rcases keyIs_shape hb with ⟨j, u, rfl, e⟩ | ⟨y, u, rfl, e⟩
      · injection e with e1 _; rw [e1]
      · exact nomatch e
    · rcases keyIs_shape hb with ⟨j, u, rfl, e⟩ | ⟨y, u, rfl, e⟩
      · exact nomatch e
      · injection e with e1 _; rw [e1]
  byValue := fun k v h => by
    rcases keyIs_shape h with ⟨i, t, rfl, rfl⟩ | ⟨x, t, rfl, rfl⟩ <;> rfl
  pyHash := fun hv h => by
    rcases keyIs_shape hv with ⟨i, t, rfl, rfl⟩ | ⟨x, t, rfl, rfl⟩
    · exact wpAny_pyHash_int h
    · exact wpAny_pyHash_str h
  eqBool := fun hu hv h => by
    rcases keyIs_shape hu with ⟨i, t, rfl, rfl⟩ | ⟨x, t, rfl, rfl⟩
    · rcases keyIs_shape hv with ⟨j, u, rfl, rfl⟩ | ⟨y, u, rfl, rfl⟩
      · rw [key_ll] at h; exact wpAny_eqBool_int h
      · rw [key_lr] at h; exact SeqAt.EqAt.int_str i t y u _ _ _ _ h
    · rcases keyIs_shape hv with ⟨j, u, rfl, rfl⟩ | ⟨y, u, rfl, rfl⟩
      · rw [key_rl] at h; exact SeqAt.EqAt.str_int x t j u _ _ _ _ h
      · rw [key_rr] at h; exact wpAny_eqBool_str h
  «strs» := fun k x t v h => by
    rcases keyIs_shape h with ⟨i, u, rfl, e⟩ | ⟨y, u, rfl, e⟩
    · exact nomatch e
    · injection e with e1 _
      subst e1
      cases v <;> rfl

theorem mixKind_int (prog : Program) (w : World) (i : Int) (t : Tok) : (mixKind prog w).is (.inl i) (.int i t) = true := keyIs_int i t
theorem mixKind_str (prog : Program) (w : World) (x : Str) (t : Tok) : (mixKind prog w).is (.inr x) (.str x t) = true := keyIs_str x t
end L2

namespace L2
open PySem PySem.Spec PyProof.Rows

/-- a value, without the heap -/
inductive V where
  | non | bl (b : Bool) | int (i : Int) | str (x : Str) | byt (b : Array UInt8) | flt (b : UInt64) | ref (a : Addr) | ty (n : String)
  deriving DecidableEq

def RelV : V → Value → Prop
  | .non, u => u = Value.none
  | .bl b, u => u = Value.bool b
  | .int i, u => ∃ t, u = Value.int i t
  | .str x, u => ∃ t, u = Value.str x t
  | .byt b, u => ∃ t, u = Value.bytes b t
  | .flt b, u => ∃ t, u = Value.float b t
  | .ref a, u => u = Value.ref a
  | .ty n, u => u = Value.type n

abbrev Vals : List V → List Value → Prop := Paired RelV
theorem Vals.length {xs : List V} {us : List Value} (r : Vals xs us) : xs.length = us.length := Paired.length r
theorem Vals.get : ∀ {xs : List V} {us : List Value} {i : Nat} {x : V}, Vals xs us → xs[i]? = some x → ∃ u, us[i]? = some u ∧ RelV x u
  | _, _, _, _, .nil, e => by simp at e
  | _, _, 0, _, .cons r _, e => by simp at e; subst e; exact ⟨_, rfl, r⟩
  | _, _, i + 1, x, .cons _ t, e => by
    obtain ⟨u, h1, h2⟩ := Vals.get (i := i) (x := x) t (by simpa using e)
    exact ⟨u, by simpa using h1, h2⟩
theorem Vals.set {x : V} {u : Value} (r : RelV x u) : ∀ {xs : List V} {us : List Value} (i : Nat), Vals xs us → Vals (xs.set i x) (us.set i u)
  | _, _, _, .nil => .nil
  | _, _, 0, .cons _ t => .cons r t
  | _, _, i + 1, .cons q t => .cons q (Vals.set r i t)
theorem Vals.append : ∀ {xs ys : List V} {us ws : List Value}, Vals xs us → Vals ys ws → Vals (xs ++ ys) (us ++ ws)
  | _, _, _, _, .nil, s => s
  | _, _, _, _, .cons r t, s => .cons r (Vals.append t s)
theorem Vals.take : ∀ {xs : List V} {us : List Value} (n : Nat), Vals xs us → Vals (xs.take n) (us.take n)
  | _, _, 0, _ => .nil
  | _, _, _ + 1, .nil => .nil
  | _, _, n + 1, .cons r t => .cons r (Vals.take n t)
theorem Vals.drop : ∀ {xs : List V} {us : List Value} (n : Nat), Vals xs us → Vals (xs.drop n) (us.drop n)
  | _, _, 0, r => r
  | _, _, _ + 1, .nil => .nil
  | _, _, n + 1, .cons _ t => Vals.drop n t
def RelO : Option V → Option Value → Prop
  | some v, some u => RelV v u
  | none, none => True
  | _, _ => False
def KV {κ : Type} : List (κ × V) → List (κ × Value) → Prop := Paired fun (p : κ × V) (q : κ × Value) => p.1 = q.1 ∧ RelV p.2 q.2

/-- a key of a dict (00_mix): an int or a text -/
def kV : Key → V
  | .inl i => .int i
  | .inr x => .str x

/-- what stands at a tracked address -/
inductive HO where
  /-- a list -/
  | lst (xs : List V)
  /-- a tuple (never changes) -/
  | tup (xs : List V)
  /-- a dict whose keys are ints and texts; one whose keys are tuples of ints and texts (the empty one is both) -/
  | dK (kvs : List (Key × V)) | dT (kvs : List (List Key × V))
  /-- a set of ints: its members, its size -/
  | set (S : Int → Bool) (n : Nat)
  /-- an instance of the class at C, its dict at dx, its attributes -/
  | ins (C dx : Addr) (fs : List (Str × V))
  /-- the dict of the instance at x -/
  | own (x : Addr)
  /-- the dict of an exception -/
  | xd (fs : List (Str × V))
  /-- a bound method, f of x -/
  | met (f x : Addr)
  /-- a range object lo, lo + 1, .. below hi -/
  | rng (lo hi : Int)
  /-- a thing that is known to the object (the script; a dict while a loop walks it): read, never written while it is so -/
  | frz (o : Obj) (u : HO)
  /-- a code object's table -/
  | tbl (ps : Array Value)
  /-- any other thing, by what is true of its one object (a def of one's own: SetO a S n := HO.ext fun h => ..) -/
  | ext (φ : Heap → Prop)

abbrev Hp := Addr → Option HO
def upd (H : Hp) (a : Addr) (o : HO) : Hp := fun b => if b = a then some o else H b
theorem upd_same {H : Hp} {a : Addr} {o : HO} : upd H a o a = some o := by unfold upd; rw [if_pos rfl]
theorem upd_ne {H : Hp} {a b : Addr} {o : HO} (h : b ≠ a) : upd H a o b = H b := by unfold upd; rw [if_neg h]
theorem upd_upd {H : Hp} {a : Addr} {o u : HO} : upd (upd H a o) a u = upd H a u := by
  funext b; unfold upd; split <;> rfl
/-- two objects of different content stand apart -/
theorem ne_of {H : Hp} {a b : Addr} {o u : HO} (h : H a = some o) (h' : H b = some u) (d : o ≠ u) : a ≠ b := by
  intro e; subst e; rw [h] at h'; exact d (Option.some.inj h')
theorem ne_of_none {H : Hp} {a b : Addr} {o : HO} (h : H a = some o) (h' : H b = none) : a ≠ b := by
  intro e; subst e; rw [h] at h'; cases h'

section
variable (P : Program) (w : World)
def ObjOk (H : Hp) (h : Heap) (a : Addr) : HO → Prop
  | .lst xs => xs.length ≤ sizeLine ∧ ∃ (its : List Value) (n : Nat), Vals xs its ∧ h.get? a = some { cls := .type "list", data := .seq its.toArray n }
  | .tup xs => xs.length ≤ sizeLine ∧ ∃ its : List Value, Vals xs its ∧ IsTup h a its.toArray
  | .dK kvs => kvs.length ≤ sizeLine ∧ (a == sysModules) = false ∧ ∃ vs, KV kvs vs ∧ h.DictOf (mixKind P w) a vs
  | .dT kvs => kvs.length ≤ sizeLine ∧ (a == sysModules) = false ∧ ∃ xs : List (List Key × Addr × Value),
      Paired (fun (p : List Key × V) (q : List Key × Addr × Value) => p.1 = q.1 ∧ H q.2.1 = some (.tup (p.1.map kV)) ∧ RelV p.2 q.2.2) kvs xs ∧
      ∃ o es ep, h.get? a = some o ∧ o.ExactDict ∧ o.data = .dict es ep ∧ es.toList = xs.map (entryOfKey (tupleKind (mixKind P w))) ∧ (xs.map (·.1)).Nodup
  | .set S n => h.SetOf (intKind P w) a S n
  | .ins C dx fs => H dx = some (.own a) ∧ fs.length ≤ 1000 ∧ dx ≠ a ∧ h.get? a = some (PySem.W.instObj C dx) ∧
      ∃ mA, h.Ns1 dx mA ∧ (∀ f, RelO (fs.lookup f) (mA f)) ∧ PySem.Within mA (fs.map (·.1))
  | .own _ => ∃ o, h.get? a = some o
  | .xd fs => ∃ mA, h.Ns1 a mA ∧ ∀ f, RelO (fs.lookup f) (mA f)
  | .rng lo hi => ∃ t u v, h.get? a = some { cls := .type "range", data := .fields #[.int lo t, .int hi u, .int 1 v] }
  | .frz o u => h.get? a = some o ∧ ObjOk H h a u
  | .tbl ps => h.get? a = some { cls := .none, data := .fields ps }
  | .met f x => h.get? a = some (PySem.W.methodObj (.ref f) (.ref x))
  | .ext φ => φ h ∧ (∃ o, h.get? a = some o) ∧ ∀ h1 h2 : Heap, φ h1 → (∀ o, h1.get? a = some o → h2.get? a = some o) → φ h2
/-- the abstract heap is held -/
def HOk (H : Hp) (h : Heap) : Prop := ∀ a o, H a = some o → ObjOk P w H h a o
end

section
variable {P : Program} {w : World} {H H' : Hp} {h h' : Heap} {a : Addr} {o : HO}
theorem ObjOk.lt (x : ObjOk P w H h a o) : a < h.objs.size := by
  cases o with
  | lst xs => obtain ⟨_, _, _, _, e⟩ := x; exact Heap.lt_size e
  | tup xs => obtain ⟨_, _, _, p⟩ := x; exact p.lt
  | dK kvs => obtain ⟨_, _, _, _, o, _, _, e, _⟩ := x; exact Heap.lt_size e
  | dT kvs => obtain ⟨_, _, _, _, o, _, _, e, _⟩ := x; exact Heap.lt_size e
  | set S n => obtain ⟨o, _, _, _, e, _⟩ := x; exact Heap.lt_size e
  | ins C dx fs => obtain ⟨_, _, _, e, _⟩ := x; exact Heap.lt_size e
  | own y => obtain ⟨_, e⟩ := x; exact Heap.lt_size e
  | xd fs => obtain ⟨_, ⟨_, _, _, e, _⟩, _⟩ := x; exact Heap.lt_size e
  | rng lo hi => obtain ⟨_, _, _, e⟩ := x; exact Heap.lt_size e
  | frz ob u => obtain ⟨e, _⟩ := x; exact Heap.lt_size e
  | tbl ps => exact Heap.lt_size (show h.get? a = some _ from x)
  | met f y => exact Heap.lt_size (show h.get? a = some _ from x)
  | ext φ => obtain ⟨_, ⟨_, e⟩, _⟩ := x; exact Heap.lt_size e
theorem Paired.mapP {α β : Type} {F G : α → β → Prop} : ∀ {l₁ : List α} {l₂ : List β}, Paired F l₁ l₂ → (∀ a b, F a b → G a b) → Paired G l₁ l₂
  | _, _, .nil, _ => .nil
  | _, _, .cons r t, f => .cons (f _ _ r) (Paired.mapP t f)
/-- what an object's description leans on: its own object, its own dict, the tuples -/
theorem ObjOk.stay (x : ObjOk P w H h a o) (k : ∀ b u, (b = a ∨ H b = some (.own a)) → h.get? b = some u → h'.get? b = some u)
    (ho : ∀ b, H b = some (.own a) → H' b = some (.own a)) (ht : ∀ b xs, H b = some (.tup xs) → H' b = some (.tup xs)) : ObjOk P w H' h' a o := by
  induction o with
  | lst xs => obtain ⟨z, its, n, r, e⟩ := x; exact ⟨z, its, n, r, k _ _ (.inl rfl) e⟩
  | tup xs => obtain ⟨z, its, r, ob, e, c⟩ := x; exact ⟨z, its, r, ob, k _ _ (.inl rfl) e, c⟩
  | dK kvs => obtain ⟨z, y, vs, r, ob, es, ep, e, c⟩ := x; exact ⟨z, y, vs, r, ob, es, ep, k _ _ (.inl rfl) e, c⟩
  | dT kvs =>
    obtain ⟨z, y, xs, r, ob, es, ep, e, c⟩ := x
    exact ⟨z, y, xs, Paired.mapP r fun p q z => ⟨z.1, ht _ _ z.2.1, z.2.2⟩, ob, es, ep, k _ _ (.inl rfl) e, c⟩
  | set S n => obtain ⟨ob, es, ep, t, e, c⟩ := x; exact ⟨ob, es, ep, t, k _ _ (.inl rfl) e, c⟩
  | ins C dx fs =>
    obtain ⟨d, z, ne, e, mA, ⟨od, es, ep, e2, c⟩, r⟩ := x
    exact ⟨ho _ d, z, ne, k _ _ (.inl rfl) e, mA, ⟨od, es, ep, k _ _ (.inr d) e2, c⟩, r⟩
  | own y => obtain ⟨ob, e⟩ := x; exact ⟨ob, k _ _ (.inl rfl) e⟩
  | xd fs => obtain ⟨mA, ⟨od, es, ep, e, c⟩, r⟩ := x; exact ⟨mA, ⟨od, es, ep, k _ _ (.inl rfl) e, c⟩, r⟩
  | rng lo hi => obtain ⟨t, u, v, e⟩ := x; exact ⟨t, u, v, k _ _ (.inl rfl) e⟩
  | frz ob u ih => obtain ⟨e, q⟩ := x; exact ⟨k _ _ (.inl rfl) e, ih q⟩
  | tbl ps =>
    have e : h.get? a = some { cls := .none, data := .fields ps } := x
    show h'.get? a = some { cls := .none, data := .fields ps }
    exact k a _ (.inl rfl) e
  | met f y =>
    have e : h.get? a = some (PySem.W.methodObj (.ref f) (.ref y)) := x
    show h'.get? a = some (PySem.W.methodObj (.ref f) (.ref y))
    exact k a _ (.inl rfl) e
  | ext φ => obtain ⟨p, ⟨o, e⟩, st⟩ := x; exact ⟨st _ _ p fun o q => k _ _ (.inl rfl) q, ⟨o, k _ _ (.inl rfl) e⟩, st⟩
theorem HOk.lt (x : HOk P w H h) (e : H a = some o) : a < h.objs.size := (x a o e).lt
theorem HOk.fresh (x : HOk P w H h) (e : h.objs.size ≤ a) : H a = none := by
  cases q : H a with
  | none => rfl
  | some u => exact absurd (Nat.lt_of_lt_of_le (x.lt q) e) (Nat.lt_irrefl _)
/-- every object of the heap is kept -/
theorem HOk.kept (x : HOk P w H h) (k : ∀ b u, h.get? b = some u → h'.get? b = some u) : HOk P w H h' := fun a o e =>
  (x a o e).stay (fun b u _ q => k b u q) (fun _ q => q) fun _ _ q => q
/-- a new object is laid and tracked -/
theorem HOk.laid (x : HOk P w H h) (k : ∀ b u, h.get? b = some u → h'.get? b = some u) (hp : h.objs.size ≤ a) (new : ObjOk P w (upd H a o) h' a o) : HOk P w (upd H a o) h' := fun b u e => by
  have hn := x.fresh hp
  by_cases hb : b = a
  · subst hb; rw [upd_same] at e; cases e; exact new
  · rw [upd_ne hb] at e
    exact (x b u e).stay (fun c v _ q => k c v q) (fun c q => by rw [upd_ne (ne_of_none q hn)]; exact q) fun c xs q => by rw [upd_ne (ne_of_none q hn)]; exact q
end

/-- what may be read as u: it is u, or a known u -/
def Rd (H : Hp) (a : Addr) (u : HO) : Prop := H a = some u ∨ ∃ o, H a = some (.frz o u)
theorem Rd.ok {P : Program} {w : World} {H : Hp} {h : Heap} {a : Addr} {u : HO} (r : Rd H a u) (x : HOk P w H h) : ObjOk P w H h a u := by
  rcases r with r | ⟨o, r⟩
  · exact x a u r
  · obtain ⟨_, q⟩ := x a _ r
    exact q
/-- what may be written -/
def Mut : Option HO → Prop
  | some (.lst _) => True
  | some (.dK _) => True
  | some (.dT _) => True
  | some (.set _ _) => True
  | some (.ins _ _ _) => True
  | some (.ext _) => True
  | _ => False
section
variable {P : Program} {w : World} {H : Hp} {h h' : Heap} {x e : Addr} {o' : HO}
/-- the object at e is changed: x itself, or the dict of the instance x -/
theorem HOk.write (ok : HOk P w H h) (mu : Mut (H x)) (he : e = x ∨ H e = some (.own x)) (k : ∀ b u, b ≠ e → h.get? b = some u → h'.get? b = some u) (heo : ∃ u, h'.get? e = some u)
    (new : ObjOk P w (upd H x o') h' x o') : HOk P w (upd H x o') h' := fun b u q => by
  have nown : ∀ c y, H c = some (.own y) → c ≠ x := fun c y r z => by subst z; rw [r] at mu; exact mu
  have ntup : ∀ c xs, H c = some (.tup xs) → c ≠ x := fun c xs r z => by subst z; rw [r] at mu; exact mu
  by_cases hb : b = x
  · subst hb; rw [upd_same] at q; cases q; exact new
  · rw [upd_ne hb] at q
    by_cases hbe : b = e
    · have q' : H b = some (.own x) := by
        rcases he with z | z
        · exact absurd (hbe.trans z) hb
        · rw [hbe]; exact z
      rw [q] at q'; cases q'
      obtain ⟨v, hv⟩ := heo
      exact ⟨v, by rw [hbe]; exact hv⟩
    · refine (ok b u q).stay (fun c v hc r => k c v ?_ r) (fun c r => by rw [upd_ne (nown c b r)]; exact r) fun c xs r => by rw [upd_ne (ntup c xs r)]; exact r
      rcases hc with rfl | hc
      · exact hbe
      · rintro rfl
        rcases he with z | z
        · exact nown c b hc z
        · rw [hc] at z; cases z; exact hb rfl
end

structure Un (fs ex : List Addr) (H H' : Hp) (h h' : Heap) : Prop where
  keep : ∀ b o, h.get? b = some o → H b = none → b ∉ fs → b ∉ ex → h'.get? b = some o
  slot : ∀ b o, h.get? b = some o → H b = none → b ∈ fs → b ∉ ex → ∃ sl, h'.get? b = some { o with slots := sl }
  free : ∀ b o, h.get? b = some o → H b = none → b ∉ ex → H' b = none
  there : ∀ b o, h.get? b = some o → b ∉ ex → ∃ o', h'.get? b = some o'
  tups : ∀ b xs, H b = some (.tup xs) → H' b = some (.tup xs)
  frzs : ∀ b o u, H b = some (.frz o u) → H' b = some (.frz o u)
  tbls : ∀ b ps, H b = some (.tbl ps) → ∃ more, H' b = some (.tbl (ps ++ more))
section
variable {fs fs' ex ex' : List Addr} {H H1 H2 : Hp} {h h1 h2 h' : Heap} {a x e : Addr} {o : HO}
theorem Un.any (u : Un fs ex H H1 h h1) {b : Addr} {ob : Obj} (q : h.get? b = some ob) (n : H b = none) (hx : b ∉ ex) : ∃ sl, h1.get? b = some { ob with slots := sl } := by
  by_cases hb : b ∈ fs
  · exact u.slot b ob q n hb hx
  · exact ⟨ob.slots, u.keep b ob q n hb hx⟩
theorem Un.kept (k : ∀ b u, h.get? b = some u → h'.get? b = some u) : Un fs ex H H h h' :=
  ⟨fun b ob q _ _ _ => k b ob q, fun b ob q _ _ _ => ⟨ob.slots, k b ob q⟩, fun _ _ _ n _ => n, fun b ob q _ => ⟨ob, k b ob q⟩, fun _ _ q => q, fun _ _ _ q => q, fun _ ps q => ⟨#[], by rw [q]; simp⟩⟩
theorem Un.refl : Un fs ex H H h h := Un.kept fun _ _ q => q
theorem Un.laid (k : ∀ b u, h.get? b = some u → h'.get? b = some u) (hp : h.objs.size ≤ a) (hn : H a = none) : Un fs ex H (upd H a o) h h' where
  keep := fun b u q _ _ _ => k b u q
  slot := fun b u q _ _ _ => ⟨u.slots, k b u q⟩
  free := fun b u q n _ => by rw [upd_ne (Nat.ne_of_lt (Nat.lt_of_lt_of_le (Heap.lt_size q) hp))]; exact n
  there := fun b u q _ => ⟨u, k b u q⟩
  tups := fun b xs q => by rw [upd_ne (ne_of_none q hn)]; exact q
  frzs := fun b u xs q => by rw [upd_ne (ne_of_none q hn)]; exact q
  tbls := fun b ps q => ⟨#[], by rw [upd_ne (ne_of_none q hn), q]; simp⟩
theorem Un.write (mu : Mut (H x)) (he : e = x ∨ H e = some (.own x)) (k : ∀ b u, b ≠ e → h.get? b = some u → h'.get? b = some u) (heo : ∃ u, h'.get? e = some u) : Un fs ex H (upd H x o) h h' := by
  have hx : ∀ b, H b = none → b ≠ x := fun b n z => by subst z; rw [n] at mu; exact mu
  have hb : ∀ b, H b = none → b ≠ e := fun b n z => by
    subst z
    rcases he with r | r
    · exact hx b n r
    · rw [n] at r; cases r
  have hm : ∀ b u, H b = some u → ¬ Mut (some u) → b ≠ x := fun b u q nm z => by subst z; rw [q] at mu; exact nm mu
  refine ⟨fun b u q n _ _ => k b u (hb b n) q, fun b u q n _ _ => ⟨u.slots, k b u (hb b n) q⟩, fun b u q n _ => by rw [upd_ne (hx b n)]; exact n, fun b u q _ => ?_,
    fun b xs q => by rw [upd_ne (hm b _ q fun z => z)]; exact q, fun b u xs q => by rw [upd_ne (hm b _ q fun z => z)]; exact q, fun b ps q => ⟨#[], by rw [upd_ne (hm b _ q fun z => z), q]; simp⟩⟩
  by_cases hbe : b = e
  · subst hbe; exact heo
  · exact ⟨u, k b u hbe q⟩
end

def trk (h : Heap) (H : Hp) : List Addr := (List.range h.objs.size).filter fun a => (H a).isSome
def hidT (h : Heap) (H : Hp) : Heap := PySem.W.hideAll h (trk h H)
theorem hidT_size (h : Heap) (H : Hp) : (hidT h H).objs.size = h.objs.size := PySem.W.hideAll_size _ _
theorem hidT_get {h : Heap} {H : Hp} {b : Addr} {o : Obj} (e : h.get? b = some o) (n : H b = none) : (hidT h H).get? b = some o :=
  PySem.W.hideAll_get _ e fun hm => by
    have q : (H b).isSome = true := (List.mem_filter.mp hm).2
    rw [n] at q; simp at q
theorem of_hidT {h : Heap} {H : Hp} {b : Addr} {o : Obj} (e : (hidT h H).get? b = some o) : h.get? b = some o ∧ H b = none := by
  have e' : h.get? b = some o := PySem.W.of_hideAll (trk h H) e
  refine ⟨e', ?_⟩
  cases q : H b with
  | none => rfl
  | some x =>
    have hm : b ∈ trk h H := List.mem_filter.mpr ⟨List.mem_range.mpr (Heap.lt_size e'), by simp [q]⟩
    have z : (hidT h H).get? b = none := PySem.W.hideAll_none (trk h H) hm
    rw [z] at e; cases e

end L2

namespace L2
open PySem PySem.Spec PyProof.Rows

/-- the module's facts, over the base: the heap at the law's entry without what is tracked there -/
structure Mod (K : PySem.W.Frag) (mg : Str → Option Value) (base : Heap) : Prop where
  kin : K.In base
  glob : base.Ns mainGlobals mg
  blt : ∃ mb, base.Ns builtinsNs mb ∧ ∀ x : Str, x ≠ "__name__" → mb x = bootBuiltins x
  nolimit : base.NoLimit

/-- the context: a def's body (or a comprehension's block) running. base: fixed through the whole law; s₀, H₀: the entry; outer: the frames whose slots others may change (a def's callers); stack: all frames that run;
   ex: iterators that were made ahead of the entry and are walked here (a comprehension's); fn: the names whose cells were made at the entry (a def: all; a comprehension's block: its own); calm: not within an except suite; pn: pins that every state bears; xe: what is wanted of an exception that leaves the code -/
structure Cx where
  prog : Program
  w : World
  K : PySem.W.Frag
  mg : Str → Option Value
  base : Heap
  A : Around
  N : List Str
  s₀ : Shared
  H₀ : Hp
  env : Env
  outer : List Env
  stack : List Env
  ex : List Addr
  fn : Str → Bool
  calm : Bool
  pn : List (Addr × Obj)
  xe : Value → Shared → Prop
/-- the callers' frames -/
def frs (l : List Env) : List Addr := l.filterMap (·.frame)
abbrev Cx.fs (X : Cx) : List Addr := frs X.outer

def Vis (sc : Scope) (x : Str) : Prop := sc.names.lookup x = some .local ∨ sc.names.lookup x = some .cell ∨ sc.names.lookup x = some .free
def Loc (sc : Scope) (x : Str) : Prop := sc.names.lookup x = some .local ∨ sc.names.lookup x = some .cell
def Look (env : Env) (h : Heap) (m : Str → Option Value) (x : Str) (u : Value) : Prop :=
  (env.kindOf x = some .local ∧ m x = some u) ∨ ((env.kindOf x = some .cell ∨ env.kindOf x = some .free) ∧ ∃ c, env.cells.lookup x = some c ∧ h.IsCell c (some u))

structure Cx.Ok (X : Cx) : Prop where
  mod : Mod X.K X.mg X.base
  kind : X.env.scope.kind = .function
  glob : X.env.globals = mainGlobals
  blt : X.env.builtins = builtinsNs
  above : X.s₀.heap.objs.size ≤ X.env.locals
  inj : ∀ x y c, X.env.cells.lookup x = some c → X.env.cells.lookup y = some c → x = y
  has : ∀ x, (X.env.kindOf x = some .cell ∨ X.env.kindOf x = some .free) → ∃ c, X.env.cells.lookup x = some c
  cab : ∀ x c, X.fn x = true → X.env.cells.lookup x = some c → X.s₀.heap.objs.size ≤ c
  hd : X.calm = true → X.A.handled = none
  frames : X.A.frames = some X.stack
  stk : X.stack = X.outer ∨ (X.stack = X.env :: X.outer ∧ X.env.frame = some X.env.locals)
  exf : ∀ b ∈ X.ex, b ≠ X.env.locals ∧ ∀ x c, X.env.cells.lookup x = some c → c ≠ b
  bs : ∀ b o, X.base.get? b = some o → X.s₀.heap.get? b = some o ∧ X.H₀ b = none
  bsz : X.base.objs.size ≤ X.s₀.heap.objs.size
  noex : ∀ b o, X.base.get? b = some o → b ∉ X.ex
  exfs : ∀ b ∈ X.ex, b ∉ X.fs
  funs : X.s₀.heap.FunFrames X.base X.outer
  frf : ∀ b ∈ X.fs, X.H₀ b = none

structure Inv (X : Cx) (pins : List (Addr × Obj)) (σ : List (Option V)) (H : Hp) (s : Shared) : Prop where
  ok : X.Ok
  os : s.os = X.s₀.os
  bare : AllBare s.gens
  base : Un X.fs X.ex X.H₀ H X.s₀.heap s.heap
  loc : ∃ m, s.heap.Ns X.env.locals m ∧ ∀ (i : Nat) (x : Str) (v : V), X.N[i]? = some x → σ[i]? = some (some v) → Vis X.env.scope x → ∃ u, RelV v u ∧ Look X.env s.heap m x u
  cell : ∀ x c, X.env.cells.lookup x = some c → ∃ v, s.heap.IsCell c v
  free : H X.env.locals = none
  freeC : ∀ x c, X.env.cells.lookup x = some c → H c = none
  pin : ∀ p ∈ X.pn ++ pins, s.heap.get? p.1 = some p.2 ∧ H p.1 = none ∧ p.1 ≠ X.env.locals ∧ p.1 ∉ X.fs ∧ ∀ v, p.2.data ≠ .cell v
  hok : HOk X.prog X.w H s.heap
  len : σ.length = X.N.length

section
variable {X : Cx} {pins : List (Addr × Obj)} {σ : List (Option V)} {H H' : Hp} {s : Shared} {h' : Heap}

theorem Cx.Ok.nofr (ok : X.Ok) {b : Addr} {o : Obj} (e : X.base.get? b = some o) : b ∉ X.fs := fun hb => by
  have := (ok.funs.mem hb).1
  rw [e] at this; cases this
theorem Inv.bs (I : Inv X pins σ H s) : ∀ b o, X.base.get? b = some o → s.heap.get? b = some o ∧ H b = none := fun b o e =>
  ⟨I.base.keep b o (I.ok.bs b o e).1 (I.ok.bs b o e).2 (I.ok.nofr e) (I.ok.noex b o e), I.base.free b o (I.ok.bs b o e).1 (I.ok.bs b o e).2 (I.ok.noex b o e)⟩
theorem Inv.bk (I : Inv X pins σ H s) : ∀ b o, X.base.get? b = some o → s.heap.get? b = some o := fun b o e => (I.bs b o e).1
theorem Inv.mod (I : Inv X pins σ H s) : Mod X.K X.mg X.base := I.ok.mod
theorem Inv.kIn (I : Inv X pins σ H s) : X.K.In s.heap := I.ok.mod.kin.keeps I.bk
theorem Inv.lt (I : Inv X pins σ H s) : X.env.locals < s.heap.objs.size := let ⟨_, hn, _⟩ := I.loc; hn.lt
theorem Inv.sz (I : Inv X pins σ H s) : X.s₀.heap.objs.size ≤ s.heap.objs.size := Nat.le_trans I.ok.above (Nat.le_of_lt I.lt)
theorem Inv.nofs (I : Inv X pins σ H s) {a : Addr} (h : s.heap.objs.size ≤ a) : a ∉ X.fs := fun hb => by
  obtain ⟨_, o, ho, _⟩ := I.ok.funs.mem hb
  exact absurd (Nat.lt_of_lt_of_le (Heap.lt_size ho) (Nat.le_trans I.sz h)) (Nat.lt_irrefl _)
theorem Inv.cne (I : Inv X pins σ H s) : ∀ x c, X.env.cells.lookup x = some c → c ≠ X.env.locals := fun x c e z => by
  obtain ⟨v, o, ho, hd⟩ := I.cell x c e
  obtain ⟨m, ⟨o', es, ep, ho', hd', _⟩, _⟩ := I.loc
  rw [z, ho'] at ho; cases ho; rw [hd'] at hd; cases hd
theorem Inv.funs (I : Inv X pins σ H s) : s.heap.FunFrames X.base X.outer := by
  have all : ∀ (l : List Env), (∀ b ∈ frs l, b ∈ X.fs) → X.s₀.heap.FunFrames X.base l → s.heap.FunFrames X.base l := by
    intro l
    induction l with
    | nil => intro _ _; trivial
    | cons env r ih =>
      intro hs hl
      obtain ⟨hk, ⟨L, o, hf, hn, ho, hd⟩, hr⟩ := hl
      have hL : L ∈ X.fs := hs L (by unfold frs; rw [List.filterMap_cons, hf]; exact List.mem_cons_self)
      obtain ⟨sl, e⟩ := I.base.slot L o ho (I.ok.frf L hL) hL fun z => I.ok.exfs L z hL
      exact ⟨hk, ⟨L, _, hf, hn, e, hd⟩, ih (fun b hb => hs b (by unfold frs; rw [List.filterMap_cons, hf]; exact List.mem_cons_of_mem _ hb)) hr⟩
  exact all X.outer (fun _ hb => hb) I.ok.funs

/-- the frames that run, for a call -/
theorem Inv.stack (I : Inv X pins σ H s) : s.heap.FunFrames X.base X.stack := by
  rcases I.ok.stk with e | ⟨e, hf⟩
  · rw [e]; exact I.funs
  · rw [e]
    obtain ⟨m, hn, _⟩ := I.loc
    refine .cons (by rw [I.ok.kind]; decide) hf hn ?_ I.funs
    exact Heap.get?_none_of_le (Nat.le_trans I.ok.bsz I.ok.above)
theorem Inv.stkSub (I : Inv X pins σ H s) : ∀ b ∈ frs X.stack, b ∈ X.env.locals :: X.fs := fun b hb => by
  rcases I.ok.stk with e | ⟨e, hf⟩
  · rw [e] at hb; exact List.mem_cons_of_mem _ hb
  · rw [e] at hb
    unfold frs at hb
    rw [List.filterMap_cons, hf] at hb
    exact hb
theorem Inv.stkFree (I : Inv X pins σ H s) : ∀ b ∈ frs X.stack, H b = none := fun b hb => by
  rcases List.mem_cons.mp (I.stkSub b hb) with e | hb
  · rw [e]; exact I.free
  · obtain ⟨_, o, ho, _⟩ := I.ok.funs.mem hb
    exact I.base.free b o ho (I.ok.frf b hb) fun z => I.ok.exfs b z hb

/-- THE STEP: the untracked objects but the frame and the records at ch are kept (the callers' frames up to slots), the frame's map is kept, the new abstract heap is held -/
theorem Inv.step {g' : Array GenState} {t' : Nat} {d' : Drawn} {ch : List Addr} (I : Inv X pins σ H s)
    (hch : ∀ b ∈ ch, (b ∈ X.ex ∨ X.s₀.heap.objs.size ≤ b) ∧ b ≠ X.env.locals ∧ (∀ x c, X.env.cells.lookup x = some c → c ≠ b) ∧ ∀ p ∈ X.pn ++ pins, p.1 ≠ b)
    (keep : ∀ b o, b ≠ X.env.locals → b ∉ X.fs → b ∉ ch → s.heap.get? b = some o → H b = none → h'.get? b = some o)
    (slot : ∀ b o, b ≠ X.env.locals → b ∈ X.fs → b ∉ ch → s.heap.get? b = some o → H b = none → ∃ sl, h'.get? b = some { o with slots := sl }) (free : ∀ b o, b ∉ ch → s.heap.get? b = some o → H b = none → H' b = none)
    (there : ∀ b o, b ∉ ch → s.heap.get? b = some o → ∃ o', h'.get? b = some o')
    (tups : ∀ b xs, H b = some (.tup xs) → H' b = some (.tup xs)) (frzs : ∀ b o u, H b = some (.frz o u) → H' b = some (.frz o u)) (tbls : ∀ b ps, H b = some (.tbl ps) → ∃ more, H' b = some (.tbl (ps ++ more)))
    (ns : ∀ m, s.heap.Ns X.env.locals m → h'.Ns X.env.locals m) (hok : HOk X.prog X.w H' h') (hg : AllBare g') :
    Inv X pins σ H' { s with heap := h', gens := g', drawn := d', toks := t' } := by
  have neL : ∀ b o, X.s₀.heap.get? b = some o → b ≠ X.env.locals := fun b o e => Nat.ne_of_lt (Nat.lt_of_lt_of_le (Heap.lt_size e) I.ok.above)
  have neC : ∀ b o, X.s₀.heap.get? b = some o → b ∉ X.ex → b ∉ ch := fun b o e hx hb => by
    rcases (hch b hb).1 with z | z
    · exact hx z
    · exact absurd (Nat.lt_of_lt_of_le (Heap.lt_size e) z) (Nat.lt_irrefl _)
  have cellK : ∀ x c, X.env.cells.lookup x = some c → ∀ v, s.heap.IsCell c v → h'.IsCell c v := fun x c e v ⟨o, ho, hd⟩ => by
    have nch : c ∉ ch := fun z => (hch c z).2.2.1 x c e rfl
    by_cases hc : c ∈ X.fs
    · obtain ⟨sl, q⟩ := slot c o (I.cne x c e) hc nch ho (I.freeC x c e)
      exact ⟨_, q, hd⟩
    · exact ⟨o, keep c o (I.cne x c e) hc nch ho (I.freeC x c e), hd⟩
  refine ⟨I.ok, I.os, hg, ⟨fun b o e n hb hx => ?_, fun b o e n hb hx => ?_, fun b o e n hx => ?_, fun b o e hx => ?_, fun b xs e => tups b xs (I.base.tups b xs e), fun b o xs e => frzs b o xs (I.base.frzs b o xs e), fun b ps e => ?_⟩, ?_, fun x c e => ?_, ?_, fun x c e => ?_, fun p hp => ?_, hok, I.len⟩
  · exact keep b o (neL b o e) hb (neC b o e hx) (I.base.keep b o e n hb hx) (I.base.free b o e n hx)
  · obtain ⟨sl, e1⟩ := I.base.slot b o e n hb hx
    obtain ⟨sl', e2⟩ := slot b _ (neL b o e) hb (neC b o e hx) e1 (I.base.free b o e n hx)
    exact ⟨sl', e2⟩
  · obtain ⟨o', e1⟩ := I.base.there b o e hx
    exact free b o' (neC b o e hx) e1 (I.base.free b o e n hx)
  · obtain ⟨o', e1⟩ := I.base.there b o e hx
    exact there b o' (neC b o e hx) e1
  · obtain ⟨m1, e1⟩ := I.base.tbls b ps e
    obtain ⟨m2, e2⟩ := tbls b _ e1
    exact ⟨m1 ++ m2, by rw [e2, Array.append_assoc]⟩
  · obtain ⟨m, hn, hl⟩ := I.loc
    refine ⟨m, ns m hn, fun i x v e1 e2 e3 => ?_⟩
    obtain ⟨u, r, l⟩ := hl i x v e1 e2 e3
    refine ⟨u, r, ?_⟩
    rcases l with l | ⟨k, c, e, z⟩
    · exact .inl l
    · exact .inr ⟨k, c, e, cellK x c e _ z⟩
  · obtain ⟨v, z⟩ := I.cell x c e
    exact ⟨v, cellK x c e v z⟩
  · obtain ⟨m, ⟨o, _, _, ho, _⟩, _⟩ := I.loc
    exact free _ o (fun z => (hch _ z).2.1 rfl) ho I.free
  · obtain ⟨v, o, ho, hd⟩ := I.cell x c e
    exact free c o (fun z => (hch c z).2.2.1 x c e rfl) ho (I.freeC x c e)
  · obtain ⟨e, n, ne, nf, d⟩ := I.pin p hp
    have nch : p.1 ∉ ch := fun z => (hch p.1 z).2.2.2 p hp rfl
    exact ⟨keep p.1 p.2 ne nf nch e n, free p.1 p.2 nch e n, ne, nf, d⟩
/-- .. where the frame's own object is kept too -/
theorem Inv.un {t' : Nat} (I : Inv X pins σ H s) (u : Un X.fs [] H H' s.heap h') (hok : HOk X.prog X.w H' h') : Inv X pins σ H' { s with heap := h', toks := t' } := by
  obtain ⟨m, ⟨o, es, ep, ho, r⟩, _⟩ := id I.loc
  obtain ⟨sl, hL⟩ := u.any ho I.free (by simp)
  exact I.step (g' := s.gens) (d' := s.drawn) (ch := []) (fun _ z => nomatch z) (fun b o _ hb _ e n => u.keep b o e n hb (by simp)) (fun b o _ hb _ e n => u.slot b o e n hb (by simp)) (fun b o _ e n => u.free b o e n (by simp)) (fun b o _ e => u.there b o e (by simp)) u.tups u.frzs u.tbls (fun m' hm => by
    obtain ⟨o', es', ep', ho', r'⟩ := hm
    rw [ho] at ho'; cases ho'
    exact ⟨_, es', ep', hL, r'⟩) hok I.bare
/-- behind a call (or a comprehension's block): the slots of this frame may have changed too, the records at ch may have turned -/
theorem Inv.call {g' : Array GenState} {t' : Nat} {d' : Drawn} {ch : List Addr} (I : Inv X pins σ H s) (u : Un (frs X.stack) ch H H' s.heap h') (hok : HOk X.prog X.w H' h') (hg : AllBare g')
    (hch : ∀ b ∈ ch, (b ∈ X.ex ∨ X.s₀.heap.objs.size ≤ b) ∧ b ≠ X.env.locals ∧ (∀ x c, X.env.cells.lookup x = some c → c ≠ b) ∧ ∀ p ∈ X.pn ++ pins, p.1 ≠ b) :
    Inv X pins σ H' { s with heap := h', gens := g', drawn := d', toks := t' } := by
  obtain ⟨m, ⟨o, es, ep, ho, r⟩, _⟩ := id I.loc
  obtain ⟨sl, hL⟩ := u.any ho I.free fun z => (hch _ z).2.1 rfl
  exact I.step (ch := ch) hch (fun b o hL hb hc e n => u.keep b o e n (fun z => (List.mem_cons.mp (I.stkSub b z)).elim hL hb) hc) (fun b o _ _ hc e n => u.any e n hc) (fun b o hc e n => u.free b o e n hc) (fun b o hc e => u.there b o e hc) u.tups u.frzs u.tbls (fun m' hm => by
    obtain ⟨o', es', ep', ho', r'⟩ := hm
    rw [ho] at ho'; cases ho'
    exact ⟨_, es', ep', hL, r'⟩) hok hg
/-- an untracked record of ours (an iterator) has turned -/
theorem Inv.turned {t' : Nat} {it : Addr} (I : Inv X pins σ H s) (k : ∀ b o, b ≠ it → s.heap.get? b = some o → h'.get? b = some o) (hn : H it = none) (hL : it ≠ X.env.locals)
    (h1 : it ∈ X.ex ∨ X.s₀.heap.objs.size ≤ it) (h2 : ∀ x c, X.env.cells.lookup x = some c → c ≠ it) (h3 : ∀ p ∈ X.pn ++ pins, p.1 ≠ it) : Inv X pins σ H { s with heap := h', toks := t' } := by
  have nit : ∀ b u, H b = some u → b ≠ it := fun b u e z => by rw [z, hn] at e; cases e
  refine I.step (g' := s.gens) (d' := s.drawn) (ch := [it]) (fun b hb => ?_) (fun b o _ _ hc e _ => k b o (fun z => hc (by simp [z])) e) (fun b o _ _ hc e _ => ⟨o.slots, k b o (fun z => hc (by simp [z])) e⟩) (fun _ _ _ _ n => n)
    (fun b o hc e => ⟨o, k b o (fun z => hc (by simp [z])) e⟩) (fun _ _ e => e) (fun _ _ _ e => e) (fun b ps e => ⟨#[], by rw [e]; simp⟩) (fun m hm => ?_) (fun b u e => ?_) I.bare
  · have e : b = it := by simpa using hb
    subst e
    exact ⟨h1, hL, h2, h3⟩
  · obtain ⟨o, es, ep, ho, r⟩ := hm
    exact ⟨o, es, ep, k _ o (Ne.symm hL) ho, r⟩
  · refine (I.hok b u e).stay (fun c v hc q => k c v ?_ q) (fun _ q => q) fun _ _ q => q
    rcases hc with z | z
    · rw [z]; exact nit b u e
    · exact nit c _ z
theorem Inv.tok (I : Inv X pins σ H s) (t : Nat) : Inv X pins σ H { s with toks := t } := I.un (h' := s.heap) (t' := t) Un.refl I.hok
/-- all objects kept -/
theorem Inv.kept {t' : Nat} (I : Inv X pins σ H s) (k : ∀ b u, s.heap.get? b = some u → h'.get? b = some u) : Inv X pins σ H { s with heap := h', toks := t' } := I.un (Un.kept k) (I.hok.kept k)
/-- a new object laid and tracked -/
theorem Inv.laid {a : Addr} {o : HO} {t' : Nat} (I : Inv X pins σ H s) (k : ∀ b u, s.heap.get? b = some u → h'.get? b = some u) (hp : s.heap.objs.size ≤ a) (new : ObjOk X.prog X.w (upd H a o) h' a o) :
    Inv X pins σ (upd H a o) { s with heap := h', toks := t' } := I.un (Un.laid k hp (I.hok.fresh hp)) (I.hok.laid k hp new)
/-- an object written -/
theorem Inv.write {x e : Addr} {o : HO} {t' : Nat} (I : Inv X pins σ H s) (mu : Mut (H x)) (he : e = x ∨ H e = some (.own x)) (k : ∀ b u, b ≠ e → s.heap.get? b = some u → h'.get? b = some u) (heo : ∃ u, h'.get? e = some u)
    (new : ObjOk X.prog X.w (upd H x o) h' x o) : Inv X pins σ (upd H x o) { s with heap := h', toks := t' } := I.un (Un.write mu he k heo) (I.hok.write mu he k heo new)
theorem Inv.pins_of {pins' : List (Addr × Obj)} (I : Inv X pins σ H s) (h : ∀ p ∈ pins', s.heap.get? p.1 = some p.2 ∧ H p.1 = none ∧ p.1 ≠ X.env.locals ∧ p.1 ∉ X.fs ∧ ∀ v, p.2.data ≠ .cell v) : Inv X pins' σ H s :=
  ⟨I.ok, I.os, I.bare, I.base, I.loc, I.cell, I.free, I.freeC, fun p hp => (List.mem_append.mp hp).elim (fun z => I.pin p (List.mem_append_left _ z)) (h p), I.hok, I.len⟩

theorem nodup_ix {N : List Str} (hN : N.Nodup) {i j : Nat} {x : Str} (a : N[i]? = some x) (b : N[j]? = some x) : i = j := by
  obtain ⟨h1, e1⟩ := List.getElem?_eq_some_iff.mp a
  obtain ⟨h2, e2⟩ := List.getElem?_eq_some_iff.mp b
  exact (List.getElem_inj hN).mp (e1.trans e2.symm)

/-- a name is stored; what changed -/
theorem store_ok2 {M : Model} {A : Around} {E : Value → Shared → Prop} {i : Nat} {x : Str} {v : V} {u : Value} {Q : Unit → Shared → Prop} (I : Inv X pins σ H s) (hN : X.N.Nodup) (hi : X.N[i]? = some x) (hx : Loc X.env.scope x) (r : RelV v u)
    (h : ∀ s', Inv X pins (σ.set i (some v)) H s' → (∃ a, Heap.SameBut a s.heap s'.heap ∧ (a = X.env.locals ∨ X.env.cells.lookup x = some a)) → Q () s') (hf : X.fn x = true ∨ X.env.scope.names.lookup x = some .local := by first | exact .inl rfl | exact .inr rfl | assumption) : wpAny M A (storeName X.env x u) Q E s := by
  obtain ⟨m, hn, hl⟩ := id I.loc
  have hcls : (X.env.scope.kind == .class || (X.env.scope.kind == .module && X.env.locals != X.env.globals)) = false := by rw [I.ok.kind]; rfl
  have hiσ : i < σ.length := by rw [I.len]; exact (List.getElem?_eq_some_iff.mp hi).1
  have cne := I.cne
  have tracked : ∀ {a : Addr} {h' : Heap}, (∃ o, s.heap.get? a = some o ∧ H a = none) → Heap.SameBut a s.heap h' → HOk X.prog X.w H h' := fun {a h'} ha hs b ob e => by
    obtain ⟨_, _, hfree⟩ := ha
    refine (I.hok b ob e).stay (fun c w' hc q => (hs.2 c ?_).trans q) (fun _ q => q) fun _ _ q => q
    rintro rfl
    rcases hc with rfl | hc
    · rw [hfree] at e; cases e
    · rw [hfree] at hc; cases hc
  rcases hx with hk | hk
  · refine wpAny_storeName_local hk hn (fun h' hn' hs => ?_) hcls
    obtain ⟨oL, _, _, hoL, _⟩ := id hn
    refine h _ ⟨I.ok, I.os, I.bare, ⟨fun b o e n hb hx => ?_, fun b o e n hb hx => ?_, I.base.free, fun b o e hx => ?_, I.base.tups, I.base.frzs, I.base.tbls⟩, ⟨_, hn', fun j y v' e1 e2 e3 => ?_⟩, fun y c e => ?_, I.free, I.freeC, fun p hp => ?_, tracked ⟨oL, hoL, I.free⟩ hs, by simpa using I.len⟩ ⟨_, hs, .inl rfl⟩
    · exact (hs.2 b (Nat.ne_of_lt (Nat.lt_of_lt_of_le (Heap.lt_size e) I.ok.above))).trans (I.base.keep b o e n hb hx)
    · obtain ⟨sl, e1⟩ := I.base.slot b o e n hb hx
      exact ⟨sl, (hs.2 b (Nat.ne_of_lt (Nat.lt_of_lt_of_le (Heap.lt_size e) I.ok.above))).trans e1⟩
    · obtain ⟨o', e1⟩ := I.base.there b o e hx
      exact ⟨o', (hs.2 b (Nat.ne_of_lt (Nat.lt_of_lt_of_le (Heap.lt_size e) I.ok.above))).trans e1⟩
    · by_cases hj : j = i
      · subst hj
        rw [hi] at e1; cases e1
        rw [List.getElem?_set_self hiσ] at e2
        cases e2
        exact ⟨u, r, .inl ⟨hk, by simp⟩⟩
      · rw [List.getElem?_set_ne (Ne.symm hj)] at e2
        obtain ⟨u', r', q⟩ := hl j y v' e1 e2 e3
        refine ⟨u', r', ?_⟩
        rcases q with ⟨k, e⟩ | ⟨k, c, e, z⟩
        · refine .inl ⟨k, ?_⟩
          have : y ≠ x := fun e => hj (nodup_ix hN e1 (e ▸ hi))
          simp [this, e]
        · exact .inr ⟨k, c, e, z.sameBut hs (cne y c e)⟩
    · obtain ⟨w', z⟩ := I.cell y c e
      exact ⟨w', z.sameBut hs (cne y c e)⟩
    · obtain ⟨e, n, ne, nf, d⟩ := I.pin p hp
      exact ⟨(hs.2 p.1 ne).trans e, n, ne, nf, d⟩
  · have hfn : X.fn x = true := by
      rcases hf with z | z
      · exact z
      · rw [z] at hk; cases hk
    obtain ⟨c, hc⟩ := I.ok.has x (.inl hk)
    obtain ⟨w', z⟩ := I.cell x c hc
    refine wpAny_storeName_cell I.ok.kind hk hc z (fun h' hc' hs => ?_)
    obtain ⟨oc, hoc, hocd⟩ := id z
    refine h { s with heap := h' } ⟨I.ok, I.os, I.bare, ⟨fun b o e n hb hx => ?_, fun b o e n hb hx => ?_, I.base.free, fun b o e hx => ?_, I.base.tups, I.base.frzs, I.base.tbls⟩, ⟨m, hn.sameBut hs (Ne.symm (cne x c hc)), fun j y v' e1 e2 e3 => ?_⟩, fun y c' e => ?_, I.free, I.freeC, fun p hp => ?_, tracked ⟨oc, hoc, I.freeC x c hc⟩ hs, by simpa using I.len⟩ ⟨c, hs, .inr hc⟩
    · exact (hs.2 b (Nat.ne_of_lt (Nat.lt_of_lt_of_le (Heap.lt_size e) (I.ok.cab x c hfn hc)))).trans (I.base.keep b o e n hb hx)
    · obtain ⟨sl, e1⟩ := I.base.slot b o e n hb hx
      exact ⟨sl, (hs.2 b (Nat.ne_of_lt (Nat.lt_of_lt_of_le (Heap.lt_size e) (I.ok.cab x c hfn hc)))).trans e1⟩
    · obtain ⟨o', e1⟩ := I.base.there b o e hx
      exact ⟨o', (hs.2 b (Nat.ne_of_lt (Nat.lt_of_lt_of_le (Heap.lt_size e) (I.ok.cab x c hfn hc)))).trans e1⟩
    · by_cases hj : j = i
      · subst hj
        rw [hi] at e1; cases e1
        rw [List.getElem?_set_self hiσ] at e2
        cases e2
        exact ⟨u, r, .inr ⟨.inl hk, c, hc, hc'⟩⟩
      · rw [List.getElem?_set_ne (Ne.symm hj)] at e2
        obtain ⟨u', r', q⟩ := hl j y v' e1 e2 e3
        refine ⟨u', r', ?_⟩
        rcases q with q | ⟨k, c', e, z'⟩
        · exact .inl q
        · refine .inr ⟨k, c', e, z'.sameBut hs ?_⟩
          rintro rfl
          exact hj (nodup_ix hN e1 (I.ok.inj _ _ _ e hc ▸ hi))
    · by_cases hcc : c' = c
      · subst hcc; exact ⟨_, hc'⟩
      · obtain ⟨w2, z2⟩ := I.cell y c' e
        exact ⟨w2, z2.sameBut hs hcc⟩
    · obtain ⟨e, n, ne, nf, d⟩ := I.pin p hp
      refine ⟨(hs.2 p.1 ?_).trans e, n, ne, nf, d⟩
      intro q
      rw [q, hoc] at e
      have q' : oc = p.2 := Option.some.inj e
      exact d w' (by rw [← q']; exact hocd)
theorem store_ok {M : Model} {A : Around} {E : Value → Shared → Prop} {i : Nat} {x : Str} {v : V} {u : Value} {Q : Unit → Shared → Prop} (I : Inv X pins σ H s) (hN : X.N.Nodup) (hi : X.N[i]? = some x) (hx : Loc X.env.scope x) (r : RelV v u)
    (h : ∀ s', Inv X pins (σ.set i (some v)) H s' → Q () s') (hf : X.fn x = true ∨ X.env.scope.names.lookup x = some .local := by first | exact .inl rfl | exact .inr rfl | assumption) : wpAny M A (storeName X.env x u) Q E s :=
  store_ok2 I hN hi hx r (fun s' I' _ => h s' I') hf
/-- behind a call or a block, the state as it is -/
theorem Inv.call' {s' : Shared} {ch : List Addr} (I : Inv X pins σ H s) (ho : s'.os = s.os) (u : Un (frs X.stack) ch H H' s.heap s'.heap) (hok : HOk X.prog X.w H' s'.heap) (hg : AllBare s'.gens)
    (hch : ∀ b ∈ ch, (b ∈ X.ex ∨ X.s₀.heap.objs.size ≤ b) ∧ b ≠ X.env.locals ∧ (∀ x c, X.env.cells.lookup x = some c → c ≠ b) ∧ ∀ p ∈ X.pn ++ pins, p.1 ≠ b) : Inv X pins σ H' s' := by
  obtain ⟨h', g', d', t', o'⟩ := s'
  have e : o' = s.os := ho
  subst e
  exact I.call (g' := g') (t' := t') (d' := d') u hok hg hch
end

/-- an exception: its class, its own dict's address (where it has one), the abstract heap behind it -/
abbrev XK := Value → Option Addr → Hp → Prop
abbrev St := List (Option V)
abbrev VK := V → Hp → Prop
/-- an expression's reading; a test's; an argument list's -/
abbrev TE := St → Hp → VK → Prop
abbrev TT := St → Hp → (Bool → Hp → Prop) → Prop
abbrev TA := St → Hp → (List V → Hp → Prop) → Prop
/-- what is wanted behind a statement -/
structure Ends where
  nx : St → Hp → Prop
  rt : VK
  bk : St → Hp → Prop := fun _ _ => False
  ct : St → Hp → Prop := fun _ _ => False
abbrev TS := Ends → St → Hp → Prop

def EP (X : Cx) (pins : List (Addr × Obj)) (σ : St) (Q : VK) (u : Value) (s' : Shared) : Prop := ∃ v H', Inv X pins σ H' s' ∧ RelV v u ∧ Q v H'
def TP (X : Cx) (pins : List (Addr × Obj)) (σ : St) (Q : Bool → Hp → Prop) (b : Bool) (s' : Shared) : Prop := ∃ H', Inv X pins σ H' s' ∧ Q b H'
def AP (X : Cx) (pins : List (Addr × Obj)) (σ : St) (Q : List V → Hp → Prop) (us : List Value) (s' : Shared) : Prop := ∃ vs H', Inv X pins σ H' s' ∧ Vals vs us ∧ Q vs H'
def SP (X : Cx) (pins : List (Addr × Obj)) (D : Ends) (f : Flow) (s' : Shared) : Prop :=
  match f with
  | .next => ∃ σ' H', Inv X pins σ' H' s' ∧ D.nx σ' H'
  | .brk => ∃ σ' H', Inv X pins σ' H' s' ∧ D.bk σ' H'
  | .cont => ∃ σ' H', Inv X pins σ' H' s' ∧ D.ct σ' H'
  | .ret u => ∃ v σ' H', Inv X pins σ' H' s' ∧ RelV v u ∧ D.rt v H'

def PE (X : Cx) (e : Expr) (t : TE) : Prop :=
  ∀ (pins : List (Addr × Obj)) (s : Shared) (σ : St) (H : Hp) (Q : VK), Inv X pins σ H s → t σ H Q → wpAny (model X.prog X.w) X.A (eval e X.env) (EP X pins σ Q) X.xe s
def PT (X : Cx) (e : Expr) (t : TT) : Prop :=
  ∀ (pins : List (Addr × Obj)) (s : Shared) (σ : St) (H : Hp) (Q : Bool → Hp → Prop), Inv X pins σ H s → t σ H Q → wpAny (model X.prog X.w) X.A (isTrue e X.env (eval e X.env)) (TP X pins σ Q) X.xe s
/-- a test whatever its 'whole' is (and, or) -/
def PW (X : Cx) (e : Expr) (t : TT) : Prop :=
  ∀ (whole : Sem Value) (pins : List (Addr × Obj)) (s : Shared) (σ : St) (H : Hp) (Q : Bool → Hp → Prop), Inv X pins σ H s → t σ H Q → wpAny (model X.prog X.w) X.A (isTrue e X.env whole) (TP X pins σ Q) X.xe s
theorem PW.pt {X : Cx} {e : Expr} {t : TT} (h : PW X e t) : PT X e t := h _
/-- an argument list (no star), from the left -/
def PA (X : Cx) (es : List Expr) (t : TA) : Prop :=
  ∀ (pos : Pos) (pins : List (Addr × Obj)) (s : Shared) (σ : St) (H : Hp) (Q : List V → Hp → Prop), Inv X pins σ H s → t σ H Q → wpAny (model X.prog X.w) X.A (spliced (backTo pos (starEach es X.env))) (AP X pins σ Q) X.xe s
def PS (X : Cx) (st : Stmt) (t : TS) : Prop :=
  ∀ (pins : List (Addr × Obj)) (s : Shared) (σ : St) (H : Hp) (D : Ends), Inv X pins σ H s → t D σ H → wpAny (model X.prog X.w) X.A (exec st X.env) (SP X pins D) X.xe s
def PSs (X : Cx) (st : List Stmt) (t : TS) : Prop :=
  ∀ (pins : List (Addr × Obj)) (s : Shared) (σ : St) (H : Hp) (D : Ends), Inv X pins σ H s → t D σ H → wpAny (model X.prog X.w) X.A (execs st X.env) (SP X pins D) X.xe s
/-- weaken the end -/
theorem thn {α : Type} {t : Sem α} {Q Q' : α → Shared → Prop} {M : Model} {A : Around} {E : Value → Shared → Prop} {s : Shared} (h : wpAny M A t Q E s) (hQ : ∀ a s, Q a s → Q' a s) : wpAny M A t Q' E s := wpAny_mono h hQ fun _ _ x => x
end L2

namespace L2
open PySem PySem.Spec PyProof.Rows
section
variable {X : Cx}

def tVar (i : Nat) : TE := fun σ H Q => ∃ v, σ[i]? = some (some v) ∧ Q v H
def tC (v : V) : TE := fun _ H Q => Q v H
theorem pe_var {i : Nat} {x : Str} {pos : Pos} (hN : X.N[i]? = some x) (hv : Vis X.env.scope x) (hd : (x == ("__debug__" : Str)) = false := by decide) (hcd : (x == ("__classdict__" : Str)) = false := by decide) : PE X (.Name x pos) (tVar i) := by
  intro pins s σ H Q I h
  obtain ⟨v, e, h⟩ := h
  obtain ⟨m, hn, hl⟩ := I.loc
  obtain ⟨u, r, l⟩ := hl i x v hN e hv
  have fin : EP X pins σ Q u s := ⟨v, H, I, r, h⟩
  rcases l with ⟨hk, hm⟩ | ⟨hk, c, hc, hcell⟩
  · exact wpAny_Name (wpAny_loadName_local I.ok.kind hk hn hm fin) hd
  · rcases hk with hk | hk
    · exact wpAny_Name (wpAny_loadName_cell I.ok.kind hk hc hcell fin) hd
    · exact wpAny_Name (wpAny_loadName_free I.ok.kind hk hc hcell fin hcd) hd
theorem pe_int {i j pos} : PE X (.Constant (.int i) j pos) (tC (.int i)) := fun _ _ _ H _ I h => wpAny_Constant_int ⟨.int i, H, I.tok _, ⟨_, rfl⟩, h⟩
theorem pe_bl {b j pos} : PE X (.Constant (.bool b) j pos) (tC (.bl b)) := fun _ _ _ H _ I h => Constant_bool ⟨.bl b, H, I, rfl, h⟩
theorem pe_non {j pos} : PE X (.Constant .none j pos) (tC .non) := fun _ _ _ H _ I h => Constant_none ⟨.non, H, I, rfl, h⟩
theorem pe_str {x j pos} : PE X (.Constant (.str x) j pos) (tC (.str x)) := fun _ _ _ H _ I h => Calls.Constant_str ⟨.str x, H, I.tok _, ⟨_, rfl⟩, h⟩

/-- a global name of the def -/
def Gl (X : Cx) (x : Str) : Prop := X.env.kindOf x = some .globalImplicit
theorem ld_glob {E : Value → Shared → Prop} {pins : List (Addr × Obj)} {s : Shared} {σ : St} {H : Hp} {x : Str} {u : Value} {pos : Pos} {Q : Value → Shared → Prop} (I : Inv X pins σ H s) (hg : Gl X x) (hm : X.mg x = some u) (h : Q u s)
    (hd : (x == ("__debug__" : Str)) = false := by decide) : wpAny (model X.prog X.w) X.A (eval (.Name x pos) X.env) Q E s :=
  Calls.Name_function_global I.ok.kind hg (Calls.loadGlobal_global (by rw [I.ok.glob]; exact I.mod.glob.keeps I.bk) hm h) hd
theorem ld_blt {E : Value → Shared → Prop} {pins : List (Addr × Obj)} {s : Shared} {σ : St} {H : Hp} {x : Str} {u : Value} {pos : Pos} {Q : Value → Shared → Prop} (I : Inv X pins σ H s) (hg : Gl X x) (hm : X.mg x = none) (hv : bootBuiltins x = some u) (h : Q u s)
    (hn : x ≠ "__name__" := by decide) (hd : (x == ("__debug__" : Str)) = false := by decide) : wpAny (model X.prog X.w) X.A (eval (.Name x pos) X.env) Q E s := by
  obtain ⟨mb, h1, h2⟩ := I.mod.blt
  exact Calls.Name_function_global I.ok.kind hg (Calls.loadGlobal_builtin (by rw [I.ok.glob]; exact I.mod.glob.keeps I.bk) hm (by rw [I.ok.blt]; exact h1.keeps I.bk) ((h2 x hn).trans hv) h) hd
/-- a module's constant, a class, a function, as a value -/
theorem pe_glob {x : Str} {v : V} {u : Value} {pos : Pos} (hg : Gl X x) (hm : X.mg x = some u) (r : RelV v u) (hd : (x == ("__debug__" : Str)) = false := by decide) : PE X (.Name x pos) (tC v) :=
  fun _ _ _ H _ I h => ld_glob I hg hm ⟨v, H, I, r, h⟩ hd
theorem pe_bltn {x : Str} {v : V} {u : Value} {pos : Pos} (hg : Gl X x) (hm : X.mg x = none) (hv : bootBuiltins x = some u) (r : RelV v u) (hn : x ≠ "__name__" := by decide) (hd : (x == ("__debug__" : Str)) = false := by decide) : PE X (.Name x pos) (tC v) :=
  fun _ _ _ H _ I h => ld_blt I hg hm hv ⟨v, H, I, r, h⟩ hn hd

variable {a b : Expr} {ta tb : TE} {pos : Pos}
def PC (X : Cx) (op : CmpOp) (a b : Expr) (t : TE) : Prop :=
  ∀ (pins : List (Addr × Obj)) (s : Shared) (σ : St) (H : Hp) (Q : VK), Inv X pins σ H s → t σ H Q →
    wpAny (model X.prog X.w) X.A (eval a X.env) (fun v s₁ => wpAny (model X.prog X.w) X.A (eval b X.env) (fun u s₂ => wpAny (model X.prog X.w) X.A (compareOp op v u) (EP X pins σ Q) X.xe s₂) X.xe s₁) X.xe s
theorem nobehind (b : Expr) {op : CmpOp} (h : op ≠ .In) (h2 : op ≠ .NotIn) : behindInMarks op b = false := by
  have e1 : (op == CmpOp.In) = false := by cases op <;> first | rfl | exact absurd rfl h
  have e2 : (op == CmpOp.NotIn) = false := by cases op <;> first | rfl | exact absurd rfl h2
  cases b <;> simp [behindInMarks, e1, e2]
/-- a comparison as a value, as a test -/
def tB (t : TE) : TT := fun σ H Q => t σ H fun x H1 => ∃ c, x = .bl c ∧ Q c H1
theorem pt_cmp {op : CmpOp} {t : TE} (h : PC X op a b t) (h1 : behindInMarks op b = false := by first | exact nobehind _ (by decide) (by decide) | rfl) : PT X (.Compare a [op] [b] pos) (tB t) := by
  intro pins s σ H Q I hw
  refine wpAny_isTrue_Compare1 (thn (h pins s σ H _ I hw) fun v s1 h1 => thn h1 fun u s2 h2 => thn h2 fun c s3 ⟨x, H1, I1, r1, q1⟩ => ?_) h1
  obtain ⟨d, rfl, q⟩ := q1
  cases r1
  exact wpAny_truthy_bool ⟨H1, I1, q⟩
/-- an expression whose value is a bool, as a test -/
theorem pt_val {e : Expr} {t : TE} (h : PE X e t) (he : ∀ whole, isTrue e X.env whole = (do let v ← whole; standAt e.pos; holding [v] (truthy v)) := by intro _; rfl) : PT X e (tB t) := by
  intro pins s σ H Q I hw
  refine isTrue_plain (thn (h pins s σ H _ I hw) fun v s1 ⟨x, H1, I1, r1, q1⟩ => ?_) (he _)
  obtain ⟨d, rfl, q⟩ := q1
  cases r1
  exact wpAny_truthy_bool ⟨H1, I1, q⟩

variable {tA tB' : TT} {rest : List Expr}
def tAnd (t u : TT) : TT := fun σ H Q => t σ H fun c H1 => if c = true then u σ H1 Q else Q false H1
def tOr (t u : TT) : TT := fun σ H Q => t σ H fun c H1 => if c = true then Q true H1 else u σ H1 Q
def tNot (t : TT) : TT := fun σ H Q => t σ H fun c H1 => Q (!c) H1
theorem pw_and1 (ha : PT X a tA) : PW X (.BoolOp .And [a] pos) tA := by
  intro wh pins s σ H Q I h
  refine isTrue_and (thn (ha pins s σ H Q I h) fun c s1 e => ?_)
  cases c with
  | true => exact isTrue_and_nil e
  | false => exact e
theorem pw_or1 (ha : PT X a tA) : PW X (.BoolOp .Or [a] pos) tA := by
  intro wh pins s σ H Q I h
  refine isTrue_or (thn (ha pins s σ H Q I h) fun c s1 e => ?_)
  cases c with
  | false => exact isTrue_or_nil e
  | true => exact e
theorem pw_and (ha : PT X a tA) (hb : PW X (.BoolOp .And (b :: rest) pos) tB') : PW X (.BoolOp .And (a :: b :: rest) pos) (tAnd tA tB') := by
  intro wh pins s σ H Q I h
  refine isTrue_and (thn (ha pins s σ H _ I h) fun c s1 ⟨H1, I1, q1⟩ => ?_)
  cases c with
  | true => exact hb wh pins s1 σ H1 Q I1 q1
  | false => exact ⟨H1, I1, q1⟩
theorem pw_or (ha : PT X a tA) (hb : PW X (.BoolOp .Or (b :: rest) pos) tB') : PW X (.BoolOp .Or (a :: b :: rest) pos) (tOr tA tB') := by
  intro wh pins s σ H Q I h
  refine isTrue_or (thn (ha pins s σ H _ I h) fun c s1 ⟨H1, I1, q1⟩ => ?_)
  cases c with
  | true => exact ⟨H1, I1, q1⟩
  | false => exact hb wh pins s1 σ H1 Q I1 q1
theorem pt_not (ha : PT X a tA) : PT X (.UnaryOp .Not a pos) (tNot tA) := by
  intro pins s σ H Q I h
  exact isTrue_not (ha pins s σ H (fun c H1 => Q (!c) H1) I h)
/-- .. as values (bools) -/
def tAndV (ta tb : TE) : TE := fun σ H Q => ta σ H fun x H1 => ∃ c, x = .bl c ∧ if c = true then tb σ H1 Q else Q (.bl false) H1
def tOrV (ta tb : TE) : TE := fun σ H Q => ta σ H fun x H1 => ∃ c, x = .bl c ∧ if c = true then Q (.bl true) H1 else tb σ H1 Q
def tNotV (ta : TE) : TE := fun σ H Q => ta σ H fun x H1 => ∃ c, x = .bl c ∧ Q (.bl (!c)) H1
theorem pe_one {op} {t : TE} (h : PE X a t) : PE X (.BoolOp op [a] pos) t := fun pins s σ H Q I hw => BoolOp_one (h pins s σ H Q I hw)
theorem pe_and (ha : PE X a ta) (hb : PE X (.BoolOp .And (b :: rest) pos) tb) : PE X (.BoolOp .And (a :: b :: rest) pos) (tAndV ta tb) := by
  intro pins s σ H Q I h
  refine BoolOp_and (thn (ha pins s σ H _ I h) fun v s1 ⟨x, H1, I1, r1, q1⟩ => ?_)
  obtain ⟨c, rfl, q1⟩ := q1
  cases r1
  refine wpAny_truthy_bool ?_
  cases c with
  | true => exact hb pins s1 σ H1 Q I1 q1
  | false => exact ⟨.bl false, H1, I1, rfl, q1⟩
theorem pe_not (ha : PE X a ta) : PE X (.UnaryOp .Not a pos) (tNotV ta) := by
  intro pins s σ H Q I h
  refine UnaryOp_ (thn (ha pins s σ H _ I h) fun v s1 ⟨x, H1, I1, r1, q1⟩ => ?_)
  obtain ⟨c, rfl, q1⟩ := q1
  cases r1
  exact not_of (wpAny_truthy_bool ⟨.bl (!c), H1, I1, rfl, q1⟩)
/-- a if t else b -/
def tIf (t : TT) (ta tb : TE) : TE := fun σ H Q => t σ H fun c H1 => if c = true then ta σ H1 Q else tb σ H1 Q
theorem pe_ifExp {c : Expr} (hc : PT X c tA) (ha : PE X a ta) (hb : PE X b tb) : PE X (.IfExp c a b pos) (tIf tA ta tb) := by
  intro pins s σ H Q I h
  refine wpAny_IfExp (thn (hc pins s σ H _ I h) fun d s1 ⟨H1, I1, q1⟩ => ?_)
  cases d with
  | true => exact ha pins s1 σ H1 Q I1 q1
  | false => exact hb pins s1 σ H1 Q I1 q1
end
end L2

namespace L2
open PySem PySem.Spec PyProof.Rows

def SqL (K : PySem.W.Frag) (H : Hp) (a : Addr) (xs : List V) : Prop :=
  Rd H a (.lst xs) ∨
    ∃ (o : Obj) (its : Array Value) (n : Nat), K.lookup a = some o ∧ o.cls = .type "list" ∧ o.dict = none ∧ o.data = .seq its n ∧ its.size ≤ sizeLine ∧ Vals xs its.toList
def SqT (K : PySem.W.Frag) (H : Hp) (a : Addr) (xs : List V) : Prop :=
  Rd H a (.tup xs) ∨
    ∃ (o : Obj) (its : Array Value) (n : Nat), K.lookup a = some o ∧ o.cls = .type "tuple" ∧ o.data = .seq its n ∧ its.size ≤ sizeLine ∧ Vals xs its.toList
def absV : Value → Option V
  | .none => some .non
  | .bool b => some (.bl b)
  | .int i _ => some (.int i)
  | .str x _ => some (.str x)
  | .bytes b _ => some (.byt b)
  | .float b _ => some (.flt b)
  | .ref a => some (.ref a)
  | .type n => some (.ty n)
  | _ => none
theorem RelV.abs {x : V} {u : Value} (r : RelV x u) : absV u = some x := by
  cases x with
  | non => cases r; rfl
  | bl _ => cases r; rfl
  | int _ => obtain ⟨t, rfl⟩ := r; rfl
  | str _ => obtain ⟨t, rfl⟩ := r; rfl
  | byt _ => obtain ⟨t, rfl⟩ := r; rfl
  | flt _ => obtain ⟨t, rfl⟩ := r; rfl
  | ref _ => cases r; rfl
  | ty _ => cases r; rfl
theorem RelV.inj {x y : V} {u : Value} (r : RelV x u) (q : RelV y u) : x = y := Option.some.inj (r.abs.symm.trans q.abs)
theorem Vals.inj : ∀ {xs ys : List V} {us : List Value}, Vals xs us → Vals ys us → xs = ys
  | _, _, _, .nil, .nil => rfl
  | _, _, _, .cons r t, .cons r' t' => by rw [r.inj r', Vals.inj t t']
section
variable {X : Cx} {pins : List (Addr × Obj)} {σ : St} {H : Hp} {s : Shared} {a : Addr} {xs ys : List V}
theorem SqL.of {K : PySem.W.Frag} (h : H a = some (.lst xs)) : SqL K H a xs := .inl (.inl h)
theorem SqT.of {K : PySem.W.Frag} (h : H a = some (.tup xs)) : SqT K H a xs := .inl (.inl h)
theorem Inv.list (I : Inv X pins σ H s) (h : SqL X.K H a xs) : ∃ its : List Value, Vals xs its ∧ PlainL s.heap a its.toArray ∧ xs.length ≤ sizeLine := by
  rcases h with h | ⟨o, its, n, hk, hc, hd, hs, hz, r⟩
  · obtain ⟨z, its, n, r, e⟩ := h.ok I.hok
    exact ⟨its, r, ⟨_, n, e, rfl, rfl, rfl⟩, z⟩
  · refine ⟨its.toList, r, ⟨o, n, I.kIn a o hk, hc, hd, by simpa using hs⟩, ?_⟩
    have e := r.length
    simp only [Array.length_toList] at e
    omega
theorem Inv.tuple (I : Inv X pins σ H s) (h : SqT X.K H a xs) : ∃ its : List Value, Vals xs its ∧ IsTup s.heap a its.toArray ∧ xs.length ≤ sizeLine := by
  rcases h with h | ⟨o, its, n, hk, hc, hs, hz, r⟩
  · obtain ⟨z, its, r, p⟩ := h.ok I.hok
    exact ⟨its, r, p, z⟩
  · refine ⟨its.toList, r, ⟨o, I.kIn a o hk, hc, n, by simpa using hs⟩, ?_⟩
    have e := r.length
    simp only [Array.length_toList] at e
    omega
theorem Inv.list_inj (I : Inv X pins σ H s) (h : SqL X.K H a xs) (h' : SqL X.K H a ys) : xs = ys := by
  obtain ⟨its, r, ⟨o, n, e, _, _, d⟩, _⟩ := I.list h
  obtain ⟨its', r', ⟨o', n', e', _, _, d'⟩, _⟩ := I.list h'
  rw [e] at e'; cases e'
  rw [d] at d'
  injection d' with d1 _
  have : its = its' := by simpa using congrArg Array.toList d1
  subst this
  exact r.inj r'
end

abbrev Cx.wish (X : Cx) (E : Value → Shared → Prop) : Cx := { X with xe := E }
/-- no exception leaves -/
abbrev Cx.nox (X : Cx) : Cx := X.wish fun _ _ => False
theorem Cx.Ok.wish {X : Cx} (ok : X.Ok) (E : Value → Shared → Prop) : (X.wish E).Ok :=
  ⟨ok.mod, ok.kind, ok.glob, ok.blt, ok.above, ok.inj, ok.has, ok.cab, ok.hd, ok.frames, ok.stk, ok.exf, ok.bs, ok.bsz, ok.noex, ok.exfs, ok.funs, ok.frf⟩
theorem Cx.Ok.unwish {X : Cx} {E : Value → Shared → Prop} (ok : (X.wish E).Ok) : X.Ok :=
  ⟨ok.mod, ok.kind, ok.glob, ok.blt, ok.above, ok.inj, ok.has, ok.cab, ok.hd, ok.frames, ok.stk, ok.exf, ok.bs, ok.bsz, ok.noex, ok.exfs, ok.funs, ok.frf⟩
section
variable {X : Cx} {pins : List (Addr × Obj)} {σ : St} {H : Hp} {s : Shared} {E : Value → Shared → Prop}
theorem Inv.wish (I : Inv X pins σ H s) (E : Value → Shared → Prop) : Inv (X.wish E) pins σ H s := ⟨I.ok.wish E, I.os, I.bare, I.base, I.loc, I.cell, I.free, I.freeC, I.pin, I.hok, I.len⟩
theorem Inv.unwish (I : Inv (X.wish E) pins σ H s) : Inv X pins σ H s := ⟨I.ok.unwish, I.os, I.bare, I.base, I.loc, I.cell, I.free, I.freeC, I.pin, I.hok, I.len⟩
theorem SP.unwish {D : Ends} {f : Flow} {s' : Shared} (h : SP (X.wish E) pins D f s') : SP X pins D f s' := by
  cases f with
  | next => obtain ⟨σ', H', I, q⟩ := h; exact ⟨σ', H', I.unwish, q⟩
  | brk => obtain ⟨σ', H', I, q⟩ := h; exact ⟨σ', H', I.unwish, q⟩
  | cont => obtain ⟨σ', H', I, q⟩ := h; exact ⟨σ', H', I.unwish, q⟩
  | ret u => obtain ⟨v, σ', H', I, r, q⟩ := h; exact ⟨v, σ', H', I.unwish, r, q⟩
theorem PSs.nox {st : List Stmt} {t : TS} (h : PSs X.nox st t) : PSs X st t := fun pins s σ H D I hw =>
  wpAny_mono (h pins s σ H D (I.wish _) hw) (fun _ _ q => q.unwish) fun _ _ z => False.elim z
end

section
variable {X : Cx} {st : Stmt} {rest : List Stmt} {t u : TS} {e : Expr} {te : TE} {pos : Pos}
def tNext : TS := fun D σ H => D.nx σ H
def tSeq (t u : TS) : TS := fun D σ H => t { D with nx := u D } σ H
theorem pss_cons (h1 : PS X st t) (h2 : PSs X rest u) : PSs X (st :: rest) (tSeq t u) := by
  intro pins s σ H D I h
  refine wpAny_execs_cons (thn (h1 pins s σ H { D with nx := u D } I h) fun f s1 q => ?_)
  cases f with
  | next =>
    obtain ⟨σ', H', I', q⟩ := q
    exact h2 pins s1 σ' H' D I' q
  | ret v => exact q
  | brk => exact q
  | cont => exact q
theorem pss_one (h1 : PS X st t) : PSs X [st] t := by
  intro pins s σ H D I h
  refine wpAny_execs_cons (thn (h1 pins s σ H D I h) fun f s1 q => ?_)
  cases f with
  | next => exact wpAny_execs_nil q
  | ret v => exact q
  | brk => exact q
  | cont => exact q
/-- in a def's body nothing is shown -/
theorem Inv.quiet {pins : List (Addr × Obj)} {σ : St} {H : Hp} {s : Shared} (I : Inv X pins σ H s) : interactive X.env = false := by simp [interactive, I.ok.kind]
/-- an expression whose value is dropped -/
def tDrop (te : TE) : TS := fun D σ H => te σ H fun _ H1 => D.nx σ H1
theorem ps_expr (he : PE X e te) (hs : swapsWith e none pos.line X.env = pure false := by rfl) : PS X (.Expr e pos) (tDrop te) := by
  intro pins s σ H D I h
  exact wpAny_Expr_any (thn (he pins s σ H _ I h) fun v s1 ⟨x, H1, I1, r1, q1⟩ => ⟨σ, H1, I1, q1⟩) I.quiet hs
def tRet (te : TE) : TS := fun D σ H => te σ H D.rt
theorem ps_ret (he : PE X e te) : PS X (.Return (some e) pos) (tRet te) := by
  intro pins s σ H D I h
  exact wpAny_Return_some (thn (he pins s σ H _ I h) fun v s1 ⟨x, H1, I1, r1, q1⟩ => ⟨x, σ, H1, I1, r1, q1⟩)
def tIfS (c : TT) (t u : TS) : TS := fun D σ H => c σ H fun b H1 => if b = true then t D σ H1 else u D σ H1
theorem ps_if {c : Expr} {a b : List Stmt} {tc : TT} (hc : PT X c tc) (ha : PSs X a t) (hb : PSs X b u) : PS X (.If c a b pos) (tIfS tc t u) := by
  intro pins s σ H D I h
  refine wpAny_If (thn (hc pins s σ H _ I h) fun d s1 ⟨H1, I1, q1⟩ => ?_)
  cases d with
  | true => exact ha pins s1 σ H1 D I1 q1
  | false => exact hb pins s1 σ H1 D I1 q1
end

abbrev TG := V → St → Hp → (St → Hp → Prop) → Prop
abbrev TGs := List V → St → Hp → (St → Hp → Prop) → Prop
def PG (X : Cx) (target : Expr) (t : TG) : Prop :=
  ∀ (pins : List (Addr × Obj)) (s : Shared) (σ : St) (H : Hp) (v : V) (u : Value) (Q : St → Hp → Prop), Inv X pins σ H s → RelV v u → t v σ H Q →
    wpAny (model X.prog X.w) X.A (assign target X.env u) (fun _ s' => ∃ σ' H', Inv X pins σ' H' s' ∧ Q σ' H') X.xe s
/-- several targets, one after another -/
def PGs (X : Cx) (ts : List Expr) (t : TGs) : Prop :=
  ∀ (pins : List (Addr × Obj)) (s : Shared) (σ : St) (H : Hp) (vs : List V) (us : List Value) (Q : St → Hp → Prop), Inv X pins σ H s → Vals vs us → t vs σ H Q →
    wpAny (model X.prog X.w) X.A (assignInOrder ((assignEach ts X.env).map (·.2)) us) (fun _ s' => ∃ σ' H', Inv X pins σ' H' s' ∧ Q σ' H') X.xe s
/-- o[i] = v, by values -/
abbrev TSet := V → V → V → Hp → (Hp → Prop) → Prop
def PSet (X : Cx) (t : TSet) : Prop :=
  ∀ (pins : List (Addr × Obj)) (s : Shared) (σ : St) (H : Hp) (o i v : V) (ov iv u : Value) (Q : Hp → Prop), Inv X pins σ H s → RelV o ov → RelV i iv → RelV v u → t o i v H Q →
    wpAny (model X.prog X.w) X.A (setItem ov iv u) (fun _ s' => ∃ H', Inv X pins σ H' s' ∧ Q H') X.xe s
/-- a op= b, by values -/
abbrev TIp := V → V → Hp → VK → Prop
def PIp (X : Cx) (op : Operator) (t : TIp) : Prop :=
  ∀ (pins : List (Addr × Obj)) (s : Shared) (σ : St) (H : Hp) (x y : V) (v u : Value) (Q : VK), Inv X pins σ H s → RelV x v → RelV y u → t x y H Q →
    wpAny (model X.prog X.w) X.A (inplaceOp op v u) (EP X pins σ Q) X.xe s
section
variable {X : Cx} {pos : Pos}
def gName (i : Nat) : TG := fun v σ H Q => Q (σ.set i (some v)) H
theorem pg_name {i : Nat} {x : Str} (hN : X.N.Nodup) (hi : X.N[i]? = some x) (hx : Loc X.env.scope x) (hf : X.fn x = true ∨ X.env.scope.names.lookup x = some .local := by first | exact .inl rfl | exact .inr rfl | assumption) : PG X (.Name x pos) (gName i) := by
  intro pins s σ H v u Q I r h
  exact wpAny_assign_Name (store_ok I hN hi hx r (fun s' I' => ⟨_, H, I', h⟩) hf)
def gNil : TGs := fun vs σ H Q => vs = [] ∧ Q σ H
def gCons (t : TG) (u : TGs) : TGs := fun vs σ H Q => ∃ v r, vs = v :: r ∧ t v σ H fun σ' H' => u r σ' H' Q
theorem pgs_nil : PGs X [] gNil := by
  intro pins s σ H vs us Q I r h
  obtain ⟨e, h⟩ := h
  subst e
  cases r
  exact assignInOrder_nil ⟨σ, H, I, h⟩
theorem pgs_cons {e : Expr} {es : List Expr} {t : TG} {u : TGs} (h1 : PG X e t) (h2 : PGs X es u)
    (hs : (assignEach (e :: es) X.env).map (·.2) = assign e X.env :: (assignEach es X.env).map (·.2) := by rfl) : PGs X (e :: es) (gCons t u) := by
  intro pins s σ H vs us Q I r h
  obtain ⟨v, vr, e1, h⟩ := h
  subst e1
  cases r with
  | cons r rr =>
    rw [hs]
    refine assignInOrder_cons (thn (h1 pins s σ H _ _ _ I r h) fun _ s1 ⟨σ1, H1, I1, q1⟩ => ?_)
    exact h2 pins s1 σ1 H1 _ _ Q I1 rr q1
/-- (a, b, ..) = a tuple of that length -/
def gTup (K : PySem.W.Frag) (n : Nat) (t : TGs) : TG := fun v σ H Q => ∃ a xs, v = .ref a ∧ SqT K H a xs ∧ xs.length = n ∧ t xs σ H Q
theorem pg_tup {es : List Expr} {k : Nat} {t : TGs} {n : Nat} (hc : X.calm = true) (h : PGs X es t)
    (hn : (assignEach es X.env).length = n := by rfl) (hst : (assignEach es X.env).findIdx? (·.1) = none := by rfl) : PG X (.Tuple es k pos) (gTup X.K n t) := by
  intro pins s σ H v u Q I r hw
  obtain ⟨a, xs, e1, hq, hl, hw⟩ := hw
  subst e1
  cases r
  obtain ⟨its, rv, ht, hz⟩ := I.tuple hq
  refine assign_Tuple_tuple (I.ok.hd hc) ht (by simp [hn, ← hl, rv.length]) hst fun h' hx => ?_
  have I1 : Inv X pins σ H { s with heap := h' } := I.kept (t' := s.toks) fun b o e => hx b o (Nat.ne_of_lt (Heap.lt_size e)) e
  exact h pins _ σ H xs _ Q I1 (by simpa using rv) hw
/-- o[i] = .. -/
def gSub (to ti : TE) (t : TSet) : TG := fun v σ H Q => to σ H fun o H1 => ti σ H1 fun i H2 => t o i v H2 fun H3 => Q σ H3
theorem pg_sub {o i : Expr} {to ti : TE} {t : TSet} (ho : PE X o to) (hi : PE X i ti) (hs : PSet X t)
    (ha : ∀ v, assign (.Subscript o i pos) X.env v = (do
      let ov ← holding [v] (eval o X.env)
      let iv ← holding [v, ov] (eval i X.env)
      standAt pos
      holding [v, ov, iv] (setItem ov iv v)
      release [v, ov, iv] []) := by intro _; rfl) : PG X (.Subscript o i pos) (gSub to ti t) := by
  intro pins s σ H v u Q I r h
  rw [ha]
  refine wpAny_bind (wpAny_holding (thn (ho pins s σ H _ I h) fun ov s1 ⟨x, H1, I1, r1, q1⟩ => ?_))
  refine wpAny_bind (wpAny_holding (thn (hi pins s1 σ H1 _ I1 q1) fun iv s2 ⟨y, H2, I2, r2, q2⟩ => ?_))
  refine wpAny_bind (wpAny_standAt (wpAny_bind (wpAny_holding (thn (hs pins s2 σ H2 x y v ov iv u _ I2 r1 r2 r q2) fun _ s3 ⟨H3, I3, q3⟩ => ?_))))
  exact wpAny_release ⟨σ, H3, I3, q3⟩
/-- target = value -/
def tAsg (te : TE) (g : TG) : TS := fun D σ H => te σ H fun x H1 => g x σ H1 D.nx
theorem ps_asg {tg e : Expr} {te : TE} {g : TG} (he : PE X e te) (hg : PG X tg g) (hs : swapsWithSole [tg] e pos.line X.env = pure false := by rfl) (hw : swappedStores [tg] e X.env = pure none := by rfl)
    (h1 : (assignEach [tg] X.env).map (·.2) = [assign tg X.env] := by rfl) : PS X (.Assign [tg] e pos) (tAsg te g) := by
  intro pins s σ H D I h
  refine wpAny_Assign_stores (thn (he pins s σ H _ I h) fun v s1 ⟨x, H1, I1, r1, q1⟩ => ?_) hs hw
  rw [h1]
  exact thn (hg pins s1 σ H1 x v _ I1 r1 q1) fun _ s2 q => q
/-- name = value -/
theorem ps_set {i : Nat} {x : Str} {e : Expr} {te : TE} {pos' : Pos} (hN : X.N.Nodup) (hi : X.N[i]? = some x) (hx : Loc X.env.scope x) (he : PE X e te) (hs : swapsWith e (some (.Name x pos')) pos.line X.env = pure false := by rfl) (hf : X.fn x = true ∨ X.env.scope.names.lookup x = some .local := by first | exact .inl rfl | exact .inr rfl | assumption) :
    PS X (.Assign [.Name x pos'] e pos) (tAsg te (gName i)) := by
  intro pins s σ H D I h
  refine wpAny_Assign_Name (thn (he pins s σ H _ I h) fun v s1 ⟨y, H1, I1, r1, q1⟩ => ?_) hs
  exact store_ok I1 hN hi hx r1 (fun s2 I2 => ⟨_, H1, I2, q1⟩) hf
/-- name op= e -/
def tAug (i : Nat) (te : TE) (ti : TIp) : TS := fun D σ H => ∃ x, σ[i]? = some (some x) ∧ te σ H fun y H1 => ti x y H1 fun z H2 => D.nx (σ.set i (some z)) H2
theorem ps_aug {i : Nat} {x : Str} {e : Expr} {te : TE} {op : Operator} {ti : TIp} {pos' : Pos} (hN : X.N.Nodup) (hi : X.N[i]? = some x) (hx : Loc X.env.scope x) (he : PE X e te) (ho : PIp X op ti) (hf : X.fn x = true ∨ X.env.scope.names.lookup x = some .local := by first | exact .inl rfl | exact .inr rfl | assumption) :
    PS X (.AugAssign (.Name x pos') op e pos) (tAug i te ti) := by
  intro pins s σ H D I h
  obtain ⟨v, e1, h⟩ := h
  obtain ⟨m, hn, hl⟩ := I.loc
  have vis : Vis X.env.scope x := by rcases hx with k | k; exact .inl k; exact .inr (.inl k)
  obtain ⟨u, r, l⟩ := hl i x v hi e1 vis
  refine wpAny_AugAssign_Name ?_
  have go : wpAny (model X.prog X.w) X.A (eval e X.env) (fun w s₂ => wpAny (model X.prog X.w) X.A (inplaceOp op u w) (fun r s₃ => wpAny (model X.prog X.w) X.A (storeName X.env x r) (fun _ => SP X pins D .next) X.xe s₃) X.xe s₂) X.xe s := by
    refine thn (he pins s σ H _ I h) fun w s1 ⟨y, H1, I1, r1, q1⟩ => ?_
    refine thn (ho pins s1 σ H1 v y u w _ I1 r r1 q1) fun z s2 ⟨zv, H2, I2, r2, q2⟩ => ?_
    exact store_ok I2 hN hi hx r2 (fun s3 I3 => ⟨_, H2, I3, q2⟩) hf
  rcases l with ⟨hk, hm⟩ | ⟨hk, c, hc, hcell⟩
  · exact wpAny_loadName_local I.ok.kind hk hn hm go
  · rcases hk with hk | hk
    · exact wpAny_loadName_cell I.ok.kind hk hc hcell go
    · rcases hx with k | k
      · have : X.env.scope.names.lookup x = some .free := hk
        rw [k] at this; cases this
      · have : X.env.scope.names.lookup x = some .free := hk
        rw [k] at this; cases this
/-- ints -/
def ipI (f : Int → Int → Int) : TIp := fun x y H Q => ∃ i j, x = .int i ∧ y = .int j ∧ Q (.int (f i j)) H
theorem ip_add : PIp X .Add (ipI fun i j => i + j) := by
  intro pins s σ H x y v u Q I r1 r2 h
  obtain ⟨i, j, e1, e2, q⟩ := h
  subst e1; subst e2
  obtain ⟨t, rfl⟩ := r1
  obtain ⟨t', rfl⟩ := r2
  exact iadd_int ⟨.int _, H, I.tok _, ⟨_, rfl⟩, q⟩
end

section
variable {X : Cx} {pos : Pos}
/-- the invariant W with its measure -/
def tWhile (c : TT) (tb : TS) : TS := fun D σ H => ∃ W : Nat → St → Hp → Prop, (∃ m, W m σ H) ∧ ∀ m σ H, W m σ H →
  c σ H fun b H1 => if b = true then ∃ N : St → Hp → Prop, (∀ σ' H', N σ' H' → ∃ m', m' < m ∧ W m' σ' H') ∧ tb { D with nx := N, ct := N, bk := D.nx } σ H1 else D.nx σ H1
theorem ps_while {c : Expr} {body : List Stmt} {tc : TT} {tb : TS} (hp : PassesOwn (model X.prog X.w) X.A X.env X.xe) (hc : PT X c tc) (hb : PSs X body tb) : PS X (.While c body [] pos) (tWhile tc tb) := by
  intro pins s σ H D I h
  obtain ⟨W, ⟨m0, w0⟩, turn⟩ := h
  refine wpAny_While (codeAny_whileLoop (fun n s' => ∃ σ' H', Inv X pins σ' H' s' ∧ W n σ' H') ?_ m0 ⟨σ, H, I, w0⟩)
  rintro n s1 ⟨σ1, H1, I1, w1⟩
  refine wpAny_passesOwn hp (thn (hc pins s1 σ1 H1 _ I1 (turn n σ1 H1 w1)) fun b s2 ⟨H2, I2, q2⟩ => ?_)
  cases b with
  | true =>
    obtain ⟨N, hN, q2⟩ := q2
    rw [if_pos rfl]
    refine wpAny_passesOwn hp (thn (hb pins s2 σ1 H2 _ I2 q2) fun f s3 q3 => ?_)
    cases f with
    | next =>
      obtain ⟨σ3, H3, I3, n3⟩ := q3
      obtain ⟨m', hm, w3⟩ := hN σ3 H3 n3
      exact ⟨m', hm, σ3, H3, I3, w3⟩
    | cont =>
      obtain ⟨σ3, H3, I3, n3⟩ := q3
      obtain ⟨m', hm, w3⟩ := hN σ3 H3 n3
      exact ⟨m', hm, σ3, H3, I3, w3⟩
    | brk => exact q3
    | ret v => exact q3
  | false =>
    rw [if_neg Bool.false_ne_true]
    exact wpAny_execs_nil ⟨σ1, H2, I2, q2⟩
end

/-- at turn i: it yields x (the heap may grow), or it stops -/
structure It where
  go : Nat → Hp → Prop
  yld : Nat → Hp → V → Hp → Prop
  stop : Nat → Hp → Prop
/-- the iterator's own objects may turn: they are not the frame's, not pinned, younger than the entry (or a comprehension's own) -/
def FpOk (X : Cx) (pins : List (Addr × Obj)) (H : Hp) (b : Addr) : Prop :=
  H b = none ∧ b ≠ X.env.locals ∧ b ∉ X.fs ∧ (b ∈ X.ex ∨ X.s₀.heap.objs.size ≤ b) ∧ (∀ x c, X.env.cells.lookup x = some c → c ≠ b) ∧ ∀ p ∈ X.pn ++ pins, p.1 ≠ b
theorem Inv.fpOk {X : Cx} {pins : List (Addr × Obj)} {σ : St} {H H' : Hp} {s : Shared} {b : Addr} (I : Inv X pins σ H s) (hb : s.heap.objs.size ≤ b) (hn : H' b = none) : FpOk X pins H' b := by
  refine ⟨hn, Nat.ne_of_gt (Nat.lt_of_lt_of_le I.lt hb), I.nofs hb, .inr (Nat.le_trans I.sz hb), fun x c e z => ?_, fun p hp z => ?_⟩
  · obtain ⟨v, q⟩ := I.cell x c e
    exact absurd (Nat.lt_of_lt_of_le q.lt (by rw [z]; exact hb)) (Nat.lt_irrefl _)
  · exact absurd (Nat.lt_of_lt_of_le (Heap.lt_size (I.pin p hp).1) (by rw [z]; exact hb)) (Nat.lt_irrefl _)
structure Turn (P : Program) (w : World) (K : PySem.W.Frag) (tg : Expr) (J : It) (fp : List Addr) (it : Addr) (tn : Nat → Heap → Prop) : Prop where
  mem : it ∈ fp
  obj : ∀ i h, tn i h → ∀ b ∈ fp, ∃ o, h.get? b = some o ∧ ∀ v, o.data ≠ .cell v
  keep : ∀ i h h', tn i h → (∀ b ∈ fp, ∀ o, h.get? b = some o → h'.get? b = some o) → tn i h'
  item : ∀ (X : Cx), X.prog = P → X.w = w → X.K = K → X.calm = true → ∀ (i : Nat) (pins : List (Addr × Obj)) (s : Shared) (σ : St) (H : Hp) (E : Value → Shared → Prop), Inv X pins σ H s → (∀ b ∈ fp, FpOk X pins H b) → tn i s.heap → J.go i H →
    wpAny (model P w) X.A (pyNext (.ref it)) (fun r s1 => ∃ u, r = some u ∧
      wpAny (model P w) X.A (letOwnedTupleGo tg (.ref it) u) (fun _ s2 => ∃ x H', Inv X pins σ H' s2 ∧ RelV x u ∧ J.yld i H x H' ∧ tn (i + 1) s2.heap ∧ ∀ b ∈ fp, H' b = none) E s1) E s
  done : ∀ (X : Cx), X.prog = P → X.w = w → X.K = K → X.calm = true → ∀ (i : Nat) (pins : List (Addr × Obj)) (s : Shared) (σ : St) (H : Hp) (E : Value → Shared → Prop), Inv X pins σ H s → (∀ b ∈ fp, FpOk X pins H b) → tn i s.heap → J.stop i H →
    wpAny (model P w) X.A (pyNext (.ref it)) (fun r s1 => r = none ∧ Inv X pins σ H s1) E s
  self : ∀ (A : Around) (i : Nat) (s : Shared) (Q : Value → Shared → Prop) (E : Value → Shared → Prop), tn i s.heap → Q (.ref it) s → wpAny (model P w) A (pyIter (.ref it)) Q E s
abbrev TI := St → Hp → (It → Hp → Prop) → Prop
/-- an iterator has come -/
def PIE (X : Cx) (pins : List (Addr × Obj)) (σ : St) (tg : Expr) (R : It → Hp → Prop) (itv : Value) (s2 : Shared) : Prop :=
  ∃ (it : Addr) (fp : List Addr) (tn : Nat → Heap → Prop) (J : It) (H' : Hp), itv = .ref it ∧ Inv X pins σ H' s2 ∧ Turn X.prog X.w X.K tg J fp it tn ∧ tn 0 s2.heap ∧ (∀ b ∈ fp, FpOk X pins H' b) ∧ R J H'
def PI (X : Cx) (tg iter : Expr) (wi : TI) : Prop :=
  ∀ (pins : List (Addr × Obj)) (s : Shared) (σ : St) (H : Hp) (R : It → Hp → Prop), Inv X pins σ H s → wi σ H R →
    wpAny (model X.prog X.w) X.A (eval iter X.env) (fun v s1 => wpAny (model X.prog X.w) X.A (pyIter v) (PIE X pins σ tg R) X.xe s1) X.xe s

/-- the step ahead of the store is nothing for an iterator that keeps no tuple -/
theorem go_of {M : Model} {A : Around} {E : Value → Shared → Prop} {s : Shared} {tg : Expr} {it : Addr} {u : Value} {o : Obj} {n : String} {vs : Array Value} {Q : Unit → Shared → Prop} (ho : s.heap.get? it = some o) (hc : o.cls = .type n) (hd : o.data = .fields vs)
    (hn : ["enumerate", "zip", "dict_itemiterator", "dict_reverseitemiterator", "odict_iterator", "itertools.zip_longest", "itertools.pairwise"].contains n = false) (hQ : Q () s) : wpAny M A (letOwnedTupleGo tg (.ref it) u) Q E s := by
  unfold letOwnedTupleGo
  cases tg <;> first
    | exact wpAny_pure hQ
    | (cases u <;> first
        | exact wpAny_pure hQ
        | (refine wpAny_bind (wpAny_load ho ?_)
           rw [hc, hd]
           show wpAny M A (if (["enumerate", "zip", "dict_itemiterator", "dict_reverseitemiterator", "odict_iterator", "itertools.zip_longest", "itertools.pairwise"].contains n && vs[0]? == some (rawInt _)) = true then _ else _) Q E s
           rw [if_neg (by intro h; rw [hn, Bool.false_and] at h; cases h)]
           exact wpAny_pure hQ))

/-- the list at a, as it stands at each turn (a loop may append to it) -/
def Itl (K : PySem.W.Frag) (a : Addr) : It :=
  ⟨fun i H => ∃ xs x, SqL K H a xs ∧ xs[i]? = some x, fun i H x H' => H' = H ∧ ∀ xs, SqL K H a xs → xs[i]? = some x, fun i H => ∃ xs, SqL K H a xs ∧ xs.length ≤ i⟩
/-- lo, lo + 1, .. (n of them) -/
def Itr (lo : Int) (n : Nat) : It := ⟨fun i _ => i < n, fun i H x H' => H' = H ∧ x = .int (lo + i), fun i _ => n ≤ i⟩
theorem turn_list {P : Program} {w : World} {K : PySem.W.Frag} {tg : Expr} (a it : Addr) : Turn P w K tg (Itl K a) [it] it (fun i h => h.IsListIter it a i) where
  mem := by simp
  obj := fun i h st b hb => by
    have e : b = it := by simpa using hb
    subst e
    obtain ⟨o, e, c, d⟩ := st
    exact ⟨o, e, fun v z => by rw [d] at z; cases z⟩
  keep := fun i h h' st k => st.at fun o e => k it (by simp) o e
  item := by
    intro X hP hw hK hc i pins s σ H E I hf st hg
    subst hP hw hK
    obtain ⟨xs, x, hq, hx⟩ := hg
    obtain ⟨its, rv, p, hz⟩ := I.list hq
    obtain ⟨u, hu, ru⟩ := rv.get hx
    obtain ⟨f0, f1, f2, f3, f4, f5⟩ := hf it (by simp)
    refine wpAny_pyNext_list_item st p.isList (x := u) (by simpa using hu) fun h' st' sb => ?_
    have I1 : Inv X pins σ H { s with heap := h' } := I.turned (t' := s.toks) (fun b o hb e => (sb.2 b hb).trans e) f0 f1 f3 f4 f5
    obtain ⟨o, e, c, d⟩ := id st'
    exact ⟨u, rfl, go_of (s := { s with heap := h' }) e c d (by decide) ⟨x, H, I1, ru, ⟨rfl, fun ys hy => by rw [I.list_inj hy hq]; exact hx⟩, st', fun b hb => (hf b hb).1⟩⟩
  done := by
    intro X hP hw hK hc i pins s σ H E I hf st hg
    subst hP hw hK
    obtain ⟨xs, hq, hx⟩ := hg
    obtain ⟨its, rv, p, hz⟩ := I.list hq
    obtain ⟨f0, f1, f2, f3, f4, f5⟩ := hf it (by simp)
    have hl := rv.length
    exact wpAny_pyNext_list_end (I.ok.hd hc) st p.isList (by simp; omega) fun h' eb => ⟨rfl, I.turned (t' := s.toks) (fun b o hb e => eb b o hb e) f0 f1 f3 f4 f5⟩
  self := fun _ _ _ _ _ st h => wpAny_pyIter_listiter st h
theorem turn_range {P : Program} {w : World} {K : PySem.W.Frag} {tg : Expr} (it : Addr) (lo : Int) (n : Nat) : Turn P w K tg (Itr lo n) [it] it (fun i h => IsRangeIter h it (lo + (i : Nat) * 1) ((n : Int) - (i : Nat)) 1) where
  mem := by simp
  obj := fun i h st b hb => by
    have e : b = it := by simpa using hb
    subst e
    exact ⟨_, st, fun v z => by
      have z' : Data.fields _ = Data.cell v := z
      cases z'⟩
  keep := fun i h h' st k => k it (by simp) _ st
  item := by
    intro X hP hw hK hc i pins s σ H E I hf st hg
    subst hP hw hK
    obtain ⟨f0, f1, f2, f3, f4, f5⟩ := hf it (by simp)
    have W := Walks.range (prog := X.prog) (w := X.w) (I.ok.hd hc) it lo 1 n
    refine W.item i s _ _ hg st fun v h' tk hv st' kk => ?_
    obtain ⟨t, rfl⟩ := hv
    have I1 : Inv X pins σ H { s with heap := h', toks := tk } := I.turned (fun b o hb e => kk b o (by simpa using hb) e) f0 f1 f3 f4 f5
    refine ⟨_, rfl, go_of (s := { s with heap := h', toks := tk }) (n := "range_iterator") st' rfl rfl (by decide) ⟨.int (lo + i), H, I1, ⟨t, ?_⟩, ⟨rfl, rfl⟩, st', fun b hb => (hf b hb).1⟩⟩
    rw [Int.mul_one]
  done := by
    intro X hP hw hK hc i pins s σ H E I hf st hg
    subst hP hw hK
    obtain ⟨f0, f1, f2, f3, f4, f5⟩ := hf it (by simp)
    exact wpAny_pyNext_range_end (I.ok.hd hc) st (by have : n ≤ i := hg; omega) fun h' eb => ⟨rfl, I.turned (t' := s.toks) (fun b o hb e => eb b o hb e) f0 f1 f3 f4 f5⟩
  self := fun _ _ _ _ _ st h => wpAny_pyIter_rangeiter st h
end L2

namespace L2
open PySem PySem.Spec PyProof.Rows
section
variable {X : Cx} {tg : Expr}
def iList (K : PySem.W.Frag) (tl : TE) : TI := fun σ H R => tl σ H fun x H1 => ∃ a, x = .ref a ∧ (∃ xs, SqL K H1 a xs) ∧ R (Itl K a) H1
theorem pi_list {l : Expr} {tl : TE} (hl : PE X l tl) : PI X tg l (iList X.K tl) := by
  intro pins s σ H R I h
  refine thn (hl pins s σ H _ I h) fun v s1 ⟨x, H1, I1, r1, q1⟩ => ?_
  obtain ⟨a, e, ⟨xs, hq⟩, q⟩ := q1
  subst e
  cases r1
  obtain ⟨its, rv, p, hz⟩ := I1.list hq
  refine wpAny_pyIter_list p.isList ?_
  refine ⟨s1.heap.objs.size, [s1.heap.objs.size], _, _, H1, rfl, I1.kept (t' := s1.toks) fun b o e => Heap.get?_push_of_some _ e, turn_list a _, ⟨_, Heap.get?_push_size _ rfl, rfl, rfl⟩, fun b hb => ?_, q⟩
  have e : b = s1.heap.objs.size := by simpa using hb
  subst e
  exact I1.fpOk (Nat.le_refl _) (I1.hok.fresh (Nat.le_refl _))
/-- a range object just made, walked -/
theorem range_it {pins : List (Addr × Obj)} {σ : St} {H : Hp} {s : Shared} {R : It → Hp → Prop} {E : Value → Shared → Prop} {lo hi : Int} {t u v : Tok} {tk : Nat} (I : Inv X pins σ H s) (h1 : -(2 ^ 62) ≤ lo) (h2 : lo < 2 ^ 62) (h3 : -(2 ^ 62) ≤ hi) (h4 : hi < 2 ^ 62)
    (q : R (Itr lo (hi - lo).toNat) H) : wpAny (model X.prog X.w) X.A (pyIter (.ref s.heap.objs.size)) (PIE X pins σ tg R) E { s with heap := s.heap.push { cls := .type "range", data := .fields #[.int lo t, .int hi u, .int 1 v] }, toks := tk } := by
  refine wpAny_pyIter_range (IsRange.new ..) (small_one h1 h2 h3 h4) ?_
  have I1 : Inv X pins σ H { s with heap := s.heap.push { cls := .type "range", data := .fields #[.int lo t, .int hi u, .int 1 v] }, toks := tk } := I.kept fun b o e => Heap.get?_push_of_some _ e
  refine ⟨(s.heap.push { cls := .type "range", data := .fields #[.int lo t, .int hi u, .int 1 v] }).objs.size, [(s.heap.push { cls := .type "range", data := .fields #[.int lo t, .int hi u, .int 1 v] }).objs.size], _, _, H, rfl,
    I1.kept (t' := tk) fun b o e => Heap.get?_push_of_some _ e, turn_range _ lo (hi - lo).toNat, ?_, fun b hb => ?_, q⟩
  · have e1 : lo + ((0 : Nat) : Int) * 1 = lo := by simp
    have e2 : (((hi - lo).toNat : Nat) : Int) - ((0 : Nat) : Int) = Builtin.Range.rangeSize lo hi 1 := by rw [rangeSize_one]; split <;> omega
    show IsRangeIter _ _ (lo + ((0 : Nat) : Int) * 1) ((((hi - lo).toNat : Nat) : Int) - ((0 : Nat) : Int)) 1
    rw [e1, e2]
    exact Heap.get?_push_size _ rfl
  · have e : b = (s.heap.push { cls := .type "range", data := .fields #[.int lo t, .int hi u, .int 1 v] }).objs.size := by simpa using hb
    subst e
    exact I1.fpOk (Nat.le_refl _) (I1.hok.fresh (Nat.le_refl _))
def iRng1 (ta : TA) : TI := fun σ H R => ta σ H fun vs H1 => ∃ j : Int, vs = [.int j] ∧ -(2 ^ 62) ≤ j ∧ j < 2 ^ 62 ∧ R (Itr 0 j.toNat) H1
theorem pi_range1 {a : Expr} {ta : TA} {p pos : Pos} (hg : Gl X "range") (hm : X.mg "range" = none) (ha : PA X [a] ta) (hs : starEach [a] X.env = [(false, eval a X.env)] := by rfl) : PI X tg (.Call (.Name "range" p) [a] [] pos) (iRng1 ta) := by
  intro pins s σ H R I h
  refine Call_ (ld_blt I hg hm boot_range (PyProof.Rows.callWith_type1 (thn (ha pos pins s σ H _ I h) fun us s1 ⟨vs, H1, I1, r1, q1⟩ => ?_) hs rfl))
  obtain ⟨j, e, q1, q2, q⟩ := q1
  subst e
  cases r1 with
  | cons r rr =>
    cases rr
    obtain ⟨t, rfl⟩ := r
    exact call_range_1 (range_it I1 (by omega) (by omega) q1 q2 (by simpa using q))
/-- W: the invariant by the turn and a measure; N: what the body is to reach -/
def tFor (wi : TI) (g : TG) (tb : TS) : TS := fun D σ H => wi σ H fun J H1 => ∃ W : Nat → Nat → St → Hp → Prop, (∃ m, W 0 m σ H1) ∧ ∀ i m σ H, W i m σ H →
  (J.stop i H ∧ D.nx σ H) ∨ (J.go i H ∧ ∃ N : St → Hp → Prop, (∀ σ' H', N σ' H' → ∃ m', m' < m ∧ W (i + 1) m' σ' H') ∧ ∀ x H', J.yld i H x H' → g x σ H' fun σ2 H2 => tb { D with nx := N, ct := N, bk := D.nx } σ2 H2)
/-- the records at fp as they stand -/
def pinsAt (fp : List Addr) (h : Heap) : List (Addr × Obj) := fp.filterMap fun b => (h.get? b).map fun o => (b, o)
theorem mem_pinsAt {fp : List Addr} {h : Heap} {b : Addr} {o : Obj} (hb : b ∈ fp) (e : h.get? b = some o) : (b, o) ∈ pinsAt fp h := List.mem_filterMap.mpr ⟨b, hb, by rw [e]; rfl⟩
theorem of_pinsAt {fp : List Addr} {h : Heap} {p : Addr × Obj} (hp : p ∈ pinsAt fp h) : p.1 ∈ fp ∧ h.get? p.1 = some p.2 := by
  obtain ⟨b, hb, e⟩ := List.mem_filterMap.mp hp
  cases q : h.get? b with
  | none => rw [q] at e; cases e
  | some o =>
    rw [q] at e
    have e' : (b, o) = p := Option.some.inj e
    subst e'
    exact ⟨hb, q⟩
theorem Inv.pinned {pins : List (Addr × Obj)} {σ : St} {H : Hp} {s : Shared} {fp : List Addr} (I : Inv X pins σ H s) (hf : ∀ b ∈ fp, FpOk X pins H b) (ho : ∀ b ∈ fp, ∃ o, s.heap.get? b = some o ∧ ∀ v, o.data ≠ .cell v) : Inv X (pins ++ pinsAt fp s.heap) σ H s :=
  I.pins_of fun p hp => (List.mem_append.mp hp).elim (fun z => I.pin p (List.mem_append_right _ z)) fun z => by
    obtain ⟨hb, e⟩ := of_pinsAt z
    obtain ⟨f0, f1, f2, _⟩ := hf p.1 hb
    obtain ⟨o, e', d⟩ := ho p.1 hb
    rw [e] at e'; cases e'
    exact ⟨e, f0, f1, f2, d⟩
theorem Inv.unpinned {pins pl : List (Addr × Obj)} {σ : St} {H : Hp} {s : Shared} (I : Inv X (pins ++ pl) σ H s) : Inv X pins σ H s := I.pins_of fun p hp => I.pin p (List.mem_append_right _ (List.mem_append_left _ hp))
theorem ps_for {iter : Expr} {body : List Stmt} {wi : TI} {g : TG} {tb : TS} {pos : Pos} (hp : PassesOwn (model X.prog X.w) X.A X.env X.xe) (hc : X.calm = true) (hi : PI X tg iter wi) (hg : PG X tg g) (hb : PSs X body tb)
    (hs : ∀ x, foldedSetIterable iter X.env x = pure x := by intro _; rfl) : PS X (.For tg iter body [] pos) (tFor wi g tb) := by
  intro pins s σ H D I h
  refine wpAny_For (thn (hi pins s σ H _ I h) fun v s1 h1 => thn h1 fun itv s2 h2 => ?_) hs
  obtain ⟨it, fp, tn, J, H2, e, I2, T, st2, f2, W, ⟨m0, w0⟩, turn⟩ := h2
  subst e
  -- what stays true of the iterator's objects through the loop
  have stat : ∀ {H' : Hp}, (∀ b ∈ fp, H' b = none) → ∀ b ∈ fp, FpOk X pins H' b := fun hn b hb => ⟨hn b hb, (f2 b hb).2⟩
  refine codeAny_forLoop_any (fun n s' => ∃ i σ' H', Inv X pins σ' H' s' ∧ tn i s'.heap ∧ (∀ b ∈ fp, H' b = none) ∧ W i n σ' H') ?_ m0 ⟨0, σ, H2, I2, st2, fun b hb => (f2 b hb).1, w0⟩
  rintro n s3 ⟨i, σ3, H3, I3, st3, fr3, w3⟩
  rcases turn i n σ3 H3 w3 with ⟨stop, qn⟩ | ⟨go, N, hN, step⟩
  · refine wpAny_passesOwn hp (thn (T.done X rfl rfl rfl hc i pins s3 σ3 H3 X.xe I3 (stat fr3) st3 stop) fun r s4 ⟨hr, I4⟩ => ?_)
    subst hr
    exact wpAny_execs_nil ⟨σ3, H3, I4, qn⟩
  · refine wpAny_passesOwn hp (thn (T.item X rfl rfl rfl hc i pins s3 σ3 H3 X.xe I3 (stat fr3) st3 go) fun r s4 ⟨u, hr, h4⟩ => ?_)
    subst hr
    refine wpAny_passesOwn hp (thn h4 fun _ s5 ⟨x, H5, I5, r5, y5, st5, fr5⟩ => ?_)
    have I5' := I5.pinned (stat fr5) (T.obj _ _ st5)
    refine wpAny_passesOwn hp (thn (hg _ s5 σ3 H5 x u _ I5' r5 (step x H5 y5)) fun _ s6 ⟨σ6, H6, I6, q6⟩ => ?_)
    refine wpAny_passesOwn hp (thn (hb _ s6 σ6 H6 _ I6 q6) fun f s7 q7 => ?_)
    have again : ∀ {σ7 : St} {H7 : Hp}, Inv X (pins ++ pinsAt fp s5.heap) σ7 H7 s7 → N σ7 H7 → ∃ m, m < n ∧ ∃ i σ' H', Inv X pins σ' H' s7 ∧ tn i s7.heap ∧ (∀ b ∈ fp, H' b = none) ∧ W i m σ' H' := fun {σ7 H7} I7 n7 => by
      obtain ⟨m', hm, w7⟩ := hN σ7 H7 n7
      refine ⟨m', hm, i + 1, σ7, H7, I7.unpinned, T.keep _ _ _ st5 fun b hb o e => (I7.pin (b, o) (List.mem_append_right _ (List.mem_append_right _ (mem_pinsAt hb e)))).1, fun b hb => ?_, w7⟩
      obtain ⟨o, e, d⟩ := T.obj _ _ st5 b hb
      exact (I7.pin (b, o) (List.mem_append_right _ (List.mem_append_right _ (mem_pinsAt hb e)))).2.1
    cases f with
    | next => obtain ⟨σ7, H7, I7, n7⟩ := q7; exact again I7 n7
    | cont => obtain ⟨σ7, H7, I7, n7⟩ := q7; exact again I7 n7
    | brk => obtain ⟨σ7, H7, I7, q7⟩ := q7; exact ⟨σ7, H7, I7.unpinned, q7⟩
    | ret v => obtain ⟨x7, σ7, H7, I7, r7, q7⟩ := q7; exact ⟨x7, σ7, H7, I7.unpinned, r7, q7⟩
end

/-- over a list that the body leaves as it is -/
theorem for_list {K : PySem.W.Frag} {a : Addr} {xs : List V} {g : TG} {tb : TS} {D : Ends} {σ : St} {H : Hp} (Pv : Nat → St → Hp → Prop) (h0 : Pv 0 σ H) (hl : ∀ i σ H, i ≤ xs.length → Pv i σ H → SqL K H a xs)
    (hs : ∀ i x σ H, xs[i]? = some x → Pv i σ H → g x σ H fun σ2 H2 => tb { D with nx := Pv (i + 1), ct := Pv (i + 1), bk := D.nx } σ2 H2) (hd : ∀ σ H, Pv xs.length σ H → D.nx σ H) :
    ∃ W : Nat → Nat → St → Hp → Prop, (∃ m, W 0 m σ H) ∧ ∀ i m σ H, W i m σ H →
      ((Itl K a).stop i H ∧ D.nx σ H) ∨ ((Itl K a).go i H ∧ ∃ N : St → Hp → Prop, (∀ σ' H', N σ' H' → ∃ m', m' < m ∧ W (i + 1) m' σ' H') ∧ ∀ x H', (Itl K a).yld i H x H' → g x σ H' fun σ2 H2 => tb { D with nx := N, ct := N, bk := D.nx } σ2 H2) := by
  refine ⟨fun i m σ H => m = xs.length - i ∧ i ≤ xs.length ∧ Pv i σ H, ⟨xs.length, by simp, Nat.zero_le _, h0⟩, ?_⟩
  rintro i m σ H ⟨rfl, hi, p⟩
  have q := hl i σ H hi p
  by_cases hlt : i < xs.length
  · refine .inr ⟨⟨xs, xs[i], q, by simp [hlt]⟩, Pv (i + 1), fun σ' H' p' => ⟨xs.length - (i + 1), by omega, rfl, hlt, p'⟩, fun x H' y => ?_⟩
    obtain ⟨e, y⟩ := y
    subst e
    exact hs i x σ _ (y xs q) p
  · have e : i = xs.length := by omega
    subst e
    exact .inl ⟨⟨xs, q, Nat.le_refl _⟩, hd σ H p⟩
theorem for_range {lo : Int} {n : Nat} {g : TG} {tb : TS} {D : Ends} {σ : St} {H : Hp} (Pv : Nat → St → Hp → Prop) (h0 : Pv 0 σ H)
    (hs : ∀ i σ H, i < n → Pv i σ H → g (.int (lo + i)) σ H fun σ2 H2 => tb { D with nx := Pv (i + 1), ct := Pv (i + 1), bk := D.nx } σ2 H2) (hd : ∀ σ H, Pv n σ H → D.nx σ H) :
    ∃ W : Nat → Nat → St → Hp → Prop, (∃ m, W 0 m σ H) ∧ ∀ i m σ H, W i m σ H →
      ((Itr lo n).stop i H ∧ D.nx σ H) ∨ ((Itr lo n).go i H ∧ ∃ N : St → Hp → Prop, (∀ σ' H', N σ' H' → ∃ m', m' < m ∧ W (i + 1) m' σ' H') ∧ ∀ x H', (Itr lo n).yld i H x H' → g x σ H' fun σ2 H2 => tb { D with nx := N, ct := N, bk := D.nx } σ2 H2) := by
  refine ⟨fun i m σ H => m = n - i ∧ i ≤ n ∧ Pv i σ H, ⟨n, by simp, Nat.zero_le _, h0⟩, ?_⟩
  rintro i m σ H ⟨rfl, hi, p⟩
  by_cases hlt : i < n
  · refine .inr ⟨hlt, Pv (i + 1), fun σ' H' p' => ⟨n - (i + 1), by omega, rfl, hlt, p'⟩, fun x H' y => ?_⟩
    obtain ⟨e, y⟩ := y
    subst e y
    exact hs i σ _ hlt p
  · have e : i = n := by omega
    subst e
    exact .inl ⟨Nat.le_refl _, hd σ H p⟩
end L2

namespace L2
open PySem PySem.Spec PyProof.Rows

abbrev R2 := V → V → Hp → VK → Prop
/-- a two-place operation on values: f is binaryOp op, inplaceOp op or compareOp op -/
def OpR (X : Cx) (f : Value → Value → Sem Value) (r : R2) : Prop :=
  ∀ (pins : List (Addr × Obj)) (s : Shared) (σ : St) (H : Hp) (x y : V) (v u : Value) (Q : VK), Inv X pins σ H s → RelV x v → RelV y u → r x y H Q →
    wpAny (model X.prog X.w) X.A (f v u) (EP X pins σ Q) X.xe s
/-- a one-place operation -/
def UnR (X : Cx) (f : Value → Sem Value) (r : V → Hp → VK → Prop) : Prop :=
  ∀ (pins : List (Addr × Obj)) (s : Shared) (σ : St) (H : Hp) (x : V) (v : Value) (Q : VK), Inv X pins σ H s → RelV x v → r x H Q →
    wpAny (model X.prog X.w) X.A (f v) (EP X pins σ Q) X.xe s
/-- a call of a value that is known (a builtin, a type) with values -/
def CallR (X : Cx) (f : Value) (r : List V → Hp → VK → Prop) : Prop :=
  ∀ (pins : List (Addr × Obj)) (s : Shared) (σ : St) (H : Hp) (xs : List V) (us : List Value) (Q : VK), Inv X pins σ H s → Vals xs us → r xs H Q →
    wpAny (model X.prog X.w) X.A (call f us) (EP X pins σ Q) X.xe s
/-- a value's truth -/
def TruR (X : Cx) (r : V → Hp → (Bool → Hp → Prop) → Prop) : Prop :=
  ∀ (pins : List (Addr × Obj)) (s : Shared) (σ : St) (H : Hp) (x : V) (v : Value) (Q : Bool → Hp → Prop), Inv X pins σ H s → RelV x v → r x H Q →
    wpAny (model X.prog X.w) X.A (truthy v) (TP X pins σ Q) X.xe s

def tOp (r : R2) (ta tb : TE) : TE := fun σ H Q => ta σ H fun x H1 => tb σ H1 fun y H2 => r x y H2 Q
def tUn (r : V → Hp → VK → Prop) (ta : TE) : TE := fun σ H Q => ta σ H fun x H1 => r x H1 Q
/-- ints in, under C, and a value out -/
def rI (C : Int → Int → Prop) (g : Int → Int → V) : R2 := fun x y H Q => ∃ i j, x = .int i ∧ y = .int j ∧ C i j ∧ Q (g i j) H
def rI0 (g : Int → Int → V) : R2 := fun x y H Q => ∃ i j, x = .int i ∧ y = .int j ∧ Q (g i j) H
def rU (g : Int → V) : V → Hp → VK → Prop := fun x H Q => ∃ i, x = .int i ∧ Q (g i) H

section
variable {X : Cx} {a b c : Expr} {ta tb tc : TE} {pos : Pos}

theorem binT (ha : PE X a ta) (hb : PE X b tb) {pins : List (Addr × Obj)} {s : Shared} {σ : St} {H : Hp} {R : V → V → Hp → Prop} (I : Inv X pins σ H s)
    (h : ta σ H fun x H1 => tb σ H1 fun y H2 => R x y H2) {Q : Value → Shared → Prop} {f : Value → Value → Sem Value}
    (hf : ∀ v u s2 x y H2, Inv X pins σ H2 s2 → RelV x v → RelV y u → R x y H2 → wpAny (model X.prog X.w) X.A (f v u) Q X.xe s2) :
    wpAny (model X.prog X.w) X.A (eval a X.env) (fun v s₁ => wpAny (model X.prog X.w) X.A (eval b X.env) (fun u s₂ => wpAny (model X.prog X.w) X.A (f v u) Q X.xe s₂) X.xe s₁) X.xe s := by
  refine thn (ha pins s σ H _ I h) fun v s1 ⟨x, H1, I1, r1, q1⟩ => ?_
  refine thn (hb pins s1 σ H1 _ I1 q1) fun u s2 ⟨y, H2, I2, r2, q2⟩ => ?_
  exact hf v u s2 x y H2 I2 r1 r2 q2

theorem pe_op {op : Operator} {r : R2} (ho : OpR X (binaryOp op) r) (ha : PE X a ta) (hb : PE X b tb) : PE X (.BinOp a op b pos) (tOp r ta tb) := by
  intro pins s σ H Q I h
  exact wpAny_BinOp (binT ha hb I h fun v u s2 x y H2 I2 rx ry q => ho pins s2 σ H2 x y v u Q I2 rx ry q)
theorem pe_un {op : UnaryOp} {r : V → Hp → VK → Prop} (ho : UnR X (unaryOp op) r) (ha : PE X a ta) : PE X (.UnaryOp op a pos) (tUn r ta) := by
  intro pins s σ H Q I h
  exact UnaryOp_ (thn (ha pins s σ H _ I h) fun v s1 ⟨x, H1, I1, r1, q1⟩ => ho pins s1 σ H1 x v Q I1 r1 q1)
theorem opI {f : Value → Value → Sem Value} {C : Int → Int → Prop} {g : Int → Int → Int}
    (rule : ∀ (i j : Int) (t u : Tok) (s : Shared) (Q : Value → Shared → Prop) (E : Value → Shared → Prop), C i j → Q (.int (g i j) s.toks) { s with toks := s.toks + 1 } → wpAny (model X.prog X.w) X.A (f (.int i t) (.int j u)) Q E s) :
    OpR X f (rI C fun i j => .int (g i j)) := by
  intro pins s σ H x y v u Q I rx ry h
  obtain ⟨i, j, rfl, rfl, hc, q⟩ := h
  obtain ⟨t, rfl⟩ := rx
  obtain ⟨t', rfl⟩ := ry
  exact rule i j t t' s _ _ hc ⟨.int (g i j), H, I.tok _, ⟨_, rfl⟩, q⟩
theorem opI0 {f : Value → Value → Sem Value} {g : Int → Int → Int}
    (rule : ∀ (i j : Int) (t u : Tok) (s : Shared) (Q : Value → Shared → Prop) (E : Value → Shared → Prop), Q (.int (g i j) s.toks) { s with toks := s.toks + 1 } → wpAny (model X.prog X.w) X.A (f (.int i t) (.int j u)) Q E s) :
    OpR X f (rI0 fun i j => .int (g i j)) := by
  intro pins s σ H x y v u Q I rx ry h
  obtain ⟨i, j, rfl, rfl, q⟩ := h
  obtain ⟨t, rfl⟩ := rx
  obtain ⟨t', rfl⟩ := ry
  exact rule i j t t' s _ _ ⟨.int (g i j), H, I.tok _, ⟨_, rfl⟩, q⟩
theorem opB0 {f : Value → Value → Sem Value} {g : Int → Int → Bool}
    (rule : ∀ (i j : Int) (t u : Tok) (s : Shared) (Q : Value → Shared → Prop) (E : Value → Shared → Prop), Q (.bool (g i j)) s → wpAny (model X.prog X.w) X.A (f (.int i t) (.int j u)) Q E s) :
    OpR X f (rI0 fun i j => .bl (g i j)) := by
  intro pins s σ H x y v u Q I rx ry h
  obtain ⟨i, j, rfl, rfl, q⟩ := h
  obtain ⟨t, rfl⟩ := rx
  obtain ⟨t', rfl⟩ := ry
  exact rule i j t t' s _ _ ⟨.bl (g i j), H, I, rfl, q⟩

def CDiv (i j : Int) : Prop := 0 < j ∧ j < 1073741824
def CMul (i j : Int) : Prop := (-(2 ^ 64) < i ∧ i < 2 ^ 64) ∨ (-(2 ^ 64) < j ∧ j < 2 ^ 64)
theorem CMul.ok {i j : Int} (h : CMul i j) : IntMulOk i j := by
  rcases h with ⟨h1, h2⟩ | ⟨h1, h2⟩
  · exact .of_left (intBits_le_64 h1 h2)
  · exact .of_right (intBits_le_64 h1 h2)
theorem two_pow_nn (k : Nat) : (0 : Int) ≤ 2 ^ k := by
  rw [two_pow_cast]
  exact Int.natCast_nonneg _

theorem op_add : OpR X (binaryOp .Add) (rI0 fun i j => .int (i + j)) := opI0 fun _ _ _ _ _ _ _ q => add_int q
theorem op_sub : OpR X (binaryOp .Sub) (rI0 fun i j => .int (i - j)) := opI0 fun _ _ _ _ _ _ _ q => sub_int q
theorem op_mul : OpR X (binaryOp .Mult) (rI CMul fun i j => .int (i * j)) := opI fun _ _ _ _ _ _ _ hc q => mul_int q hc.ok
/-- // by a positive divisor -/
theorem op_fdiv : OpR X (binaryOp .FloorDiv) (rI CDiv fun i j => .int (i / j)) := opI fun i j _ _ _ _ _ hc q => by
  have h1 : (0 : Int) < j := hc.1
  have h2 : j < 1073741824 := hc.2
  exact floordiv_int (by omega) (by rw [Int.fdiv_eq_ediv_of_nonneg i (by omega)]; exact q) (.inl (PyProof.noPylong_small (by omega)))
/-- % by a positive divisor of any size -/
theorem op_mod : OpR X (binaryOp .Mod) (rI (fun _ j => 0 < j) fun i j => .int (i % j)) := opI fun i j _ _ _ _ _ hc q => by
  have h1 : (0 : Int) < j := hc
  exact mod_int' (by omega) (by rw [Int.fmod_eq_emod_of_nonneg i (by omega)]; exact q)
theorem op_shr : OpR X (binaryOp .RShift) (rI (fun _ j => 0 ≤ j) fun i j => .int (i / 2 ^ j.toNat)) := opI fun i j _ _ _ _ _ hc q =>
  rshift_int hc (by rw [Int.fdiv_eq_ediv_of_nonneg i (two_pow_nn _)]; exact q)
theorem unI {f : Value → Sem Value} {g : Int → Int}
    (rule : ∀ (i : Int) (t : Tok) (s : Shared) (Q : Value → Shared → Prop) (E : Value → Shared → Prop), Q (.int (g i) s.toks) { s with toks := s.toks + 1 } → wpAny (model X.prog X.w) X.A (f (.int i t)) Q E s) :
    UnR X f (rU fun i => .int (g i)) := by
  intro pins s σ H x v Q I rx h
  obtain ⟨i, rfl, q⟩ := h
  obtain ⟨t, rfl⟩ := rx
  exact rule i t s _ _ ⟨.int (g i), H, I.tok _, ⟨_, rfl⟩, q⟩
theorem un_neg : UnR X (unaryOp .USub) (rU fun i => .int (-i)) := unI fun _ _ _ _ _ q => neg_int q
end

/-- the scalars that == tells apart as data does -/
def scal : V → V → Bool
  | .non, .non => true | .non, .int _ => true | .int _, .non => true | .non, .bl _ => true | .bl _, .non => true | .non, .str _ => true | .str _, .non => true
  | .int _, .int _ => true | .bl _, .bl _ => true | .str _, .str _ => true | .byt _, .byt _ => true
  | .int _, .str _ => true | .str _, .int _ => true | .bl _, .str _ => true | .str _, .bl _ => true
  | _, _ => false
def rEq : R2 := fun x y H Q => scal x y = true ∧ Q (.bl (decide (x = y))) H
def rNe : R2 := fun x y H Q => scal x y = true ∧ Q (.bl (!decide (x = y))) H

theorem dec_int {i j : Int} : decide (V.int i = V.int j) = (i == j) := by
  rw [Bool.eq_iff_iff]
  simp
theorem dec_bl {i j : Bool} : decide (V.bl i = V.bl j) = (i == j) := by
  rw [Bool.eq_iff_iff]
  simp
theorem dec_str {i j : Str} : decide (V.str i = V.str j) = (i == j) := by
  rw [Bool.eq_iff_iff]
  simp
theorem dec_byt {i j : Array UInt8} : decide (V.byt i = V.byt j) = (i.toList == j.toList) := by
  rw [Bool.eq_iff_iff]
  cases i
  cases j
  simp

section
variable {X : Cx} {a b c : Expr} {ta tb tc : TE} {pos : Pos}
theorem fin_bl {pins : List (Addr × Obj)} {σ : St} {H : Hp} {s : Shared} {Q : VK} {k k' : Bool} (I : Inv X pins σ H s) (q : Q (.bl k) H) (e : k = k') : EP X pins σ Q (.bool k') s := by
  subst e
  exact ⟨.bl k, H, I, rfl, q⟩
theorem op_eq : OpR X (compareOp .Eq) rEq := by
  intro pins s σ H x y v u Q I rx ry h
  obtain ⟨hs, q⟩ := h
  cases x with
  | non =>
    cases rx
    cases y with
    | non => cases ry; exact PySem.EqNone.eq_none_none (fin_bl I q (by simp))
    | bl j => cases ry; exact PySem.EqNone.eq_none_bool (fin_bl I q (by simp))
    | int j => obtain ⟨t', rfl⟩ := ry; exact PySem.EqNone.eq_none_int (fin_bl I q (by simp))
    | str j => obtain ⟨t', rfl⟩ := ry; exact PySem.EqNone.eq_none_str (fin_bl I q (by simp))
    | _ => exact absurd (show false = true from hs) Bool.false_ne_true
  | bl i =>
    cases rx
    cases y with
    | non => cases ry; exact PySem.EqNone.eq_bool_none (fin_bl I q (by simp))
    | bl j => cases ry; exact eq_bool (fin_bl I q dec_bl)
    | str j => obtain ⟨t', rfl⟩ := ry; exact PySem.EqMixed.eq_bool_str (fin_bl I q (by simp))
    | _ => exact absurd (show false = true from hs) Bool.false_ne_true
  | int i =>
    obtain ⟨t, rfl⟩ := rx
    cases y with
    | non => cases ry; exact PySem.EqNone.eq_int_none (fin_bl I q (by simp))
    | int j => obtain ⟨t', rfl⟩ := ry; exact eq_int (fin_bl I q dec_int)
    | str j => obtain ⟨t', rfl⟩ := ry; exact PySem.EqMixed.eq_int_str (fin_bl I q (by simp))
    | _ => exact absurd (show false = true from hs) Bool.false_ne_true
  | str i =>
    obtain ⟨t, rfl⟩ := rx
    cases y with
    | non => cases ry; exact PySem.EqNone.eq_str_none (fin_bl I q (by simp))
    | bl j => cases ry; exact PySem.EqMixed.eq_str_bool (fin_bl I q (by simp))
    | int j => obtain ⟨t', rfl⟩ := ry; exact PySem.EqMixed.eq_str_int (fin_bl I q (by simp))
    | str j => obtain ⟨t', rfl⟩ := ry; exact eq_str (fin_bl I q dec_str)
    | _ => exact absurd (show false = true from hs) Bool.false_ne_true
  | byt i =>
    obtain ⟨t, rfl⟩ := rx
    cases y with
    | byt j => obtain ⟨t', rfl⟩ := ry; exact PySem.W.eq_bytes (fin_bl I q dec_byt)
    | _ => exact absurd (show false = true from hs) Bool.false_ne_true
  | _ => cases y <;> exact absurd (show false = true from hs) Bool.false_ne_true
theorem op_ne : OpR X (compareOp .NotEq) rNe := by
  intro pins s σ H x y v u Q I rx ry h
  obtain ⟨hs, q⟩ := h
  cases x with
  | non =>
    cases rx
    cases y with
    | non => cases ry; exact PySem.EqNone.ne_none_none (fin_bl I q (by simp))
    | bl j => cases ry; exact PySem.EqNone.ne_none_bool (fin_bl I q (by simp))
    | int j => obtain ⟨t', rfl⟩ := ry; exact PySem.EqNone.ne_none_int (fin_bl I q (by simp))
    | str j => obtain ⟨t', rfl⟩ := ry; exact PySem.EqNone.ne_none_str (fin_bl I q (by simp))
    | _ => exact absurd (show false = true from hs) Bool.false_ne_true
  | bl i =>
    cases rx
    cases y with
    | non => cases ry; exact PySem.EqNone.ne_bool_none (fin_bl I q (by simp))
    | bl j => cases ry; exact ne_bool (fin_bl I q (congrArg not dec_bl))
    | str j => obtain ⟨t', rfl⟩ := ry; exact PySem.EqMixed.ne_bool_str (fin_bl I q (by simp))
    | _ => exact absurd (show false = true from hs) Bool.false_ne_true
  | int i =>
    obtain ⟨t, rfl⟩ := rx
    cases y with
    | non => cases ry; exact PySem.EqNone.ne_int_none (fin_bl I q (by simp))
    | int j => obtain ⟨t', rfl⟩ := ry; exact ne_int (fin_bl I q (congrArg not dec_int))
    | str j => obtain ⟨t', rfl⟩ := ry; exact PySem.EqMixed.ne_int_str (fin_bl I q (by simp))
    | _ => exact absurd (show false = true from hs) Bool.false_ne_true
  | str i =>
    obtain ⟨t, rfl⟩ := rx
    cases y with
    | non => cases ry; exact PySem.EqNone.ne_str_none (fin_bl I q (by simp))
    | bl j => cases ry; exact PySem.EqMixed.ne_str_bool (fin_bl I q (by simp))
    | int j => obtain ⟨t', rfl⟩ := ry; exact PySem.EqMixed.ne_str_int (fin_bl I q (by simp))
    | str j => obtain ⟨t', rfl⟩ := ry; exact ne_str (fin_bl I q (congrArg not dec_str))
    | _ => exact absurd (show false = true from hs) Bool.false_ne_true
  | byt i =>
    obtain ⟨t, rfl⟩ := rx
    cases y with
    | byt j => obtain ⟨t', rfl⟩ := ry; exact PySem.W.ne_bytes (fin_bl I q (congrArg not dec_byt))
    | _ => exact absurd (show false = true from hs) Bool.false_ne_true
  | _ => cases y <;> exact absurd (show false = true from hs) Bool.false_ne_true

theorem op_lt : OpR X (compareOp .Lt) (rI0 fun i j => .bl (decide (i < j))) := opB0 fun _ _ _ _ _ _ _ q => lt_int q
theorem op_gt : OpR X (compareOp .Gt) (rI0 fun i j => .bl (decide (j < i))) := opB0 fun _ _ _ _ _ _ _ q => gt_int q
theorem op_ge : OpR X (compareOp .GtE) (rI0 fun i j => .bl (decide (j ≤ i))) := opB0 fun _ _ _ _ _ _ _ q => ge_int q
/-- the one string within the other -/
theorem op_in_str : OpR X (compareOp .In) (fun x y H Q => ∃ i j, x = .str i ∧ y = .str j ∧ Q (.bl (!(Builtin.Str.occurrences j i 0 j.length 1).isEmpty)) H) := by
  intro pins s σ H x y v u Q I rx ry h
  obtain ⟨i, j, rfl, rfl, q⟩ := h
  obtain ⟨t, rfl⟩ := rx
  obtain ⟨t', rfl⟩ := ry
  exact in_str (fin_bl I q rfl)

/-- is None, is not None: the right side a value none -/
theorem op_isN : OpR X (compareOp .Is) (fun x y H Q => y = .non ∧ Q (.bl (decide (x = .non))) H) := by
  intro pins s σ H x y v u Q I rx ry h
  obtain ⟨rfl, q⟩ := h
  cases ry
  refine is_none_gen (fin_bl I q ?_)
  cases x <;> first
    | (cases rx; rfl)
    | (obtain ⟨t, rfl⟩ := rx; rfl)
theorem op_notN : OpR X (compareOp .IsNot) (fun x y H Q => y = .non ∧ Q (.bl (!decide (x = .non))) H) := by
  intro pins s σ H x y v u Q I rx ry h
  obtain ⟨rfl, q⟩ := h
  cases ry
  refine isnot_none_gen (fin_bl I q ?_)
  cases x <;> first
    | (cases rx; rfl)
    | (obtain ⟨t, rfl⟩ := rx; rfl)

theorem op_notin_str : OpR X (compareOp .NotIn) (fun x y H Q => ∃ i j, x = .str i ∧ y = .str j ∧ Q (.bl (!(!(Builtin.Str.occurrences j i 0 j.length 1).isEmpty))) H) := by
  intro pins s σ H x y v u Q I rx ry h
  obtain ⟨i, j, rfl, rfl, q⟩ := h
  obtain ⟨t, rfl⟩ := rx
  obtain ⟨t', rfl⟩ := ry
  exact notIn_str (fin_bl I q rfl)
theorem nomark (b : Expr) {op : CmpOp} (h : op ≠ .In := by decide) (h2 : op ≠ .NotIn := by decide) : behindInMarks op b = false := by
  have e1 : (op == CmpOp.In) = false := by cases op <;> first | rfl | exact absurd rfl h
  have e2 : (op == CmpOp.NotIn) = false := by cases op <;> first | rfl | exact absurd rfl h2
  cases b <;> simp [behindInMarks, e1, e2]
/-- a comparison as a value; hm: nomark b, or (for in, not in) by with_unfolding_all rfl -/
theorem pe_cmpR {op : CmpOp} {r : R2} (ho : OpR X (compareOp op) r) (ha : PE X a ta) (hb : PE X b tb) (hm : behindInMarks op b = false) : PE X (.Compare a [op] [b] pos) (tOp r ta tb) := by
  intro pins s σ H Q I h
  exact wpAny_Compare1 (binT ha hb I h fun v u s2 x y H2 I2 rx ry q => ho pins s2 σ H2 x y v u Q I2 rx ry q) hm
/-- a reading of a value as a test -/
def tTest (t : TE) : TT := fun σ H Q => t σ H fun x H' => ∃ k, x = .bl k ∧ Q k H'
theorem pt_cmpR {op : CmpOp} {r : R2} (ho : OpR X (compareOp op) r) (ha : PE X a ta) (hb : PE X b tb) (hm : behindInMarks op b = false) : PT X (.Compare a [op] [b] pos) (tTest (tOp r ta tb)) := by
  intro pins s σ H Q I h
  refine wpAny_isTrue_Compare1 (thn (ha pins s σ H _ I h) fun v s1 ⟨x, H1, I1, r1, q1⟩ => thn (hb pins s1 σ H1 _ I1 q1) fun u s2 ⟨y, H2, I2, r2, q2⟩ =>
    thn (ho pins s2 σ H2 x y v u _ I2 r1 r2 q2) fun c s3 ⟨z, H3, I3, r3, k, e, q3⟩ => ?_) hm
  subst e
  cases r3
  exact wpAny_truthy_bool ⟨H3, I3, q3⟩
/-- a value's truth by the abstract heap -/
def TruV (K : PySem.W.Frag) (x : V) (H : Hp) (k : Bool) : Prop :=
  match x with
  | .non => k = false
  | .bl b => k = b
  | .int i => k = (i != 0)
  | .str y => y.length ≤ sizeLine ∧ k = ((y.length : Int) != 0)
  | .byt y => y.size ≤ sizeLine ∧ k = ((y.size : Int) != 0)
  | .ref p => (∃ xs, SqL K H p xs ∧ k = !xs.isEmpty) ∨ (∃ xs, SqT K H p xs ∧ k = !xs.isEmpty) ∨ ∃ kvs, H p = some (.dK kvs) ∧ k = !kvs.isEmpty
  | _ => False
theorem isEmpty_kv {κ : Type} {kvs : List (κ × V)} {vs : List (κ × Value)} (r : KV kvs vs) : (!vs.isEmpty) = !kvs.isEmpty := by
  cases r <;> rfl
theorem isEmpty_of {xs : List V} {its : List Value} (r : Vals xs its) : (!its.toArray.isEmpty) = !xs.isEmpty := by
  cases r <;> simp
theorem line63 : (sizeLine : Nat) < 2 ^ 63 := by rw [sizeLine_eq]; decide
theorem tru_ok : TruR X (fun x H Q => ∃ k, TruV X.K x H k ∧ Q k H) := by
  intro pins s σ H x v Q I rx h
  obtain ⟨k, e, q⟩ := h
  have hl := line63
  have hs : sizeLine = 16777216 := sizeLine_eq
  cases x with
  | non =>
    cases rx
    have e' : k = false := e
    subst e'
    exact truthy_none ⟨H, I, q⟩
  | bl b =>
    cases rx
    have e' : k = b := e
    subst e'
    exact wpAny_truthy_bool ⟨H, I, q⟩
  | int i =>
    obtain ⟨t, rfl⟩ := rx
    have e' : k = (i != 0) := e
    subst e'
    exact PySem.P.truthy_int ⟨H, I, q⟩
  | str y =>
    obtain ⟨t, rfl⟩ := rx
    obtain ⟨hy, e'⟩ : y.length ≤ sizeLine ∧ k = ((y.length : Int) != 0) := e
    subst e'
    exact PySem.P.truthy_str (by omega) ⟨H, I.tok _, q⟩
  | byt y =>
    obtain ⟨t, rfl⟩ := rx
    obtain ⟨hy, e'⟩ : y.size ≤ sizeLine ∧ k = ((y.size : Int) != 0) := e
    subst e'
    exact PySem.W.truthy_bytes (by omega) ⟨H, I.tok _, q⟩
  | ref p =>
    cases rx
    have e' : (∃ xs, SqL X.K H p xs ∧ k = !xs.isEmpty) ∨ (∃ xs, SqT X.K H p xs ∧ k = !xs.isEmpty) ∨ ∃ kvs, H p = some (.dK kvs) ∧ k = !kvs.isEmpty := e
    rcases e' with ⟨xs, hx, e'⟩ | ⟨xs, hx, e'⟩ | ⟨kvs, hx, e'⟩
    · subst e'
      obtain ⟨its, r, pl, hz⟩ := I.list hx
      have hlen := r.length
      exact wpAny_truthy_list pl.isList (by simp only [List.size_toArray]; omega) ⟨H, I.tok _, by rw [isEmpty_of r]; exact q⟩
    · subst e'
      obtain ⟨its, r, pl, hz⟩ := I.tuple hx
      have hlen := r.length
      exact truthy_tuple pl (by simp only [List.size_toArray]; omega) ⟨H, I.tok _, by rw [isEmpty_of r]; exact q⟩
    · subst e'
      obtain ⟨hz, hS, vs, r, m⟩ : kvs.length ≤ sizeLine ∧ (p == sysModules) = false ∧ ∃ vs, KV kvs vs ∧ s.heap.DictOf (mixKind X.prog X.w) p vs := I.hok p _ hx
      have hlen : kvs.length = vs.length := Paired.length r
      exact wpAny_truthy_dict hS m (by omega) ⟨H, I.tok _, by rw [isEmpty_kv r]; exact q⟩
  | _ => exact (show False from e).elim
/-- any expression whose test is its value's truth (a name, a call, a subscript, a field ..: he by fun _ => rfl) -/
theorem pt_truth (ha : PE X a ta) (he : ∀ whole, isTrue a X.env whole = (do let v ← whole; standAt a.pos; holding [v] (truthy v))) :
    PT X a (fun σ H Q => ta σ H fun x H' => ∃ k, TruV X.K x H' k ∧ Q k H') := by
  intro pins s σ H Q I h
  exact isTrue_plain (thn (ha pins s σ H _ I h) fun v s1 ⟨x, H1, I1, r1, q1⟩ => tru_ok pins s1 σ H1 x v Q I1 r1 q1) (he _)

theorem op_add_str : OpR X (binaryOp .Add) (fun x y H Q => ∃ i j, x = .str i ∧ y = .str j ∧ i.length + j.length ≤ sizeLine ∧ Q (.str (i ++ j)) H) := by
  intro pins s σ H x y v u Q I rx ry h
  obtain ⟨i, j, rfl, rfl, hz, q⟩ := h
  obtain ⟨t, rfl⟩ := rx
  obtain ⟨t', rfl⟩ := ry
  exact add_str (fun t' tk => ⟨.str (i ++ j), H, I.tok _, ⟨_, rfl⟩, q⟩) hz
theorem vals1 {x : V} {us : List Value} (r : Vals [x] us) : ∃ u, us = [u] ∧ RelV x u := by
  cases r with
  | cons r1 r2 => cases r2; exact ⟨_, rfl, r1⟩
theorem vals2 {x y : V} {us : List Value} (r : Vals [x, y] us) : ∃ u w', us = [u, w'] ∧ RelV x u ∧ RelV y w' := by
  cases r with
  | cons r1 r2 =>
    cases r2 with
    | cons r3 r4 => cases r4; exact ⟨_, _, rfl, r1, r3⟩
theorem call_max2 (hc : X.calm = true) : CallR X (.builtin "max") (fun xs H Q => ∃ i j, xs = [.int i, .int j] ∧ Q (.int (if j > i then j else i)) H) := by
  intro pins s σ H xs us Q I r h
  obtain ⟨i, j, rfl, q⟩ := h
  obtain ⟨u, w', rfl, ⟨t, rfl⟩, ⟨t', rfl⟩⟩ := vals2 r
  refine max_two_ints (I.ok.hd hc) fun h' tk k => ⟨_, H, I.kept k, ?_, q⟩
  by_cases hj : j > i
  · rw [if_pos hj, if_pos hj]; exact ⟨_, rfl⟩
  · rw [if_neg hj, if_neg hj]; exact ⟨_, rfl⟩
end
end L2

namespace L2
open PySem PySem.Spec PyProof.Rows

structure ObjM (h : Heap) (x dx C : Addr) (mA : Str → Option Value) : Prop where
  obj : h.get? x = some (PySem.W.instObj C dx)
  ns : h.Ns1 dx mA
  ne : dx ≠ x

theorem lookIn_ns {h : Heap} {dx : Addr} {mA : Str → Option Value} (n : h.Ns1 dx mA) : ∃ od, h.get? dx = some od ∧ ∀ name, PySem.W.lookIn name od = some (mA name) := by
  obtain ⟨o, es, ep, ho, hd, hk, _, hm⟩ := n
  refine ⟨o, ho, fun name => ?_⟩
  have e := hm name
  unfold nsFind findBy at e
  rw [← Array.find?_toList] at e
  unfold PySem.W.lookIn
  rw [hd]
  dsimp only
  split
  · rename_i y q
    rw [q] at e
    exact congrArg some e
  · rename_i q
    rw [q] at e
    have a : es.toList.any (·.refKey) = false := by
      rw [List.any_eq_false]
      intro y hy
      obtain ⟨z, t, hkey⟩ := hk y (Array.mem_toList_iff.mp hy)
      simp [DictEntry.refKey, hkey]
    have a' : ¬ es.toList.any (·.refKey) = true := by rw [a]; exact Bool.false_ne_true
    rw [if_neg a']
    exact congrArg some e

theorem ObjM.look {h : Heap} {x dx C : Addr} {mA : Str → Option Value} (I : ObjM h x dx C mA) : ∃ od, PySem.W.InstAt h x (PySem.W.instObj C dx) C (some od) ∧ ∀ name, PySem.W.lookIn name od = some (mA name) :=
  let ⟨od, ho, hl⟩ := lookIn_ns I.ns
  ⟨od, ⟨I.obj, rfl, rfl, ho⟩, hl⟩

section
variable {prog : Program} {w : World} {A : Around} {E : Value → Shared → Prop} {s : Shared} {K : PySem.W.Frag} {x dx C f : Addr} {mA : Str → Option Value} {name : Str} {v : Value}

theorem get_map {expr : Bool} {Q : Value → Shared → Prop} (X : K.In s.heap) (I : ObjM s.heap x dx C mA) (hg : PySem.W.plainGet K C name = true) (hh : PySem.W.hasDictIn K C = true)
    (ha : PySem.W.findIn K (.ref C) name = some none) (hv : mA name = some v) (hv' : PySem.W.handedIn v = true) (h : Q v { s with toks := s.toks + 1 }) :
    wpAny (model prog w) A (getAttr (.ref x) name expr) Q E s := by
  obtain ⟨od, J, hl⟩ := I.look
  exact PySem.W.get_value X J (PySem.W.plainGet_of hg).1 (PySem.W.findObj_own hh ha rfl (by rw [hl, hv])) hv' h

theorem get_meth {pl : Sem Bool} {Q : Value × List Value → Shared → Prop} (X : K.In s.heap) (I : ObjM s.heap x dx C mA) (hg : PySem.W.plainGet K C name = true)
    (hf : PySem.W.findIn K (.ref C) name = some (some (.ref f))) (ht : PySem.W.isFn K (.ref f) = true) (hv : mA name = none) (h : Q (.ref f, [.ref x]) s) :
    wpAny (model prog w) A (getMethod (.ref x) name pl) Q E s := by
  obtain ⟨od, J, hl⟩ := I.look
  exact PySem.W.method_fn X J (PySem.W.plainGet_of hg).1 (PySem.W.plainGet_of hg).2 hf (beq_iff_eq.mp ht) (by show (PySem.W.lookIn name od).map (·.isSome) = some false; rw [hl, hv]; rfl) h

theorem set_map {ns : List Str} {Q : Unit → Shared → Prop} (X : K.In s.heap) (I : ObjM s.heap x dx C mA)
    (hs : PySem.W.findIn K (.ref C) "__setattr__" = some (some (.builtin "object.__setattr__"))) (hp : PySem.W.plainOver K C = true) (ht : PySem.W.takerIn K C name = some none) (hh : PySem.W.hasDictIn K C = true)
    (hw : PySem.Within mA ns) (hsz : ns.length ≤ sizeLine)
    (h : ∀ h', ObjM h' x dx C (fun y => if y = name then some v else mA y) → Heap.SameBut dx s.heap h' → Q () { s with heap := h', toks := s.toks + 2 }) :
    wpAny (model prog w) A (setAttr (.ref x) name v) Q E s := by
  obtain ⟨od, J, hl⟩ := I.look
  refine PySem.W.set_plain X J hs (PySem.W.osa_open (s := { s with toks := s.toks + 1 }) (r := none) X J hp ht fun b => ?_)
  obtain ⟨cd, hc, hd'⟩ := PySem.W.any_some hh
  have hx : s.heap.get? x = some ⟨.ref C, some dx, .plain, #[]⟩ := I.obj
  refine wpAny_bind (wpAny_pure (wpAny_bind (wpAny_bind (wpAny_loadPart hx (wpAny_bind (PySem.W.Looks.here (s := { s with toks := s.toks + 1 }) (PySem.W.looks_clsIn X hc) ?_))))))
  rw [hd']
  refine wpAny_pure (a := some dx) (wpAny_bind (wpAny_pure (wpAny_bind ?_)))
  refine wpAny_nsSet1 (s := { s with toks := s.toks + 1 }) I.ns fun h' hn2 hs2 => ?_
  obtain ⟨oD, esD, epD, hoD, hdD, hcD⟩ := hn2.count (PySem.Within.cons name v hw)
  refine wpAny_bind (wpAny_lookBehind hoD (by rw [hdD]; exact pastItsLine_dict (Nat.le_trans hcD (by rw [List.length_cons]; omega))) ?_)
  exact wpAny_pure (h _ ⟨(hs2.2 _ (Ne.symm I.ne)).trans I.obj, hn2, I.ne⟩ hs2)

/-- C(..): the dict at the heap's end, the instance behind it; then its __init__ -/
theorem make_map {R : Result → Shared → Prop} {vs : List Value} {kw : List (Str × Value)} (X : K.In s.heap) (hm : PySem.W.makesIn K C = true)
    (hi : PySem.W.findIn K (.ref C) "__init__" = some (some (.ref f))) (hf : PySem.W.typeIn K (.ref f) = some (.type "function"))
    (h : codeAny (model prog w) (A.under (.builtin "type.__call__" ⟨.ref C :: vs, kw⟩)) (.call (.ref f) ⟨.ref (s.heap.objs.size + 1) :: vs, kw⟩) (PySem.W.InitBack (s.heap.objs.size + 1) R)
      { s with heap := (s.heap.push PySem.W.emptyDict).push (PySem.W.instObj C s.heap.objs.size) }) :
    codeAny (model prog w) A (.call (.ref C) ⟨vs, kw⟩) R s := by
  obtain ⟨hh, g, d, t, os⟩ := s
  exact PySem.W.make_core (PySem.W.makes_of X hm) (PySem.W.looks_findIn X hi) (fun self => PySem.W.bind_fn X self hf) (.inl rfl) h
/-- C() where there is no __init__ but object's -/
theorem make_map0 {R : Result → Shared → Prop} (X : K.In s.heap) (hm : PySem.W.makesIn K C = true)
    (hi : PySem.W.findIn K (.ref C) "__init__" = some (some (.builtin "object.__init__")))
    (hb : ∀ self, PySem.W.Looks (model prog w) s.heap (bindSpecial (.builtin "object.__init__") self) (.builtin "object.__init__", [self]))
    (h : codeAny (model prog w) (A.under (.builtin "type.__call__" ⟨[.ref C], []⟩)) (.call (.builtin "object.__init__") ⟨[.ref (s.heap.objs.size + 1)], []⟩) (PySem.W.InitBack (s.heap.objs.size + 1) R)
      { s with heap := (s.heap.push PySem.W.emptyDict).push (PySem.W.instObj C s.heap.objs.size) }) :
    codeAny (model prog w) A (.call (.ref C) ⟨[], []⟩) R s := by
  obtain ⟨hh, g, d, t, os⟩ := s
  exact PySem.W.make_core (PySem.W.makes_of X hm) (PySem.W.looks_findIn X hi) hb (.inr ⟨rfl, rfl⟩) h
end

def putF (f : Str) (v : V) : List (Str × V) → List (Str × V)
  | [] => [(f, v)]
  | (g, x) :: r => if g = f then (g, v) :: r else (g, x) :: putF f v r
theorem lookup_putF (f g : Str) (v : V) : ∀ fs : List (Str × V), (putF f v fs).lookup g = if g = f then some v else fs.lookup g
  | [] => by
    show List.lookup g [(f, v)] = _
    by_cases h : g = f
    · have hb : (g == f) = true := beq_iff_eq.mpr h
      simp only [List.lookup, hb, if_pos h]
    · have hb : (g == f) = false := beq_eq_false_iff_ne.mpr h
      simp only [List.lookup, hb, if_neg h]
  | (k, x) :: r => by
    have ih := lookup_putF f g v r
    rw [show putF f v ((k, x) :: r) = (if k = f then (k, v) :: r else (k, x) :: putF f v r) from rfl]
    by_cases hk : k = f
    · rw [if_pos hk]
      by_cases h : g = k
      · have hb : (g == k) = true := beq_iff_eq.mpr h
        simp only [List.lookup, hb, if_pos (h.trans hk)]
      · have hb : (g == k) = false := beq_eq_false_iff_ne.mpr h
        simp only [List.lookup, hb, if_neg (fun e : g = f => h (e.trans hk.symm))]
    · rw [if_neg hk]
      by_cases h : g = k
      · have hb : (g == k) = true := beq_iff_eq.mpr h
        simp only [List.lookup, hb, if_neg (fun e : g = f => hk (h.symm.trans e))]
      · have hb : (g == k) = false := beq_eq_false_iff_ne.mpr h
        simp only [List.lookup, hb]
        exact ih
theorem keys_putF (f : Str) (v : V) : ∀ fs : List (Str × V), f ∈ (putF f v fs).map (·.1) ∧ ∀ g, g ∈ fs.map (·.1) → g ∈ (putF f v fs).map (·.1)
  | [] => ⟨by simp [putF], fun g h => by simp at h⟩
  | (k, x) :: r => by
    obtain ⟨i1, i2⟩ := keys_putF f v r
    rw [show putF f v ((k, x) :: r) = (if k = f then (k, v) :: r else (k, x) :: putF f v r) from rfl]
    by_cases hk : k = f
    · rw [if_pos hk]
      subst hk
      exact ⟨by simp, fun g h => by simpa using h⟩
    · rw [if_neg hk]
      refine ⟨?_, fun g h => ?_⟩
      · rw [List.map_cons]
        exact List.mem_cons_of_mem _ i1
      · rw [List.map_cons] at h ⊢
        rcases List.mem_cons.mp h with e | e
        · exact List.mem_cons.mpr (.inl e)
        · exact List.mem_cons_of_mem _ (i2 g e)
theorem length_putF (f : Str) (v : V) : ∀ fs : List (Str × V), (putF f v fs).length ≤ fs.length + 1
  | [] => by simp [putF]
  | (k, x) :: r => by
    have ih := length_putF f v r
    rw [show putF f v ((k, x) :: r) = (if k = f then (k, v) :: r else (k, x) :: putF f v r) from rfl]
    by_cases hk : k = f
    · rw [if_pos hk, List.length_cons, List.length_cons]; omega
    · rw [if_neg hk, List.length_cons, List.length_cons]; omega

theorem RelO.some_of {v : V} {o : Option Value} (r : RelO (some v) o) : ∃ u, o = some u ∧ RelV v u := by
  cases o with
  | none => exact (show False from r).elim
  | some u => exact ⟨u, rfl, r⟩
theorem RelO.none_of {o : Option Value} (r : RelO none o) : o = none := by
  cases o with
  | none => rfl
  | some u => exact (show False from r).elim
theorem handed_of {v : V} {u : Value} (r : RelV v u) : PySem.W.handedIn u = true := by
  cases v with
  | non => cases (show u = Value.none from r); rfl
  | bl b => cases (show u = Value.bool b from r); rfl
  | int i => obtain ⟨t, e⟩ := (show ∃ t, u = Value.int i t from r); cases e; rfl
  | str x => obtain ⟨t, e⟩ := (show ∃ t, u = Value.str x t from r); cases e; rfl
  | byt b => obtain ⟨t, e⟩ := (show ∃ t, u = Value.bytes b t from r); cases e; rfl
  | flt b => obtain ⟨t, e⟩ := (show ∃ t, u = Value.float b t from r); cases e; rfl
  | ref a => cases (show u = Value.ref a from r); rfl
  | ty n => cases (show u = Value.type n from r); rfl

section
variable {P : Program} {w : World} {H H' : Hp} {h h' : Heap} {a C dx : Addr} {fs fs' : List (Str × V)}
theorem ins_get (hok : HOk P w H h) (e : H a = some (.ins C dx fs)) : ∃ mA, ObjM h a dx C mA ∧ (∀ f, RelO (fs.lookup f) (mA f)) ∧ PySem.Within mA (fs.map (·.1)) ∧ fs.length ≤ 1000 ∧ H dx = some (.own a) := by
  obtain ⟨d, z, ne, ob, mA, n, r, q⟩ := (show ObjOk P w H h a (.ins C dx fs) from hok a _ e)
  exact ⟨mA, ⟨ob, n, ne⟩, r, q, z, d⟩
end

structure Cls (K : PySem.W.Frag) (C : Addr) : Prop where
  pg : PySem.W.plainGet K C Str.empty = true
  hd : PySem.W.hasDictIn K C = true
  po : PySem.W.plainOver K C = true
  sa : PySem.W.findIn K (.ref C) "__setattr__" = some (some (.builtin "object.__setattr__"))
theorem Cls.get {K : PySem.W.Frag} {C : Addr} (c : Cls K C) (f : Str) : PySem.W.plainGet K C f = true := c.pg
/-- no class of it has the name -/
def NoAttr (K : PySem.W.Frag) (C : Addr) (f : Str) : Prop := PySem.W.findIn K (.ref C) f = some none
theorem NoAttr.taker {K : PySem.W.Frag} {C : Addr} {f : Str} (n : NoAttr K C f) : PySem.W.takerIn K C f = some none := by
  unfold PySem.W.takerIn
  rw [show PySem.W.findIn K (.ref C) f = some none from n]
  rfl
/-- a method: a plain def of the class or of one above it -/
structure Meth (K : PySem.W.Frag) (C : Addr) (m : Str) (f : Addr) : Prop where
  at_ : PySem.W.findIn K (.ref C) m = some (some (.ref f))
  fn : PySem.W.isFn K (.ref f) = true
  kp : PySem.W.keepIn K (.ref f) = true

section
variable {X : Cx} {pins : List (Addr × Obj)} {σ : St} {H : Hp} {s : Shared} {a C dx : Addr} {fs : List (Str × V)} {f : Str} {v : V} {A : Around} {E : Value → Shared → Prop}

theorem getattr_ok {b : Bool} {Q : Value → Shared → Prop} (I : Inv X pins σ H s) (e : H a = some (.ins C dx fs)) (c : Cls X.K C) (n : NoAttr X.K C f) (l : fs.lookup f = some v)
    (h : ∀ u s', Inv X pins σ H s' → RelV v u → Q u s') : wpAny (model X.prog X.w) A (getAttr (.ref a) f b) Q E s := by
  obtain ⟨mA, O, r, _, _, _⟩ := ins_get I.hok e
  obtain ⟨u, hu, ru⟩ := RelO.some_of (v := v) (o := mA f) (by rw [← l]; exact r f)
  exact get_map I.kIn O (c.get f) c.hd n hu (handed_of ru) (h u _ (I.tok _) ru)

theorem getmeth_ok {m : Str} {g : Addr} {pl : Sem Bool} {Q : Value × List Value → Shared → Prop} (I : Inv X pins σ H s) (e : H a = some (.ins C dx fs)) (c : Cls X.K C) (k : Meth X.K C m g) (l : fs.lookup m = none)
    (h : Q (.ref g, [.ref a]) s) : wpAny (model X.prog X.w) A (getMethod (.ref a) m pl) Q E s := by
  obtain ⟨mA, O, r, _, _, _⟩ := ins_get I.hok e
  have hn : mA m = none := RelO.none_of (by rw [← l]; exact r m)
  exact get_meth I.kIn O (c.get m) k.at_ k.fn hn h

theorem setattr_ok {y : V} {u : Value} {Q : Unit → Shared → Prop} (I : Inv X pins σ H s) (e : H a = some (.ins C dx fs)) (c : Cls X.K C) (n : NoAttr X.K C f) (hl : fs.length < 1000) (ry : RelV y u)
    (h : ∀ s', Inv X pins σ (upd H a (.ins C dx (putF f y fs))) s' → Q () s') : wpAny (model X.prog X.w) A (setAttr (.ref a) f u) Q E s := by
  obtain ⟨mA, O, r, wi, _, ho⟩ := ins_get I.hok e
  have hz : (fs.map (·.1)).length ≤ sizeLine := by rw [List.length_map, sizeLine_eq]; omega
  refine set_map I.kIn O c.sa c.po n.taker c.hd wi hz fun h' O' sb => h _ ?_
  have hd : ∃ o, h'.get? dx = some o := let ⟨o, _, _, e', _⟩ := O'.ns; ⟨o, e'⟩
  refine I.write (x := a) (e := dx) (by rw [e]; exact True.intro) (.inr ho) (fun b q hb z => (sb.2 b hb).trans z) hd ?_
  refine ⟨by rw [upd_ne O.ne]; exact ho, ?_, O.ne, O'.obj, _, O'.ns, fun g => ?_, fun g hg => ?_⟩
  · have := length_putF f y fs; omega
  · show RelO ((putF f y fs).lookup g) (if g = f then some u else mA g)
    rw [lookup_putF]
    by_cases q : g = f
    · rw [if_pos q, if_pos q]; exact ry
    · rw [if_neg q, if_neg q]; exact r g
  · by_cases q : g = f
    · rw [q]; exact (keys_putF f y fs).1
    · refine (keys_putF f y fs).2 g (wi g fun z => hg ?_)
      show (if g = f then some u else mA g) = none
      rw [if_neg q]; exact z

/-- a new instance, tracked, without attributes -/
theorem Inv.made (I : Inv X pins σ H s) : Inv X pins σ (upd (upd H s.heap.objs.size (.own (s.heap.objs.size + 1))) (s.heap.objs.size + 1) (.ins C s.heap.objs.size []))
    { s with heap := (s.heap.push PySem.W.emptyDict).push (PySem.W.instObj C s.heap.objs.size) } := by
  have e1 : (s.heap.push PySem.W.emptyDict).get? s.heap.objs.size = some PySem.W.emptyDict := Heap.get?_push_size s.heap rfl
  have e2 : ((s.heap.push PySem.W.emptyDict).push (PySem.W.instObj C s.heap.objs.size)).get? (s.heap.objs.size + 1) = some (PySem.W.instObj C s.heap.objs.size) := by
    have := Heap.get?_push_size (s.heap.push PySem.W.emptyDict) (o := PySem.W.instObj C s.heap.objs.size) rfl
    rwa [Heap.size_push] at this
  have e3 : (s.heap.push PySem.W.emptyDict).Ns s.heap.objs.size (fun _ => none) := ⟨PySem.W.emptyDict, #[], _, e1, rfl, (fun e he => absurd he (by simp)), fun _ => rfl⟩
  have I1 := I.laid (a := s.heap.objs.size) (o := .own (s.heap.objs.size + 1)) (h' := s.heap.push PySem.W.emptyDict) (t' := s.toks) (fun b u q => Heap.get?_push_of_some _ q) (Nat.le_refl _) ⟨_, e1⟩
  refine I1.laid (a := s.heap.objs.size + 1) (o := .ins C s.heap.objs.size []) (t' := s.toks) (fun b u q => Heap.get?_push_of_some _ q) (Nat.le_of_eq (Heap.size_push _ _)) ?_
  have ne : s.heap.objs.size ≠ s.heap.objs.size + 1 := Nat.ne_of_lt (Nat.lt_succ_self _)
  refine ⟨by rw [upd_ne ne, upd_same], Nat.zero_le _, ne, e2, fun _ => none, (Heap.Ns1.of_empty e3).at fun o q => Heap.get?_push_of_some _ q, fun _ => True.intro, fun y hy => absurd rfl hy⟩

/-- e.f where nothing but the object is asked: through attributeBase (super) and the last hold -/
theorem attr_of {prog : Program} {w : World} {env : Env} {e : Expr} {f : Str} {pos : Pos} {s : Shared} {Q : Value → Shared → Prop} (hb : attributeBase e f env (eval e env) = eval e env)
    (h : wpAny (model prog w) A (eval e env) (fun o s₁ => wpAny (model prog w) A (getAttr o f true) Q E s₁) E s) : wpAny (model prog w) A (eval (.Attribute e f pos) env) Q E s :=
  Attribute_any_ h (by rw [arm_eval_Attribute, hb])
end

/-- e.f, an attribute of the instance -/
def tFld (K : PySem.W.Frag) (ta : TE) (f : Str) : TE := fun σ H Q => ta σ H fun x H1 => ∃ a C dx fs v, x = .ref a ∧ H1 a = some (.ins C dx fs) ∧ Cls K C ∧ NoAttr K C f ∧ fs.lookup f = some v ∧ Q v H1
/-- e.f = value -/
def sFld (K : PySem.W.Frag) (ta tv : TE) (f : Str) : TS := fun D σ H => tv σ H fun y H1 => ta σ H1 fun x H2 => ∃ a C dx fs, x = .ref a ∧ H2 a = some (.ins C dx fs) ∧ Cls K C ∧ NoAttr K C f ∧ fs.length < 1000 ∧
  D.nx σ (upd H2 a (.ins C dx (putF f y fs)))
/-- an augmented operator on two values -/
def InOp (X : Cx) (op : Operator) (rd : V → V → Hp → VK → Prop) : Prop :=
  ∀ (pins : List (Addr × Obj)) (s : Shared) (σ : St) (H : Hp) (x y : V) (u v : Value) (Q : VK), Inv X pins σ H s → RelV x u → RelV y v → rd x y H Q → wpAny (model X.prog X.w) X.A (inplaceOp op u v) (EP X pins σ Q) X.xe s
/-- e.f op= value -/
def sFldAug (K : PySem.W.Frag) (ta tv : TE) (rd : V → V → Hp → VK → Prop) (f : Str) : TS := fun D σ H => ta σ H fun x H1 => ∃ a C dx fs v, x = .ref a ∧ H1 a = some (.ins C dx fs) ∧ Cls K C ∧ NoAttr K C f ∧ fs.lookup f = some v ∧
  tv σ H1 fun y H2 => rd v y H2 fun z H3 => ∃ dx' fs', H3 a = some (.ins C dx' fs') ∧ fs'.length < 1000 ∧ D.nx σ (upd H3 a (.ins C dx' (putF f z fs')))

section
variable {X : Cx} {o e value : Expr} {f : Str} {pos pos' tpos : Pos} {ta tv : TE}
theorem pe_fld (he : PE X e ta) (hb : attributeBase e f X.env (eval e X.env) = eval e X.env) : PE X (.Attribute e f pos) (tFld X.K ta f) := by
  intro pins s σ H Q I h
  refine attr_of hb (thn (he pins s σ H _ I h) fun u s1 ⟨x, H1, I1, rx, a, C, dx, fs, v, ex, ea, c, n, l, q⟩ => ?_)
  subst ex
  obtain rfl : u = Value.ref a := rx
  exact getattr_ok I1 ea c n l fun u' s2 I2 ru => ⟨v, H1, I2, ru, q⟩
theorem ps_fld (ha : PE X o ta) (hv : PE X value tv) (hs : swapsWith value (some (.Attribute o f pos')) pos.line X.env = pure false) : PS X (.Assign [.Attribute o f pos'] value pos) (sFld X.K ta tv f) := by
  intro pins s σ H D I h
  refine plainObj_wpAny_Assign_Attribute (thn (hv pins s σ H _ I h) fun u s1 ⟨y, H1, I1, ry, q⟩ => thn (ha pins s1 σ H1 _ I1 q) fun ov s2 ⟨x, H2, I2, rx, a, C, dx, fs, ex, ea, c, n, l, q2⟩ => ?_) hs
  subst ex
  obtain rfl : ov = Value.ref a := rx
  exact setattr_ok I2 ea c n l ry fun s3 I3 => ⟨σ, _, I3, q2⟩
theorem ps_fldaug {op : Operator} {rd : V → V → Hp → VK → Prop} (ha : PE X o ta) (hv : PE X value tv) (hop : InOp X op rd) : PS X (.AugAssign (.Attribute o f tpos) op value pos) (sFldAug X.K ta tv rd f) := by
  intro pins s σ H D I h
  refine wpAny_AugAssign_AttributeAny (thn (ha pins s σ H _ I h) fun ov s1 ⟨x, H1, I1, rx, a, C, dx, fs, v, ex, ea, c, n, l, q⟩ => ?_)
  subst ex
  obtain rfl : ov = Value.ref a := rx
  refine getattr_ok I1 ea c n l fun u s2 I2 ru => thn (hv pins s2 σ H1 _ I2 q) fun w3 s3 ⟨y, H2, I3, ry, q3⟩ => thn (hop pins s3 σ H2 v y u w3 _ I3 ru ry q3) fun w4 s4 ⟨z, H3, I4, rz, dx', fs', ea', l', q4⟩ => ?_
  exact setattr_ok I4 ea' c n l' rz fun s5 I5 => ⟨σ, _, I5, q4⟩
def rAdd : V → V → Hp → VK → Prop := fun x y H Q => ∃ i j, x = .int i ∧ y = .int j ∧ Q (.int (i + j)) H
theorem in_add : InOp X .Add rAdd := by
  rintro pins s σ H x y u v Q I rx ry ⟨i, j, rfl, rfl, q⟩
  obtain ⟨t, rfl⟩ := (show ∃ t, u = Value.int i t from rx)
  obtain ⟨t', rfl⟩ := (show ∃ t', v = Value.int j t' from ry)
  exact PyProof.Rows.iadd_int ⟨.int (i + j), H, I.tok _, ⟨_, rfl⟩, q⟩
end

section
variable {X : Cx} {pins : List (Addr × Obj)} {σ : St} {H : Hp} {s : Shared} {A : Around} {E : Value → Shared → Prop} {Q : Value → Shared → Prop} {c : Value} {b : Bool}
/-- the type of a value, as the fragment's deciders take it; for an instance its class -/
inductive TyOf (K : PySem.W.Frag) (H : Hp) : V → Value → Prop where
  | non : TyOf K H .non (.type "NoneType")
  | bl (x : Bool) : TyOf K H (.bl x) (.type "bool")
  | int (i : Int) : TyOf K H (.int i) (.type "int")
  | str (x : Str) : TyOf K H (.str x) (.type "str")
  | flt (x : UInt64) : TyOf K H (.flt x) (.type "float")
  | lst {a : Addr} {xs : List V} (e : H a = some (.lst xs)) : TyOf K H (.ref a) (.type "list")
  | frz {a : Addr} {o : Obj} {xs : List V} (e : H a = some (.frz o (.lst xs))) : TyOf K H (.ref a) (.type "list")
  | tup {a : Addr} {xs : List V} (e : H a = some (.tup xs)) : TyOf K H (.ref a) (.type "tuple")
  | dK {a : Addr} {kvs : List (Key × V)} (e : H a = some (.dK kvs)) : TyOf K H (.ref a) (.type "dict")
  | dT {a : Addr} {kvs : List (List Key × V)} (e : H a = some (.dT kvs)) : TyOf K H (.ref a) (.type "dict")
  | ins {a C dx : Addr} {fs : List (Str × V)} (e : H a = some (.ins C dx fs)) (cl : Cls K C) (ha : PySem.W.findIn K (.ref C) "__class__" = some (some (.builtin "object.__class__")))
      (hn : PySem.W.specialIn K (.builtin "object.__class__") "__get__" = some (some (.builtin "getset_descriptor.__get__"))) (htk : PySem.W.takesIn K (.builtin "object.__class__") = some true)
      (hm : PySem.W.mroIn K C (.type "object") = some true) : TyOf K H (.ref a) (.ref C)
/-- isinstance(x, c) for one class c, a built-in or an own one: kitOne's answer -/
theorem isinst_ok {x : V} {u t : Value} (I : Inv X pins σ H s) (rx : RelV x u) (ty : TyOf X.K H x t) (e : PySem.W.kitOne X.K t c = some b) (h : ∀ tk, Q (.bool b) { s with toks := tk }) :
    wpAny (model X.prog X.w) A (call (.builtin "isinstance") [u, c]) Q E s := by
  cases ty with
  | non => cases (show u = Value.none from rx); exact PySem.W.kia_one PySem.W.kitx_none I.kIn True.intro e (fun z => nomatch z) h
  | bl y => cases (show u = Value.bool y from rx); exact PySem.W.kia_one PySem.W.kitx_bool I.kIn True.intro e (fun z => nomatch z) h
  | int i => obtain ⟨t, q⟩ := (show ∃ t, u = Value.int i t from rx); cases q; exact PySem.W.kia_one PySem.W.kitx_int I.kIn True.intro e (fun z => nomatch z) h
  | str y => obtain ⟨t, q⟩ := (show ∃ t, u = Value.str y t from rx); cases q; exact PySem.W.kia_one PySem.W.kitx_str I.kIn True.intro e (fun z => nomatch z) h
  | flt y => obtain ⟨t, q⟩ := (show ∃ t, u = Value.float y t from rx); cases q; exact PySem.W.kia_one PySem.W.kitx_float I.kIn True.intro e (fun z => nomatch z) h
  | @lst a xs ea =>
    cases (show u = Value.ref a from rx)
    obtain ⟨_, _, n, _, h1⟩ := (show ObjOk X.prog X.w H s.heap a (.lst xs) from I.hok a _ ea)
    exact PySem.W.kia_one PySem.W.kitx_list I.kIn ⟨_, h1, rfl⟩ e (fun z => nomatch z) h
  | @frz a ob xs ea =>
    cases (show u = Value.ref a from rx)
    obtain ⟨_, _, _, n, _, h1⟩ := (show ObjOk X.prog X.w H s.heap a (.frz ob (.lst xs)) from I.hok a _ ea)
    exact PySem.W.kia_one PySem.W.kitx_list I.kIn ⟨_, h1, rfl⟩ e (fun z => nomatch z) h
  | @tup a xs ea =>
    cases (show u = Value.ref a from rx)
    obtain ⟨_, _, _, p⟩ := (show ObjOk X.prog X.w H s.heap a (.tup xs) from I.hok a _ ea)
    obtain ⟨o, h1, h2, _⟩ := p
    exact PySem.W.kia_one PySem.W.kitx_tuple I.kIn ⟨o, h1, h2⟩ e (fun z => nomatch z) h
  | @dK a kvs ea =>
    cases (show u = Value.ref a from rx)
    obtain ⟨_, _, vs, _, p⟩ := (show ObjOk X.prog X.w H s.heap a (.dK kvs) from I.hok a _ ea)
    obtain ⟨o, es, ep, h1, h2, _⟩ := p
    exact PySem.W.kia_one PySem.W.kitx_dict I.kIn ⟨o, h1, h2.1⟩ e (fun z => nomatch z) h
  | @dT a kvs ea =>
    cases (show u = Value.ref a from rx)
    obtain ⟨_, _, xs, _, o, es, ep, h1, h2, _⟩ := (show ObjOk X.prog X.w H s.heap a (.dT kvs) from I.hok a _ ea)
    exact PySem.W.kia_one PySem.W.kitx_dict I.kIn ⟨o, h1, h2.1⟩ e (fun z => nomatch z) h
  | @ins a C dx fs ea cl ha hn htk hm =>
    cases (show u = Value.ref a from rx)
    obtain ⟨mA, O, _⟩ := ins_get I.hok ea
    obtain ⟨od, J, _⟩ := O.look
    exact PySem.W.kia_one (PySem.W.kitx_own (cl.get _) cl.hd ha hn htk hm) I.kIn J e (fun z => nomatch z) h
end
end L2

namespace L2
open PySem PySem.Spec PyProof.Rows

structure Room (k : Nat) (A : Around) : Prop where
  hd : A.handled = none
  dp : A.depth + 3 * k + 5 < recursionLimit
  un : A.units + 16 * k + 200 < cLine
theorem Room.mono {j k : Nat} {A : Around} (r : Room k A) (h : j ≤ k) : Room j A := ⟨r.hd, by have := r.dp; omega, by have := r.un; omega⟩
theorem Room.deeper {k : Nat} {A : Around} (r : Room (k + 1) A) (env : Env) : Room k (A.deeper env) :=
  ⟨r.hd, by have := r.dp; show A.depth + 1 + 3 * k + 5 < _; omega, by have := r.un; show A.units + 3 + 16 * k + 200 < _; omega⟩
theorem make_depth {A : Around} {C : Addr} {us : List Value} {kw : List (Str × Value)} : (A.under (.builtin "type.__call__" ⟨.ref C :: us, kw⟩)).depth = A.depth + 1 := by
  first | rfl | simp [Around.under, Code.weight, Code.isCreation, Code.isGuard, Code.isCaller, Code.frames, Code.isFrame, guardIds]
theorem make_units {A : Around} {C : Addr} {us : List Value} {kw : List (Str × Value)} : (A.under (.builtin "type.__call__" ⟨.ref C :: us, kw⟩)).units = A.units + 1 := by
  first | rfl | simp [Around.under, Code.cUnits, Code.frames, Code.isFrame]
theorem Room.make {k : Nat} {A : Around} (r : Room (k + 1) A) (C : Addr) (us : List Value) (kw : List (Str × Value)) : Room k (A.under (.builtin "type.__call__" ⟨.ref C :: us, kw⟩)) :=
  ⟨r.hd, by have := r.dp; rw [make_depth]; omega, by have := r.un; rw [make_units]; omega⟩
theorem Room.depth {k : Nat} {A : Around} (r : Room k A) : A.depth < recursionLimit := by have := r.dp; omega
theorem Room.units {k : Nat} {A : Around} (r : Room k A) : A.units + 64 < cLine := by have := r.un; omega
def tNil : TA := fun _ H Q => Q [] H
def tCons (ta : TE) (tr : TA) : TA := fun σ H Q => ta σ H fun x H1 => tr σ H1 fun xs H2 => Q (x :: xs) H2
section
variable {X : Cx} {e : Expr} {es : List Expr} {te : TE} {t : TA} {pos : Pos}
theorem pa_nil : PA X [] tNil := fun _ _ _ _ H Q I h => Calls.spliced_nil ⟨[], H, I, .nil, h⟩
theorem pa_cons (ha : PE X e te) (hr : PA X es t) (hs : starEach (e :: es) X.env = (false, eval e X.env) :: starEach es X.env := by rfl) : PA X (e :: es) (tCons te t) := by
  intro pos pins s σ H Q I h
  rw [hs]
  show wpAny _ _ (spliced ((false, eval e X.env) :: backTo pos (starEach es X.env))) _ _ s
  refine Calls.spliced_cons (thn (ha pins s σ H _ I h) fun u s1 ⟨x, H1, I1, r1, q1⟩ => ?_)
  exact thn (hr pos pins s1 σ H1 _ I1 q1) fun us s2 ⟨xs, H2, I2, r2, q2⟩ => ⟨x :: xs, H2, I2, .cons r1 r2, q2⟩

/-- a tuple, a list of written items -/
def tTup (t : TA) : TE := fun σ H Q => t σ H fun xs H1 => xs.length ≤ sizeLine ∧ ∀ p, H1 p = none → Q (.ref p) (upd H1 p (.tup xs))
def tLst (t : TA) : TE := fun σ H Q => t σ H fun xs H1 => xs.length ≤ sizeLine ∧ ∀ p, H1 p = none → Q (.ref p) (upd H1 p (.lst xs))
theorem pe_tup {x1} (h : PA X es t) : PE X (.Tuple es x1 pos) (tTup t) := by
  intro pins s σ H Q I hq
  refine wpAny_Tuple_spliced (thn (h pos pins s σ H _ I hq) fun us s1 ⟨xs, H1, I1, r, z, q⟩ => ⟨by rw [← r.length]; exact z, ?_⟩)
  have hf : H1 s1.heap.objs.size = none := I1.hok.fresh (Nat.le_refl _)
  refine ⟨.ref s1.heap.objs.size, upd H1 s1.heap.objs.size (.tup xs), I1.laid (t' := s1.toks) (fun b u e => Heap.get?_push_of_some _ e) (Nat.le_refl _) ?_, rfl, q _ hf⟩
  exact ⟨z, us, r, ⟨_, Heap.get?_push_size _ rfl, rfl, _, rfl⟩⟩
theorem pe_lst (h : PA X es t) : PE X (.List es pos) (tLst t) := by
  intro pins s σ H Q I hq
  refine wpAny_List_spliced (thn (h pos pins s σ H _ I hq) fun us s1 ⟨xs, H1, I1, r, z, q⟩ => ⟨by rw [← r.length]; exact z, ?_⟩)
  have hf : H1 s1.heap.objs.size = none := I1.hok.fresh (Nat.le_refl _)
  refine ⟨.ref s1.heap.objs.size, upd H1 s1.heap.objs.size (.lst xs), I1.laid (t' := s1.toks) (fun b u e => Heap.get?_push_of_some _ e) (Nat.le_refl _) ?_, rfl, q _ hf⟩
  exact ⟨z, us, 0, r, Heap.get?_push_size _ rfl⟩
end

/-- a def's promise: the bound arguments in the parameters' order, the heap, the wanted end, the wanted exception -/
abbrev Sp := List V → Hp → VK → XK → Prop
/-- how an exception lies behind a call (file 08 gives it): the callers' frames, abstract heap and state ahead of the call, the wish, the exception, the state -/
abbrev CXT := List Env → Hp → Shared → XK → Value → Shared → Prop

/-- the state at a call -/
structure Env0 (P : Program) (w : World) (K : PySem.W.Frag) (mg : Str → Option Value) (base : Heap) (A : Around) (outer : List Env) (s : Shared) (H : Hp) : Prop where
  frames : A.frames = some outer
  mod : Mod K mg base
  bs : ∀ b o, base.get? b = some o → s.heap.get? b = some o ∧ H b = none
  bsz : base.objs.size ≤ s.heap.objs.size
  funs : s.heap.FunFrames base outer
  frf : ∀ b ∈ frs outer, H b = none
  hok : HOk P w H s.heap
  bare : AllBare s.gens
/-- a call's end -/
def CE (outer : List Env) (P : Program) (w : World) (H : Hp) (s : Shared) (Q : VK) (u : Value) (s' : Shared) : Prop :=
  ∃ v H', s'.os = s.os ∧ AllBare s'.gens ∧ Un (frs outer) [] H H' s.heap s'.heap ∧ HOk P w H' s'.heap ∧ RelV v u ∧ Q v H'
def CR (CX : CXT) (outer : List Env) (P : Program) (w : World) (H : Hp) (s : Shared) (Q : VK) (E : XK) (r : Result) (s' : Shared) : Prop :=
  match r with
  | .ok (.ret u) => CE outer P w H s Q u s'
  | .ok _ => False
  | .error e => CX outer H s E e s'
structure FnOk (P : Program) (w : World) (K : PySem.W.Frag) (mg : Str → Option Value) (base : Heap) (CX : CXT) (k : Nat) (f : Addr) (fd : FuncData) (ps : List Str) (sp : Sp) : Prop where
  len : ∀ vs H Q E, sp vs H Q E → vs.length = ps.length
  run : ∀ (A : Around) (outer : List Env) (s : Shared) (H : Hp) (args : Args) (us : List Value) (vs : List V) (Q : VK) (E : XK), Room k A → Env0 P w K mg base A outer s H → BindsTo s fd args (ps.zip us) → Vals vs us → sp vs H Q E →
    codeAny (model P w) A (.call (.ref f) args) (CR CX outer P w H s Q E) s
theorem Env0.make {P : Program} {w : World} {K : PySem.W.Frag} {mg : Str → Option Value} {base : Heap} {A : Around} {outer : List Env} {s : Shared} {H : Hp} (e : Env0 P w K mg base A outer s H) (C : Addr) (us : List Value) (kw : List (Str × Value)) :
    Env0 P w K mg base (A.under (.builtin "type.__call__" ⟨.ref C :: us, kw⟩)) outer s H := ⟨by first | exact e.frames | (simpa [Around.under, Code.envs, Code.isFrame, pushEnvs] using e.frames), e.mod, e.bs, e.bsz, e.funs, e.frf, e.hok, e.bare⟩
section
variable {X : Cx} {pins : List (Addr × Obj)} {σ : St} {H : Hp} {s s' : Shared}
/-- from a body: what a callee wants -/
theorem Inv.env0 (I : Inv X pins σ H s) : Env0 X.prog X.w X.K X.mg X.base X.A X.stack s H :=
  ⟨I.ok.frames, I.ok.mod, I.bs, Nat.le_trans I.ok.bsz I.sz, I.stack, I.stkFree, I.hok, I.bare⟩
/-- behind a call -/
theorem Inv.after {Q : VK} {u : Value} (I : Inv X pins σ H s) (h : CE X.stack X.prog X.w H s Q u s') : EP X pins σ Q u s' := by
  obtain ⟨v, H', os, bare, un, hok, r, q⟩ := h
  obtain ⟨hh, g, d, t, os'⟩ := s'
  obtain rfl : os' = s.os := os
  exact ⟨v, H', I.call (h' := hh) (g' := g) (d' := d) (t' := t) (ch := []) un hok bare (fun b z => absurd z (by simp)), r, q⟩
end

/-- f(..): the written arguments, then the defaults dvs; E: what is wanted of an exception -/
def tCall (sp : Sp) (dvs : List V) (E : XK) (t : TA) : TE := fun σ H Q => t σ H fun vs H1 => sp (vs ++ dvs) H1 Q E
/-- o.m(..) of an instance of the class at C -/
def tMeth (C : Addr) (m : Str) (sp : Sp) (dvs : List V) (E : XK) (ta : TE) (t : TA) : TE := fun σ H Q => ta σ H fun x H1 => ∃ a dx fs, x = .ref a ∧ H1 a = some (.ins C dx fs) ∧ fs.lookup m = none ∧
  t σ H1 fun vs H2 => sp (x :: (vs ++ dvs)) H2 Q E
/-- C(..): a new instance and its dict, then __init__ -/
def tMake (C : Addr) (sp : Sp) (dvs : List V) (E : XK) (t : TA) : TE := fun σ H Q => t σ H fun vs H1 => ∀ x dx, H1 x = none → H1 dx = none → dx ≠ x →
  sp (.ref x :: (vs ++ dvs)) (upd (upd H1 dx (.own x)) x (.ins C dx [])) (fun v H2 => v = .non ∧ Q (.ref x) H2) E

/-- how the parameters are bound: us the positional arguments, kw the keywords' values by name, ds the defaults that fill up -/
def Binds (K : PySem.W.Frag) (fd : FuncData) (ps : List Str) (ds : List Value) : Prop :=
  ∀ (s : Shared) (us : List Value), K.In s.heap → (us ++ ds).length = ps.length → BindsTo s fd ⟨us, []⟩ (ps.zip (us ++ ds))
/-- every parameter is given -/
theorem Binds.all {K : PySem.W.Frag} {fd : FuncData} {ps : List Str} (h : ∀ us : List Value, us.length = ps.length → bindArgs fd ⟨us, []⟩ = pure (ps.zip us)) : Binds K fd ps [] := fun s us _ hl => by
  rw [List.append_nil] at hl ⊢
  exact .of_eq (h us hl)

/-- an exception of a callee reaches what this body wants of exceptions -/
def Passes (CX : CXT) (X : Cx) (E : XK) : Prop := ∀ (pins : List (Addr × Obj)) (σ : St) (H : Hp) (s : Shared) (e : Value) (s' : Shared), Inv X pins σ H s → CX X.stack H s E e s' → X.xe e s'

section
variable {X : Cx} {CX : CXT} {k : Nat} {f C : Addr} {fd : FuncData} {ps : List Str} {sp : Sp} {dvs : List V} {ds : List Value} {E : XK} {x m : Str} {p pos apos : Pos} {e o : Expr} {es : List Expr} {ta : TE} {t : TA}

/-- the callee runs -/
theorem run_fn {pins : List (Addr × Obj)} {σ : St} {H : Hp} {s : Shared} {Q : VK} {us : List Value} {vs : List V} (F : FnOk X.prog X.w X.K X.mg X.base CX k f fd ps sp) (hr : Room k X.A) (hb : Binds X.K fd ps ds) (hd : Vals dvs ds) (hx : Passes CX X E)
    (I : Inv X pins σ H s) (r : Vals vs us) (h : sp (vs ++ dvs) H Q E) : wpAny (model X.prog X.w) X.A (call (.ref f) us) (EP X pins σ Q) X.xe s := by
  have r2 : Vals (vs ++ dvs) (us ++ ds) := r.append hd
  have hl : (us ++ ds).length = ps.length := by rw [← r2.length]; exact F.len _ _ _ _ h
  refine wpAny_call (codeAny_mono (F.run X.A X.stack s H ⟨us, []⟩ (us ++ ds) (vs ++ dvs) Q E hr I.env0 (hb s us I.kIn hl) r2 h) fun r s' hq => ?_)
  cases r with
  | error e => exact hx pins σ H s e s' I hq
  | ok fl =>
    cases fl with
    | ret u => exact I.after hq
    | next => exact False.elim hq
    | brk => exact False.elim hq
    | cont => exact False.elim hq

theorem pe_call (F : FnOk X.prog X.w X.K X.mg X.base CX k f fd ps sp) (hr : Room k X.A) (hg : Gl X x) (hm : X.mg x = some (.ref f)) (hk : PySem.W.keepIn X.K (.ref f) = true) (hb : Binds X.K fd ps ds) (hd : Vals dvs ds) (hx : Passes CX X E)
    (ha : PA X (e :: es) t) (hdb : (x == ("__debug__" : Str)) = false := by decide) (he : starEach (e :: es) X.env = (false, eval e X.env) :: starEach es X.env := by rfl) (hpl : (backTo pos (starEach es X.env)).any (·.1) = false := by rfl) :
    PE X (.Call (.Name x p) (e :: es) [] pos) (tCall sp dvs E t) := by
  intro pins s σ H Q I h
  refine wpAny_Call_Name_kw (ld_glob I hg hm ?_ hdb)
  refine PySem.W.callWith_K (h₀ := X.base) I.ok.mod.kin hk (thn (ha pos pins s σ H _ I h) fun us s1 ⟨vs, H1, I1, r, q⟩ => ⟨I1.kIn, ?_⟩) he hpl
  exact run_fn F hr hb hd hx I1 r q
theorem pe_call0 (F : FnOk X.prog X.w X.K X.mg X.base CX k f fd ps sp) (hr : Room k X.A) (hg : Gl X x) (hm : X.mg x = some (.ref f)) (hk : PySem.W.keepIn X.K (.ref f) = true) (hb : Binds X.K fd ps ds) (hd : Vals dvs ds) (hx : Passes CX X E)
    (hdb : (x == ("__debug__" : Str)) = false := by decide) : PE X (.Call (.Name x p) [] [] pos) (tCall sp dvs E tNil) := by
  intro pins s σ H Q I h
  refine wpAny_Call_Name_kw (ld_glob I hg hm ?_ hdb)
  exact PySem.W.callWith_K0 I.kIn hk (run_fn (us := []) F hr hb hd hx I .nil h)

/-- o.m(e, ..) -/
theorem pe_meth {pl : Sem Bool} (he : PE X o ta) (c : Cls X.K C) (hm : Meth X.K C m f) (F : FnOk X.prog X.w X.K X.mg X.base CX k f fd ps sp) (hr : Room k X.A) (hb : Binds X.K fd ps ds) (hd : Vals dvs ds) (hx : Passes CX X E) (ha : PA X (e :: es) t)
    (hst : starEach (e :: es) X.env = (false, eval e X.env) :: starEach es X.env := by rfl) (hpl : (backTo pos (starEach es X.env)).any (·.1) = false := by rfl)
    (ht : eval (.Call (.Attribute o m apos) (e :: es) [] pos) X.env = (do
      let ov ← eval o X.env
      standAt apos.atName
      let (f, first) ← holding [ov] (getMethod ov m pl)
      callWith pos f first (backTo pos (starEach (e :: es) X.env)) (backToKw pos (keywordEach [] X.env))) := by rfl) :
    PE X (.Call (.Attribute o m apos) (e :: es) [] pos) (tMeth C m sp dvs E ta t) := by
  intro pins s σ H Q I h
  refine PySem.W.methodCall_KW (pl := pl) (thn (he pins s σ H _ I h) fun u s1 ⟨x, H1, I1, rx, a, dx, fs, ex, ea, l, q⟩ => ?_) ht
  subst ex
  obtain rfl : u = Value.ref a := rx
  refine getmeth_ok I1 ea c hm l ?_
  refine PySem.W.callWith_K (first := [.ref a]) (h₀ := X.base) I.ok.mod.kin hm.kp (thn (ha pos pins s1 σ H1 _ I1 q) fun us s2 ⟨vs, H2, I2, r, q2⟩ => ⟨I2.kIn, ?_⟩) hst hpl
  exact run_fn (us := .ref a :: us) (vs := .ref a :: vs) F hr hb hd hx I2 (.cons rfl r) q2
/-- o.m() -/
theorem pe_meth0 {pl : Sem Bool} (he : PE X o ta) (c : Cls X.K C) (hm : Meth X.K C m f) (F : FnOk X.prog X.w X.K X.mg X.base CX k f fd ps sp) (hr : Room k X.A) (hb : Binds X.K fd ps ds) (hd : Vals dvs ds) (hx : Passes CX X E)
    (ht : eval (.Call (.Attribute o m apos) [] [] pos) X.env = (do
      let ov ← eval o X.env
      standAt apos.atName
      let (f, first) ← holding [ov] (getMethod ov m pl)
      callWith pos f first (backTo pos (starEach [] X.env)) (backToKw pos (keywordEach [] X.env))) := by rfl) :
    PE X (.Call (.Attribute o m apos) [] [] pos) (tMeth C m sp dvs E ta tNil) := by
  intro pins s σ H Q I h
  refine PySem.W.methodCall_KW (pl := pl) (thn (he pins s σ H _ I h) fun u s1 ⟨x, H1, I1, rx, a, dx, fs, ex, ea, l, q⟩ => ?_) ht
  subst ex
  obtain rfl : u = Value.ref a := rx
  refine getmeth_ok I1 ea c hm l ?_
  exact PySem.W.callWith_K0 (first := [.ref a]) I1.kIn hm.kp (run_fn (us := [.ref a]) (vs := [.ref a]) F hr hb hd hx I1 (.cons rfl .nil) q)

/-- what a class must have to be made -/
structure Mk (K : PySem.W.Frag) (C f : Addr) : Prop where
  makes : PySem.W.makesIn K C = true
  init : PySem.W.findIn K (.ref C) "__init__" = some (some (.ref f))
  fn : PySem.W.isFn K (.ref f) = true
  kp : PySem.W.keepIn K (.ref C) = true

theorem run_make {pins : List (Addr × Obj)} {σ : St} {H : Hp} {s : Shared} {Q : VK} {us : List Value} {vs : List V} (M : Mk X.K C f) (F : FnOk X.prog X.w X.K X.mg X.base CX k f fd ps sp) (hr : Room (k + 1) X.A) (hb : Binds X.K fd ps ds) (hd : Vals dvs ds)
    (hx : Passes CX X E) (I : Inv X pins σ H s) (r : Vals vs us)
    (h : ∀ x dx, H x = none → H dx = none → dx ≠ x → sp (.ref x :: (vs ++ dvs)) (upd (upd H dx (.own x)) x (.ins C dx [])) (fun v H2 => v = .non ∧ Q (.ref x) H2) E) :
    wpAny (model X.prog X.w) X.A (call (.ref C) us) (EP X pins σ Q) X.xe s := by
  have hq := h (s.heap.objs.size + 1) s.heap.objs.size (I.hok.fresh (Nat.le_succ _)) (I.hok.fresh (Nat.le_refl _)) (Nat.ne_of_lt (Nat.lt_succ_self _))
  have I2 := Inv.made (C := C) I
  have r2 : Vals (V.ref (s.heap.objs.size + 1) :: (vs ++ dvs)) (Value.ref (s.heap.objs.size + 1) :: (us ++ ds)) := .cons rfl (r.append hd)
  have hl : (Value.ref (s.heap.objs.size + 1) :: us ++ ds).length = ps.length := by
    have e := r2.length
    rw [F.len _ _ _ _ hq] at e
    exact e.symm
  refine wpAny_call (make_map (f := f) I.kIn M.makes M.init (beq_iff_eq.mp M.fn) (codeAny_mono (F.run _ X.stack _ _ ⟨Value.ref (s.heap.objs.size + 1) :: us, []⟩ (Value.ref (s.heap.objs.size + 1) :: (us ++ ds)) _ _ E (hr.make C us [])
    (I2.env0.make C us []) (hb _ (Value.ref (s.heap.objs.size + 1) :: us) I2.kIn hl) r2 hq) fun r s' hq' => ?_))
  cases r with
  | error e => exact hx pins σ _ _ e s' I2 hq'
  | ok fl =>
    cases fl with
    | ret u =>
      obtain ⟨v, H', I3, rv, ev, q3⟩ := I2.after hq'
      subst ev
      exact ⟨rv, ⟨V.ref (s.heap.objs.size + 1), H', I3, rfl, q3⟩⟩
    | next => exact False.elim hq'
    | brk => exact False.elim hq'
    | cont => exact False.elim hq'
theorem pe_make (M : Mk X.K C f) (F : FnOk X.prog X.w X.K X.mg X.base CX k f fd ps sp) (hr : Room (k + 1) X.A) (hg : Gl X x) (hm : X.mg x = some (.ref C)) (hb : Binds X.K fd ps ds) (hd : Vals dvs ds) (hx : Passes CX X E)
    (ha : PA X (e :: es) t) (hdb : (x == ("__debug__" : Str)) = false := by decide) (he : starEach (e :: es) X.env = (false, eval e X.env) :: starEach es X.env := by rfl) (hpl : (backTo pos (starEach es X.env)).any (·.1) = false := by rfl) :
    PE X (.Call (.Name x p) (e :: es) [] pos) (tMake C sp dvs E t) := by
  intro pins s σ H Q I h
  refine wpAny_Call_Name_kw (ld_glob I hg hm ?_ hdb)
  refine PySem.W.callWith_K (h₀ := X.base) I.ok.mod.kin M.kp (thn (ha pos pins s σ H _ I h) fun us s1 ⟨vs, H1, I1, r, q⟩ => ⟨I1.kIn, ?_⟩) he hpl
  exact run_make M F hr hb hd hx I1 r q
end

section
variable {X : Cx} {CX : CXT} {k : Nat} {f C : Addr} {fd : FuncData} {ps ks : List Str} {sp : Sp} {E : XK} {x m : Str} {p pos apos kpos : Pos} {e o : Expr} {es : List Expr} {kws : List Keyword} {te ta : TE} {t tk : TA} {nm : Option Str}
variable {g : List Value → List Value → List Value} {gV : List V → List V → List V}
end

/-- names: the parameters first -/
structure FnScope (N P : List Str) (sc : Scope) : Prop where
  kind : sc.kind = .function
  co : sc.isCoroutine = false
  gen : sc.isGenerator = false
  nd : N.Nodup
  pre : N.take P.length = P
  par : ∀ x ∈ P, sc.names.lookup x = some .local ∨ sc.names.lookup x = some .cell
  nofree : ∀ y ∈ sc.names, y.2 ≠ .free

theorem bindL_out {kindOf : Str → Option NameKind} {x : Str} : ∀ {binds : List (Str × Value)} {m : Str → Option Value}, (∀ v, (x, v) ∉ binds) → bindL kindOf binds m x = m x
  | [], _, _ => rfl
  | (n, v) :: r, m, h => by
    unfold bindL
    rw [bindL_out fun w hw => h w (List.mem_cons_of_mem _ hw)]
    split
    · have : x ≠ n := by rintro rfl; exact h v List.mem_cons_self
      simp [this]
    · rfl
theorem bindC_out {kindOf : Str → Option NameKind} {x : Str} : ∀ {binds : List (Str × Value)} {m : Str → Option Value}, (∀ v, (x, v) ∉ binds) → bindC kindOf binds m x = m x
  | [], _, _ => rfl
  | (n, v) :: r, m, h => by
    unfold bindC
    rw [bindC_out fun w hw => h w (List.mem_cons_of_mem _ hw)]
    split
    · rfl
    · have : x ≠ n := by rintro rfl; exact h v List.mem_cons_self
      simp [this]
theorem bindL_get {kindOf : Str → Option NameKind} {x : Str} {v : Value} : ∀ {P : List Str} {vs : List Value} {i : Nat} {m : Str → Option Value}, P.Nodup → P[i]? = some x → vs[i]? = some v → kindOf x = some .local →
    bindL kindOf (P.zip vs) m x = some v
  | [], _, _, _, _, h, _, _ => by simp at h
  | _ :: _, [], _, _, _, _, h, _ => by simp at h
  | p :: P, w :: vs, 0, m, nd, h1, h2, hk => by
    simp at h1 h2; subst h1; subst h2
    show bindL kindOf ((p, w) :: P.zip vs) m p = _
    unfold bindL
    rw [bindL_out fun v hv => (List.nodup_cons.mp nd).1 (List.of_mem_zip hv).1, if_pos hk]
    simp
  | p :: P, w :: vs, i + 1, m, nd, h1, h2, hk => by
    show bindL kindOf ((p, w) :: P.zip vs) m x = _
    unfold bindL
    exact bindL_get (i := i) (List.nodup_cons.mp nd).2 (by simpa using h1) (by simpa using h2) hk
theorem bindC_get {kindOf : Str → Option NameKind} {x : Str} {v : Value} : ∀ {P : List Str} {vs : List Value} {i : Nat} {m : Str → Option Value}, P.Nodup → P[i]? = some x → vs[i]? = some v → kindOf x ≠ some .local →
    bindC kindOf (P.zip vs) m x = some v
  | [], _, _, _, _, h, _, _ => by simp at h
  | _ :: _, [], _, _, _, _, h, _ => by simp at h
  | p :: P, w :: vs, 0, m, nd, h1, h2, hk => by
    simp at h1 h2; subst h1; subst h2
    show bindC kindOf ((p, w) :: P.zip vs) m p = _
    unfold bindC
    rw [bindC_out fun v hv => (List.nodup_cons.mp nd).1 (List.of_mem_zip hv).1, if_neg hk]
    simp
  | p :: P, w :: vs, i + 1, m, nd, h1, h2, hk => by
    show bindC kindOf ((p, w) :: P.zip vs) m x = _
    unfold bindC
    exact bindC_get (i := i) (List.nodup_cons.mp nd).2 (by simpa using h1) (by simpa using h2) hk

/-- the names' values at the entry -/
def start (N : List Str) (vs : List V) : St := vs.map some ++ List.replicate (N.length - vs.length) none

/-- the context of a def's body, at its entry; an exception leaves the frame, then lies as CX says -/
def cxOf (CX : CXT) (P : Program) (w : World) (K : PySem.W.Frag) (mg : Str → Option Value) (base : Heap) (N : List Str) (qual : Str) (scope : Scope) (f : Addr) (cd : Value) (A : Around) (outer : List Env) (s : Shared) (H : Hp) (E : XK) : Cx where
  prog := P
  w := w
  K := K
  mg := mg
  base := base
  A := A.deeper (envOfC qual scope s.heap.objs.size f cd)
  N := N
  s₀ := s
  H₀ := H
  env := envOfC qual scope s.heap.objs.size f cd
  outer := outer
  stack := envOfC qual scope s.heap.objs.size f cd :: outer
  ex := []
  calm := true
  fn := fun _ => true
  pn := []
  xe := fun e s' => wpAny (model P w) (A.deeper (envOfC qual scope s.heap.objs.size f cd)) (leaving (envOfC qual scope s.heap.objs.size f cd) e) (fun _ s'' => CX outer H s E e s'') (fun e' s'' => CX outer H s E e' s'') s'

theorem cell_has {sc : Scope} {n : Nat} {x : Str} (h : sc.names.lookup x = some .cell) : ∃ c, (cellsFrom n sc.names []).lookup x = some c := by
  have q := PySem.W.cellsFrom_some sc.names n [] (.inl h)
  exact Option.isSome_iff_exists.mp q

theorem inv_start {CX : CXT} {P : Program} {w : World} {K : PySem.W.Frag} {mg : Str → Option Value} {base : Heap} {N ps : List Str} {qual : Str} {scope : Scope} {f : Addr} {cd : Value} {A : Around} {outer : List Env} {s s1 : Shared} {H : Hp} {E : XK} {us : List Value} {vs : List V}
    (S : FnScope N ps scope) (hd : A.handled = none) (e0 : Env0 P w K mg base A outer s H) (hl : vs.length = ps.length) (r : Vals vs us)
    (x : InCallC s s.heap.objs.size (bindL (envOfC qual scope s.heap.objs.size f cd).kindOf (ps.zip us) fun _ => none) (cellsFrom (s.heap.objs.size + 1) scope.names []) (bindC (envOfC qual scope s.heap.objs.size f cd).kindOf (ps.zip us) fun _ => none) s1) :
    Inv (cxOf CX P w K mg base N qual scope f cd A outer s H E) [] (start N vs) H s1 := by
  have hpl : ps.length ≤ N.length := by have := congrArg List.length S.pre; rw [List.length_take] at this; omega
  obtain ⟨h1, tk, rfl, hk⟩ := x.done
  have noA : ∀ b : Addr, b ∉ (cxOf CX P w K mg base N qual scope f cd A outer s H E).ex := fun b z => absurd (show b ∈ ([] : List Addr) from z) (by simp)
  refine ⟨⟨e0.mod, S.kind, rfl, rfl, Nat.le_refl _, fun y z c h1 h2 => ?_, fun y hy => ?_, fun y c _ h => ?_, fun _ => hd, Around.frames_deeper e0.frames, .inr ⟨rfl, rfl⟩, fun b z => absurd z (noA b), e0.bs, e0.bsz, fun b _ _ => noA b, fun b z => absurd z (noA b), e0.funs, e0.frf⟩,
    rfl, e0.bare, Un.kept hk, ⟨_, x.toInCall.ns, fun i y v h1 h2 h3 => ?_⟩, fun y c h => ⟨_, x.cell y c h⟩, e0.hok.fresh (Nat.le_refl _), fun y c h => ?_, fun p hp => absurd (show p ∈ ([] : List (Addr × Obj)) from hp) (by simp), e0.hok.kept hk, ?_⟩
  · exact name_of_addr x.apart (PySem.mem_of_lookup h1) (PySem.mem_of_lookup h2)
  · have hy : scope.names.lookup y = some .cell ∨ scope.names.lookup y = some .free := hy
    rcases hy with hy | hy
    · exact cell_has hy
    · exact absurd rfl (S.nofree _ (PySem.mem_of_lookup hy))
  · exact Nat.le_of_lt (x.above y c (PySem.mem_of_lookup h))
  · have hi : i < vs.length := by
      unfold start at h2
      by_cases hi : i < vs.length
      · exact hi
      · rw [List.getElem?_append_right (by simpa using hi)] at h2
        rw [List.getElem?_replicate] at h2
        split at h2 <;> cases h2
    have ha : vs[i]? = some v := by
      unfold start at h2
      rw [List.getElem?_append_left (by simpa using hi), List.getElem?_map] at h2
      cases e : vs[i]? with
      | none => rw [e] at h2; cases h2
      | some a => rw [e] at h2; cases h2; rfl
    obtain ⟨u, hu, rv⟩ := r.get ha
    have hp : ps[i]? = some y := by
      rw [← S.pre, List.getElem?_take_of_lt (by omega)]; exact h1
    have ndP : ps.Nodup := by rw [← S.pre]; exact S.nd.sublist (List.take_sublist _ _)
    refine ⟨u, rv, ?_⟩
    rcases S.par y (List.mem_of_getElem? hp) with k | k
    · exact .inl ⟨k, bindL_get ndP hp hu k⟩
    · obtain ⟨c, e⟩ := cell_has (n := s.heap.objs.size + 1) k
      refine .inr ⟨.inl k, c, e, ?_⟩
      have q := x.cell y c e
      rw [bindC_get ndP hp hu (by show scope.names.lookup y ≠ _; rw [k]; decide)] at q
      exact q
  · exact e0.hok.fresh (Nat.le_of_lt (x.above y c (PySem.mem_of_lookup h)))
  · unfold start
    show _ = N.length
    rw [List.length_append, List.length_map, List.length_replicate]
    omega

/-- THE RULE: a def (or a method) of the text, by its body. The body's reading t is chosen for each entry; it is run at the parameters' values -/
theorem fn_of {CX : CXT} {P : Program} {w : World} {K : PySem.W.Frag} {mg : Str → Option Value} {base : Heap} {k : Nat} {f : Addr} {name qual : Str} {params : Arguments} {body : List Stmt} {scope : Scope} {dV kV doc pm cdv ct oc : Value} {an od : Option Addr}
    {osl : Array (Option Value)} {N ps : List Str} {sp : Sp} (lk : K.lookup f = some ⟨oc, od, .func (PySem.W.fnOf name qual params body scope dV kV doc pm an cdv ct), osl⟩) (hcd : PySem.W.codeIn K cdv qual = true) (S : FnScope N ps scope)
    (len : ∀ vs H Q E, sp vs H Q E → vs.length = ps.length)
    (hbody : ∀ (A : Around) (outer : List Env) (s : Shared) (H : Hp) (vs : List V) (Q : VK) (E : XK), Room k (A.deeper (envOfC qual scope s.heap.objs.size f cdv)) → sp vs H Q E →
      ∃ t, PSs (cxOf CX P w K mg base N qual scope f cdv A outer s H E) body t ∧ t { nx := fun _ H' => Q .non H', rt := Q } (start N vs) H) :
    FnOk P w K mg base CX (k + 1) f (PySem.W.fnOf name qual params body scope dV kV doc pm an cdv ct) ps sp := by
  refine ⟨len, fun A outer s H args us vs Q E hr e0 hb r hsp => ?_⟩
  have hl := len _ _ _ _ hsp
  have KX : K.In s.heap := e0.mod.kin.keeps fun b o e => (e0.bs b o e).1
  have lim : s.heap.NoLimit := e0.mod.nolimit.keeps fun b o e => (e0.bs b o e).1
  have hkind : ∀ y ∈ ps.zip us, scope.names.lookup y.1 = some .local ∨ (scope.names.lookup y.1 = some .cell ∧ ((cellsFrom (s.heap.objs.size + 1) scope.names []).lookup y.1).isSome = true) := fun ⟨n, v⟩ hy => by
    rcases S.par n (List.of_mem_zip hy).1 with q | q
    · exact .inl q
    · exact .inr ⟨q, PySem.W.cellsFrom_some _ _ _ (.inl q)⟩
  refine codeAny_call_function hr.depth (KX _ _ lk) rfl S.co S.gen rfl (PySem.W.codeRec_of KX hcd) (hb _ _ _ _ ?_)
  refine wpAny_newFunctionEnv_cells S.kind hkind fun env he s1 x => ?_
  subst he
  refine ⟨lim.keeps x.toInCall.keep, codeAny_func ?_⟩
  obtain ⟨t, ht, hq⟩ := hbody A outer s H vs Q E (hr.deeper _) hsp
  have I : Inv (cxOf CX P w K mg base N qual scope f cdv A outer s H E) [] (start N vs) H s1 := inv_start S hr.hd e0 hl r x
  refine wpAny_mono (ht [] s1 (start N vs) H _ I hq) (fun fl s' hs => ?_) fun e s' hs => hs
  have fin : ∀ {σ' : St} {H' : Hp} {v : V} {u : Value}, Inv (cxOf CX P w K mg base N qual scope f cdv A outer s H E) [] σ' H' s' → RelV v u → Q v H' → CE outer P w H s Q u s' :=
    fun {σ' H' v u} J rv q => ⟨v, H', J.os, J.bare, J.base, J.hok, rv, q⟩
  cases fl with
  | ret u =>
    obtain ⟨v, σ', H', J, rv, q⟩ := hs
    exact fin J rv q
  | next =>
    obtain ⟨σ', H', J, q⟩ := hs
    exact fin (v := V.non) (u := Value.none) J rfl q
  | brk =>
    obtain ⟨_, _, _, q⟩ := hs
    exact False.elim q
  | cont =>
    obtain ⟨_, _, _, q⟩ := hs
    exact False.elim q
end L2

namespace L2
open PySem PySem.Spec PyProof.Rows
section
variable {X : Cx} {x : Str} {p pos : Pos} {e : Expr} {es : List Expr} {t : TA} {id T : String} {r : List V → Hp → VK → Prop}

def tCB (r : List V → Hp → VK → Prop) (t : TA) : TE := fun σ H Q => t σ H fun vs H1 => r vs H1 Q
/-- f(e, ..), f a built-in function -/
theorem pe_callB (hc : CallR X (.builtin id) r) (hg : Gl X x) (hm : X.mg x = none) (hv : bootBuiltins x = some (.builtin id)) (ha : PA X (e :: es) t) (hn : x ≠ "__name__" := by decide) (hdb : (x == ("__debug__" : Str)) = false := by decide)
    (he : starEach (e :: es) X.env = (false, eval e X.env) :: starEach es X.env := by rfl) (hpl : (backTo pos (starEach es X.env)).any (·.1) = false := by rfl) : PE X (.Call (.Name x p) (e :: es) [] pos) (tCB r t) := by
  intro pins s σ H Q I h
  refine wpAny_Call_Name_kw (ld_blt I hg hm hv ?_ hn hdb)
  exact PyProof.Rows.callWith_builtin1 (thn (ha pos pins s σ H _ I h) fun us s1 ⟨vs, H1, I1, r1, q1⟩ => hc pins s1 σ H1 vs us Q I1 r1 q1) he hpl
/-- T(e, ..), T a built-in type -/
theorem pe_callTy (hc : CallR X (.type T) r) (hg : Gl X x) (hm : X.mg x = none) (hv : bootBuiltins x = some (.type T)) (ha : PA X (e :: es) t) (hn : x ≠ "__name__" := by decide) (hdb : (x == ("__debug__" : Str)) = false := by decide)
    (he : starEach (e :: es) X.env = (false, eval e X.env) :: starEach es X.env := by rfl) (hpl : (backTo pos (starEach es X.env)).any (·.1) = false := by rfl) : PE X (.Call (.Name x p) (e :: es) [] pos) (tCB r t) := by
  intro pins s σ H Q I h
  refine wpAny_Call_Name_kw (ld_blt I hg hm hv ?_ hn hdb)
  exact PyProof.Rows.callWith_type1 (thn (ha pos pins s σ H _ I h) fun us s1 ⟨vs, H1, I1, r1, q1⟩ => hc pins s1 σ H1 vs us Q I1 r1 q1) he hpl
end
end L2

namespace HT
open PySem PyProof.Rows

section
open PySem.SeqAt
open PySem.AutoSeq1 (wpAny_loadPart')
open PySem.MeetsSeq PySem.MeetsSeq2 PySem.MeetsSeq3

end

section
variable {prog : Program} {w : World} {A : Around} {E : Value → Shared → Prop} {s : Shared}

/-- a slice's bound as a place among n (d where it is left out) -/
def sIx (n d : Nat) : Option Int → Nat
  | none => d
  | some v => if v < 0 then (v + (n : Int)).toNat else min v.toNat n
theorem sIx_none (n d : Nat) : sIx n d none = d := rfl
theorem sIx_nat (n d k : Nat) : sIx n d (some (k : Int)) = min k n := by
  show (if (k : Int) < 0 then ((k : Int) + (n : Int)).toNat else min (k : Int).toNat n) = min k n
  rw [if_neg (by omega), Int.toNat_natCast]
end
end HT

namespace L2
open PySem PySem.Spec PyProof.Rows

abbrev TO := St → Hp → (Option Int → Hp → Prop) → Prop
/-- a slice's part (left out, or an int) -/
def PO (X : Cx) (e : Option Expr) (t : TO) : Prop :=
  ∀ (pins : List (Addr × Obj)) (s : Shared) (σ : St) (H : Hp) (Q : Option Int → Hp → Prop), Inv X pins σ H s → t σ H Q →
    wpAny (model X.prog X.w) X.A (evalPart e X.env) (fun u s' => ∃ o H', Inv X pins σ H' s' ∧ IsPart u o ∧ Q o H') X.xe s
def tNoPart : TO := fun _ H Q => Q none H
def tPart (t : TE) : TO := fun σ H Q => t σ H fun x H1 => ∃ i, x = .int i ∧ Q (some i) H1

section
variable {X : Cx} {e : Expr} {te : TE} {lo hi : Option Expr} {tl th : TO} {pos p2 : Pos}

theorem po_none : PO X none tNoPart := by
  intro pins s σ H Q I h
  rw [evalPart_none]
  exact wpAny_pure ⟨none, H, I, .none, h⟩
theorem po_some (h : PE X e te) : PO X (some e) (tPart te) := by
  intro pins s σ H Q I hw
  rw [evalPart_some]
  refine thn (h pins s σ H _ I hw) fun u s1 ⟨x, H1, I1, r1, q1⟩ => ?_
  obtain ⟨i, rfl, q⟩ := q1
  obtain ⟨t, rfl⟩ := r1
  exact ⟨some i, H1, I1, .int i t, q⟩

/-- what a slice of a value is, by values: the slice object stands at sl -/
def SlR (X : Cx) (r : V → Option Int → Option Int → Hp → VK → Prop) : Prop :=
  ∀ (pins : List (Addr × Obj)) (s : Shared) (σ : St) (H : Hp) (x : V) (v vl vu : Value) (lo hi : Option Int) (sl : Addr) (Q : VK), Inv X pins σ H s → RelV x v → s.heap.IsSliceOf sl vl vu .none → IsPart vl lo → IsPart vu hi → r x lo hi H Q →
    ∃ T id, typeLookup (.type T) "__getitem__" = pure (some (.builtin id)) ∧ s.TypeIs v T ∧ wpAny (model X.prog X.w) X.A (getItem v (.ref sl)) (EP X pins σ Q) X.xe s
def tSl (r : V → Option Int → Option Int → Hp → VK → Prop) (te : TE) (tl th : TO) : TE := fun σ H Q => te σ H fun x H1 => tl σ H1 fun l H2 => th σ H2 fun u H3 => r x l u H3 Q
/-- a[lo:hi], any a -/
theorem pe_slice {r : V → Option Int → Option Int → Hp → VK → Prop} (hr : SlR X r) (he : PE X e te) (hl : PO X lo tl) (hu : PO X hi th) : PE X (.Subscript e (.Slice lo hi none p2) pos) (tSl r te tl th) := by
  intro pins s σ H Q I h
  refine Subscript_ (thn (he pins s σ H _ I h) fun v s1 ⟨x, H1, I1, r1, q1⟩ => ?_)
  refine wpAny_Slice (thn (hl pins s1 σ H1 _ I1 q1) fun vl s2 ⟨l, H2, I2, pl, q2⟩ => thn (hu pins s2 σ H2 _ I2 q2) fun vu s3 ⟨u, H3, I3, pu, q3⟩ => ?_)
  rw [evalPart_none]
  refine wpAny_pure ?_
  have I4 : Inv X pins σ H3 { s3 with heap := s3.heap.push { cls := .type "slice", data := .fields #[vl, vu, .none] } } := I3.kept (t' := s3.toks) fun b ob q => Heap.get?_push_of_some _ q
  obtain ⟨T, id, hT, ht, hg⟩ := hr pins { s3 with heap := s3.heap.push { cls := .type "slice", data := .fields #[vl, vu, .none] } } σ H3 x v vl vu l u s3.heap.objs.size Q I4 r1 (Heap.IsSliceOf.new ..) pl pu q3
  show wpAny (model X.prog X.w) X.A (subscriptTail e (.Slice lo hi none p2) v (.ref s3.heap.objs.size)) (EP X pins σ Q) X.xe { s3 with heap := s3.heap.push { cls := .type "slice", data := .fields #[vl, vu, .none] } }
  exact tail_any (ops := [.ref s3.heap.objs.size, v]) ht hT hg (by with_unfolding_all rfl)

/-- the items of xs[lo:hi] -/
def cutV (xs : List V) (lo hi : Option Int) : List V := (xs.drop (HT.sIx xs.length 0 lo)).take (HT.sIx xs.length xs.length hi - HT.sIx xs.length 0 lo)
theorem cutV_length (xs : List V) (lo hi : Option Int) : (cutV xs lo hi).length ≤ xs.length := by
  unfold cutV
  rw [List.length_take, List.length_drop]
  omega
end
end L2

namespace L2
open PySem PySem.Spec PyProof.Rows

/-- the place that an index of any sign means -/
def ixN (n : Nat) (i : Int) : Option Nat := if 0 ≤ i then (if i < n then some i.toNat else none) else if -(n : Int) ≤ i then some (i + n).toNat else none
def atI {α : Type} (xs : List α) (i : Int) : Option α := (ixN xs.length i).bind fun j => xs[j]?
theorem ixN_seq {n : Nat} {i : Int} {j : Nat} (h : ixN n i = some j) : seqIndex? i n = some j ∧ j < n ∧ -(n : Int) ≤ i ∧ i < n := by
  unfold ixN at h
  by_cases h0 : 0 ≤ i
  · rw [if_pos h0] at h
    by_cases h1 : i < n
    · rw [if_pos h1] at h
      have e : i.toNat = j := Option.some.inj h
      exact ⟨by rw [seqIndex_of h0 h1, e], by omega, by omega, h1⟩
    · rw [if_neg h1] at h; cases h
  · rw [if_neg h0] at h
    by_cases h1 : -(n : Int) ≤ i
    · rw [if_pos h1] at h
      have e : (i + n).toNat = j := Option.some.inj h
      exact ⟨by rw [seqIndex_neg (by omega) h1, e], by omega, h1, by omega⟩
    · rw [if_neg h1] at h; cases h
theorem atI_get {α : Type} {xs : List α} {i : Int} {v : α} (h : atI xs i = some v) : ∃ j, seqIndex? i xs.length = some j ∧ xs[j]? = some v ∧ j < xs.length ∧ -(xs.length : Int) ≤ i ∧ i < xs.length := by
  unfold atI at h
  cases e : ixN xs.length i with
  | none => rw [e] at h; cases h
  | some j =>
    rw [e] at h
    obtain ⟨h1, h2, h3, h4⟩ := ixN_seq e
    exact ⟨j, h1, h, h2, h3, h4⟩
theorem atI_nat {α : Type} {xs : List α} {j : Nat} {v : α} (h : xs[j]? = some v) : atI xs (j : Int) = some v := by
  have hj : j < xs.length := (List.getElem?_eq_some_iff.mp h).1
  have e : ixN xs.length (j : Int) = some j := by
    unfold ixN
    rw [if_pos (by omega), if_pos (by omega)]; simp
  unfold atI; rw [e]; exact h
/-- what stands as an index of a plain subscript -/
def PlainIx (b : Expr) : Prop := ∀ o i, subscripted b false o i = operate [o, i] (getItem o i)
/-- a subscript by values -/
def IxR (X : Cx) (r : R2) : Prop :=
  ∀ (value slice : Expr) (pins : List (Addr × Obj)) (s : Shared) (σ : St) (H : Hp) (x y : V) (v u : Value) (Q : VK), Inv X pins σ H s → RelV x v → RelV y u → r x y H Q →
    subscripted slice false v u = operate [v, u] (getItem v u) → wpAny (model X.prog X.w) X.A (subscriptTail value slice v u) (EP X pins σ Q) X.xe s
/-- a call of a builtin's method by values: the receiver, the arguments -/
def MtR (X : Cx) (id : String) (r : V → List V → Hp → VK → Prop) : Prop :=
  ∀ (pins : List (Addr × Obj)) (s : Shared) (σ : St) (H : Hp) (x : V) (xs : List V) (v : Value) (us : List Value) (Q : VK), Inv X pins σ H s → RelV x v → Vals xs us → r x xs H Q →
    wpAny (model X.prog X.w) X.A (call (.builtin id) (v :: us)) (EP X pins σ Q) X.xe s
section
variable {X : Cx} {a b : Expr} {ta tb : TE} {pos : Pos}
/-- a[b] -/
theorem pe_ix {r : R2} (hr : IxR X r) (ha : PE X a ta) (hb : PE X b tb) (hs : PlainIx b) : PE X (.Subscript a b pos) (tOp r ta tb) := by
  intro pins s σ H Q I h
  exact Subscript_ (binT ha hb I h fun v u s2 x y H2 I2 rx ry q => hr a b pins s2 σ H2 x y v u Q I2 rx ry q (hs _ _))

def rIxL (K : PySem.W.Frag) : R2 := fun x y H Q => ∃ p xs i v, x = .ref p ∧ y = .int i ∧ SqL K H p xs ∧ atI xs i = some v ∧ Q v H
def rIxT (K : PySem.W.Frag) : R2 := fun x y H Q => ∃ p xs i v, x = .ref p ∧ y = .int i ∧ SqT K H p xs ∧ atI xs i = some v ∧ Q v H
def rIxS : R2 := fun x y H Q => ∃ z i c, x = .str z ∧ y = .int i ∧ z.length ≤ sizeLine ∧ atI z.cps.toList i = some c ∧ Q (.str ⟨#[c]⟩) H
theorem ix_list : IxR X (rIxL X.K) := by
  intro value slice pins s σ H x y v u Q I rx ry h hs
  obtain ⟨p, xs, i, z, rfl, rfl, hq, he, q⟩ := h
  cases rx
  obtain ⟨t, rfl⟩ := ry
  obtain ⟨its, r, pl, hz⟩ := I.list hq
  obtain ⟨j, h1, h2, h3, h4, h5⟩ := atI_get he
  obtain ⟨w, ew, rw'⟩ := r.get h2
  have hl := r.length
  have hn := line63
  have fin : EP X pins σ Q w s := ⟨z, H, I, rw', q⟩
  by_cases h0 : 0 ≤ i
  · have hj : i.toNat = j := by
      rw [seqIndex_of h0 h5] at h1
      exact Option.some.inj h1
    exact item_listR pl.isList h0 (by omega) (by rw [hj]; simpa using ew) fin hs
  · have hj : (i + (its.toArray.size : Int)).toNat = j := by
      rw [seqIndex_neg (by omega) h4] at h1
      rw [List.size_toArray, ← hl]
      exact Option.some.inj h1
    exact subscriptTail_builtinR (x := w) pl.isList.typeIs slot_list_getitem.lookup
      (wpAny_getItem_list_neg (Q := fun r s' => r = w ∧ EP X pins σ Q r s') pl.isList (by omega) (by rw [List.size_toArray] <;> omega) (by omega) (by rw [hj]; simpa using ew) ⟨rfl, fin⟩) hs
theorem ix_tup : IxR X (rIxT X.K) := by
  intro value slice pins s σ H x y v u Q I rx ry h hs
  obtain ⟨p, xs, i, z, rfl, rfl, hq, he, q⟩ := h
  cases rx
  obtain ⟨t, rfl⟩ := ry
  obtain ⟨its, r, pl, hz⟩ := I.tuple hq
  obtain ⟨j, h1, h2, h3, h4, h5⟩ := atI_get he
  obtain ⟨w, ew, rw'⟩ := r.get h2
  have hl := r.length
  have hn := line63
  have fin : EP X pins σ Q w s := ⟨z, H, I, rw', q⟩
  exact subscriptTail_builtinR (x := w) pl.typeIs slot_tuple_getitem.lookup
    (getItem_tuple (j := j) (Q := fun r s' => r = w ∧ EP X pins σ Q r s') pl (by omega) (by omega) (by rw [List.size_toArray, ← hl]; exact h1) (by simpa using ew) ⟨rfl, fin⟩) hs
theorem ix_str : IxR X rIxS := by
  intro value slice pins s σ H x y v u Q I rx ry h hs
  obtain ⟨z, i, c, rfl, rfl, hz, he, q⟩ := h
  obtain ⟨t, rfl⟩ := rx
  obtain ⟨t', rfl⟩ := ry
  obtain ⟨j, h1, h2, h3, h4, h5⟩ := atI_get he
  have hl : z.cps.toList.length = z.length := by simp [Str.length]
  rw [hl] at h1 h4 h5
  have hn := line63
  exact tail_any (typeIs_str s z t) slot_str_getitem.lookup (getItem_str (c := c) (by
    have e1 : decide (i < -(2 ^ 63 : Int)) = false := decide_eq_false (by omega)
    have e2 : decide (i ≥ 2 ^ 63) = false := decide_eq_false (by omega)
    rw [e1, e2, Bool.or_false]) (by rw [h1]; simpa using h2) ⟨.str ⟨#[c]⟩, H, I.tok _, ⟨_, rfl⟩, q⟩) hs
/-- the list's object behind a store -/
theorem mapSeq_set (its : List Value) (n j : Nat) (u : Value) : Obj.mapSeq (·.setIfInBounds j u) { cls := .type "list", data := .seq its.toArray n } = { cls := .type "list", data := .seq (its.set j u).toArray n } := by
  simp [Obj.mapSeq]
theorem Inv.lst {pins : List (Addr × Obj)} {σ : St} {H : Hp} {s : Shared} {p : Addr} {xs : List V} (I : Inv X pins σ H s) (h : H p = some (.lst xs)) :
    ∃ (its : List Value) (n : Nat), Vals xs its ∧ s.heap.get? p = some { cls := .type "list", data := .seq its.toArray n } ∧ xs.length ≤ sizeLine := by
  obtain ⟨z, its, n, r, e⟩ := I.hok p _ h
  exact ⟨its, n, r, e, z⟩
/-- the list at p is written by an update of its object -/
theorem Inv.lstUpd {pins : List (Addr × Obj)} {σ : St} {H : Hp} {s : Shared} {p : Addr} {xs ys : List V} {its its' : List Value} {n n' : Nat} {f : Obj → Obj} (I : Inv X pins σ H s) (h : H p = some (.lst xs))
    (ho : s.heap.get? p = some { cls := .type "list", data := .seq its.toArray n }) (hf : f { cls := .type "list", data := .seq its.toArray n } = { cls := .type "list", data := .seq its'.toArray n' }) (r : Vals ys its') (hz : ys.length ≤ sizeLine) (t : Nat) :
    Inv X pins σ (upd H p (.lst ys)) { s with heap := s.heap.update p f, toks := t } := by
  have e : (s.heap.update p f).get? p = some { cls := .type "list", data := .seq its'.toArray n' } := by
    rw [Heap.get?_update_self f ho (by rw [hf] <;> rfl), hf]
  refine I.write (x := p) (e := p) (by rw [h]; trivial) (.inl rfl) (fun b u hb q => (Heap.get?_update_other _ _ (Ne.symm hb)).trans q) ⟨_, e⟩ ?_
  exact ⟨hz, its', n', r, e⟩
def rSetL : V → V → V → Hp → (Hp → Prop) → Prop := fun o i v H Q => ∃ p xs k j, o = .ref p ∧ i = .int k ∧ H p = some (.lst xs) ∧ ixN xs.length k = some j ∧ Q (upd H p (.lst (xs.set j v)))
theorem set_list : PSet X rSetL := by
  intro pins s σ H o i v ov iv u Q I ro ri rv h
  obtain ⟨p, xs, k, j, rfl, rfl, hp, hj, q⟩ := h
  cases ro
  obtain ⟨t, rfl⟩ := ri
  obtain ⟨its, n, r, ho, hz⟩ := I.lst hp
  obtain ⟨h1, h2, h3, h4⟩ := ixN_seq hj
  have hl := r.length
  have hn := line63
  have I' : Inv X pins σ (upd H p (.lst (xs.set j v))) { s with heap := s.heap.update p (Obj.mapSeq (·.setIfInBounds j u)) } :=
    I.lstUpd hp ho (mapSeq_set its n j u) (r.set rv j) (by rw [List.length_set]; exact hz) s.toks
  by_cases h0 : 0 ≤ k
  · have hk : k.toNat = j := by
      rw [seqIndex_of h0 h4] at h1
      exact Option.some.inj h1
    exact PySem.W.ki_setAt ho h0 (by omega) (by rw [List.size_toArray, ← hl]; exact h4) (by rw [hk]; exact ⟨_, I', q⟩)
  · have hk : (k + (its.toArray.size : Int)).toNat = j := by
      rw [seqIndex_neg (by omega) h3] at h1
      rw [List.size_toArray, ← hl]
      exact Option.some.inj h1
    exact PySem.W.ki_setBack ho (by omega) (by rw [List.size_toArray, ← hl]; exact h3) (by omega) (by rw [hk]; exact ⟨_, I', q⟩)

theorem slice_bounds (lo hi : Option Int) (n : Nat) : (sliceBounds lo hi none n).1 = ((HT.sIx n 0 lo : Nat) : Int) ∧ (sliceBounds lo hi none n).2.1 = ((HT.sIx n n hi : Nat) : Int) ∧ (sliceBounds lo hi none n).2.2 = 1 := by
  refine ⟨?_, ?_, rfl⟩
  · cases lo with
    | none => simp [sliceBounds, HT.sIx]
    | some i =>
      simp only [sliceBounds, HT.sIx, Option.getD_none, show (1 : Int) > 0 by decide, if_true]
      by_cases h : i < 0
      · simp only [h, if_true] <;> omega
      · simp only [h, if_false] <;> omega
  · cases hi with
    | none => simp [sliceBounds, HT.sIx]
    | some i =>
      simp only [sliceBounds, HT.sIx, Option.getD_none, show (1 : Int) > 0 by decide, if_true]
      by_cases h : i < 0
      · simp only [h, if_true] <;> omega
      · simp only [h, if_false] <;> omega
theorem slicePick_cut (its : List Value) (lo hi : Option Int) : slicePick its.toArray lo hi none = ((its.drop (HT.sIx its.length 0 lo)).take (HT.sIx its.length its.length hi - HT.sIx its.length 0 lo)).toArray := by
  obtain ⟨h1, h2, h3⟩ := slice_bounds lo hi its.toArray.size
  unfold slicePick
  rw [h1, h2, h3]
  simp only [sliceRange_one, pick_run, List.size_toArray] <;> rfl
/-- xs[lo:hi] of a list: a new list -/
def rSlL (K : PySem.W.Frag) : V → Option Int → Option Int → Hp → VK → Prop := fun x lo hi H Q => ∃ a xs, x = .ref a ∧ SqL K H a xs ∧ ∀ p, H p = none → Q (.ref p) (upd H p (.lst (cutV xs lo hi)))
theorem sl_list : SlR X (rSlL X.K) := by
  intro pins s σ H x v vl vu lo hi sl Q I rx hs pl pu h
  obtain ⟨a, xs, rfl, hx, q⟩ := h
  cases rx
  obtain ⟨its, r, ht, hz⟩ := I.list hx
  have hlen := r.length
  refine ⟨"list", _, slot_list_getitem.lookup, ht.isList.typeIs, ?_⟩
  refine wpAny_getItem_list_slice ht.isList hs pl pu .none (by simp) ?_ (by rw [List.size_toArray] <;> omega)
  rw [slicePick_cut, ← hlen]
  refine ⟨.ref s.heap.objs.size, _, I.laid (t' := s.toks) (o := .lst (cutV xs lo hi)) (fun b ob q => Heap.get?_push_of_some _ q) (Nat.le_refl _) ?_, rfl, q _ (I.hok.fresh (Nat.le_refl _))⟩
  exact ⟨Nat.le_trans (cutV_length xs lo hi) hz, _, 0, (r.drop (HT.sIx xs.length 0 lo)).take (HT.sIx xs.length xs.length hi - HT.sIx xs.length 0 lo), Heap.get?_push_size _ rfl⟩

def flatV : V → Bool
  | .non => true
  | .bl _ => true
  | .int _ => true
  | .str _ => true
  | _ => false
/-- == of flat values -/
def eqV : V → V → Bool
  | .non, .non => true
  | .bl a, .bl b => a == b
  | .bl a, .int b => (if a then 1 else 0) == b
  | .int a, .bl b => a == (if b then 1 else 0)
  | .int a, .int b => a == b
  | .str a, .str b => a == b
  | _, _ => false
theorem eqAt_V {A : Around} {s : Shared} {y x : V} {u v : Value} (ry : RelV y u) (rx : RelV x v) (fy : flatV y = true) (fx : flatV x = true) : SeqAt.EqAt A s u v (eqV y x) := by
  cases y with
  | non =>
    cases ry
    cases x with
    | non => cases rx; exact SeqAt.EqAt.same _
    | bl b => cases rx; exact SeqAt.EqAt.none_bool b
    | int b => obtain ⟨t, rfl⟩ := rx; exact SeqAt.EqAt.none_int b t
    | str b => obtain ⟨t, rfl⟩ := rx; exact SeqAt.EqAt.none_str b t
    | _ => exact absurd (show false = true from fx) Bool.false_ne_true
  | bl a =>
    cases ry
    cases x with
    | non => cases rx; exact SeqAt.EqAt.bool_none a
    | bl b => cases rx; exact SeqAt.EqAt.bool_bool a b
    | int b => obtain ⟨t, rfl⟩ := rx; exact SeqAt.EqAt.bool_int a b t
    | str b => obtain ⟨t, rfl⟩ := rx; exact SeqAt.EqAt.bool_str a b t
    | _ => exact absurd (show false = true from fx) Bool.false_ne_true
  | int a =>
    obtain ⟨t', rfl⟩ := ry
    cases x with
    | non => cases rx; exact SeqAt.EqAt.int_none a t'
    | bl b => cases rx; exact SeqAt.EqAt.int_bool a t' b
    | int b => obtain ⟨t, rfl⟩ := rx; exact SeqAt.EqAt.int_int a t' b t
    | str b => obtain ⟨t, rfl⟩ := rx; exact SeqAt.EqAt.int_str a t' b t
    | _ => exact absurd (show false = true from fx) Bool.false_ne_true
  | str a =>
    obtain ⟨t', rfl⟩ := ry
    cases x with
    | non => cases rx; exact SeqAt.EqAt.str_none a t'
    | bl b => cases rx; exact SeqAt.EqAt.str_bool a t' b
    | int b => obtain ⟨t, rfl⟩ := rx; exact SeqAt.EqAt.str_int a t' b t
    | str b => obtain ⟨t, rfl⟩ := rx; exact SeqAt.EqAt.str_str a t' b t
    | _ => exact absurd (show false = true from fx) Bool.false_ne_true
  | _ => exact absurd (show false = true from fy) Bool.false_ne_true
/-- the items' answers, read off the values (a value's own answer does not lean on its token) -/
def eqU (x : V) (u : Value) : Bool := match u with
  | .none => eqV .non x
  | .bool b => eqV (.bl b) x
  | .int i _ => eqV (.int i) x
  | .str z _ => eqV (.str z) x
  | _ => false
theorem eqU_of {x y : V} {u : Value} (r : RelV y u) (f : flatV y = true) : eqU x u = eqV y x := by
  cases y with
  | non => cases r; rfl
  | bl b => cases r; rfl
  | int i => obtain ⟨t, rfl⟩ := r; rfl
  | str z => obtain ⟨t, rfl⟩ := r; rfl
  | _ => exact absurd (show false = true from f) Bool.false_ne_true
theorem any_eqU {x : V} : ∀ {xs : List V} {us : List Value}, Vals xs us → xs.all flatV = true → us.any (eqU x) = xs.any fun y => eqV y x
  | _, _, .nil, _ => rfl
  | y :: xs, u :: us, .cons r t, f => by
    rw [List.all_cons, Bool.and_eq_true] at f
    rw [List.any_cons, List.any_cons, eqU_of r f.1, any_eqU t f.2]
theorem mem_eqAt {A : Around} {s : Shared} {x : V} {v : Value} (rx : RelV x v) (fx : flatV x = true) : ∀ {xs : List V} {us : List Value}, Vals xs us → xs.all flatV = true → ∀ u ∈ us, SeqAt.EqAt A s u v (eqU x u)
  | _, _, .nil, _ => fun u hu => by cases hu
  | y :: xs, u :: us, .cons r t, f => fun u' hu => by
    rw [List.all_cons, Bool.and_eq_true] at f
    rcases List.mem_cons.mp hu with rfl | hu
    · rw [eqU_of r f.1]; exact eqAt_V r rx f.1 fx
    · exact mem_eqAt rx fx t f.2 u' hu
def inV (x : V) (xs : List V) : Bool := xs.any fun y => eqV y x
/-- x in a list or tuple of flat items -/
def rIn (K : PySem.W.Frag) (neg : Bool) : R2 := fun x y H Q => ∃ p xs, y = .ref p ∧ (SqL K H p xs ∨ SqT K H p xs) ∧ flatV x = true ∧ xs.all flatV = true ∧ Q (.bl (if neg then !inV x xs else inV x xs)) H
theorem op_in_seq : OpR X (compareOp .In) (rIn X.K false) := by
  intro pins s σ H x y v u Q I rx ry h
  obtain ⟨p, xs, rfl, hq, fx, fs, q⟩ := h
  cases ry
  rcases hq with hq | hq
  · obtain ⟨its, r, pl, hz⟩ := I.list hq
    refine SeqAt.in_listAt (eqU x) pl.isList (fun w hw => mem_eqAt rx fx r fs w (by simpa using hw)) ⟨.bl _, H, I, rfl, ?_⟩
    rw [show its.toArray.any (eqU x) = its.any (eqU x) by simp, any_eqU r fs]
    exact q
  · obtain ⟨its, r, pl, hz⟩ := I.tuple hq
    refine SeqAt.in_tupleAt (eqU x) pl (fun w hw => mem_eqAt rx fx r fs w (by simpa using hw)) ⟨.bl _, H, I, rfl, ?_⟩
    rw [show its.toArray.any (eqU x) = its.any (eqU x) by simp, any_eqU r fs]
    exact q
theorem op_notIn_seq : OpR X (compareOp .NotIn) (rIn X.K true) := by
  intro pins s σ H x y v u Q I rx ry h
  obtain ⟨p, xs, rfl, hq, fx, fs, q⟩ := h
  cases ry
  rcases hq with hq | hq
  · obtain ⟨its, r, pl, hz⟩ := I.list hq
    refine SeqAt.notIn_listAt (eqU x) pl.isList (fun w hw => mem_eqAt rx fx r fs w (by simpa using hw)) ⟨.bl _, H, I, rfl, ?_⟩
    rw [show its.toArray.any (eqU x) = its.any (eqU x) by simp, any_eqU r fs]
    exact q
  · obtain ⟨its, r, pl, hz⟩ := I.tuple hq
    refine SeqAt.notIn_tupleAt (eqU x) pl (fun w hw => mem_eqAt rx fx r fs w (by simpa using hw)) ⟨.bl _, H, I, rfl, ?_⟩
    rw [show its.toArray.any (eqU x) = its.any (eqU x) by simp, any_eqU r fs]
    exact q
theorem call_len_seq : CallR X (.builtin "len") (fun xs H Q => ∃ p ys, xs = [.ref p] ∧ (SqL X.K H p ys ∨ SqT X.K H p ys) ∧ Q (.int ys.length) H) := by
  intro pins s σ H xs us Q I r h
  obtain ⟨p, ys, rfl, hq, q⟩ := h
  obtain ⟨u, rfl, rx⟩ := vals1 r
  cases rx
  have hn := line63
  rcases hq with hq | hq
  · obtain ⟨its, r', pl, hz⟩ := I.list hq
    have hlen := r'.length
    exact Calls.call_len_list pl.isList (by simp only [List.size_toArray] <;> omega) ⟨.int ys.length, H, I.tok _, ⟨s.toks + 1, by rw [List.size_toArray, hlen]⟩, q⟩
  · obtain ⟨its, r', pl, hz⟩ := I.tuple hq
    have hlen := r'.length
    exact len_tuple pl (by simp only [List.size_toArray] <;> omega) ⟨.int ys.length, H, I.tok _, ⟨s.toks + 1, by rw [List.size_toArray, hlen]⟩, q⟩
theorem call_len_str : CallR X (.builtin "len") (fun xs H Q => ∃ z, xs = [.str z] ∧ z.length ≤ sizeLine ∧ Q (.int z.length) H) := by
  intro pins s σ H xs us Q I r h
  obtain ⟨z, rfl, hz, q⟩ := h
  obtain ⟨u, rfl, t, rfl⟩ := vals1 r
  have hn := line63
  exact len_str (by omega) ⟨.int z.length, H, I.tok _, ⟨_, rfl⟩, q⟩
theorem call_list_of : CallR X (.type "list") (fun xs H Q => ∃ p ys, xs = [.ref p] ∧ (SqL X.K H p ys ∨ SqT X.K H p ys) ∧ ∀ l, H l = none → Q (.ref l) (upd H l (.lst ys))) := by
  intro pins s σ H xs us Q I r h
  obtain ⟨p, ys, rfl, hq, q⟩ := h
  obtain ⟨u, rfl, rx⟩ := vals1 r
  cases rx
  have fin : ∀ (its : List Value), Vals ys its → ys.length ≤ sizeLine → ∀ (h' : Heap) (c' : Nat), (∀ b o', s.heap.get? b = some o' → h'.get? b = some o') →
      h'.get? s.heap.objs.size = some { cls := .type "list", dict := none, data := .seq its.toArray c', slots := #[] } → EP X pins σ Q (.ref s.heap.objs.size) { s with heap := h' } := fun its r' hz h' c' kp e =>
    ⟨.ref s.heap.objs.size, _, I.laid (t' := s.toks) kp (Nat.le_refl _) (show ObjOk X.prog X.w _ h' _ (.lst ys) from ⟨hz, its, c', r', e⟩), rfl, q _ (I.hok.fresh (Nat.le_refl _))⟩
  rcases hq with hq | hq
  · obtain ⟨its, r', pl, hz⟩ := I.list hq
    have hlen := r'.length
    obtain ⟨o, ho, hc, n, hd⟩ := pl.isList
    exact call_list_seq p (.inl rfl) ho hc hd (fun h' c' kp e => fin its r' hz h' c' kp e) (by simp only [List.size_toArray] <;> omega)
  · obtain ⟨its, r', pl, hz⟩ := I.tuple hq
    have hlen := r'.length
    obtain ⟨o, ho, hc, n, hd⟩ := pl
    exact call_list_seq p (.inr rfl) ho hc hd (fun h' c' kp e => fin its r' hz h' c' kp e) (by simp only [List.size_toArray] <;> omega)
theorem call_tuple_of : CallR X (.type "tuple") (fun xs H Q => ∃ p ys, xs = [.ref p] ∧ ((SqL X.K H p ys ∧ ∀ l, H l = none → Q (.ref l) (upd H l (.tup ys))) ∨ (SqT X.K H p ys ∧ Q (.ref p) H))) := by
  intro pins s σ H xs us Q I r h
  obtain ⟨p, ys, rfl, h⟩ := h
  obtain ⟨u, rfl, rx⟩ := vals1 r
  cases rx
  rcases h with ⟨hq, q⟩ | ⟨hq, q⟩
  · obtain ⟨its, r', pl, hz⟩ := I.list hq
    have hlen := r'.length
    refine call_tuple_list pl.isList (fun h' kp => ?_) (by simp only [List.size_toArray] <;> omega)
    have I1 : Inv X pins σ H { s with heap := h' } := I.kept (t' := s.toks) kp
    have I2 : Inv X pins σ (upd H h'.objs.size (.tup ys)) { s with heap := h'.push { cls := .type "tuple", data := .seq its.toArray } } :=
      I1.laid (t' := s.toks) (fun b o e => Heap.get?_push_of_some _ e) (Nat.le_refl _) (show ObjOk X.prog X.w _ _ _ (.tup ys) from ⟨hz, its, r', IsTup.new _ _⟩)
    exact ⟨.ref h'.objs.size, _, I2, rfl, q _ (I1.hok.fresh (Nat.le_refl _))⟩
  · obtain ⟨its, r', pl, hz⟩ := I.tuple hq
    exact call_tuple_same pl ⟨.ref p, H, I, rfl, q⟩

/-- the value is of that builtin type -/
def tyV (K : PySem.W.Frag) (T : String) (x : V) (H : Hp) : Prop := match x with
  | .str _ => T = "str"
  | .int _ => T = "int"
  | .ref p => (T = "list" ∧ ∃ xs, SqL K H p xs) ∨ (T = "tuple" ∧ ∃ o, K.lookup p = some o ∧ o.cls = .type "tuple" ∧ o.dict = none) ∨
      (T = "dict" ∧ ((∃ kvs, H p = some (.dK kvs)) ∨ ∃ kvs, H p = some (.dT kvs))) ∨ (T = "set" ∧ ∃ S n, H p = some (.set S n))
  | _ => False
theorem tyV_is {pins : List (Addr × Obj)} {σ : St} {H : Hp} {s : Shared} {T : String} {x : V} {v : Value} (I : Inv X pins σ H s) (r : RelV x v) (ty : tyV X.K T x H) :
    s.TypeIs v T ∧ ∀ a, v = .ref a → ∃ ob, s.heap.get? a = some ob ∧ ob.dict = none := by
  cases x with
  | str z =>
    obtain ⟨t, rfl⟩ := r
    cases (show T = "str" from ty)
    exact ⟨typeIs_str s z t, fun _ e => nomatch e⟩
  | int i =>
    obtain ⟨t, rfl⟩ := r
    cases (show T = "int" from ty)
    exact ⟨typeIs_int s i t, fun _ e => nomatch e⟩
  | ref p =>
    cases r
    rcases ty with ⟨rfl, xs, hq⟩ | ⟨rfl, o, hk, hc, hd⟩ | ⟨rfl, hk⟩ | ⟨rfl, S, n, hk⟩
    · obtain ⟨its, _, pl, _⟩ := I.list hq
      refine ⟨pl.isList.typeIs, fun a e => ?_⟩
      cases e
      obtain ⟨o, n, e, c, hd, _⟩ := pl
      exact ⟨o, e, hd⟩
    · refine ⟨⟨o, I.kIn p o hk, hc⟩, fun a e => ?_⟩
      cases e
      exact ⟨o, I.kIn _ o hk, hd⟩
    · have z : ∃ o, s.heap.get? p = some o ∧ o.ExactDict := by
        rcases hk with ⟨kvs, hk⟩ | ⟨kvs, hk⟩
        · obtain ⟨_, _, _, _, o, _, _, e, ex, _⟩ := I.hok p _ hk
          exact ⟨o, e, ex⟩
        · obtain ⟨_, _, _, _, o, _, _, e, ex, _⟩ := I.hok p _ hk
          exact ⟨o, e, ex⟩
      obtain ⟨o, e, ex⟩ := z
      refine ⟨⟨o, e, ex.1⟩, fun a e2 => ?_⟩
      cases e2
      exact ⟨o, e, ex.2.1⟩
    · obtain ⟨o, _, _, _, e, ex, _⟩ := I.hok p _ hk
      refine ⟨⟨o, e, ex.1⟩, fun a e2 => ?_⟩
      cases e2
      exact ⟨o, e, ex.2.1⟩
  | _ => exact False.elim ty
def tBM0 (K : PySem.W.Frag) (T : String) (r : V → List V → Hp → VK → Prop) (to : TE) : TE := fun σ H Q => to σ H fun x H1 => tyV K T x H1 ∧ r x [] H1 Q
def tBM (K : PySem.W.Frag) (T : String) (r : V → List V → Hp → VK → Prop) (to : TE) (t : TA) : TE := fun σ H Q => to σ H fun x H1 => tyV K T x H1 ∧ t σ H1 fun xs H2 => r x xs H2 Q
variable {o e : Expr} {es : List Expr} {to : TE} {t : TA} {name : Str} {apos cpos : Pos} {T id : String} {r : V → List V → Hp → VK → Prop}
theorem pe_bm0 (pa : PlainAttrs T) (slot : Slot T name id) (hty : typeOf (.builtin id) = pure (.type "method_descriptor")) (hm : MtR X id r) (ho : PE X o to)
    (hbase : attributeBase o name X.env (eval o X.env) = eval o X.env := by rfl) (hline : (apos.endLine == cpos.line) = true := by rfl) : PE X (.Call (.Attribute o name apos) [] [] cpos) (tBM0 X.K T r to) := by
  intro pins s σ H Q I h
  refine wpAny_Call_method0_late hbase hline (thn (ho pins s σ H _ I h) fun v s1 ⟨x, H1, I1, r1, ty, q1⟩ => ?_)
  obtain ⟨h1, h2⟩ := tyV_is I1 r1 ty
  exact ⟨T, id, pa, slot, hty, h1, h2, Calls.callWith_builtin rfl (PySem.evalArgs_none (hm pins s1 σ H1 x [] v [] Q I1 r1 .nil q1))⟩
theorem pe_bm (pa : PlainAttrs T) (slot : Slot T name id) (hty : typeOf (.builtin id) = pure (.type "method_descriptor")) (hm : MtR X id r) (ho : PE X o to) (ha : PA X (e :: es) t)
    (hbase : attributeBase o name X.env (eval o X.env) = eval o X.env := by rfl)
    (hfew : ((backTo cpos (starEach (e :: es) X.env)).all (fun x => !x.1) && (backToKw cpos (keywordEach [] X.env)).all (fun x => x.1.isSome)
      && decide ((e :: es).length + ([] : List Keyword).length + (if ([] : List Keyword).isEmpty then 0 else 1) < 30)) = true := by rfl)
    (hline : (apos.endLine == cpos.line) = true := by rfl) (hs : starEach (e :: es) X.env = (false, eval e X.env) :: starEach es X.env := by rfl) (hplain : (backTo cpos (starEach es X.env)).any (·.1) = false := by rfl) :
    PE X (.Call (.Attribute o name apos) (e :: es) [] cpos) (tBM X.K T r to t) := by
  intro pins s σ H Q I h
  refine wpAny_Call_method_late hbase hfew hline rfl (thn (ho pins s σ H _ I h) fun v s1 ⟨x, H1, I1, r1, ty, q1⟩ => ?_)
  obtain ⟨h1, h2⟩ := tyV_is I1 r1 ty
  refine ⟨T, id, pa, slot, hty, h1, h2, ?_⟩
  have hA := ha cpos pins s1 σ H1 _ I1 q1
  rw [hs] at hA ⊢
  refine Calls.callWith_builtin (by show (false || (backTo cpos (starEach es X.env)).any (·.1)) = false; rw [hplain] <;> rfl) (Calls.evalArgs_plain ?_)
  exact thn hA fun us s2 ⟨vs, H2, I2, r2, q2⟩ => hm pins s2 σ H2 x vs v us Q I2 r1 r2 q2
end
end L2

namespace L2
open PySem PySem.Spec PyProof.Rows

def MtM (X : Cx) (id : String) (r : V → List V → Hp → VK → Prop) : Prop :=
  ∀ (pins : List (Addr × Obj)) (s : Shared) (σ : St) (H : Hp) (x : V) (xs : List V) (v : Value) (us : List Value) (Q : VK), Inv X pins σ H s → RelV x v → Vals xs us → r x xs H Q →
    wpAny (model X.prog X.w) X.A (call (.builtin id) (v :: us)) (EP X pins σ Q) X.xe s

theorem Vals.one : ∀ {x : V} {us : List Value}, Vals [x] us → ∃ u, us = [u] ∧ RelV x u
  | _, _, .cons r .nil => ⟨_, rfl, r⟩
theorem Vals.two : ∀ {x y : V} {us : List Value}, Vals [x, y] us → ∃ u v, us = [u, v] ∧ RelV x u ∧ RelV y v
  | _, _, _, .cons r (.cons q .nil) => ⟨_, _, rfl, r, q⟩
theorem Vals.zero : ∀ {us : List Value}, Vals [] us → us = []
  | _, .nil => rfl
theorem Vals.dropLast {xs : List V} {us : List Value} (h : Vals xs us) : Vals xs.dropLast us.dropLast := by
  induction h with
  | nil => exact .nil
  | cons r t ih =>
    cases t with
    | nil => exact .nil
    | cons q t' => exact .cons r ih
theorem erase_last {α : Type} (l : List α) : l.eraseIdx (l.length - 1) = l.dropLast := by
  induction l with
  | nil => rfl
  | cons a r ih =>
    cases r with
    | nil => rfl
    | cons b r =>
      have e : (a :: b :: r).length - 1 = ((b :: r).length - 1) + 1 := by
        have h1 : (a :: b :: r).length = r.length + 2 := rfl
        have h2 : (b :: r).length = r.length + 1 := rfl
        omega
      rw [e, List.eraseIdx_cons_succ, ih]
      all_goals rfl
section
variable {X : Cx} {pins : List (Addr × Obj)} {σ : St} {H : Hp} {s : Shared} {l b : Addr} {xs ys zs : List V}

theorem Inv.lset {its its' : List Value} {n : Nat} {f : Array Value → Array Value} {t' : Nat} (I : Inv X pins σ H s) (hH : H l = some (.lst xs))
    (e : s.heap.get? l = some { cls := .type "list", data := .seq its.toArray n }) (hf : f its.toArray = its'.toArray) (hv : Vals ys its') (hz : ys.length ≤ sizeLine) :
    Inv X pins σ (upd H l (.lst ys)) { s with heap := s.heap.update l (Obj.mapSeq f), toks := t' } := by
  have q := PySem.IsL.update e f
  rw [hf] at q
  refine I.write (x := l) (e := l) (by rw [hH]; exact trivial) (.inl rfl) (fun b' u hb hu => (Heap.get?_update_other s.heap (Obj.mapSeq f) (Ne.symm hb)).trans hu) ⟨_, q⟩ ?_
  exact ⟨hz, its', _, hv, q⟩
theorem Inv.lnew {its : List Value} {t' : Nat} (I : Inv X pins σ H s) (hv : Vals ys its) (hz : ys.length ≤ sizeLine) :
    Inv X pins σ (upd H s.heap.objs.size (.lst ys)) { s with heap := s.heap.push { cls := .type "list", data := .seq its.toArray }, toks := t' } :=
  I.laid (fun _ _ q => Heap.get?_push_of_some _ q) (Nat.le_refl _) ⟨hz, its, 0, hv, Heap.get?_push_size _ rfl⟩
theorem Inv.fresh (I : Inv X pins σ H s) : H s.heap.objs.size = none := I.hok.fresh (Nat.le_refl _)
theorem Inv.lstM (I : Inv X pins σ H s) (hH : H l = some (.lst xs)) : xs.length ≤ sizeLine ∧ ∃ (its : List Value) (n : Nat), Vals xs its ∧ xs.length = its.length ∧ s.heap.get? l = some { cls := .type "list", data := .seq its.toArray n } := by
  obtain ⟨z, its, n, r, e⟩ := I.hok l _ hH
  exact ⟨z, its, n, r, r.length, e⟩

end

section
variable {X : Cx}

def rAppend : V → List V → Hp → VK → Prop := fun x vs H Q => ∃ l xs y, x = .ref l ∧ vs = [y] ∧ H l = some (.lst xs) ∧ xs.length < sizeLine ∧ Q .non (upd H l (.lst (xs ++ [y])))
theorem mt_append : MtM X "list.append" rAppend := by
  intro pins s σ H x vs v us Q I rx rv h
  obtain ⟨l, xs, y, rfl, rfl, hH, hz, q⟩ := h
  cases rx
  obtain ⟨u, rfl, ru⟩ := rv.one
  obtain ⟨z, its, n, r, hl, e⟩ := I.lstM hH
  refine call_meets F.slot_list_append ⟨_, e, rfl⟩ F.entry_list_append (F.args_list_append_2 _ _) (PySem.list_append l its.toArray n u (by rw [List.size_toArray]; omega)) ⟨e, ?_⟩
  refine ⟨.non, _, I.lset (its' := its ++ [u]) hH e (by simp) (r.append (.cons ru .nil)) ?_, rfl, q⟩
  rw [List.length_append, List.length_singleton]
  omega

def rPop : V → List V → Hp → VK → Prop := fun x vs H Q => ∃ l xs y, x = .ref l ∧ vs = [] ∧ H l = some (.lst xs) ∧ xs[xs.length - 1]? = some y ∧ Q y (upd H l (.lst xs.dropLast))
theorem mt_pop : MtM X "list.pop" rPop := by
  intro pins s σ H x vs v us Q I rx rv h
  obtain ⟨l, xs, y, rfl, rfl, hH, hy, q⟩ := h
  cases rx
  have hus := rv.zero
  subst hus
  obtain ⟨z, its, n, r, hl, e⟩ := I.lstM hH
  obtain ⟨u, hu, ru⟩ := r.get hy
  have hy' : its.toArray[its.toArray.size - 1]? = some u := by
    show its.toArray[its.length - 1]? = some u
    rw [← Array.getElem?_toList, ← hl]
    exact hu
  refine call_meets F.slot_list_pop ⟨_, e, rfl⟩ F.entry_list_pop (F.args_list_pop_1 _) (MeetsSeq.list_pop_last l its.toArray n u hy' (by rw [List.size_toArray]; omega)) ⟨e, ?_⟩
  refine ⟨y, _, I.lset (its' := its.dropLast) hH e ?_ r.dropLast ?_, ru, q⟩
  · show its.toArray.eraseIdxIfInBounds (its.toArray.size - 1) = its.dropLast.toArray
    rw [List.size_toArray, List.eraseIdxIfInBounds_toArray, erase_last]
  · rw [List.length_dropLast]
    omega

def rCat : R2 := fun x y H Q => ∃ l b xs zs, x = .ref l ∧ y = .ref b ∧ H l = some (.lst xs) ∧ H b = some (.lst zs) ∧ xs.length + zs.length ≤ sizeLine ∧ ∀ p, H p = none → Q (.ref p) (upd H p (.lst (xs ++ zs)))
theorem op_cat : OpR X (binaryOp .Add) rCat := by
  intro pins s σ H x y v u Q I rx ry h
  obtain ⟨l, b, xs, zs, rfl, rfl, hH, hB, hz, q⟩ := h
  cases rx
  cases ry
  obtain ⟨z, its, n, r, hl, e⟩ := I.lstM hH
  obtain ⟨z2, its2, n2, r2, hl2, e2⟩ := I.lstM hB
  refine PySem.P.add_list e e2 ?_ (by rw [List.size_toArray, List.size_toArray]; omega)
  have ea : its.toArray ++ its2.toArray = (its ++ its2).toArray := by simp
  rw [ea]
  exact ⟨.ref _, _, I.lnew (t' := s.toks) (r.append r2) (by rw [List.length_append]; omega), rfl, q _ I.fresh⟩
end

section
variable {prog : Program} {w : World} {A : Around} {E : Value → Shared → Prop} {s : Shared}
set_option maxRecDepth 100000 in
end

section
variable {X : Cx}
end
end L2

namespace Att
open PySem PySem.W PySem.Calls PyProof.Rows

theorem ints_of_wellAll {P : Params} {h : Heap} : ∀ (ns : List Int) (vs : List Value), WellAll P h vs (ns.map WData.int) → IntsAre vs ns := by
  intro ns
  induction ns with
  | nil =>
    intro vs w
    rw [List.map_nil] at w
    cases w
    exact .nil
  | cons n ns ih =>
    intro vs w
    rw [List.map_cons] at w
    cases w with
    | cons a b =>
      cases a
      exact .cons _ _ (ih _ b)

theorem script_of {l : OpenLaw} {n : Nat} (hn : l.most = some n) {P : Params} {h : Heap} {args : List WData} {vals : List Value}
    (hpre : l.row.toRowW.claim.pre args = true) (hwl : WellAll P h vals args) :
    ∃ a vs ns, vals = [Value.ref a] ∧ args = [WData.list (ns.map WData.int)] ∧ h.get? a = some { cls := .type "list", data := .seq vs.toArray } ∧ IntsAre vs ns ∧ ns.length ≤ n := by
  have hsh : WShape.hasAll [] args [.list .int] = true := (pre_splitW hpre).1
  have hc : l.pre.holds [] { args := args } = true := (pre_splitW hpre).2
  obtain ⟨d, r, rfl, h1, h2⟩ := hasAllW_cons hsh
  obtain rfl := hasAllW_nil h2
  obtain ⟨xs, rfl, h3⟩ := hasW_list h1
  obtain ⟨ns, rfl⟩ := items_int h3
  have hlen : ns.length ≤ n := by
    unfold OpenLaw.pre at hc
    have h4 : (WTm.not (.lt (.lit (.int (n : Int))) (.len (.arg 0)))).holds [] { args := [.list (ns.map .int)] } = true := by
      have h4 := (holds_andW hc).1
      rw [hn] at h4
      exact h4
    have h5 := condW_of h4 (w_not (w_lt w_lit (w_len_list (w_arg rfl))))
    rw [List.length_map] at h5
    refine Nat.le_of_not_lt fun q => ?_
    have q' : (n : Int) < ((ns.length : Nat) : Int) := by omega
    first
      | (rw [decide_eq_true q'] at h5; exact absurd h5 (by decide))
      | (simp at h5; omega)
  cases hwl with
  | cons w1 w2 =>
    cases w2
    cases w1 with
    | list ho hall => exact ⟨_, _, ns, rfl, rfl, ho, ints_of_wellAll ns _ hall, hlen⟩

theorem post_true (l : OpenLaw) (args : List WData) : l.row.toRowW.claim.post args (.bool true) args = true :=
  postW_of (r := l.row.toRowW) (X := (true == true))
    (show WShape.has [] (.bool true) .bool = true by first | rfl | decide | simp [WShape.has, WShape.arms, WShape.armsAll])
    (show (WTm.eq .res (.lit (.bool true))).value [] { args := args, res := some (.bool true), after := args } = some (.bool (true == true)) from w_eq_bool (w_res rfl) w_lit) rfl

/-- the same from a codeAny of the CALL (for a layer whose function contracts speak of calls) -/
theorem attach_call {l : OpenLaw} {n : Nat} {q : Program} {loose : List Str} {XP : (Str → Option Value) → Heap → Prop} {YP : World → Heap → Prop} {d : DefRec}
    (hn : l.most = some n) (hdf : d.params.defaults = [])
    (call : ∀ (w : World) (s₀ s₁ : Shared) (mg mb : Str → Option Value) (fa : Addr) (o : Obj) (pm cd doc : Value) (a : Addr) (vs : List Value) (ns : List Int),
      Ground q loose [] XP w s₀ mg mb s₁.heap → YP w s₁.heap →
      s₁.heap.get? fa = some o → o.data = .func (docDef d.name d.params d.body d.scope pm cd doc) → s₁.heap.CodeRec cd d.name → mg d.name = some (.ref fa) →
      s₁.heap.get? a = some { cls := .type "list", data := .seq vs.toArray } → IntsAre vs ns → ns.length ≤ n → s₁.gens = #[] →
      codeAny (model l.prog w) callerA (.call (.ref fa) ⟨[.ref a], []⟩) (fun r s' => r = .ok (.ret (.bool true)) ∧ OldK s₁.heap s'.heap ∧ s'.os = s₁.os ∧ AllBare s'.gens) s₁) :
    WalkO q loose XP YP l.row.toRowW d [] (fun f vs => PySem.call f vs) := by
  intro w s₀ s₁ mg mb G Y fa o pm cd doc dV kV ho hd hcd hD hmg hg args vals as hpre hlay hrd hwl hlo
  obtain rfl : dV = .none := Dflts.none hD hdf
  obtain rfl : kV = .none := Dflts.noKw hD
  obtain ⟨a, vs, ns, rfl, rfl, hobj, hints, hlen⟩ := script_of hn hpre hwl
  refine enter_call (codeAny_mono (call w s₀ s₁ mg mb fa o pm cd doc a vs ns G Y ho (fd_plain hd) hcd hmg hobj hints hlen hg) fun r s' hq => ?_)
  obtain ⟨rfl, h2, h3, h4⟩ := hq
  exact ⟨.inl ⟨.bool true, .bool true, [], rfl, fun _ => rfl, .bool true, post_true l _, fun _ => ⟨List.Pairwise.nil, fun _ hm => (nomatch hm)⟩⟩, h2, h3, h4⟩

section
variable {prog : Program} {w : World} {A : Around} {E : Value → Shared → Prop} {s : Shared} {K : Frag}

end
end Att

namespace L2
open PySem PySem.Spec PyProof.Rows

theorem vals_ints : ∀ {vs : List Value} {ns : List Int}, IntsAre vs ns → Vals (ns.map V.int) vs
  | _, _, .nil => .nil
  | _, _, .cons n t h => .cons ⟨t, rfl⟩ (vals_ints h)

/-- nothing is tracked but the script, known to the object (or it is an object of the module) -/
def Only (H : Hp) : Prop := ∀ b, H b = none ∨ ∃ o xs, H b = some (.frz o (.lst xs))

/-- THE HEAD: the law's promise, at the heap behind the top. F, the promise of the law's def, may use that base is part of the heap (so K.In base, base.Ns mainGlobals mg stand in Mod) -/
theorem law_call {P : Program} {w : World} {K : PySem.W.Frag} {mg mb : Str → Option Value} {CX : CXT} {k : Nat} {fa a : Addr} {fd : FuncData} {x : Str} {sp : Sp} {s₁ : Shared} {vs : List Value} {ns : List Int}
    (KX : K.In s₁.heap) (hns : s₁.heap.Ns mainGlobals mg) (hb : s₁.heap.Ns builtinsNs mb) (hbb : ∀ x : Str, x ≠ "__name__" → mb x = bootBuiltins x) (hlim : s₁.heap.NoLimit) (hg : s₁.gens = #[])
    (ha : s₁.heap.get? a = some { cls := .type "list", data := .seq vs.toArray }) (hi : IntsAre vs ns) (hl : ns.length ≤ sizeLine) (hr : Room k callerA)
    (F : ∀ base : Heap, K.In base → base.Ns mainGlobals mg → FnOk P w K mg base CX k fa fd [x] sp) (hbind : ∀ (s : Shared) (u : Value), BindsTo s fd ⟨[u], []⟩ [(x, u)])
    (hsp : ∀ H : Hp, Only H → SqL K H a (ns.map V.int) → sp [.ref a] H (fun v _ => v = .bl true) fun _ _ _ => False)
    (hCX : ∀ H e s', CX [] H s₁ (fun _ _ _ => False) e s' → False) :
    codeAny (model P w) callerA (.call (.ref fa) ⟨[.ref a], []⟩) (fun r s' => r = .ok (.ret (.bool true)) ∧ OldK s₁.heap s'.heap ∧ s'.os = s₁.os ∧ AllBare s'.gens) s₁ := by
  have rv := vals_ints hi
  have lenV := hi.length
  -- from an abstract heap in which nothing but the script may be tracked
  have core : ∀ H : Hp, Only H → SqL K H a (ns.map V.int) → HOk P w H s₁.heap → (∀ b, H b ≠ none → b = a) → (H a ≠ none → K.lookup a = none) →
      codeAny (model P w) callerA (.call (.ref fa) ⟨[.ref a], []⟩) (fun r s' => r = .ok (.ret (.bool true)) ∧ OldK s₁.heap s'.heap ∧ s'.os = s₁.os ∧ AllBare s'.gens) s₁ := by
    intro H hO hS hok hA hK
    have base_of : ∀ {b : Addr} {o : Obj}, s₁.heap.get? b = some o → H b = none → (hidT s₁.heap H).get? b = some o := fun e n => hidT_get e n
    have noA : ∀ {b : Addr} {o : Obj} {es : Array DictEntry} {ep : Nat}, s₁.heap.get? b = some o → o.data = .dict es ep → H b = none := fun {b o es ep} e d => by
      cases q : H b with
      | none => rfl
      | some u =>
        have e' : b = a := hA b (by rw [q]; simp)
        subst e'
        rw [ha] at e; cases e
        have d' : Data.seq vs.toArray _ = Data.dict es ep := d
        cases d'
    have nsK : ∀ {b : Addr} {m : Str → Option Value}, s₁.heap.Ns b m → (hidT s₁.heap H).Ns b m := fun {b m} ⟨o, es, ep, e, d, r⟩ => ⟨o, es, ep, base_of e (noA e d), d, r⟩
    have hKb : K.In (hidT s₁.heap H) := fun b o e => base_of (KX b o e) (by
      cases q : H b with
      | none => rfl
      | some u =>
        have e' : b = a := hA b (by rw [q]; simp)
        subst e'
        rw [hK (by rw [q]; simp)] at e; cases e)
    have hM : Mod K mg (hidT s₁.heap H) := ⟨hKb, nsK hns, ⟨mb, nsK hb, hbb⟩, let ⟨mc, h1, h2⟩ := hlim; ⟨mc, nsK h1, h2⟩⟩
    have e0 : Env0 P w K mg (hidT s₁.heap H) callerA [] s₁ H := ⟨rfl, hM, fun b o e => of_hidT e, Nat.le_of_eq (hidT_size _ _), trivial, fun b hb => absurd (show b ∈ ([] : List Addr) from hb) (by simp), hok, .of_eq hg⟩
    refine codeAny_mono ((F _ hKb (nsK hns)).run callerA [] s₁ H ⟨[.ref a], []⟩ [.ref a] [.ref a] _ _ hr e0 (hbind s₁ (.ref a)) (.cons rfl .nil) (hsp H hO hS)) fun r s' h => ?_
    cases r with
    | error e => exact (hCX H e s' h).elim
    | ok fl =>
      cases fl with
      | next => exact False.elim h
      | brk => exact False.elim h
      | cont => exact False.elim h
      | ret u =>
        obtain ⟨v, H', os, bare, un, hok', r', q⟩ := h
        have q' : v = .bl true := q
        subst q'
        obtain rfl : u = Value.bool true := r'
        refine ⟨rfl, OldK.of_keep fun b o e => ?_, os, bare⟩
        cases q : H b with
        | none => exact un.keep b o e q (by intro z; exact absurd (show b ∈ ([] : List Addr) from z) (by simp)) (by simp)
        | some u =>
          rcases hO b with z | ⟨ob, xs, z⟩
          · rw [q] at z; cases z
          · have z2 := un.frzs b ob _ z
            obtain ⟨e1, _⟩ := hok b _ z
            obtain ⟨e2, _⟩ := hok' b _ z2
            rw [e] at e1; cases e1
            exact e2
  cases hk : K.lookup a with
  | some o =>
    -- the script is one of the module's own objects
    have e := KX a o hk
    rw [ha] at e
    cases e
    refine core (fun _ => none) (fun _ => .inl rfl) (.inr ⟨_, vs.toArray, _, hk, rfl, rfl, rfl, by rw [List.size_toArray, lenV]; exact hl, by simpa using rv⟩) (fun b u z => by have z' : (none : Option HO) = some u := z; cases z') (fun b z => absurd rfl z) fun z => absurd rfl z
  | none =>
    refine core (fun b => if b = a then some (.frz { cls := .type "list", data := .seq vs.toArray } (.lst (ns.map V.int))) else none) (fun b => ?_) (.inl (.inr ⟨{ cls := .type "list", data := .seq vs.toArray }, if_pos rfl⟩)) (fun b u z => ?_) (fun b z => ?_) fun _ => hk
    · by_cases hb : b = a
      · exact .inr ⟨_, _, if_pos hb⟩
      · exact .inl (if_neg hb)
    · by_cases hb : b = a
      · have z' := (if_pos hb).symm.trans z
        cases z'
        subst hb
        exact ⟨ha, by rw [List.length_map]; exact hl, vs, _, rv, ha⟩
      · have z' := (if_neg hb).symm.trans z
        cases z'
    · by_cases hb : b = a
      · exact hb
      · exact absurd (if_neg hb) z
end L2

namespace L2
open PySem PySem.Spec PyProof.Rows

/-- the goal that k_head leaves (case hc), from the law's promise. F gives the function object fd (K's own) once, then the promise over every base -/
theorem walk_of {l : PySem.W.OpenLaw} {n k : Nat} {q : Program} {loose : List Str} {XP : (Str → Option Value) → Heap → Prop} {YP : World → Heap → Prop} {d : DefRec} {K : Params → PySem.W.Frag} {CX : World → CXT} {sp : World → Sp} {x : Str}
    (hn : l.most = some n) (hn2 : n ≤ sizeLine) (hdf : d.params.defaults = []) (hr : Room k callerA)
    (hY : ∀ (w : World) (h : Heap), YP w h → (K w.params).In h)
    (F : ∀ (w : World) (mg : Str → Option Value) (fa : Addr) (h : Heap), (K w.params).In h → h.Ns mainGlobals mg → mg d.name = some (.ref fa) →
      ∃ fd : FuncData, (∀ (s : Shared) (u : Value), BindsTo s fd ⟨[u], []⟩ [(x, u)]) ∧
        ∀ base : Heap, (K w.params).In base → base.Ns mainGlobals mg → FnOk l.prog w (K w.params) mg base (CX w) k fa fd [x] (sp w))
    (hsp : ∀ (w : World) (H : Hp) (a : Addr) (ns : List Int), ns.length ≤ n → Only H → SqL (K w.params) H a (ns.map V.int) → sp w [.ref a] H (fun v _ => v = .bl true) fun _ _ _ => False)
    (hCX : ∀ (w : World) (H : Hp) (s : Shared) (e : Value) (s' : Shared), CX w [] H s (fun _ _ _ => False) e s' → False) :
    PySem.W.WalkO q loose XP YP l.row.toRowW d [] (fun f vs => PySem.call f vs) := by
  refine Att.attach_call hn hdf fun w s₀ s₁ mg mb fa o pm cd doc a vs ns G Y ho hd hcd hmg hobj hints hlen hg => ?_
  have KX := hY w _ Y
  obtain ⟨fd, hb, hF⟩ := F w mg fa _ KX G.T.g hmg
  exact law_call KX G.T.g G.T.b G.T.builtins G.T.nolimit hg hobj hints (Nat.le_trans hlen hn2) hr hF hb (fun H hO hS => hsp w H a ns hlen hO hS) fun H e s' => hCX w H s₁ e s'
end L2


namespace L2
open PySem PySem.Spec PyProof.Rows

/-- the j-th statement of a class's body -/
def inClass (s : Stmt) (j : Nat) : Stmt := match s with
  | .ClassDef _ _ _ body _ _ _ _ _ _ _ => body.getD j (.Pass ⟨0, 0, 0, 0⟩)
  | _ => .Pass ⟨0, 0, 0, 0⟩
def defArgs (s : Stmt) : Arguments := match s with
  | .FunctionDef _ a _ _ _ _ _ _ _ _ => a
  | _ => { posonlyargs := [], args := [], vararg := none, kwonlyargs := [], kw_defaults := [], kwarg := none, defaults := [] }
def defBody (s : Stmt) : List Stmt := match s with
  | .FunctionDef _ _ b _ _ _ _ _ _ _ => b
  | _ => []
def defScope (s : Stmt) : Scope := match s with
  | .FunctionDef _ _ _ _ _ _ sc _ _ _ => sc
  | _ => { kind := .function, names := [], isGenerator := false, isCoroutine := false }

abbrev CX0 : CXT := fun _ _ _ _ _ _ => False
abbrev E0 : XK := fun _ _ _ => False
theorem pass0 {X : Cx} : Passes CX0 X E0 := fun _ _ _ _ _ _ _ h => h.elim

structure Fun (K : PySem.W.Frag) (x qual : Str) (st : Stmt) (f : Addr) (fd : FuncData) : Prop where
  ex : ∃ (oc : Value) (od : Option Addr) (kV doc pm : Value) (an : Option Addr) (cdv ct : Value) (osl : Array (Option Value)),
    fd = PySem.W.fnOf x qual (defArgs st) (defBody st) (defScope st) .none kV doc pm an cdv ct ∧ K.lookup f = some ⟨oc, od, .func fd, osl⟩ ∧ PySem.W.codeIn K cdv qual = true
  kp : PySem.W.keepIn K (.ref f) = true
section
variable {P : Program} {w : World} {K : PySem.W.Frag} {mg : Str → Option Value} {base : Heap}
/-- THE RULE for a def: its body as a term of rules, and the reading of that term -/
theorem Fun.ok {x qual : Str} {st : Stmt} {f : Addr} {fd : FuncData} {N ps : List Str} {k : Nat} {sp : Sp} (F : Fun K x qual st f fd) (S : FnScope N ps (defScope st)) (len : ∀ vs H Q E, sp vs H Q E → vs.length = ps.length)
    (hbody : ∀ (cdv : Value) (A : Around) (outer : List Env) (s : Shared) (H : Hp) (vs : List V) (Q : VK) (E : XK), Room k (A.deeper (envOfC qual (defScope st) s.heap.objs.size f cdv)) → sp vs H Q E →
      ∃ t, PSs (cxOf CX0 P w K mg base N qual (defScope st) f cdv A outer s H E).nox (defBody st) t ∧ t { nx := fun _ H' => Q .non H', rt := Q } (start N vs) H) : FnOk P w K mg base CX0 (k + 1) f fd ps sp := by
  obtain ⟨oc, od, kV, doc, pm, an, cdv, ct, osl, rfl, lk, hcd⟩ := F.ex
  refine fn_of lk hcd S len fun A outer s H vs Q E hr hsp => ?_
  obtain ⟨t, h, q⟩ := hbody cdv A outer s H vs Q E hr hsp
  exact ⟨t, h.nox, q⟩
/-- how its arguments bind (no defaults): h is «fun _ _ _ _ _ _ us hl => match us, hl with | [_, _], _ => rfl», one _ a parameter -/
theorem Fun.binds {x qual : Str} {st : Stmt} {f : Addr} {fd : FuncData} {ps : List Str} (F : Fun K x qual st f fd)
    (h : ∀ (kV doc pm : Value) (an : Option Addr) (cdv ct : Value) (us : List Value), us.length = ps.length → bindArgs (PySem.W.fnOf x qual (defArgs st) (defBody st) (defScope st) .none kV doc pm an cdv ct) ⟨us, []⟩ = pure (ps.zip us)) : Binds K fd ps [] := by
  obtain ⟨oc, od, kV, doc, pm, an, cdv, ct, osl, rfl, lk, hcd⟩ := F.ex
  exact .all (h kV doc pm an cdv ct)
theorem fun_mk {x qual : Str} {st : Stmt} {f : Addr} {oc : Value} {od an : Option Addr} {osl : Array (Option Value)} {kV doc pm cdv ct : Value} (l : K.lookup f = some ⟨oc, od, .func (PySem.W.fnOf x qual (defArgs st) (defBody st) (defScope st) .none kV doc pm an cdv ct), osl⟩)
    (c : PySem.W.codeIn K cdv qual = true) (k : PySem.W.keepIn K (.ref f) = true) : Fun K x qual st f (PySem.W.fnOf x qual (defArgs st) (defBody st) (defScope st) .none kV doc pm an cdv ct) := ⟨⟨oc, od, kV, doc, pm, an, cdv, ct, osl, rfl, l, c⟩, k⟩
end
theorem hu_of {A : Around} {k : Nat} (hr : Room k A) : A.units + 1 < cLine := Nat.lt_of_le_of_lt (Nat.add_le_add_left (by decide : 1 ≤ 64) _) hr.units
section
variable {X : Cx}
theorem pv (i : Nat) {x : Str} {pos : Pos} (hN : X.N[i]? = some x := by rfl) (hv : Vis X.env.scope x := by first | exact Or.inl rfl | exact Or.inr (Or.inl rfl) | exact Or.inr (Or.inr rfl)) (hd : (x == ("__debug__" : Str)) = false := by decide)
    (hcd : (x == ("__classdict__" : Str)) = false := by decide) : PE X (.Name x pos) (tVar i) := pe_var hN hv hd hcd
end

theorem iteF {A B : Prop} (h : B) : if false = true then A else B := by
  rw [if_neg Bool.false_ne_true]
  exact h
theorem iteT {A B : Prop} (h : A) : if true = true then A else B := by
  rw [if_pos rfl]
  exact h
/-- all that was tracked is as it was -/
def Same (H H' : Hp) : Prop := ∀ b o, H b = some o → H' b = some o
theorem Same.refl (H : Hp) : Same H H := fun _ _ h => h
theorem Same.trans {H H1 H2 : Hp} (a : Same H H1) (b : Same H1 H2) : Same H H2 := fun c o h => b c o (a c o h)
theorem Same.free {H H' : Hp} (e : Same H H') {l : Addr} (h : H' l = Option.none) : H l = Option.none := by
  cases q : H l with
  | none => rfl
  | some o =>
    rw [e l o q] at h
    cases h
theorem Same.seq {K : PySem.W.Frag} {H H' : Hp} {a : Addr} {xs : List V} (e : Same H H') (h : SqL K H a xs) : SqL K H' a xs := by
  rcases h with (h | ⟨o, h⟩) | h
  · exact .inl (.inl (e _ _ h))
  · exact .inl (.inr ⟨o, e _ _ h⟩)
  · exact .inr h

end L2
set_option maxHeartbeats 4000000
namespace PySem.W.Fast
def tw10598597837621586688:=0
def tw9611636978189336333:=0
def tw10300456010574474418:=0
def tw13490447760109858565:=0
def tw2411381484990802313:=0
def tw13221572411847639803:=0
def tw5781193740249807777:=0
def tw12093369574565787592:=0
def tw6415050397160256159:=0
def tw12641061222901800137:=0
def tw2646558958879235752:=0
def tw17259602534114717445:=0
def tw3961520306451529545:=0
def tw17472150120698634489:=0
def tw6437583355966939780:=0
def tw1840948265480055071:=0
def tw5336320920391716505:=0
def tw2875610791800913806:=0
def tw6541253336833243234:=0
def tw2823689411492375308:=0
def tw201643729545778029:=0
def tw15632939123109797645:=0
def tw5017071426958264628:=0
def tw5825542984225442743:=0
def tw17329032475390914468:=0
def tw5310793889921903661:=0
def tw16704405089725223655:=0
def tw1479651713012046997:=0
def tw1181213443545721350:=0
def tw249280451843105029:=0
def tw751480838697596821:=0
def tw12459169797231178087:=0
def tw15035226397609295314:=0
def tw17838314519045371820:=0
def tw5167675930909776127:=0
def tw2171745145946401050:=0
def tw10517995583352635402:=0
def tw13892137392483296785:=0
def tw15371825686362363123:=0
def tw1208846971463363153:=0
def tw700607782112645153:=0
def tw2911993050478148554:=0
def tw11742436776466517554:=0
def tw11418767099409500131:=0
def tw7699780833488942647:=0
def tw5827128851943058469:=0
def tw10138102615148765066:=0
def tw6973331163155850513:=0
def tw7127980626091389610:=0
def tw12251721957717816001:=0
def tw4713361001609518017:=0
def tw11737357805131153498:=0
def tw6692766060086307773:=0
def tw5578541013932190843:=0
def tw4256485813799581004:=0
def tw2216273107592114389:=0
def tw12777457822023509346:=0
def tw12869437754925772979:=0
def tw5327679016743557611:=0
def tw14458396765256465819:=0
def tw3781451367639340060:=0
def tw16927850169463312978:=0
def tw13656702723980736519:=0
def tw6613732820295480722:=0
def tw11836447698656404664:=0
def tw10347730510545856396:=0
def tw14620942251597341196:=0
def tw14286109749174078575:=0
def tw14603719773230173661:=0
def tw4781123407008546073:=0
def tw5698355475278147977:=0
def tw16611272769196439059:=0
def tw10191658261425132909:=0
def tw14173915892894558630:=0
def tw16049480641648409776:=0
def tw13877318466496042846:=0
def tw1323357066620227530:=0
def tw11252123961470333847:=0
def tw16974268335454212370:=0
def tw11094256498918434808:=0
def tw9231312268961903762:=0
def tw5296373056753953194:=0
def tw6357117069608092083:=0
def tw4889093856562790404:=0
def tw11726915052824009167:=0
def tw16595932072737878292:=0
def tw8667550401176232287:=0
def tw10247291433229417683:=0
def tw8288765328842004179:=0
def tw4378366776785168039:=0
def tw10449017801761923849:=0
def tw3844727101498525592:=0
def tw8285190407045221489:=0
def tw5698295374877181225:=0
def tw15288982642187733424:=0
def tw1305846249708414183:=0
def tw5221733143882102009:=0
def tw14414821249471626306:=0
def tw13068264431979472417:=0
def tw1017913060754784473:=0
def tw3522424329288990126:=0
def tw1179726996084930250:=0
def tw1280585123876665994:=0
def tw1157925436629349881:=0
def tw12383127378899342182:=0
end PySem.W.Fast
namespace L2
open PySem PySem.Spec PyProof.Rows
structure CompOk (sc csc : Scope) (N : List Str) (x : Str) (caps : List (Str × Nat)) : Prop where
  cell : ∀ p ∈ csc.names, p.2 ≠ .cell
  kind : csc.kind = .function
  loc : ∀ p ∈ csc.names, p.2 = .local → csc.names.lookup p.1 = some .local
  tg : csc.names.lookup x = some .local
  free : ∀ p ∈ csc.names, p.2 = .free → sc.names.lookup p.1 = some .cell
  cap : ∀ p ∈ caps, N[p.2]? = some p.1 ∧ csc.names.lookup p.1 = some .free
  nd : (caps.map (·.1) ++ [x]).Nodup

def clFold (env : Env) : List (Str × NameKind) → List (Str × Addr) → List (Str × Addr)
  | [], cs => cs
  | (n, k) :: r, cs => clFold env r (if k == .free then (n, (env.cells.lookup n).getD 0) :: cs else cs)

theorem closureFor_eq {env : Env} {sc : Scope} (h : ∀ p ∈ sc.names, p.2 = .free → ∃ c, env.cells.lookup p.1 = some c) : closureFor sc env = pure (clFold env sc.names []) := by
  obtain ⟨kind, names, g, c⟩ := sc
  simp only [closureFor]
  have aux : ∀ (l : List (Str × NameKind)) (cs : List (Str × Addr)), (∀ p ∈ l, p.2 = .free → ∃ c, env.cells.lookup p.1 = some c) →
      (forIn l cs (fun (x : Str × NameKind) (r : List (Str × Addr)) => if (x.2 == NameKind.free) = true then (do let a ← cellOf env x.1; pure (ForInStep.yield ((x.1, a) :: r))) else pure (ForInStep.yield r)) : Sem (List (Str × Addr))) = pure (clFold env l cs) := by
    intro l
    induction l with
    | nil => intro cs _; rfl
    | cons p r ih =>
      intro cs hp
      obtain ⟨n, k⟩ := p
      rw [List.forIn_cons]
      have ih' := fun cs => ih cs (fun q hq => hp q (List.mem_cons_of_mem _ hq))
      by_cases hk : (k == NameKind.free) = true
      · obtain ⟨c, e⟩ := hp (n, k) List.mem_cons_self (by simpa using hk)
        simp only [hk, if_true, cellOf, e, clFold, pure_bind, Option.getD_some]
        exact ih' _
      · have hk' : (k == NameKind.free) = false := by simpa using hk
        simp only [hk', if_false, clFold, pure_bind, Bool.false_eq_true]
        exact ih' _
  have := aux names [] h
  first
    | (rw [this]; rfl)
    | (simp only [bind_pure]; exact this)
    | (refine Eq.trans (bind_pure _) this)

theorem clFold_in {env : Env} : ∀ (l : List (Str × NameKind)) (cs : List (Str × Addr)), (∀ p ∈ l, p.2 = .free → ∃ c, env.cells.lookup p.1 = some c) → (∀ y c, cs.lookup y = some c → env.cells.lookup y = some c) →
    ∀ y c, (clFold env l cs).lookup y = some c → env.cells.lookup y = some c
  | [], _, _, h2 => h2
  | (n, k) :: r, cs, h1, h2 => by
    unfold clFold
    refine clFold_in r _ (fun q hq => h1 q (List.mem_cons_of_mem _ hq)) ?_
    by_cases hk : (k == NameKind.free) = true
    · obtain ⟨c, e⟩ := h1 (n, k) List.mem_cons_self (by simpa using hk)
      rw [if_pos hk]
      intro y c' h
      rw [e] at h
      rw [List.lookup_cons] at h
      cases hy : y == n with
      | true => rw [hy] at h; simp at h; rw [eq_of_beq hy, ← h]; exact e
      | false => rw [hy] at h; exact h2 y c' h
    · rw [if_neg hk]; exact h2
theorem clFold_has {env : Env} : ∀ (l : List (Str × NameKind)) (cs : List (Str × Addr)) (y : Str), ((y, NameKind.free) ∈ l ∨ ∃ c, cs.lookup y = some c) → ∃ c, (clFold env l cs).lookup y = some c
  | [], _, _, h => by
    rcases h with h | h
    · cases h
    · exact h
  | (n, k) :: r, cs, y, h => by
    unfold clFold
    refine clFold_has r _ y ?_
    by_cases hk : (k == NameKind.free) = true
    · rw [if_pos hk]
      by_cases hy : (y == n) = true
      · exact .inr ⟨_, by rw [List.lookup_cons, hy]⟩
      · have hy' : (y == n) = false := by simpa using hy
        rcases h with h | ⟨c, h⟩
        · rcases List.mem_cons.mp h with z | z
          · cases z; simp at hy
          · exact .inl z
        · exact .inr ⟨c, by rw [List.lookup_cons, hy']; exact h⟩
    · rw [if_neg hk]
      rcases h with h | h
      · rcases List.mem_cons.mp h with z | z
        · cases z; simp at hk
        · exact .inl z
      · exact .inr h

abbrev compCx (X : Cx) (N' : List Str) (csc : Scope) (C : Addr) (s2 : Shared) (H2 : Hp) (fp : List Addr) : Cx :=
  { X with N := N', s₀ := s2, H₀ := H2, env := compEnvC csc (clFold X.env csc.names []) C X.env, outer := X.stack, ex := fp, fn := fun _ => false, pn := [], xe := fun _ _ => False }

def capV (caps : List (Str × Nat)) (σ : St) : St := caps.map fun p => (σ[p.2]?).join
/-- W: by the turn, a measure, and what has been made so far -/
def CompW (J : It) (caps : List (Str × Nat)) (te : TE) (σ : St) (H1 : Hp) (Q : VK) : Prop := ∃ W : Nat → Nat → List V → Hp → Prop, (∃ m, W 0 m [] H1) ∧ ∀ i m ys H, W i m ys H →
  (J.stop i H ∧ ∀ D, H D = none → Q (.ref D) (upd H D (.lst ys))) ∨ (J.go i H ∧ ys.length < sizeLine ∧ ∀ x H', J.yld i H x H' → te (capV caps σ ++ [some x]) H' fun y H2 => ∃ m', m' < m ∧ W (i + 1) m' (ys ++ [y]) H2)
def tComp (caps : List (Str × Nat)) (wi : TI) (te : TE) : TE := fun σ H Q => wi σ H fun J H1 => CompW J caps te σ H1 Q

theorem lookup_relabel {env : Env} (hk : env.scope.kind = .function) : ∀ {names : List (Str × NameKind)} {x : Str}, (∀ p ∈ names, p.2 = .free → env.kindOf p.1 = some .cell) → names.lookup x = some .free →
    (names.map fun (n, k) => if (k == NameKind.free && env.scope.kind == .function && env.kindOf n == some .cell) then (n, NameKind.cell) else (n, k)).lookup x = some .cell
  | [], _, _, h => by simp at h
  | (n, k) :: r, x, hf, h => by
    have ih := @lookup_relabel env hk r x (fun p hp => hf p (List.mem_cons_of_mem _ hp))
    show List.lookup x ((if (k == NameKind.free && env.scope.kind == .function && env.kindOf n == some .cell) = true then (n, NameKind.cell) else (n, k)) :: _) = _
    cases hx : x == n with
    | true =>
      simp only [List.lookup_cons, hx] at h
      cases h
      have := hf (n, .free) List.mem_cons_self rfl
      have hk' : (env.scope.kind == ScopeKind.function) = true := by rw [hk]; rfl
      simp [List.lookup_cons, hx, this, hk']
    | false =>
      simp only [List.lookup_cons, hx] at h
      by_cases hc : (k == NameKind.free && env.scope.kind == .function && env.kindOf n == some .cell) = true
      · rw [if_pos hc]; simp only [List.lookup_cons, hx]; exact ih h
      · rw [if_neg hc]; simp only [List.lookup_cons, hx]; exact ih h
theorem lookup_relabel_inv {env : Env} : ∀ {names : List (Str × NameKind)} {x : Str} {k' : NameKind}, 
    (names.map fun (n, k) => if (k == NameKind.free && env.scope.kind == .function && env.kindOf n == some .cell) then (n, NameKind.cell) else (n, k)).lookup x = some k' → (k' = .cell ∨ k' = .free) → (∀ p ∈ names, p.2 ≠ .cell) → (x, NameKind.free) ∈ names
  | [], _, _, h, _, _ => by simp at h
  | (n, k) :: r, x, k', h, hk, hn => by
    have ih := @lookup_relabel_inv env r x k'
    have h : List.lookup x ((if (k == NameKind.free && env.scope.kind == .function && env.kindOf n == some .cell) = true then (n, NameKind.cell) else (n, k)) :: (r.map fun (n, k) => if (k == NameKind.free && env.scope.kind == .function && env.kindOf n == some .cell) then (n, NameKind.cell) else (n, k))) = some k' := h
    cases hx : x == n with
    | true =>
      have e : x = n := eq_of_beq hx
      subst e
      by_cases hc : (k == NameKind.free && env.scope.kind == .function && env.kindOf x == some .cell) = true
      · have : k = .free := by
          simp only [Bool.and_eq_true] at hc
          simpa using hc.1.1
        subst this
        exact List.mem_cons_self
      · rw [if_neg hc] at h
        simp only [List.lookup_cons, hx] at h
        cases h
        rcases hk with z | z
        · exact absurd z (hn _ List.mem_cons_self)
        · subst z; exact List.mem_cons_self
    | false =>
      refine List.mem_cons_of_mem _ (ih ?_ hk fun p hp => hn p (List.mem_cons_of_mem _ hp))
      by_cases hc : (k == NameKind.free && env.scope.kind == .function && env.kindOf n == some .cell) = true
      · rw [if_pos hc] at h; simp only [List.lookup_cons, hx] at h; exact h
      · rw [if_neg hc] at h; simp only [List.lookup_cons, hx] at h; exact h

section
variable {X : Cx} {pins : List (Addr × Obj)} {σ : St} {H : Hp} {s : Shared}
theorem capV_len (caps : List (Str × Nat)) (σ : St) : (capV caps σ).length = caps.length := by simp [capV]
/-- the block's context at its start -/
theorem comp_start {csc : Scope} {x : Str} {caps : List (Str × Nat)} {fp : List Addr} {h4 : Heap} {t4 : Nat} {C : Addr} {m0 : Str → Option Value} (I : Inv X pins σ H s) (ck : CompOk X.env.scope csc X.N x caps) (hf : ∀ b ∈ fp, FpOk X pins H b)
    (hfs : ∀ b ∈ fp, b < s.heap.objs.size) (hC : s.heap.objs.size ≤ C) (hk : ∀ b o, s.heap.get? b = some o → h4.get? b = some o) (hn : h4.Ns C m0) :
    Inv (compCx X (caps.map (·.1) ++ [x]) csc C s H fp) [] (capV caps σ ++ [none]) H { s with heap := h4, toks := t4 } := by
  have cellsOk : ∀ p ∈ csc.names, p.2 = .free → ∃ c, X.env.cells.lookup p.1 = some c := fun p hp e => I.ok.has p.1 (.inl (ck.free p hp e))
  have inX : ∀ y c, (clFold X.env csc.names []).lookup y = some c → X.env.cells.lookup y = some c := clFold_in _ _ cellsOk (fun y c h => by simp at h)
  have kf : ∀ p ∈ csc.names, p.2 = .free → X.env.kindOf p.1 = some .cell := ck.free
  refine ⟨⟨I.ok.mod, ck.kind, I.ok.glob, I.ok.blt, hC, fun y z c h1 h2 => I.ok.inj y z c (inX y c h1) (inX z c h2), fun y hy => ?_, fun y c h => (nomatch h), I.ok.hd, I.ok.frames, .inl rfl, fun b hb => ⟨?_, fun y c h => ?_⟩, ?_, ?_, ?_, ?_, I.stack, I.stkFree⟩, rfl, I.bare, Un.kept hk, ⟨m0, hn, fun i y v h1 h2 h3 => ?_⟩, fun y c h => ?_, I.hok.fresh hC, fun y c h => I.freeC y c (inX y c h), fun p hp => absurd hp (by simp), I.hok.kept hk, ?_⟩
  · have hy' : (csc.names.map fun (n, k) => if (k == NameKind.free && X.env.scope.kind == .function && X.env.kindOf n == some .cell) then (n, NameKind.cell) else (n, k)).lookup y = some .cell ∨ (csc.names.map fun (n, k) => if (k == NameKind.free && X.env.scope.kind == .function && X.env.kindOf n == some .cell) then (n, NameKind.cell) else (n, k)).lookup y = some .free := hy
    refine clFold_has _ _ y (.inl ?_)
    rcases hy' with z | z
    · exact lookup_relabel_inv z (.inl rfl) ck.cell
    · exact lookup_relabel_inv z (.inr rfl) ck.cell
  · exact Nat.ne_of_lt (Nat.lt_of_lt_of_le (hfs b hb) hC)
  · exact (hf b hb).2.2.2.2.1 y c (inX y c h)
  · exact fun b o e => I.bs b o e
  · exact Nat.le_trans I.ok.bsz I.sz
  · intro b o e hb
    rcases (hf b hb).2.2.2.1 with z | z
    · exact I.ok.noex b o e z
    · exact absurd (Nat.lt_of_lt_of_le (Heap.lt_size (I.ok.bs b o e).1) z) (Nat.lt_irrefl _)
  · intro b hb z
    rcases List.mem_cons.mp (I.stkSub b z) with e | e
    · exact (hf b hb).2.1 e
    · exact (hf b hb).2.2.1 e
  · have hi : i < caps.length := by
      by_cases hi : i < caps.length
      · exact hi
      · rw [List.getElem?_append_right (by rw [capV_len]; omega), capV_len] at h2
        cases q : i - caps.length with
        | zero => rw [q] at h2; simp at h2
        | succ k => rw [q] at h2; simp at h2
    rw [List.getElem?_append_left (by rw [List.length_map]; exact hi), List.getElem?_map] at h1
    rw [List.getElem?_append_left (by rw [capV_len]; exact hi)] at h2
    unfold capV at h2
    rw [List.getElem?_map] at h2
    cases e : caps[i]? with
    | none => rw [e] at h1; cases h1
    | some p =>
      rw [e] at h1 h2
      simp only [Option.map_some, Option.some.injEq] at h1 h2
      subst h1
      obtain ⟨hN, hfr⟩ := ck.cap p (List.mem_of_getElem? e)
      have h2' : σ[p.2]? = some (some v) := by
        cases q : σ[p.2]? with
        | none => rw [q] at h2; cases h2
        | some w => rw [q] at h2; simp at h2; rw [h2]
      have hcX : X.env.scope.names.lookup p.1 = some .cell := ck.free (p.1, .free) (PySem.mem_of_lookup hfr) rfl
      obtain ⟨m, _, hl⟩ := I.loc
      obtain ⟨u, r, l⟩ := hl p.2 p.1 v hN h2' (.inr (.inl hcX))
      refine ⟨u, r, ?_⟩
      rcases l with ⟨k, _⟩ | ⟨_, c, hc, z⟩
      · have k' : X.env.scope.names.lookup p.1 = some .local := k
        rw [hcX] at k'; cases k'
      · obtain ⟨c', hc'⟩ := clFold_has (env := X.env) csc.names [] p.1 (.inl (PySem.mem_of_lookup hfr))
        have : c' = c := by
          have := inX p.1 c' hc'
          rw [hc] at this
          exact (Option.some.inj this).symm
        subst this
        refine .inr ⟨.inl (lookup_relabel I.ok.kind kf hfr), c', hc', ?_⟩
        obtain ⟨o, ho, hd⟩ := z
        exact ⟨o, hk _ _ ho, hd⟩
  · obtain ⟨v, o, ho, hd⟩ := I.cell y c (inX y c h)
    exact ⟨v, o, hk _ _ ho, hd⟩
  · rw [List.length_append, capV_len, List.length_append, List.length_map]; rfl
end
end L2
namespace L2
open PySem PySem.Spec PyProof.Rows
/-- the loop of a comprehension, with the step ahead of the store -/
theorem compLoop_go {prog : Program} {w : World} {A : Around} {R : Result → Shared → Prop} {s : Shared} {elt target iter : Expr} {scope : Scope} {pos : Pos} {it acc : Value} {env : Env} (J : Nat → Shared → Prop)
    (turn : ∀ n s, J n s → wpAny (model prog w) A (pyNext it) (fun r s₁ => match r with
      | none => R (.ok .next) s₁
      | some v => wpAny (model prog w) A (letOwnedTupleGo target it v) (fun _ s₁ => wpAny (model prog w) A (assign target env v) (fun _ s₂ => wpAny (model prog w) A (eval elt env) (fun x s₃ =>
          wpAny (model prog w) A (call (.builtin "list.append") [acc, x]) (fun _ s₄ => ∃ m, m < n ∧ J m s₄) (fun _ _ => False) s₃)
          (fun _ _ => False) s₂) (fun _ _ => False) s₁) (fun _ _ => False) s₁) (fun _ _ => False) s)
    (n : Nat) (h : J n s) :
    codeAny (model prog w) A (.compLoop (.ListComp elt [⟨target, iter, [], 0⟩] scope pos) 0 it acc env) R s := by
  refine codeAny_loop rfl J (fun n s hI => ?_) n h
  show wpAny _ _ ((compTurn (.ListComp elt [⟨target, iter, [], 0⟩] scope pos) 0 it acc env).onRaise (fun x => do noteFrame x env; theTreesLotGoes x)) _ _ s
  refine wpAny_noted ?_
  rw [compTurn_list1]
  refine wpAny_bind (wpAny_standAt (wpAny_bind (wpAny_mono (turn n s hI) (fun r s₁ h₁ => ?_) fun _ _ h' => h'.elim)))
  cases r with
  | none => exact wpAny_pure h₁
  | some v =>
    refine wpAny_bind (wpAny_mono h₁ (fun _ s₁' h₁ => ?_) fun _ _ h' => h'.elim)
    exact wpAny_bind (wpAny_mono h₁ (fun _ s₂ h₂ => wpAny_bind (wpAny_bind (wpAny_mono h₂ (fun x s₃ h₃ => wpAny_bind (wpAny_mono h₃
      (fun _ s₄ h₄ => wpAny_pure (wpAny_pure ⟨rfl, h₄⟩)) fun _ _ h' => h'.elim)) fun _ _ h' => h'.elim))) fun _ _ h' => h'.elim)
theorem nlt {a b : Nat} (h : a < b) : a ≠ b := Nat.ne_of_lt h
theorem nlt1 {a b : Nat} (h : a < b) : a ≠ b + 1 := Nat.ne_of_lt (Nat.lt_succ_of_lt h)
theorem ns1 {a : Nat} : a ≠ a + 1 := Nat.ne_of_lt (Nat.lt_succ_self a)
section
variable {X : Cx}
/-- behind the block -/
theorem comp_done {csc : Scope} {N' : List Str} {fp : List Addr} {C D : Addr} {pins pl : List (Addr × Obj)} {σ σ' : St} {H H' : Hp} {s s' : Shared} {h' : Heap} {ys : List V} {its : List Value} {n : Nat} (I : Inv X pins σ H s)
    (J : Inv (compCx X N' csc C s H fp) pl σ' H' s') (hf : ∀ b ∈ fp, FpOk X pins H b) (hC : s.heap.objs.size ≤ C) (hD : s.heap.objs.size ≤ D) (hDC : D ≠ C) (hs : Heap.SameBut C s'.heap h') (hv : Vals ys its) (hz : ys.length ≤ sizeLine)
    (hd : s'.heap.get? D = some { cls := .type "list", data := .seq its.toArray n }) (hDn : H' D = none) : Inv X pins σ (upd H' D (.lst ys)) { s' with heap := h' } := by
  have ne : ∀ b o, s.heap.get? b = some o → b ≠ C ∧ b ≠ D := fun b o e => ⟨Nat.ne_of_lt (Nat.lt_of_lt_of_le (Heap.lt_size e) hC), Nat.ne_of_lt (Nat.lt_of_lt_of_le (Heap.lt_size e) hD)⟩
  have u : Un (frs X.stack) fp H H' s.heap s'.heap := J.base
  have nDt : ∀ b o, H' b = some o → b ≠ D := fun b o e => ne_of_none e hDn
  refine I.call' (s' := { s' with heap := h' }) (ch := fp) J.os ?_ ?_ J.bare fun b hb => ⟨(hf b hb).2.2.2.1, (hf b hb).2.1, (hf b hb).2.2.2.2.1, (hf b hb).2.2.2.2.2⟩
  · refine ⟨fun b o q n hb he => ?_, fun b o q n hb he => ?_, fun b o q n he => ?_, fun b o q he => ?_, fun b xs q => ?_, fun b o xs q => ?_, fun b ps q => ?_⟩
    · exact (hs.2 b (ne b o q).1).trans (u.keep b o q n hb he)
    · obtain ⟨sl, e⟩ := u.slot b o q n hb he
      exact ⟨sl, (hs.2 b (ne b o q).1).trans e⟩
    · rw [upd_ne (ne b o q).2]; exact u.free b o q n he
    · obtain ⟨o', e⟩ := u.there b o q he
      exact ⟨o', (hs.2 b (ne b o q).1).trans e⟩
    · have := u.tups b xs q
      rw [upd_ne (nDt b _ this)]; exact this
    · have := u.frzs b o xs q
      rw [upd_ne (nDt b _ this)]; exact this
    · obtain ⟨more, this⟩ := u.tbls b ps q
      exact ⟨more, by rw [upd_ne (nDt b _ this)]; exact this⟩
  · intro b o e
    by_cases hb : b = D
    · subst hb
      rw [upd_same] at e; cases e
      exact ⟨hz, its, n, hv, (hs.2 b hDC).trans hd⟩
    · rw [upd_ne hb] at e
      refine (J.hok b o e).stay (fun c v hc q => (hs.2 c ?_).trans q) (fun c q => by rw [upd_ne (nDt c _ q)]; exact q) fun c xs q => by rw [upd_ne (nDt c _ q)]; exact q
      have hfree : H' C = none := J.free
      rcases hc with z | z
      · rw [z]; exact ne_of_none e hfree
      · exact ne_of_none z hfree

theorem pe_comp {sc csc : Scope} {N : List Str} {elt iter : Expr} {x : Str} {px pos : Pos} {caps : List (Str × Nat)} {wi : TI} {te : TE} (ck : CompOk sc csc N x caps) (hi : PI X (.Name x px) iter wi)
    (he : ∀ C s2 H2 fp, PE (compCx X (caps.map (·.1) ++ [x]) csc C s2 H2 fp) elt te) (hc : X.calm = true := by rfl) (hsc : X.env.scope = sc := by rfl) (hXN : X.N = N := by rfl) (hs : ∀ x, foldedSetIterable iter X.env x = pure x := by intro _; rfl) :
    PE X (.ListComp elt [⟨.Name x px, iter, [], 0⟩] csc pos) (tComp caps wi te) := by
  subst hsc hXN
  intro pins s σ H Q I h
  rw [eval_ListComp]
  have cellsOk : ∀ p ∈ csc.names, p.2 = .free → ∃ c, X.env.cells.lookup p.1 = some c := fun p hp e => I.ok.has p.1 (.inl (ck.free p hp e))
  refine wpAny_comprehension_free (use := none) rfl hs (closureFor_eq cellsOk) ck.kind ck.loc (thn (hi pins s σ H _ I h) fun v s1 h1 => thn h1 fun itv s2 h2 => ?_)
  obtain ⟨it, fp, tn, J, H2, e, I2, T, st2, f2, W, ⟨m0, w0⟩, turn⟩ := h2
  subst e
  refine wpAny_newObj_type (wpAny_newFunctionEnv ck.cell (by intro y hy; simp at hy) (fun h4 hns4 hsb4 => ?_) ck.kind)
  dsimp only at hns4 hsb4 ⊢
  generalize hD : s2.heap.objs.size = D at hns4 hsb4 ⊢
  generalize hH2 : s2.heap.push { cls := .type "list", dict := none, data := .seq ([] : List Value).toArray } = G at hns4 hsb4 ⊢
  have hGs : G.objs.size = D + 1 := by rw [← hH2, Heap.size_push, hD]
  rw [hGs] at hns4 hsb4 ⊢
  have lt2 : ∀ b o, s2.heap.get? b = some o → b < D := fun b o e => hD ▸ Heap.lt_size e
  have old : ∀ b o, s2.heap.get? b = some o → b ≠ D + 1 ∧ b ≠ D := fun b o e => ⟨nlt1 (lt2 b o e), nlt (lt2 b o e)⟩
  have leD : s2.heap.objs.size ≤ D := Nat.le_of_eq hD
  have leD1 : s2.heap.objs.size ≤ D + 1 := Nat.le_succ_of_le leD
  have keep4 : ∀ b o, s2.heap.get? b = some o → h4.get? b = some o := fun b o e => hsb4.extBut b o (old b o e).1 (Heap.get?_push_of_some _ (hH2 ▸ Heap.get?_push_of_some _ e))
  have hDo : h4.get? D = some { cls := .type "list", data := .seq ([] : List Value).toArray 0 } := by
    refine hsb4.extBut D _ ns1 (Heap.get?_push_of_some _ ?_)
    rw [← hH2, ← hD]
    exact Heap.get?_push_size _ rfl
  have fps : ∀ b ∈ fp, b < s2.heap.objs.size := fun b hb => by
    obtain ⟨o, e, _⟩ := T.obj _ _ st2 b hb
    exact Heap.lt_size e
  have I4 : ∀ t4, Inv (compCx X (caps.map (·.1) ++ [x]) csc (D + 1) s2 H2 fp) [] (capV caps σ ++ [none]) H2 { s2 with heap := h4, toks := t4 } := fun t4 => comp_start (m0 := fun x => [].reverse.lookup x) I2 ck f2 fps leD1 keep4 hns4
  have cellsLt : ∀ y c, (clFold X.env csc.names []).lookup y = some c → c < D := fun y c e => by
    obtain ⟨v, o, ho, _⟩ := I2.cell y c (clFold_in _ _ cellsOk (fun y c h => by simp at h) y c e)
    exact lt2 c o ho
  have fsLt : ∀ b ∈ frs X.stack, b < D := fun b hb => by
    obtain ⟨_, o, ho, _⟩ := I2.stack.mem hb
    exact lt2 b o ho
  -- the iterator's objects within the block
  have fpC : ∀ {pl : List (Addr × Obj)} {H' : Hp}, (∀ p ∈ pl, p.1 = D) → (∀ b ∈ fp, H' b = none) → ∀ b ∈ fp, FpOk (compCx X (caps.map (·.1) ++ [x]) csc (D + 1) s2 H2 fp) pl H' b := fun {pl H'} hpl hn b hb => by
    have hb' : b < D := hD ▸ fps b hb
    refine ⟨hn b hb, nlt1 hb', ?_, .inl hb, fun y c e => ?_, fun p hp => ?_⟩
    · intro z
      rcases List.mem_cons.mp (I2.stkSub b z) with e | e
      · exact (f2 b hb).2.1 e
      · exact (f2 b hb).2.2.1 e
    · exact (f2 b hb).2.2.2.2.1 y c (clFold_in _ _ cellsOk (fun y c h => by simp at h) y c e)
    · have : p.1 = D := hpl p (by simpa using hp)
      rw [this]; exact fun z => nlt hb' z.symm
  have loop : ∀ t4, codeAny (model X.prog X.w) X.A (.compLoop (.ListComp elt [⟨.Name x px, iter, [], 0⟩] csc pos) 0 (.ref it) (.ref D) (compEnvC csc (clFold X.env csc.names []) (D + 1) X.env))
      (compPost (model X.prog X.w) X.A X.xe none (EP X pins σ Q) (.ref D) (D + 1)) { s2 with heap := h4, toks := t4 } := by
    intro t4
    refine compLoop_go (fun n s' => ∃ (i : Nat) (ys : List V) (its : List Value) (k : Nat) (σ' : St) (H' : Hp), Inv (compCx X (caps.map (·.1) ++ [x]) csc (D + 1) s2 H2 fp) [(D, { cls := .type "list", data := .seq its.toArray k })] σ' H' s' ∧ tn i s'.heap ∧ (∀ b ∈ fp, H' b = none) ∧ Vals ys its ∧ ys.length ≤ sizeLine ∧ W i n ys H' ∧ (∃ z, σ' = capV caps σ ++ [z])) ?_ m0 ?_
    · rintro n s3 ⟨i, ys, its, k, σ3, H3, I3, st3, fr3, hv, hz, w3, z3, rfl⟩
      have pl1 : ∀ p ∈ [((D, { cls := .type "list", data := .seq its.toArray k }) : Addr × Obj)], p.1 = D := fun p hp => by rw [List.mem_singleton.mp hp]
      rcases turn i n ys H3 w3 with ⟨stop, qn⟩ | ⟨go, hlt, step⟩
      · refine wpAny_mono (T.done (compCx X (caps.map (·.1) ++ [x]) csc (D + 1) s2 H2 fp) rfl rfl rfl hc i _ s3 _ H3 (fun _ _ => False) I3 (fpC pl1 fr3) st3 stop) (fun r s4 ⟨hr, I4'⟩ => ?_) fun _ _ f => f.elim
        subst hr
        obtain ⟨m, hn, _⟩ := id I4'.loc
        have pD := I4'.pin (D, { cls := .type "list", data := .seq its.toArray k }) (by simp)
        refine ⟨m, hn, fun h' hs' => ⟨.ref D, _, comp_done I2 I4' f2 leD1 leD ns1 hs' hv hz pD.1 pD.2.1, rfl, qn D pD.2.1⟩⟩
      · refine wpAny_mono (T.item (compCx X (caps.map (·.1) ++ [x]) csc (D + 1) s2 H2 fp) rfl rfl rfl hc i _ s3 _ H3 (fun _ _ => False) I3 (fpC pl1 fr3) st3 go) (fun r s4 ⟨u, hr, h4'⟩ => ?_) fun _ _ f => f.elim
        subst hr
        refine wpAny_mono h4' (fun _ s4 ⟨xv, H5, I5, r5, y5, st5, fr5⟩ => ?_) fun _ _ f => f.elim
        have I5' := I5.pinned (fpC pl1 fr5) (T.obj _ _ st5)
        have hiN : (caps.map (·.1) ++ [x])[caps.length]? = some x := by rw [List.getElem?_append_right (by simp)]; simp
        refine wpAny_mono (pg_name (X := compCx X (caps.map (·.1) ++ [x]) csc (D + 1) s2 H2 fp) (i := caps.length) ck.nd hiN (.inl (lookup_relabel_local ck.tg)) (.inr (lookup_relabel_local ck.tg)) _ s4 _ H5 xv u _ I5' r5 (show gName caps.length xv _ H5 (fun σ6 H6 => σ6 = capV caps σ ++ [some xv] ∧ H6 = H5) from ⟨?_, rfl⟩)) (fun _ s6 ⟨σ6, H6, I6, hσ, hH⟩ => ?_) fun _ _ f => f.elim
        · rw [List.set_append_right _ _ (by rw [capV_len]; exact Nat.le_refl _), capV_len, Nat.sub_self]; rfl
        subst hσ hH
        refine wpAny_mono (he (D + 1) s2 H2 fp _ s6 _ H6 _ I6 (step xv H6 y5)) (fun w7 s7 ⟨y, H7, I7, r7, m', hm, w8⟩ => ?_) fun _ _ f => f.elim
        have pD := I7.pin (D, { cls := .type "list", data := .seq its.toArray k }) (by simp)
        have hll := hv.length
        refine call_meets F.slot_list_append ⟨_, pD.1, rfl⟩ F.entry_list_append (F.args_list_append_2 _ _) (PySem.list_append D its.toArray k w7 (by rw [List.size_toArray]; omega)) ⟨pD.1, ?_⟩
        have q := PySem.IsL.update pD.1 (·.push w7)
        have hpush : its.toArray.push w7 = (its ++ [w7]).toArray := by simp
        rw [hpush] at q
        obtain ⟨k', q⟩ : ∃ k', (s7.heap.update D (Obj.mapSeq (·.push w7))).get? D = some { cls := .type "list", data := .seq (its ++ [w7]).toArray k' } := ⟨_, q⟩
        have I7u : Inv (compCx X (caps.map (·.1) ++ [x]) csc (D + 1) s2 H2 fp) (pinsAt fp s4.heap) _ H7 s7 := I7.pins_of fun p hp => I7.pin p (List.mem_append_right _ (List.mem_append_right _ hp))
        have pfp : ∀ p ∈ pinsAt fp s4.heap, p.1 < D := fun p hp => hD ▸ fps p.1 (of_pinsAt hp).1
        have I8 := I7u.turned (h' := s7.heap.update D (Obj.mapSeq (·.push w7))) (t' := s7.toks) (it := D) (fun b o hb e => (Heap.get?_update_other s7.heap _ (Ne.symm hb)).trans e) pD.2.1 ns1 (.inr leD) (fun y c e => nlt (cellsLt y c e)) (fun p hp => nlt (pfp p (by simpa using hp)))
        refine ⟨m', hm, i + 1, ys ++ [y], its ++ [w7], k', _, H7, I8.pins_of fun p hp => ?_, T.keep _ _ _ st5 fun b hb o e => (I8.pin (b, o) (List.mem_append_right _ (mem_pinsAt hb e))).1, fun b hb => ?_, hv.append (.cons r7 .nil), ?_, w8, _, rfl⟩
        · rw [List.mem_singleton.mp hp]
          exact ⟨q, pD.2.1, pD.2.2.1, pD.2.2.2.1, fun v => by simp⟩
        · obtain ⟨o, e, d⟩ := T.obj _ _ st5 b hb
          exact (I8.pin (b, o) (List.mem_append_right _ (mem_pinsAt hb e))).2.1
        · rw [List.length_append, List.length_singleton]; omega
    · refine ⟨0, [], [], 0, _, H2, (I4 t4).pins_of fun p hp => ?_, T.keep _ _ _ st2 fun b hb o e => keep4 b o e, fun b hb => (f2 b hb).1, .nil, Nat.zero_le _, w0, _, rfl⟩
      rw [List.mem_singleton.mp hp]
      refine ⟨hDo, I2.hok.fresh leD, ns1, fun z => absurd (fsLt D z) (Nat.lt_irrefl _), fun v => by simp⟩
  exact codeAny_compStart_list (loop _) (T.self _ 0 _ _ _ (T.keep _ _ _ st2 fun b hb o e => keep4 b o e) (loop _))
end
end L2
namespace L2
open PySem PySem.Spec PyProof.Rows
section
variable {X : Cx}
theorem strsAre_of {ys : List Str} : ∀ {us : List Value}, Vals (ys.map V.str) us → StrsAre us ys := by
  induction ys with
  | nil => intro us r; cases r; exact .nil
  | cons y r ih =>
    intro us h
    cases h with
    | cons h t =>
      obtain ⟨k, rfl⟩ := h
      exact .cons _ _ (ih t)
/-- sep.join(a list of texts) -/
def rJoin (K : PySem.W.Frag) : V → List V → Hp → VK → Prop := fun x vs H Q => ∃ z p ys, x = .str z ∧ vs = [.ref p] ∧ SqL K H p (ys.map V.str) ∧ (ys.map (·.length)).sum + ys.length * z.length ≤ 16777216 ∧ Q (.str (Txt.join z ys)) H
theorem mt_join : MtR X "str.join" (rJoin X.K) := by
  intro pins s σ H x vs v us Q I rx rv h
  obtain ⟨z, p, ys, rfl, rfl, hq, hz, q⟩ := h
  obtain ⟨t, rfl⟩ := rx
  obtain ⟨u, rfl, ru⟩ := rv.one
  cases ru
  obtain ⟨its, r, pl, _⟩ := I.list hq
  exact PyProof.Rows.join_list pl.isList (by simpa using strsAre_of r) hz fun t' k => ⟨.str _, H, I.tok _, ⟨_, rfl⟩, q⟩
/-- x.startswith(y, i), 0 ≤ i -/
def rStarts3 : V → List V → Hp → VK → Prop := fun x vs H Q => ∃ a b i, x = .str a ∧ vs = [.str b, .int i] ∧ Q (.bl (fromIndex a.length i + b.length ≤ a.length && Builtin.Str.subAt a b (fromIndex a.length i))) H
theorem mt_starts3 : MtR X "str.startswith" rStarts3 := by
  intro pins s σ H x vs v us Q I rx rv h
  obtain ⟨a, b, i, rfl, rfl, q⟩ := h
  obtain ⟨t, rfl⟩ := rx
  obtain ⟨u, w', rfl, ru, rw'⟩ := rv.two
  obtain ⟨t1, rfl⟩ := ru
  obtain ⟨t2, rfl⟩ := rw'
  exact call_gives F.slot_str_startswith (typeIs_str _ _ _) F.entry_str_startswith (F.args_str_startswith_3 _ _ _) (gives_str_startswith_from a b i t t1 t2) ⟨.bl _, H, I, rfl, q⟩
/-- x.startswith(y) -/
def rStarts2 : V → List V → Hp → VK → Prop := fun x vs H Q => ∃ a b, x = .str a ∧ vs = [.str b] ∧ Q (.bl (0 + b.length ≤ a.length && Builtin.Str.subAt a b 0)) H
theorem mt_starts2 : MtR X "str.startswith" rStarts2 := by
  intro pins s σ H x vs v us Q I rx rv h
  obtain ⟨a, b, rfl, rfl, q⟩ := h
  obtain ⟨t, rfl⟩ := rx
  obtain ⟨u, rfl, ru⟩ := rv.one
  obtain ⟨t1, rfl⟩ := ru
  exact call_gives F.slot_str_startswith (typeIs_str _ _ _) F.entry_str_startswith (F.args_str_startswith_2 _ _) (gives_str_startswith a b t t1) ⟨.bl _, H, I, rfl, q⟩
/-- the signs of a text, one text each -/
def signsV (z : Str) : List V := z.cps.toList.map fun c => V.str ⟨#[c]⟩
theorem vals_signs {z : Str} {acc : Array Value} (h : ItemsOf (SignAt z) acc z.cps.size) : Vals (signsV z) acc.toList := by
  obtain ⟨hs, hi⟩ := h
  have aux : ∀ (cs : List Nat) (us : List Value), us.length = cs.length → (∀ (i : Nat) (v : Value), us[i]? = some v → ∃ c u, cs[i]? = some c ∧ v = Value.str ⟨#[c]⟩ u) → Vals (cs.map fun c => V.str ⟨#[c]⟩) us := by
    intro cs
    induction cs with
    | nil => intro us hl _; cases us with
      | nil => exact .nil
      | cons _ _ => cases hl
    | cons c r ih => 
      intro us hl h
      cases us with
      | nil => cases hl
      | cons u r' =>
        refine .cons ?_ (ih r' (by simpa using hl) fun i v e => h (i + 1) v (by simpa using e))
        obtain ⟨c', t, e, z⟩ := h 0 u rfl
        simp at e
        subst e
        exact ⟨t, z⟩
  refine aux _ _ (by simp [hs]) fun i v e => ?_
  obtain ⟨c, u, e1, e2⟩ := hi i v (by simpa using e)
  exact ⟨c, u, by simpa using e1, e2⟩
theorem call_listS (hc : X.calm = true) : CallR X (.type "list") (fun xs H Q => ∃ z : Str, xs = [.str z] ∧ z.length ≤ sizeLine ∧ ∀ l, H l = none → Q (.ref l) (upd H l (.lst (signsV z)))) := by
  intro pins s σ H xs us Q I r h
  obtain ⟨z, rfl, hz, q⟩ := h
  obtain ⟨u, rfl, rx⟩ := vals1 r
  obtain ⟨t, rfl⟩ := rx
  refine PySem.call_list_str (I.ok.hd hc) z t (fun h' tk acc' c' kp e hi => ?_) hz
  have hv := vals_signs hi
  exact ⟨.ref s.heap.objs.size, _, I.laid (t' := tk) kp (Nat.le_refl _) (show ObjOk X.prog X.w _ h' _ (.lst (signsV z)) from ⟨by simp only [signsV, List.length_map, Array.length_toList]; exact hz, acc'.toList, c', hv, by simpa using e⟩), rfl, q _ (I.hok.fresh (Nat.le_refl _))⟩
/-- isinstance(x, c) -/
theorem call_isi : CallR X (.builtin "isinstance") (fun xs H Q => ∃ x c cv t b, xs = [x, c] ∧ (c = V.ty cv ∨ False) ∧ TyOf X.K H x t ∧ PySem.W.kitOne X.K t (.type cv) = some b ∧ Q (.bl b) H) := by
  intro pins s σ H xs us Q I r h
  obtain ⟨x, c, cv, t, b, rfl, hc, ty, e, q⟩ := h
  obtain ⟨u, w', rfl, ru, rw'⟩ := vals2 r
  rcases hc with rfl | hc
  · cases rw'
    exact isinst_ok I ru ty e fun tk => ⟨.bl b, H, I.tok _, rfl, q⟩
  · exact hc.elim
end
end L2
namespace L2
open PySem PySem.Spec PyProof.Rows
def At (X : Cx) (D : Ends) (sts : List Stmt) (σ : St) (H : Hp) : Prop := ∀ (pins : List (Addr × Obj)) (s : Shared), Inv X pins σ H s → wpAny (model X.prog X.w) X.A (execs sts X.env) (SP X pins D) X.xe s
section
variable {X : Cx} {D : Ends} {st : Stmt} {rest sts : List Stmt} {t : TS} {σ : St} {H : Hp}
theorem pss_at : PSs X sts (fun D σ H => At X D sts σ H) := fun pins s σ H D I h => h pins s I
theorem at_nil (h : D.nx σ H) : At X D [] σ H := fun _ _ I => wpAny_execs_nil ⟨σ, H, I, h⟩
theorem at_cons (h : PS X st t) (q : t { D with nx := fun σ H => At X D rest σ H } σ H) : At X D (st :: rest) σ H := fun pins s I =>
  (pss_cons h pss_at) pins s σ H D I q
theorem at_one (h : PS X st t) (q : t D σ H) : At X D [st] σ H := fun pins s I => (pss_one h) pins s σ H D I q
theorem at_body (h : At X D sts σ H) : ∃ t, PSs X sts t ∧ t D σ H := ⟨fun D' σ' H' => D' = D ∧ σ' = σ ∧ H' = H, fun pins s σ' H' D' I ⟨e1, e2, e3⟩ => by subst e1 e2 e3; exact h pins s I, rfl, rfl, rfl⟩
end
/-- a test at a value, both ways -/
theorem ifd {c : Prop} [Decidable c] {A B : Prop} (h1 : c → A) (h2 : ¬ c → B) : if decide c = true then A else B := by
  by_cases h : c
  · rw [decide_eq_true h]; exact h1 h
  · rw [decide_eq_false h]; exact h2 h
theorem ifnd {c : Prop} [Decidable c] {A B : Prop} (h1 : ¬ c → A) (h2 : c → B) : if (!decide c) = true then A else B := by
  by_cases h : c
  · rw [decide_eq_true h]; exact h2 h
  · rw [decide_eq_false h]; exact h1 h
theorem ifb {c : Bool} {A B : Prop} (h1 : c = true → A) (h2 : c = false → B) : if c = true then A else B := by
  cases c
  · exact h2 rfl
  · exact h1 rfl
theorem Same.upd {H : Hp} {p : Addr} {o : HO} (h : H p = none) : Same H (upd H p o) := fun b u e => by rw [upd_ne (ne_of_none e h)]; exact e
theorem Same.to {H H1 : Hp} {p : Addr} {o : HO} (s : Same H H1) (h : H1 p = none) : Same H (L2.upd H1 p o) := s.trans (Same.upd h)
theorem SqL.same {K : PySem.W.Frag} {H H' : Hp} {a : Addr} {xs : List V} (h : SqL K H a xs) (e : Same H H') : SqL K H' a xs := e.seq h
section
variable {X : Cx} {C : Addr} {x : Str} {p pos : Pos}
def tMakeO (C : Addr) : TE := fun _ H Q => ∀ x dx, H x = none → H dx = none → dx ≠ x → Q (.ref x) (upd (upd H dx (.own x)) x (.ins C dx []))
end
end L2
namespace L2
open PySem PySem.Spec PyProof.Rows
section
variable {X : Cx} {C : Addr} {x : Str} {p pos : Pos}
structure MkO (K : PySem.W.Frag) (C : Addr) : Prop where
  makes : PySem.W.makesIn K C = true
  init : PySem.W.findIn K (.ref C) "__init__" = some (some (.builtin "object.__init__"))
  kp : PySem.W.keepIn K (.ref C) = true
theorem pe_makeO (M : MkO X.K C) (hg : Gl X x) (hm : X.mg x = some (.ref C)) (hdb : (x == ("__debug__" : Str)) = false := by decide) : PE X (.Call (.Name x p) [] [] pos) (tMakeO C) := by
  intro pins s σ H Q I h
  refine wpAny_Call_Name_kw (ld_glob I hg hm ?_ hdb)
  refine PySem.W.callWith_K0 I.kIn M.kp (wpAny_call ?_)
  have hq := h (s.heap.objs.size + 1) s.heap.objs.size (I.hok.fresh (Nat.le_succ _)) (I.hok.fresh (Nat.le_refl _)) (Nat.ne_of_lt (Nat.lt_succ_self _))
  have I2 := Inv.made (C := C) I
  have Y := PySem.W.makes_of (M := model X.prog X.w) I.kIn M.makes
  refine make_map0 I.kIn M.makes M.init (fun self => PySem.W.Looks.of_pure (PySem.W.oi_bind self)) ?_
  obtain ⟨hh, g, d, t, os⟩ := s
  have e2 : ((hh.push PySem.W.emptyDict).push (PySem.W.instObj C hh.objs.size)).get? (hh.objs.size + 1) = some (PySem.W.instObj C hh.objs.size) := by
    have := Heap.get?_push_size (hh.push PySem.W.emptyDict) (o := PySem.W.instObj C hh.objs.size) rfl
    rwa [Heap.size_push] at this
  have t1 : PySem.W.Looks (model X.prog X.w) ((hh.push PySem.W.emptyDict).push (PySem.W.instObj C hh.objs.size)) (typeOf (.ref (hh.objs.size + 1))) (.ref C) := (PySem.W.Looks.ld e2).andThen .now
  have t2 : PySem.W.Looks (model X.prog X.w) ((hh.push PySem.W.emptyDict).push (PySem.W.instObj C hh.objs.size)) (isInstance (.ref (hh.objs.size + 1)) (.type "object")) true := t1.andThen (Y.top.keeps fun b o e => Heap.get?_push_of_some _ (Heap.get?_push_of_some _ e))
  refine codeAny_call_builtin PySem.W.oi_plain PySem.W.entry_oi (@PySem.W.check_slot (model X.prog X.w) _ _ _ "object.__init__" "object" "__init__" (.ref (hh.objs.size + 1)) [] [] _ PySem.W.oi_kind PySem.W.oi_split t2 (PySem.W.oi_args (.ref (hh.objs.size + 1))) ?_)
  rw [PySem.W.oi_run]
  exact wpAny_pure ⟨rfl, ⟨V.ref (hh.objs.size + 1), _, I2, rfl, hq⟩⟩
end
end L2
namespace L2
open PySem PySem.Spec PyProof.Rows
section
variable {X : Cx}
def rSlS : V → Option Int → Option Int → Hp → VK → Prop := fun x lo hi H Q => ∃ z, x = .str z ∧ z.length ≤ sizeLine ∧ Q (.str (Txt.slice z lo hi)) H
theorem part_of {v : Value} {o : Option Int} (h : IsPart v o) : ∃ l : Option (Int × Tok), v = partValue l ∧ l.map (·.1) = o := by
  cases h with
  | none => exact ⟨none, rfl, rfl⟩
  | int i t => exact ⟨some (i, t), rfl, rfl⟩
theorem sl_str : SlR X rSlS := by
  intro pins s σ H x v vl vu lo hi sl Q I rx hs pl pu h
  obtain ⟨z, rfl, hz, q⟩ := h
  obtain ⟨t, rfl⟩ := rx
  obtain ⟨l, rfl, rfl⟩ := part_of pl
  obtain ⟨u, rfl, rfl⟩ := part_of pu
  refine ⟨"str", _, F.slot_str_getitem.lookup, typeIs_str _ _ _, wpAny_getItem_str_slice (l := l) (u := u) (st := none) (by obtain ⟨o, e, c, d⟩ := hs; exact ⟨o, e, c, d⟩) rfl ?_⟩
  exact post_val_or_str ⟨Nat.le_trans (Txt.slice_le z _ _) hz, fun t' k => ⟨.str _, H, I.tok _, ⟨t', rfl⟩, q⟩⟩
end
end L2
namespace L2
open PySem PySem.Spec PyProof.Rows
section
variable {X : Cx} {D : Ends} {st : Stmt} {rest sts : List Stmt} {t : TS} {σ : St} {H : Hp}
/-- a cut behind a statement -/
theorem at_consR (R : St → Hp → Prop) (h : PS X st t) (q : t { D with nx := R } σ H) (r : ∀ σ H, R σ H → At X D rest σ H) : At X D (st :: rest) σ H := fun pins s I =>
  (pss_cons h (u := fun D' σ H => D' = D ∧ R σ H) (fun pins s σ H D' I ⟨e, z⟩ => by subst e; exact r σ H z pins s I)) pins s σ H D I (by
    have e : (fun σ H => D = D ∧ R σ H) = R := by funext σ H; simp
    show t { D with nx := fun σ H => D = D ∧ R σ H } σ H
    rw [e]; exact q)
theorem cxOf_K {CX : CXT} {P : Program} {w : World} {K : PySem.W.Frag} {mg : Str → Option Value} {base : Heap} {N : List Str} {qual : Str} {scope : Scope} {f : Addr} {cd : Value} {A : Around} {outer : List Env} {s : Shared} {H : Hp} {E : XK} :
    (cxOf CX P w K mg base N qual scope f cd A outer s H E).K = K := rfl
end
end L2
namespace L2
open PySem PySem.Spec PyProof.Rows
theorem comp_range {caps : List (Str × Nat)} {lo : Int} {n : Nat} {te : TE} {σ : St} {H : Hp} {Q : VK} (Pv : Nat → List V → Hp → Prop) (h0 : Pv 0 [] H) (hn : n < sizeLine)
    (hs : ∀ i ys H, i < n → ys.length = i → Pv i ys H → te (capV caps σ ++ [some (.int (lo + i))]) H fun y H2 => ∃ m', m' < n - i ∧ m' = n - (i + 1) ∧ i + 1 ≤ n ∧ (ys ++ [y]).length = i + 1 ∧ Pv (i + 1) (ys ++ [y]) H2) (hd : ∀ ys H, ys.length = n → Pv n ys H → ∀ D, H D = none → Q (.ref D) (upd H D (.lst ys))) :
    CompW (Itr lo n) caps te σ H Q := by
  refine ⟨fun i m ys H => m = n - i ∧ i ≤ n ∧ ys.length = i ∧ Pv i ys H, ⟨n, by simp, Nat.zero_le _, rfl, h0⟩, ?_⟩
  rintro i m ys H ⟨rfl, hi, hl, p⟩
  by_cases hlt : i < n
  · refine .inr ⟨hlt, by omega, fun x H' y => ?_⟩
    obtain ⟨e, y⟩ := y
    subst e y
    exact hs i ys _ hlt hl p
  · have e : i = n := by omega
    subst e
    exact .inl ⟨Nat.le_refl _, hd ys H hl p⟩
theorem comp_list {K : PySem.W.Frag} {a : Addr} {xs : List V} {caps : List (Str × Nat)} {te : TE} {σ : St} {H : Hp} {Q : VK} (Pv : Nat → List V → Hp → Prop) (h0 : Pv 0 [] H) (hn : xs.length < sizeLine)
    (hq : ∀ i ys H, i ≤ xs.length → Pv i ys H → SqL K H a xs)
    (hs : ∀ i x ys H, xs[i]? = some x → ys.length = i → Pv i ys H → te (capV caps σ ++ [some x]) H fun y H2 => ∃ m', m' < xs.length - i ∧ m' = xs.length - (i + 1) ∧ i + 1 ≤ xs.length ∧ (ys ++ [y]).length = i + 1 ∧ Pv (i + 1) (ys ++ [y]) H2) (hd : ∀ ys H, ys.length = xs.length → Pv xs.length ys H → ∀ D, H D = none → Q (.ref D) (upd H D (.lst ys))) :
    CompW (Itl K a) caps te σ H Q := by
  refine ⟨fun i m ys H => m = xs.length - i ∧ i ≤ xs.length ∧ ys.length = i ∧ Pv i ys H, ⟨xs.length, by simp, Nat.zero_le _, rfl, h0⟩, ?_⟩
  rintro i m ys H ⟨rfl, hi, hl, p⟩
  have q := hq i ys H hi p
  by_cases hlt : i < xs.length
  · refine .inr ⟨⟨xs, xs[i], q, by simp [hlt]⟩, by omega, fun x H' y => ?_⟩
    obtain ⟨e, y⟩ := y
    subst e
    exact hs i x ys _ (y xs q) hl p
  · have e : i = xs.length := by omega
    subst e
    exact .inl ⟨⟨xs, q, Nat.le_refl _⟩, hd ys H hl p⟩
/-- the turn's end of comp_range, comp_list -/
theorem comp_turn {n i : Nat} {ys : List V} {y : V} {R : Prop} (hi : i < n) (hl : ys.length = i) (r : R) : ∃ m', m' < n - i ∧ m' = n - (i + 1) ∧ i + 1 ≤ n ∧ (ys ++ [y]).length = i + 1 ∧ R :=
  ⟨n - (i + 1), by omega, rfl, hi, by simp [hl], r⟩
theorem atI_in {α : Type} (xs : List α) {i : Int} (h0 : 0 ≤ i) (h1 : i < xs.length) : ∃ v, xs[i.toNat]? = some v ∧ atI xs i = some v := by
  have h3 : i.toNat < xs.length := by omega
  refine ⟨xs[i.toNat], List.getElem?_eq_getElem h3, ?_⟩
  have q := atI_nat (xs := xs) (List.getElem?_eq_getElem h3)
  rw [Int.toNat_of_nonneg h0] at q
  exact q
theorem emod_rng (a : Int) {m : Int} (h : 0 < m) : 0 ≤ a % m ∧ a % m < m := ⟨Int.emod_nonneg _ (by omega), Int.emod_lt_of_pos _ h⟩
theorem sl_le {n : Nat} (h : n ≤ 1000000) : n ≤ sizeLine := Nat.le_trans h (by decide)
theorem sl_lt {n : Nat} (h : n ≤ 1000000) : n < sizeLine := Nat.lt_of_le_of_lt h (by decide)
/-- a field of the object in a slot -/
theorem fldv {K : PySem.W.Frag} {i : Nat} {f : Str} {σ : St} {H : Hp} {Q : VK} {a C dx : Addr} {fs : List (Str × V)} {v : V} (e : σ[i]? = some (some (.ref a))) (h : H a = some (.ins C dx fs)) (c : Cls K C) (n : NoAttr K C f) (l : fs.lookup f = some v) (q : Q v H) : tFld K (tVar i) f σ H Q :=
  ⟨_, e, a, C, dx, fs, v, rfl, h, c, n, l, q⟩
def ForW (J : It) (g : TG) (tb : TS) (D : Ends) (σ : St) (H1 : Hp) : Prop := ∃ W : Nat → Nat → St → Hp → Prop, (∃ m, W 0 m σ H1) ∧ ∀ i m σ H, W i m σ H →
  (J.stop i H ∧ D.nx σ H) ∨ (J.go i H ∧ ∃ N : St → Hp → Prop, (∀ σ' H', N σ' H' → ∃ m', m' < m ∧ W (i + 1) m' σ' H') ∧ ∀ x H', J.yld i H x H' → g x σ H' fun σ2 H2 => tb { D with nx := N, ct := N, bk := D.nx } σ2 H2)
def tForA (wi : TI) (g : TG) (tb : TS) : TS := fun D σ H => wi σ H fun J H1 => ForW J g tb D σ H1
theorem ps_forA {X : Cx} {tg iter : Expr} {body : List Stmt} {wi : TI} {g : TG} {tb : TS} {pos : Pos} (hp : PassesOwn (model X.prog X.w) X.A X.env X.xe) (hc : X.calm = true) (hi : PI X tg iter wi) (hg : PG X tg g) (hb : PSs X body tb)
    (hs : ∀ x, foldedSetIterable iter X.env x = pure x := by intro _; rfl) : PS X (.For tg iter body [] pos) (tForA wi g tb) := ps_for hp hc hi hg hb hs
theorem forW_range {lo : Int} {n : Nat} {g : TG} {tb : TS} {D : Ends} {σ : St} {H : Hp} (Pv : Nat → St → Hp → Prop) (h0 : Pv 0 σ H)
    (hs : ∀ i σ H, i < n → Pv i σ H → g (.int (lo + i)) σ H fun σ2 H2 => tb { D with nx := Pv (i + 1), ct := Pv (i + 1), bk := D.nx } σ2 H2) (hd : ∀ σ H, Pv n σ H → D.nx σ H) : ForW (Itr lo n) g tb D σ H := for_range Pv h0 hs hd
theorem forW_list {K : PySem.W.Frag} {a : Addr} {xs : List V} {g : TG} {tb : TS} {D : Ends} {σ : St} {H : Hp} (Pv : Nat → St → Hp → Prop) (h0 : Pv 0 σ H) (hl : ∀ i σ H, i ≤ xs.length → Pv i σ H → SqL K H a xs)
    (hs : ∀ i x σ H, xs[i]? = some x → Pv i σ H → g x σ H fun σ2 H2 => tb { D with nx := Pv (i + 1), ct := Pv (i + 1), bk := D.nx } σ2 H2) (hd : ∀ σ H, Pv xs.length σ H → D.nx σ H) : ForW (Itl K a) g tb D σ H := for_list Pv h0 hl hs hd
end L2
namespace L2
open PySem PySem.Spec PyProof.Rows

section
variable {κ : Type} [DecidableEq κ]
def valV (kvs : List (κ × V)) (k : κ) : Option V := (kvs.find? fun kv => decide (kv.1 = k)).map (·.2)
/-- in its place, or at the end -/
def putK (kvs : List (κ × V)) (k : κ) (v : V) : List (κ × V) :=
  if (kvs.any fun kv => decide (kv.1 = k)) = true then kvs.map (fun kv => if kv.1 = k then (kv.1, v) else kv) else kvs ++ [(k, v)]
theorem valV_pos {p : κ × V} {r : List (κ × V)} {k : κ} (e : p.1 = k) : valV (p :: r) k = some p.2 := by simp [valV, List.find?_cons, e]
theorem valV_neg {p : κ × V} {r : List (κ × V)} {k : κ} (e : ¬ p.1 = k) : valV (p :: r) k = valV r k := by simp [valV, List.find?_cons, e]
theorem valV_any (k : κ) : ∀ kvs : List (κ × V), (kvs.any fun kv => decide (kv.1 = k)) = (valV kvs k).isSome
  | [] => rfl
  | p :: r => by
    rw [List.any_cons]
    by_cases e : p.1 = k
    · simp only [valV_pos e, decide_eq_true e, Bool.true_or, Option.isSome_some]
    · rw [valV_neg e, decide_eq_false e, Bool.false_or]; exact valV_any k r
theorem valV_map (k j : κ) (y : V) : ∀ kvs : List (κ × V), valV (kvs.map fun kv => if kv.1 = k then (kv.1, y) else kv) j = (valV kvs j).map fun x => if j = k then y else x
  | [] => rfl
  | p :: r => by
    have ih := valV_map k j y r
    rw [List.map_cons]
    by_cases h : p.1 = k
    · rw [if_pos h]
      by_cases e : p.1 = j
      · rw [valV_pos (p := (p.1, y)) e, valV_pos e, Option.map_some, if_pos (e.symm.trans h)]
      · rw [valV_neg (p := (p.1, y)) e, valV_neg e, ih]
    · rw [if_neg h]
      by_cases e : p.1 = j
      · rw [valV_pos (p := p) e, valV_pos e, Option.map_some, if_neg (fun z => h (e.trans z))]
      · rw [valV_neg (p := p) e, valV_neg e, ih]
theorem valV_snoc (k j : κ) (y : V) : ∀ kvs : List (κ × V), valV kvs k = none → valV (kvs ++ [(k, y)]) j = if j = k then some y else valV kvs j
  | [], _ => by
    by_cases e : k = j
    · rw [if_pos e.symm]; exact valV_pos (p := (k, y)) e
    · rw [if_neg (fun z => e z.symm)]; exact valV_neg (p := (k, y)) e
  | p :: r, hn => by
    rw [List.cons_append]
    have hk : ¬ p.1 = k := fun z => by rw [valV_pos z] at hn; cases hn
    rw [valV_neg hk] at hn
    have ih := valV_snoc k j y r hn
    by_cases e : p.1 = j
    · rw [valV_pos e, valV_pos e, if_neg (fun z => hk (e.trans z))]
    · rw [valV_neg e, valV_neg e, ih]
theorem valV_put (kvs : List (κ × V)) (k j : κ) (y : V) : valV (putK kvs k y) j = if j = k then some y else valV kvs j := by
  unfold putK
  by_cases a : (kvs.any fun kv => decide (kv.1 = k)) = true
  · rw [if_pos a, valV_map]
    rw [valV_any] at a
    by_cases e : j = k
    · obtain ⟨x, hx⟩ := Option.isSome_iff_exists.mp a
      rw [if_pos e, e, hx, Option.map_some, if_pos rfl]
    · rw [if_neg e]
      cases valV kvs j with
      | none => rfl
      | some x => rw [Option.map_some, if_neg e]
  · rw [if_neg a]
    refine valV_snoc k j y kvs ?_
    rw [valV_any] at a
    cases q : valV kvs k with
    | none => rfl
    | some x => rw [q] at a; exact (a rfl).elim
theorem length_putK (kvs : List (κ × V)) (k : κ) (v : V) : (putK kvs k v).length ≤ kvs.length + 1 := by
  unfold putK
  split
  · rw [List.length_map]; omega
  · rw [List.length_append, List.length_cons, List.length_nil]; omega
theorem RelO.isSome_eq {o : Option V} {u : Option Value} (r : RelO o u) : o.isSome = u.isSome := by
  cases o with
  | none => cases u with
    | none => rfl
    | some _ => exact (show False from r).elim
  | some _ => cases u with
    | none => exact (show False from r).elim
    | some _ => rfl
theorem RelO.getD {o : Option V} {u : Option Value} {d : V} {d' : Value} (r : RelO o u) (rd : RelV d d') : RelV (o.getD d) (u.getD d') := by
  cases o with
  | none => cases u with
    | none => exact rd
    | some _ => exact (show False from r).elim
  | some _ => cases u with
    | none => exact (show False from r).elim
    | some _ => exact r

/-- raw tables of the same keys -/
theorem KV.val {kvs : List (κ × V)} {vs : List (κ × Value)} (r : KV kvs vs) (k : κ) : RelO (valV kvs k) (valueAt vs k) := by
  unfold KV at r
  induction r with
  | nil => exact True.intro
  | @cons p q ps qs h t ih =>
    obtain ⟨h1, h2⟩ := h
    by_cases e : p.1 = k
    · have e' : q.1 = k := h1.symm.trans e
      have b : valueAt (q :: qs) k = some q.2 := by simp [valueAt, List.find?_cons, e']
      rw [valV_pos e, b]; exact h2
    · have e' : ¬ q.1 = k := fun z => e (h1.trans z)
      have b : valueAt (q :: qs) k = valueAt qs k := by simp [valueAt, List.find?_cons, e']
      rw [valV_neg e, b]; exact ih
theorem KV.any {kvs : List (κ × V)} {vs : List (κ × Value)} (r : KV kvs vs) (k : κ) : (kvs.any fun kv => decide (kv.1 = k)) = vs.any fun kv => decide (kv.1 = k) := by
  unfold KV at r
  induction r with
  | nil => rfl
  | cons h t ih => rw [List.any_cons, List.any_cons, ih, h.1]
theorem KV.repl {kvs : List (κ × V)} {vs : List (κ × Value)} (r : KV kvs vs) (k : κ) {y : V} {u : Value} (ry : RelV y u) :
    KV (kvs.map fun kv => if kv.1 = k then (kv.1, y) else kv) (vs.map fun kv => if kv.1 = k then (kv.1, u) else kv) := by
  unfold KV at r ⊢
  induction r with
  | nil => exact .nil
  | @cons p q ps qs h t ih =>
    rw [List.map_cons, List.map_cons]
    refine .cons ?_ ih
    obtain ⟨h1, h2⟩ := h
    by_cases e : p.1 = k
    · rw [if_pos e, if_pos (h1.symm.trans e)]; exact ⟨h1, ry⟩
    · rw [if_neg e, if_neg (fun z => e (h1.trans z))]; exact ⟨h1, h2⟩
theorem KV.put {kvs : List (κ × V)} {vs : List (κ × Value)} (r : KV kvs vs) (k : κ) {y : V} {u : Value} (ry : RelV y u) : KV (putK kvs k y) (stored vs k u) := by
  unfold putK stored
  rw [r.any k]
  by_cases e : (vs.any fun kv => decide (kv.1 = k)) = true
  · rw [if_pos e, if_pos e]; exact r.repl k ry
  · rw [if_neg e, if_neg e]; exact Paired.snoc r ⟨rfl, ry⟩
theorem KV.length {kvs : List (κ × V)} {vs : List (κ × Value)} (r : KV kvs vs) : kvs.length = vs.length := Paired.length r
end


theorem kV_is {P : Program} {w : World} {k : Key} {u : Value} (r : RelV (kV k) u) : (mixKind P w).is k u = true := by
  cases k with
  | inl i => obtain ⟨t, e⟩ := (show ∃ t, u = Value.int i t from r); subst e; exact mixKind_int P w i t
  | inr x => obtain ⟨t, e⟩ := (show ∃ t, u = Value.str x t from r); subst e; exact mixKind_str P w x t
theorem items_are {P : Program} {w : World} : ∀ {ks : List Key} {us : List Value}, Vals (ks.map kV) us → ItemsAre (mixKind P w) ks us
  | [], _, r => by rw [List.map_nil] at r; cases r; exact .nil
  | k :: ks, _, r => by
    rw [List.map_cons] at r
    cases r with
    | cons h t => exact .cons (kV_is h) (items_are t)

/-- raw entries of a dict with tuple keys -/
abbrev KT (H : Hp) : List (List Key × V) → List (List Key × Addr × Value) → Prop := Paired fun p q => p.1 = q.1 ∧ H q.2.1 = some (.tup (p.1.map kV)) ∧ RelV p.2 q.2.2
theorem KT.val {H : Hp} {kvs : List (List Key × V)} {xs : List (List Key × Addr × Value)} (r : KT H kvs xs) (k : List Key) : RelO (valV kvs k) ((atKey xs k).map (·.2)) := by
  induction r with
  | nil => exact True.intro
  | @cons p q ps qs h t ih =>
    obtain ⟨h1, _, h2⟩ := h
    by_cases e : p.1 = k
    · have e' : q.1 = k := h1.symm.trans e
      have b : atKey (q :: qs) k = some q.2 := by simp [atKey, List.find?_cons, e']
      rw [valV_pos e, b]; exact h2
    · have e' : ¬ q.1 = k := fun z => e (h1.trans z)
      have b : atKey (q :: qs) k = atKey qs k := by simp [atKey, List.find?_cons, e']
      rw [valV_neg e, b]; exact ih
theorem KT.repl {H : Hp} {kvs : List (List Key × V)} {xs : List (List Key × Addr × Value)} (r : KT H kvs xs) (k : List Key) {y : V} {u : Value} (ry : RelV y u) :
    KT H (kvs.map fun kv => if kv.1 = k then (kv.1, y) else kv) (xs.map (putAt k u)) := by
  induction r with
  | nil => exact .nil
  | @cons p q ps qs h t ih =>
    rw [List.map_cons, List.map_cons]
    refine .cons ?_ ih
    obtain ⟨h1, h2, h3⟩ := h
    unfold putAt
    by_cases e : p.1 = k
    · rw [if_pos e, if_pos (h1.symm.trans e)]; exact ⟨h1, h2, ry⟩
    · rw [if_neg e, if_neg (fun z => e (h1.trans z))]; exact ⟨h1, h2, h3⟩
theorem KT.put {H : Hp} {kvs : List (List Key × V)} {xs : List (List Key × Addr × Value)} (r : KT H kvs xs) (k : List Key) {b : Addr} {y : V} {u : Value} (hb : H b = some (.tup (k.map kV))) (ry : RelV y u) :
    KT H (putK kvs k y) (storedH xs k b u) := by
  have e : (kvs.any fun kv => decide (kv.1 = k)) = (atKey xs k).isSome := by
    rw [valV_any, (r.val k).isSome_eq, Option.isSome_map]
  unfold putK storedH
  rw [e]
  by_cases q : (atKey xs k).isSome = true
  · rw [if_pos q, if_pos q]; exact r.repl k ry
  · rw [if_neg q, if_neg q]; exact Paired.snoc r ⟨rfl, hb, ry⟩
theorem KT.keeps {H H' : Hp} {kvs : List (List Key × V)} {xs : List (List Key × Addr × Value)} (r : KT H kvs xs) (ht : ∀ b ys, H b = some (.tup ys) → H' b = some (.tup ys)) : KT H' kvs xs :=
  Paired.mapP r fun _ _ z => ⟨z.1, ht _ _ z.2.1, z.2.2⟩

section
variable {P : Program} {w : World} {H : Hp} {h : Heap} {a : Addr}
theorem rd_of {u : HO} (ok : HOk P w H h) (e : Rd H a u) : ObjOk P w H h a u := e.ok ok
theorem dk_rd {kvs : List (Key × V)} (ok : HOk P w H h) (e : Rd H a (.dK kvs)) : kvs.length ≤ sizeLine ∧ (a == sysModules) = false ∧ ∃ vs, KV kvs vs ∧ h.DictOf (mixKind P w) a vs :=
  show ObjOk P w H h a (.dK kvs) from rd_of ok e
theorem dk_of {kvs : List (Key × V)} (ok : HOk P w H h) (e : H a = some (.dK kvs)) : kvs.length ≤ sizeLine ∧ (a == sysModules) = false ∧ ∃ vs, KV kvs vs ∧ h.DictOf (mixKind P w) a vs := dk_rd ok (.inl e)
/-- a tracked tuple of ints and texts is a key -/
theorem key_of {ks : List Key} (ok : HOk P w H h) (e : H a = some (.tup (ks.map kV))) : (tupleKind (mixKind P w)).is h ks a := by
  obtain ⟨_, its, r, o, h1, h2, n, h3⟩ := (show ObjOk P w H h a (.tup (ks.map kV)) from ok a _ e)
  exact ⟨o, its.toArray, n, h1, h2, h3, by simpa using items_are r⟩
theorem dt_rd {kvs : List (List Key × V)} (ok : HOk P w H h) (e : Rd H a (.dT kvs)) : kvs.length ≤ sizeLine ∧ (a == sysModules) = false ∧
    ∃ xs, KT H kvs xs ∧ h.DictOfH (tupleKind (mixKind P w)) a xs := by
  obtain ⟨z, y, xs, r, o, es, ep, h1, h2, h3, h4, h5⟩ := (show ObjOk P w H h a (.dT kvs) from rd_of ok e)
  refine ⟨z, y, xs, r, o, es, ep, h1, h2, h3, h4, fun x hx => ?_, h5⟩
  have all : ∀ {l : List (List Key × V)} {m : List (List Key × Addr × Value)}, KT H l m → ∀ x ∈ m, (tupleKind (mixKind P w)).is h x.1 x.2.1 := by
    intro l m q
    induction q with
    | nil => intro x hx; exact nomatch hx
    | @cons p q ps qs hq t ih =>
      intro x hx
      rcases List.mem_cons.mp hx with e | hx
      · subst e
        exact key_of ok (by rw [← hq.1]; exact hq.2.1)
      · exact ih x hx
  exact all r x hx
theorem dt_of {kvs : List (List Key × V)} (ok : HOk P w H h) (e : H a = some (.dT kvs)) : kvs.length ≤ sizeLine ∧ (a == sysModules) = false ∧
    ∃ xs, KT H kvs xs ∧ h.DictOfH (tupleKind (mixKind P w)) a xs := dt_rd ok (.inl e)
end

/-- what the dict at a holds at the key y -/
def DGet (H : Hp) (a : Addr) (y : V) (r : Option V) : Prop :=
  (∃ kvs k, Rd H a (.dK kvs) ∧ y = kV k ∧ r = valV kvs k) ∨ ∃ kvs k b, Rd H a (.dT kvs) ∧ y = .ref b ∧ H b = some (.tup (k.map kV)) ∧ r = valV kvs k
/-- the heap behind a[y] = v -/
def DPut (H : Hp) (a : Addr) (y v : V) (H' : Hp) : Prop :=
  (∃ kvs k, H a = some (.dK kvs) ∧ y = kV k ∧ kvs.length < sizeLine ∧ H' = upd H a (.dK (putK kvs k v))) ∨
  ∃ kvs k b, H a = some (.dT kvs) ∧ y = .ref b ∧ H b = some (.tup (k.map kV)) ∧ kvs.length < sizeLine ∧ H' = upd H a (.dT (putK kvs k v))
theorem DGet.k {H : Hp} {a : Addr} {kvs : List (Key × V)} {k : Key} (e : H a = some (.dK kvs)) : DGet H a (kV k) (valV kvs k) := .inl ⟨kvs, k, .inl e, rfl, rfl⟩
theorem DPut.k {H : Hp} {a : Addr} {kvs : List (Key × V)} {k : Key} {v : V} (e : H a = some (.dK kvs)) (hl : kvs.length < sizeLine) : DPut H a (kV k) v (upd H a (.dK (putK kvs k v))) := .inl ⟨kvs, k, e, rfl, hl, rfl⟩
section
variable {X : Cx} {pins : List (Addr × Obj)} {σ : St} {H : Hp} {s : Shared} {a : Addr} {y v : V} {u r : Value} {o : Option V} {A : Around} {E : Value → Shared → Prop}

theorem Inv.big (I : Inv X pins σ H s) : sysModules < s.heap.objs.size := by
  have h : mainGlobals < s.heap.objs.size := (I.mod.glob.keeps I.bk).lt
  exact Nat.lt_trans (by decide) h

theorem d_notIn {Q : Value → Shared → Prop} (hu : A.units + 1 < cLine) (I : Inv X pins σ H s) (g : DGet H a y o) (ry : RelV y u) (h : ∀ s', Inv X pins σ H s' → Q (.bool (!o.isSome)) s') :
    wpAny (model X.prog X.w) A (compareOp .NotIn u (.ref a)) Q E s := by
  rcases g with ⟨kvs, k, e, ey, l⟩ | ⟨kvs, k, b, e, ey, eb, l⟩
  · subst ey
    obtain ⟨z, hd, vs, rel, dd⟩ := dk_rd I.hok e
    refine wpAny_notIn_of (kV_is ry) hd dd.mapOf ?_
    rw [← (rel.val k).isSome_eq, ← l]
    exact h _ (I.tok _)
  · subst ey
    cases (show u = Value.ref b from ry)
    obtain ⟨z, hd, xs, rel, dd⟩ := dt_rd I.hok e
    refine wpAny_notIn_heap (tupleKind_room_in1 hu) (key_of I.hok eb) hd dd ?_
    have q := (rel.val k).isSome_eq
    rw [Option.isSome_map] at q
    rw [← q, ← l]
    exact h _ (I.tok _)
/-- a dict's object is replaced -/
theorem d_write {h' : Heap} {t' : Nat} {ob : HO} (I : Inv X pins σ H s) (mu : Mut (H a)) (hs : Heap.SameBut a s.heap h') (he : ∃ q, h'.get? a = some q) (new : ObjOk X.prog X.w (upd H a ob) h' a ob) :
    Inv X pins σ (upd H a ob) { s with heap := h', toks := t' } :=
  I.write (x := a) (e := a) mu (.inl rfl) (fun b q hb z => (hs.2 b hb).trans z) he new
theorem dk_new {P : Program} {w : World} {H' : Hp} {h' : Heap} {kvs : List (Key × V)} {vs : List (Key × Value)} (z : kvs.length ≤ sizeLine) (hd : (a == sysModules) = false) (rel : KV kvs vs) (dd : h'.DictOf (mixKind P w) a vs) :
    ObjOk P w H' h' a (.dK kvs) := ⟨z, hd, vs, rel, dd⟩
/-- d[y] = v -/
theorem d_setItem {H' : Hp} {Q : Unit → Shared → Prop} (hu : A.units + 1 < cLine) (I : Inv X pins σ H s) (g : DPut H a y v H') (ry : RelV y u) (rv : RelV v r) (h : ∀ s', Inv X pins σ H' s' → Q () s') :
    wpAny (model X.prog X.w) A (setItem (.ref a) u r) Q E s := by
  rcases g with ⟨kvs, k, e, ey, l, eH⟩ | ⟨kvs, k, b, e, ey, eb, l, eH⟩
  · subst ey eH
    obtain ⟨z, hd, vs, rel, dd⟩ := dk_of I.hok e
    have hz : vs.length ≤ sizeLine := by rw [← rel.length]; exact z
    have hl : (putK kvs k v).length ≤ sizeLine := by have := length_putK kvs k v; omega
    refine wpAny_setItem_pairs (hsz := hz) (kV_is ry) dd fun h' dd' hs => h _ ?_
    have he : ∃ q, h'.get? a = some q := let ⟨q, _, _, hq, _⟩ := dd'; ⟨q, hq⟩
    exact d_write I (by rw [e]; exact True.intro) hs he (dk_new hl hd (rel.put k rv) dd')
  · subst ey eH
    cases (show u = Value.ref b from ry)
    obtain ⟨z, hd, xs, rel, dd⟩ := dt_of I.hok e
    have hz : xs.length ≤ sizeLine := by rw [← Paired.length rel]; exact z
    have hl : (putK kvs k v).length ≤ sizeLine := by have := length_putK kvs k v; omega
    refine wpAny_setItem_heap (hsz := hz) (tupleKind_room_in1 hu) (key_of I.hok eb) dd fun h' dd' hs => h _ ?_
    obtain ⟨q, es, ep, hq, h2, h3, h4, _, h5⟩ := dd'
    refine d_write I (by rw [e]; exact True.intro) hs ⟨q, hq⟩ ⟨hl, hd, _, (rel.put k eb rv).keeps fun c ys ec => ?_, q, es, ep, hq, h2, h3, h4, h5⟩
    rw [upd_ne (ne_of ec e (fun z => nomatch z))]
    exact ec
end

section
variable {X : Cx} {pins : List (Addr × Obj)} {σ : St} {H : Hp} {s : Shared} {a : Addr} {kvs : List (Key × V)} {k : Key} {u : Value} {A : Around} {E : Value → Shared → Prop}
/-- len(d) -/
theorem d_len {Q : Value → Shared → Prop} (I : Inv X pins σ H s) (e : Rd H a (.dK kvs)) (h : ∀ t s', Inv X pins σ H s' → Q (.int kvs.length t) s') : wpAny (model X.prog X.w) A (call (.builtin "len") [.ref a]) Q E s := by
  obtain ⟨z, hd, vs, rel, dd⟩ := dk_rd I.hok e
  refine call_len_dict hd dd (by rw [← rel.length]; rw [sizeLine_eq] at z; omega) ?_
  rw [← rel.length]
  exact h _ _ (I.tok _)
end


def tDNotIn (ty td : TE) : TE := fun σ H Q => ty σ H fun y H1 => td σ H1 fun x H2 => ∃ a o, x = .ref a ∧ DGet H2 a y o ∧ Q (.bl (!o.isSome)) H2
/-- d[y] = v -/
def sDPut (td ty tv : TE) : TS := fun D σ H => tv σ H fun v H1 => td σ H1 fun x H2 => ty σ H2 fun y H3 => ∃ a H4, x = .ref a ∧ DPut H3 a y v H4 ∧ D.nx σ H4
section
variable {X : Cx} {o i e value : Expr} {pos pos' tpos : Pos} {td ty tv : TE}
theorem pc_dnotin (hu : X.A.units + 1 < cLine) (hi : PE X i ty) (ho : PE X o td) : PC X .NotIn i o (tDNotIn ty td) := by
  intro pins s σ H Q I h
  refine thn (hi pins s σ H _ I h) fun iv s1 ⟨y, H1, I1, ry, q1⟩ => thn (ho pins s1 σ H1 _ I1 q1) fun u s2 ⟨x, H2, I2, rx, a, ov, ex, g, q2⟩ => ?_
  subst ex
  obtain rfl : u = Value.ref a := rx
  exact d_notIn hu I2 g ry fun s3 I3 => ⟨.bl (!ov.isSome), H2, I3, rfl, q2⟩
theorem ps_dput (hu : X.A.units + 1 < cLine) (ho : PE X o td) (hi : PE X i ty) (hv : PE X value tv) (hs : swapsWith value (some (.Subscript o i pos')) pos.line X.env = pure false) :
    PS X (.Assign [.Subscript o i pos'] value pos) (sDPut td ty tv) := by
  intro pins s σ H D I h
  refine wpAny_Assign_Subscript (thn (hv pins s σ H _ I h) fun r s1 ⟨v, H1, I1, rv, q1⟩ => thn (ho pins s1 σ H1 _ I1 q1) fun u s2 ⟨x, H2, I2, rx, q2⟩ => thn (hi pins s2 σ H2 _ I2 q2) fun iv s3 ⟨y, H3, I3, ry, a, H4, ex, g, q3⟩ => ?_) hs
  subst ex
  obtain rfl : u = Value.ref a := rx
  exact d_setItem hu I3 g ry rv fun s4 I4 => ⟨σ, H4, I4, q3⟩
end


theorem dk_empty {P : Program} {w : World} {H : Hp} (h : Heap) (hb : sysModules < h.objs.size) : ObjOk P w H (h.push { cls := .type "dict", data := .dict #[] }) h.objs.size (.dK []) :=
  ⟨Nat.zero_le _, beq_eq_false_iff_ne.mpr (Ne.symm (Nat.ne_of_lt hb)), [], .nil, Heap.DictOf.new h⟩
/-- {}, to be a dict of the kind that is wanted -/
def tDNewK : TE := fun _ H Q => ∀ p, H p = none → Q (.ref p) (upd H p (.dK []))
section
variable {X : Cx} {pos : Pos}
theorem pe_dnewK : PE X (.Dict [] [] pos) tDNewK := fun pins s σ H Q I h =>
  wpAny_Dict_empty ⟨.ref s.heap.objs.size, _, I.laid (a := s.heap.objs.size) (o := .dK []) (t' := s.toks) (fun _ _ q => Heap.get?_push_of_some _ q) (Nat.le_refl _) (dk_empty s.heap I.big), rfl, h _ (I.hok.fresh (Nat.le_refl _))⟩
end

/-- a method call o.m(e) of a built-in, with one argument: what must be seen of the text -/
structure M1 (X : Cx) (o : Expr) (m : Str) (apos : Pos) (e : Expr) (cpos : Pos) : Prop where
  base : attributeBase o m X.env (eval o X.env) = eval o X.env
  few : ((backTo cpos (starEach [e] X.env)).all (fun x => !x.1) && (backToKw cpos (keywordEach [] X.env)).all (fun x => x.1.isSome)
    && decide (([e] : List Expr).length + ([] : List Keyword).length + (if ([] : List Keyword).isEmpty then 0 else 1) < 30)) = true
  line : (apos.endLine == cpos.line) = true
  trees : backTo cpos (starEach [e] X.env) = [(false, eval e X.env)]
/-- a is a dict, whatever its keys -/
def IsD (H : Hp) (a : Addr) : Prop := (∃ kvs, Rd H a (.dK kvs)) ∨ ∃ kvs, Rd H a (.dT kvs)
theorem isD_at {X : Cx} {pins : List (Addr × Obj)} {σ : St} {H : Hp} {s : Shared} {a : Addr} (I : Inv X pins σ H s) (d : IsD H a) :
    s.TypeIs (.ref a) "dict" ∧ (∀ b, Value.ref a = .ref b → ∃ ob, s.heap.get? b = some ob ∧ ob.dict = none) ∧ (a == sysModules) = false := by
  rcases d with ⟨kvs, e⟩ | ⟨kvs, e⟩
  · obtain ⟨_, hd, vs, _, dd⟩ := dk_rd I.hok e
    refine ⟨dd.typeIs, fun b q => ?_, hd⟩
    cases q
    obtain ⟨ob, _, _, h1, h2, _⟩ := dd
    exact ⟨ob, h1, h2.2.1⟩
  · obtain ⟨_, hd, xs, _, dd⟩ := dt_rd I.hok e
    refine ⟨dd.typeIs, fun b q => ?_, hd⟩
    cases q
    obtain ⟨ob, _, _, h1, h2, _⟩ := dd
    exact ⟨ob, h1, h2.2.1⟩

section
variable {X : Cx} {pins : List (Addr × Obj)} {σ : St} {H : Hp} {s : Shared} {a : Addr} {y d : V} {u r : Value} {o : Option V} {A : Around} {E : Value → Shared → Prop}
/-- d.get(y) -/
theorem d_get1 {Q : Value → Shared → Prop} (hu : A.units + 1 < cLine) (I : Inv X pins σ H s) (g : DGet H a y o) (ry : RelV y u) (h : ∀ w' s', Inv X pins σ H s' → RelV (o.getD .non) w' → Q w' s') :
    wpAny (model X.prog X.w) A (call (.builtin "dict.get") [.ref a, u]) Q E s := by
  rcases g with ⟨kvs, k, e, ey, l⟩ | ⟨kvs, k, b, e, ey, eb, l⟩
  · subst ey
    obtain ⟨z, hd, vs, rel, dd⟩ := dk_rd I.hok e
    refine call_meetsIn PySem.F.slot_dict_get dd.typeIs PySem.F.entry_dict_get (PySem.F.args_dict_get_2 _ _) (meets_dict_get (mixKind X.prog X.w) a (kV_is ry) hd) ⟨_, dd.mapOf, h _ _ (I.tok _) ?_⟩
    rw [l]
    exact (rel.val k).getD rfl
  · subst ey
    cases (show u = Value.ref b from ry)
    obtain ⟨z, hd, xs, rel, dd⟩ := dt_rd I.hok e
    refine call_meetsIn PySem.F.slot_dict_get dd.typeIs PySem.F.entry_dict_get (PySem.F.args_dict_get_2 _ _) (meetsH_dict_get (tupleKind (mixKind X.prog X.w)) a b hd) ⟨tupleKind_room_in1 hu, k, xs, key_of I.hok eb, dd, h _ _ (I.tok _) ?_⟩
    rw [l]
    exact (rel.val k).getD rfl
end

def tDGet1 (td ty : TE) : TE := fun σ H Q => td σ H fun x H1 => ∃ a, x = .ref a ∧ IsD H1 a ∧ ty σ H1 fun y H2 => ∃ o, DGet H2 a y o ∧ Q (o.getD .non) H2
section
variable {X : Cx} {o e f : Expr} {apos cpos : Pos} {td ty tx : TE}
theorem pe_dget1 (hu : X.A.units + 1 < cLine) (ho : PE X o td) (he : PE X e ty) (m : M1 X o "get" apos e cpos) : PE X (.Call (.Attribute o "get" apos) [e] [] cpos) (tDGet1 td ty) := by
  intro pins s σ H Q I h
  refine wpAny_Call_method m.base m.few m.line PySem.F.plainAttrs_dict PySem.F.slot_dict_get PySem.F.type_dict_get (thn (ho pins s σ H _ I h) fun u s1 ⟨x, H1, I1, rx, a, ex, d, q1⟩ => ?_)
  subst ex
  obtain rfl : u = Value.ref a := rx
  obtain ⟨t1, t2, _⟩ := isD_at I1 d
  refine ⟨t1, t2, ?_⟩
  rw [m.trees]
  refine Calls.callWith_builtin rfl (Calls.evalArgs_plain (Calls.spliced_cons (thn (he pins s1 σ H1 _ I1 q1) fun iv s2 ⟨y, H2, I2, ry, ov, g, q2⟩ => Calls.spliced_nil ?_)))
  exact d_get1 hu I2 g ry fun w' s3 I3 rw' => ⟨_, H2, I3, rw', q2⟩
end

section
variable {X : Cx} {pins : List (Addr × Obj)} {σ : St} {H : Hp} {s : Shared} {a : Addr} {kvs : List (Key × V)} {A : Around} {E : Value → Shared → Prop}
end


section
variable {X : Cx} {pins : List (Addr × Obj)} {σ : St} {H : Hp} {s : Shared} {a : Addr} {y : V} {u : Value} {A : Around} {E : Value → Shared → Prop}
end
section
variable {X : Cx}
/-- len of a dict -/
theorem call_lenD : CallR X (.builtin "len") (fun xs H Q => ∃ a kvs, xs = [V.ref a] ∧ H a = some (.dK kvs) ∧ Q (.int kvs.length) H) := by
  intro pins s σ H xs us Q I r h
  obtain ⟨a, kvs, rfl, ha, q⟩ := h
  obtain ⟨u, rfl, ru⟩ := vals1 r
  cases ru
  exact d_len I (.inl ha) fun t s' I' => ⟨.int kvs.length, H, I', ⟨t, rfl⟩, q⟩
end
section
variable {κ : Type} [DecidableEq κ]
end
end L2
namespace L2
open PySem PySem.Spec PyProof.Rows
section
variable {X : Cx}
def rSplit : V → List V → Hp → VK → Prop := fun x vs H Q => ∃ a b : Str, x = .str a ∧ vs = [.str b] ∧ (b.length == 0) = false ∧ a.length + 2 ≤ sizeLine ∧ ∀ p, H p = none → Q (.ref p) (upd H p (.lst ((PySem.Txt.split a b).map V.str)))
theorem vals_strs : ∀ (n : Nat) (ys : List Str), Vals (ys.map V.str) (strsFrom n ys) := by
  intro n ys
  rw [strsFrom_eq]
  have aux : ∀ (l : List (Str × Tok)), Vals ((l.map (·.1)).map V.str) (strValues l) := by
    intro l
    induction l with
    | nil => exact .nil
    | cons p r ih => exact .cons ⟨p.2, rfl⟩ ih
  have := aux (numbered n ys)
  rwa [numbered_texts] at this
theorem mt_split : MtR X "str.split" rSplit := by
  intro pins s σ H x vs v us Q I rx rv h
  obtain ⟨a, b, rfl, rfl, hb, hz, q⟩ := h
  obtain ⟨t, rfl⟩ := rx
  obtain ⟨u, rfl, ru⟩ := rv.one
  obtain ⟨t1, rfl⟩ := ru
  have q0 := q s.heap.objs.size (I.hok.fresh (Nat.le_refl _))
  have hle := PyProof.Rows.split_le a b
  cases h1 : (decide (a.length < b.length) || decide (Builtin.Str.strKind a < Builtin.Str.strKind b))
  · cases hf : (Builtin.Str.occurrences a b 0 a.length (a.length + 1)).isEmpty
    · have e : PySem.Txt.split a b = Builtin.Str.partsBetween a (Builtin.Str.occurrences a b 0 a.length (a.length + 1)) b.length := by
        unfold PySem.Txt.split
        rw [if_neg (ne_true_of_eq_false h1), if_neg (ne_true_of_eq_false hf)]
      rw [e] at q0 hle
      refine call_meets F.slot_str_split (typeIs_str _ _ _) F.entry_str_split (F.args_str_split_2 _ _) (meets_str_split_sep a b t t1 h1 hb hf (by omega) (by omega)) ?_
      exact ⟨.ref _, _, I.lnew (t' := _) (vals_strs s.toks _) (by rw [List.length_map]; omega), rfl, q0⟩
    · have e : PySem.Txt.split a b = [a] := by
        unfold PySem.Txt.split
        rw [if_neg (ne_true_of_eq_false h1), if_pos hf]
      rw [e] at q0
      refine call_meets F.slot_str_split (typeIs_str _ _ _) F.entry_str_split (F.args_str_split_2 _ _) (meets_str_split_not_found a b t t1 h1 hb hf) ?_
      exact ⟨.ref _, _, I.lnew (ys := [.str a]) (t' := s.toks) (.cons ⟨t, rfl⟩ .nil) (by show 1 ≤ sizeLine; decide), rfl, q0⟩
  · have e : PySem.Txt.split a b = [a] := by
      unfold PySem.Txt.split
      rw [if_pos h1]
    rw [e] at q0
    refine call_meets F.slot_str_split (typeIs_str _ _ _) F.entry_str_split (F.args_str_split_2 _ _) (meets_str_split_cannot_occur a b t t1 h1) ?_
    exact ⟨.ref _, _, I.lnew (ys := [.str a]) (t' := s.toks) (.cons ⟨t, rfl⟩ .nil) (by show 1 ≤ sizeLine; decide), rfl, q0⟩
theorem boolsAre_of {bs : List Bool} : ∀ {us : List Value}, Vals (bs.map V.bl) us → LSm.BoolsAre us bs := by
  induction bs with
  | nil => intro us r; cases r; exact .nil
  | cons y r ih =>
    intro us h
    cases h with
    | cons h t =>
      cases h
      exact .cons _ (ih t)
theorem call_allL (hc : X.calm = true) : CallR X (.builtin "all") (fun xs H Q => ∃ (p : Addr) (bs : List Bool), xs = [.ref p] ∧ SqL X.K H p (bs.map V.bl) ∧ Q (.bl (bs.all id)) H) := by
  intro pins s σ H xs us Q I r h
  obtain ⟨p, bs, rfl, hq, q⟩ := h
  obtain ⟨u, rfl, rx⟩ := vals1 r
  cases rx
  obtain ⟨its, r', pl, hz⟩ := I.list hq
  have hb := boolsAre_of r'
  have hl := pl.isList
  have hlt : p < s.heap.objs.size := by obtain ⟨_, e, _⟩ := hl; exact Heap.lt_size e
  refine call_all_walk (wpAny_pyIter_list hl ?_)
  refine ⟨s.heap.objs.size, [s.heap.objs.size, p], [s.heap.objs.size], its.toArray.size, _, _, fun i => (bs[i]?).getD true, rfl, Walks.list (A := X.A.in1) (I.ok.hd hc) _ p (Nat.ne_of_lt hlt) its.toArray,
    ⟨⟨_, Heap.get?_push_size _ rfl, rfl, rfl⟩, hl.push _⟩, fun i v s' Q' E' hP hQ => ?_, fun h' tk hk => ?_⟩
  · obtain ⟨b, e, rfl⟩ := hb.get i v (by simpa using hP)
    simp only [e, Option.getD_some] at hQ
    exact wpAny_truthy_bool hQ
  · have e : ((List.range its.toArray.size).all fun i => (bs[i]?).getD true) = bs.all id := by
      rw [List.size_toArray, hb.length]; exact LSm.range_all bs
    rw [e]
    exact ⟨.bl _, H, I.kept (t' := tk) (LSm.kept_iter hk), rfl, q⟩
end
def Its (z : Str) : It := ⟨fun i _ => i < z.length, fun i H x H' => H' = H ∧ ∃ c, z.cps.toList[i]? = some c ∧ x = .str ⟨#[c]⟩, fun i _ => z.length ≤ i⟩
section
variable {X : Cx} {tg : Expr}
theorem turn_walk {P : Program} {w : World} {K : PySem.W.Frag} {x : Str} {px : Pos} (z : Str) (it : Addr) (St : Nat → Heap → Prop) (cl : ∀ i h, St i h → ∃ o, h.get? it = some o ∧ ∀ v, o.data ≠ .cell v)
    (fr : ∀ i h h', St i h → (∀ o, h.get? it = some o → h'.get? it = some o) → St i h') (sf : ∀ (A : Around) (i : Nat) (s : Shared) (Q : Value → Shared → Prop) (E : Value → Shared → Prop), St i s.heap → Q (.ref it) s → wpAny (model P w) A (pyIter (.ref it)) Q E s)
    (W : ∀ A : Around, A.handled = none → Walks P w A it [it] [it] z.cps.size (SignAt z) St) : Turn P w K (.Name x px) (Its z) [it] it (fun i h => St i h ∧ i ≤ z.length) where
  mem := by simp
  obj := fun i h st b hb => by
    have e : b = it := by simpa using hb
    subst e
    exact cl i h st.1
  keep := fun i h h' st k => ⟨fr i h h' st.1 fun o e => k it (by simp) o e, st.2⟩
  item := by
    intro X hP hw hK hc i pins s σ H E I hf st hg
    subst hP hw hK
    obtain ⟨f0, f1, f2, f3, f4, f5⟩ := hf it (by simp)
    refine (W X.A (I.ok.hd hc)).item i s _ E hg st.1 fun v h' tk hP st' hk => ?_
    obtain ⟨c, u, e1, rfl⟩ := hP
    refine ⟨_, rfl, ?_⟩
    show wpAny _ _ (pure ()) _ _ _
    refine wpAny_pure ⟨.str ⟨#[c]⟩, H, I.turned (t' := tk) (fun b o hb e => hk b o (by simpa using hb) e) f0 f1 f3 f4 f5, ⟨u, rfl⟩, ⟨rfl, c, by simpa using e1, rfl⟩, ⟨st', hg⟩, fun b hb => (hf b hb).1⟩
  done := by
    intro X hP hw hK hc i pins s σ H E I hf st hg
    subst hP hw hK
    obtain ⟨f0, f1, f2, f3, f4, f5⟩ := hf it (by simp)
    have e : i = z.cps.size := Nat.le_antisymm st.2 hg
    subst e
    exact (W X.A (I.ok.hd hc)).done s _ E st.1 fun h' tk hk => ⟨rfl, I.turned (t' := tk) (fun b o hb e => hk b o (by simpa using hb) e) f0 f1 f3 f4 f5⟩
  self := fun A i s Q E st h => sf A i s Q E st.1 h
def iStr (te : TE) : TI := fun σ H R => te σ H fun x H1 => ∃ z : Str, x = .str z ∧ R (Its z) H1
theorem pi_str {e : Expr} {te : TE} {x : Str} {px : Pos} (he : PE X e te) : PI X (.Name x px) e (iStr te) := by
  intro pins s σ H R I h
  refine thn (he pins s σ H _ I h) fun v s1 ⟨y, H1, I1, r1, q1⟩ => ?_
  obtain ⟨z, rfl, q⟩ := q1
  obtain ⟨t, rfl⟩ := r1
  have fin : ∀ (o : Obj) (St : Nat → Heap → Prop), Turn X.prog X.w X.K (.Name x px) (Its z) [s1.heap.objs.size] s1.heap.objs.size St → St 0 (s1.heap.push o) → PIE X pins σ (.Name x px) R (.ref s1.heap.objs.size) { s1 with heap := s1.heap.push o } := fun o St T st => by
    refine ⟨s1.heap.objs.size, [s1.heap.objs.size], _, _, H1, rfl, I1.kept (t' := s1.toks) fun b o e => Heap.get?_push_of_some _ e, T, st, fun b hb => ?_, q⟩
    have e : b = s1.heap.objs.size := by simpa using hb
    subst e
    exact I1.fpOk (Nat.le_refl _) (I1.hok.fresh (Nat.le_refl _))
  have cl : ∀ ty (i : Nat) (h : Heap), h.IsStrIter s1.heap.objs.size ty z t i → ∃ o, h.get? s1.heap.objs.size = some o ∧ ∀ v, o.data ≠ .cell v := fun ty i h st => by
    obtain ⟨o, e, c, d⟩ := st
    exact ⟨o, e, fun v q => by rw [d] at q; cases q⟩
  have fr : ∀ ty (i : Nat) (h h' : Heap), h.IsStrIter s1.heap.objs.size ty z t i → (∀ o, h.get? s1.heap.objs.size = some o → h'.get? s1.heap.objs.size = some o) → h'.IsStrIter s1.heap.objs.size ty z t i := fun ty i h h' st k => by
    obtain ⟨o, e, r⟩ := st
    exact ⟨o, k o e, r⟩
  cases ha : z.cps.all (· < 128)
  · exact wpAny_pyIter_wide ha (fin _ _ (turn_walk z _ _ (cl _) (fr _) (fun A i s Q E st h => wpAny_pyIter_striter_wide st h) (fun A hA => Walks.strWide hA _ z t)) ⟨⟨_, Heap.get?_push_size _ rfl, rfl, rfl⟩, Nat.zero_le _⟩)
  · exact wpAny_pyIter_ascii ha (fin _ _ (turn_walk z _ _ (cl _) (fr _) (fun A i s Q E st h => wpAny_pyIter_striter_ascii st h) (fun A hA => Walks.strAscii hA _ z t)) ⟨⟨_, Heap.get?_push_size _ rfl, rfl, rfl⟩, Nat.zero_le _⟩)
def Ite (K : PySem.W.Frag) (a : Addr) : It :=
  ⟨fun i H => ∃ xs x, SqL K H a xs ∧ xs[i]? = some x, fun i H x H' => ∃ p v, H p = none ∧ x = .ref p ∧ H' = upd H p (.tup [.int i, v]) ∧ ∀ xs, SqL K H a xs → xs[i]? = some v, fun i H => ∃ xs, SqL K H a xs ∧ xs.length ≤ i⟩
theorem turn_enum {P : Program} {w : World} {K : PySem.W.Frag} {elts : List Expr} {x1} {pos : Pos} (a e it : Addr) (hne : e ≠ it) : Turn P w K (.Tuple elts x1 pos) (Ite K a) [e, it] e (fun i h => ∃ old, IsEnum h e it i old ∧ h.IsListIter it a i) where
  mem := by simp
  obj := fun i h st b hb => by
    obtain ⟨old, st, si⟩ := st
    rcases List.mem_cons.mp hb with z | z
    · subst z
      exact ⟨_, st, fun v q => by cases q⟩
    · have e : b = it := by simpa using z
      subst e
      obtain ⟨o, e, c, d⟩ := si
      exact ⟨o, e, fun v q => by rw [d] at q; cases q⟩
  keep := fun i h h' st k => by
    obtain ⟨old, st, si⟩ := st
    exact ⟨old, k e (by simp) _ st, si.at fun o q => k it (by simp) o q⟩
  item := by
    intro X hP hw hK hc i pins s σ H E I hf st hg
    subst hP hw hK
    obtain ⟨old, st, si⟩ := st
    obtain ⟨xs, x, hq, hx⟩ := hg
    obtain ⟨its, rv, p, hz⟩ := I.list hq
    obtain ⟨u, hu, ru⟩ := rv.get hx
    have f := hf e (by simp)
    have g := hf it (by simp)
    refine wpAny_pyNext_enum_item st si p.isList (x := u) (by simpa using hu) hne fun h1 eo si1 ht hsz hk => ?_
    refine ⟨_, rfl, wpAny_letOwnedTupleGo_enum (s := { s with heap := h1, toks := s.toks + 1 }) eo fun h2 en sb => ?_⟩
    have hs1 : e ≠ s.heap.objs.size := Nat.ne_of_lt (Heap.lt_size st)
    have hs2 : it ≠ s.heap.objs.size := by obtain ⟨o, q, _⟩ := si; exact Nat.ne_of_lt (Heap.lt_size q)
    have k2 : ∀ b o, b ≠ e → b ≠ it → s.heap.get? b = some o → h2.get? b = some o := fun b o n1 n2 q => (sb.2 b n1).trans (hk b o n1 n2 q)
    have fresh := I.hok.fresh (Nat.le_refl s.heap.objs.size)
    have I1 : Inv X pins σ (upd H s.heap.objs.size (.tup [.int i, x])) { s with heap := h2, toks := s.toks + 1 } := by
      refine I.step (g' := s.gens) (d' := s.drawn) (ch := [e, it]) (fun b hb => ?_) (fun b o _ _ hc q _ => ?_) (fun b o _ _ hc q _ => ?_) (fun b o hc q n => ?_) (fun b o hc q => ?_) (fun b ys q => ?_) (fun b o ys q => ?_) (fun b ps q => ?_) (fun m hm => ?_) (fun b u' q => ?_) I.bare
      · rcases List.mem_cons.mp hb with z | z
        · rw [z]; exact ⟨f.2.2.2.1, f.2.1, f.2.2.2.2.1, f.2.2.2.2.2⟩
        · have z : b = it := by simpa using z
          rw [z]; exact ⟨g.2.2.2.1, g.2.1, g.2.2.2.2.1, g.2.2.2.2.2⟩
      · exact k2 b o (fun z => hc (by simp [z])) (fun z => hc (by simp [z])) q
      · exact ⟨o.slots, k2 b o (fun z => hc (by simp [z])) (fun z => hc (by simp [z])) q⟩
      · rw [upd_ne (Nat.ne_of_lt (Heap.lt_size q))]; exact n
      · exact ⟨o, k2 b o (fun z => hc (by simp [z])) (fun z => hc (by simp [z])) q⟩
      · rw [upd_ne (ne_of_none q fresh)]; exact q
      · rw [upd_ne (ne_of_none q fresh)]; exact q
      · exact ⟨#[], by rw [upd_ne (ne_of_none q fresh), q]; simp⟩
      · obtain ⟨o, es, ep, ho, r⟩ := hm
        exact ⟨o, es, ep, k2 _ o (Ne.symm f.2.1) (Ne.symm g.2.1) ho, r⟩
      · by_cases hb : b = s.heap.objs.size
        · subst hb
          rw [upd_same] at q; cases q
          refine ⟨by show 2 ≤ sizeLine; decide, [_, u], .cons ⟨_, rfl⟩ (.cons ru .nil), ⟨_, (sb.2 _ (Ne.symm hs1)).trans ht, rfl, _, rfl⟩⟩
        · rw [upd_ne hb] at q
          refine (I.hok b u' q).stay (fun c v hc' r => k2 c v ?_ ?_ r) (fun c r => by rw [upd_ne (ne_of_none r fresh)]; exact r) fun c ys r => by rw [upd_ne (ne_of_none r fresh)]; exact r
          · rcases hc' with z | z
            · rw [z]; exact ne_of_none q f.1
            · exact ne_of_none z f.1
          · rcases hc' with z | z
            · rw [z]; exact ne_of_none q g.1
            · exact ne_of_none z g.1
    refine ⟨.ref s.heap.objs.size, _, I1, rfl, ⟨_, x, fresh, rfl, rfl, fun ys hy => by rw [I.list_inj hy hq]; exact hx⟩, ⟨_, en, ?_⟩, fun b hb => ?_⟩
    · obtain ⟨o, q, r⟩ := si1
      exact ⟨o, (sb.2 it (Ne.symm hne)).trans q, r⟩
    · have hb' := (hf b hb).1
      rcases List.mem_cons.mp hb with z | z
      · rw [upd_ne (by rw [z]; exact hs1)]; exact hb'
      · have z : b = it := by simpa using z
        rw [upd_ne (by rw [z]; exact hs2)]; exact hb'
  done := by
    intro X hP hw hK hc i pins s σ H E I hf st hg
    subst hP hw hK
    obtain ⟨old, st, si⟩ := st
    obtain ⟨xs, hq, hx⟩ := hg
    obtain ⟨its, rv, p, hz⟩ := I.list hq
    obtain ⟨f0, f1, f2, f3, f4, f5⟩ := hf it (by simp)
    have hl := rv.length
    exact wpAny_pyNext_enum_end (I.ok.hd hc) st si p.isList (by simp; omega) fun h' eb => ⟨rfl, I.turned (t' := s.toks) (fun b o hb e => eb b o hb e) f0 f1 f3 f4 f5⟩
  self := fun _ _ _ _ _ st h => by
    obtain ⟨old, st, si⟩ := st
    exact wpAny_pyIter_enum st h
def iEnum (K : PySem.W.Frag) (ta : TA) : TI := fun σ H R => ta σ H fun vs H1 => ∃ a xs, vs = [.ref a] ∧ SqL K H1 a xs ∧ R (Ite K a) H1
theorem pi_enum {a : Expr} {ta : TA} {p pos tp : Pos} {elts : List Expr} {x1} (hg : Gl X "enumerate") (hm : X.mg "enumerate" = none) (ha : PA X [a] ta) (hs : starEach [a] X.env = [(false, eval a X.env)] := by rfl) :
    PI X (.Tuple elts x1 tp) (.Call (.Name "enumerate" p) [a] [] pos) (iEnum X.K ta) := by
  intro pins s σ H R I h
  refine Call_ (ld_blt I hg hm (show bootBuiltins "enumerate" = some (.type "enumerate") by decide +kernel) (PyProof.Rows.callWith_type1 (thn (ha pos pins s σ H _ I h) fun us s1 ⟨vs, H1, I1, r1, q1⟩ => ?_) hs rfl))
  obtain ⟨l, xs, rfl, hq, q⟩ := q1
  obtain ⟨u, rfl, ru⟩ := r1.one
  cases ru
  obtain ⟨its, rv, pl, hz⟩ := I1.list hq
  refine call_enumerate_list pl.isList fun h' he hi hsz hk => ?_
  refine wpAny_pyIter_enum (s := { s1 with heap := h' }) he ?_
  refine ⟨s1.heap.objs.size + 1, [s1.heap.objs.size + 1, s1.heap.objs.size], _, _, H1, rfl, I1.kept (t' := s1.toks) hk, turn_enum l _ _ (Nat.succ_ne_self _), ⟨_, he, hi⟩, fun b hb => ?_, q⟩
  have hb' : s1.heap.objs.size ≤ b := by
    rcases List.mem_cons.mp hb with z | z
    · rw [z]; exact Nat.le_succ _
    · have z : b = s1.heap.objs.size := by simpa using z
      rw [z]; exact Nat.le_refl _
  exact I1.fpOk hb' (I1.hok.fresh hb')
end
end L2
namespace L2
open PySem PySem.Spec PyProof.Rows
theorem str_ext {x y : Str} (h : x.cps.toList = y.cps.toList) : x = y := by
  obtain ⟨a⟩ := x
  obtain ⟨b⟩ := y
  have : a = b := Array.toList_inj.mp h
  rw [this]
theorem cps_app (x y : Str) : (x ++ y).cps.toList = x.cps.toList ++ y.cps.toList := by
  show (x.cps ++ y.cps).toList = _
  simp
def joinL (c : Nat) : List (List Nat) → List Nat
  | [] => []
  | [x] => x
  | x :: y :: r => x ++ c :: joinL c (y :: r)
theorem join_cps (c : Nat) : ∀ ps : List Str, (Str.join ⟨#[c]⟩ ps).cps.toList = joinL c (ps.map fun p => p.cps.toList)
  | [] => rfl
  | [x] => rfl
  | x :: y :: r => by
    show (x ++ ⟨#[c]⟩ ++ Str.join ⟨#[c]⟩ (y :: r)).cps.toList = x.cps.toList ++ c :: joinL c ((y :: r).map fun p => p.cps.toList)
    rw [cps_app, cps_app, join_cps c (y :: r)]
    simp
theorem app_inj {c : Nat} : ∀ {a b r s : List Nat}, c ∉ a → c ∉ b → a ++ c :: r = b ++ c :: s → a = b ∧ r = s
  | [], [], r, s, _, _, h => ⟨rfl, by simpa using h⟩
  | [], y :: b, r, s, _, hb, h => by
    simp at h
    exact absurd (by simp [h.1]) hb
  | x :: a, [], r, s, ha, _, h => by
    simp at h
    exact absurd (by simp [h.1]) ha
  | x :: a, y :: b, r, s, ha, hb, h => by
    simp only [List.cons_append, List.cons.injEq] at h
    obtain ⟨e1, e2⟩ := app_inj (fun z => ha (List.mem_cons_of_mem _ z)) (fun z => hb (List.mem_cons_of_mem _ z)) h.2
    exact ⟨by rw [h.1, e1], e2⟩
theorem joinL_inj {c : Nat} : ∀ {ps qs : List (List Nat)}, ps ≠ [] → qs ≠ [] → (∀ p ∈ ps, c ∉ p) → (∀ q ∈ qs, c ∉ q) → joinL c ps = joinL c qs → ps = qs
  | [], _, h, _, _, _, _ => absurd rfl h
  | _ :: _, [], _, h, _, _, _ => absurd rfl h
  | [x], [y], _, _, _, _, h => by simp only [joinL] at h; rw [h]
  | [x], y :: z :: r, _, _, hx, _, h => by
    simp only [joinL] at h
    exact absurd (by rw [h]; simp) (hx x (by simp))
  | x :: z :: r, [y], _, _, _, hy, h => by
    simp only [joinL] at h
    exact absurd (by rw [← h]; simp) (hy y (by simp))
  | x :: x2 :: r, y :: y2 :: s, _, _, hx, hy, h => by
    simp only [joinL] at h
    obtain ⟨e1, e2⟩ := app_inj (hx x (by simp)) (hy y (by simp)) h
    have := joinL_inj (ps := x2 :: r) (qs := y2 :: s) (by simp) (by simp) (fun p hp => hx p (List.mem_cons_of_mem _ hp)) (fun q hq => hy q (List.mem_cons_of_mem _ hq)) e2
    rw [e1, this]
/-- what was joined is parted again -/
theorem split_join {c : Nat} {ps : List Str} (hn : ps ≠ []) (hf : ∀ p ∈ ps, c ∉ p.cps.toList) : PySem.Txt.split (Str.join ⟨#[c]⟩ ps) ⟨#[c]⟩ = ps := by
  have h1 := PySem.StrLaws.join_split (Str.join ⟨#[c]⟩ ps) ⟨#[c]⟩
  have h2 := PySem.StrLaws.split_free (Str.join ⟨#[c]⟩ ps) c
  have h3 := PyProof.Rows.split_pos (Str.join ⟨#[c]⟩ ps) ⟨#[c]⟩
  generalize PySem.Txt.split (Str.join ⟨#[c]⟩ ps) ⟨#[c]⟩ = qs at h1 h2 h3
  have h4 := congrArg (fun x : Str => x.cps.toList) h1
  simp only [join_cps] at h4
  have inj : ∀ {a b : List Str}, (a.map fun p => p.cps.toList) = (b.map fun p => p.cps.toList) → a = b := by
    intro a
    induction a with
    | nil => intro b h; cases b with
      | nil => rfl
      | cons _ _ => cases h
    | cons x r ih => 
      intro b h
      cases b with
      | nil => cases h
      | cons y s =>
        simp only [List.map_cons, List.cons.injEq] at h
        rw [str_ext h.1, ih h.2]
  refine inj (joinL_inj (c := c) ?_ ?_ ?_ ?_ h4)
  · intro z
    have := congrArg List.length z
    simp at this
    rw [this] at h3
    simp at h3
  · intro z
    have := congrArg List.length z
    simp at this
    exact hn this
  · intro p hp
    obtain ⟨q, hq, rfl⟩ := List.mem_map.mp hp
    exact h2 q hq
  · intro p hp
    obtain ⟨q, hq, rfl⟩ := List.mem_map.mp hp
    exact hf q hq
/-- one sign in the place of another -/
def subL (c d : Nat) (l : List Nat) : List Nat := l.map fun x => if x = c then d else x
theorem subL_free {c d : Nat} : ∀ {l : List Nat}, c ∉ l → subL c d l = l
  | [], _ => rfl
  | x :: r, h => by
    unfold subL
    rw [List.map_cons, if_neg (fun z => h (by simp [z]))]
    congr 1
    exact subL_free fun z => h (List.mem_cons_of_mem _ z)
theorem subL_join {c d : Nat} : ∀ {ps : List (List Nat)}, (∀ p ∈ ps, c ∉ p) → subL c d (joinL c ps) = joinL d ps
  | [], _ => rfl
  | [x], h => subL_free (h x (by simp))
  | x :: y :: r, h => by
    simp only [joinL]
    have e1 : subL c d (x ++ c :: joinL c (y :: r)) = subL c d x ++ d :: subL c d (joinL c (y :: r)) := by simp [subL]
    rw [e1, subL_free (h x (by simp)), subL_join (ps := y :: r) fun p hp => h p (List.mem_cons_of_mem _ hp)]
theorem replace_cps (x : Str) (c d : Nat) : (PySem.Txt.replace x ⟨#[c]⟩ ⟨#[d]⟩).cps.toList = subL c d x.cps.toList := by
  rw [PySem.StrLaws.replace_one, join_cps]
  have h1 := congrArg (fun x : Str => x.cps.toList) (PySem.StrLaws.join_split x ⟨#[c]⟩)
  simp only [join_cps] at h1
  conv => rhs; rw [← h1]
  rw [subL_join]
  intro p hp
  obtain ⟨q, hq, rfl⟩ := List.mem_map.mp hp
  exact PySem.StrLaws.split_free x c q hq
theorem subL_back {c d : Nat} {l : List Nat} (h : d ∉ l) : subL d c (subL c d l) = l := by
  induction l with
  | nil => rfl
  | cons x r ih =>
    have hx : x ≠ d := fun z => h (by simp [z])
    have ih' := ih fun z => h (List.mem_cons_of_mem _ z)
    unfold subL at *
    simp only [List.map_cons]
    rw [ih']
    by_cases e : x = c
    · subst e; simp
    · rw [if_neg e, if_neg hx]
end L2
namespace L2
open PySem PySem.Spec PyProof.Rows
theorem thnE {α : Type} {t : Sem α} {Q Q' : α → Shared → Prop} {M : Model} {A : Around} {E E' : Value → Shared → Prop} {s : Shared} (h : wpAny M A t Q E s) (hQ : ∀ a s, Q a s → Q' a s) (hE : ∀ a s, E a s → E' a s) : wpAny M A t Q' E' s := wpAny_mono h hQ hE
section
variable {X : Cx} {o e : Expr} {to te : TE} {apos cpos pos p1 p2 p3 p4 p5 : Pos} {j1 j2 j3 : Nat}
/-- what x.replace(y, z) asks, y and z written and unlike -/
def rRepl (y z : Str) : V → Hp → VK → Prop := fun x H Q => ∃ a : Str, x = .str a ∧ a.length + (a.length + 1) * z.length ≤ 16777216 ∧ Q (.str (PySem.Txt.replace a y z)) H
theorem repl_core {y z : Str} (hyz : (y == z) = false) {pins : List (Addr × Obj)} {s : Shared} {σ : St} {H : Hp} {Q : VK} (I : Inv X pins σ H s)
    (ho : wpAny (model X.prog X.w) X.A (eval o X.env) (fun u s' => 1 ≤ s'.toks ∧ EP X pins σ (fun x H1 => rRepl y z x H1 Q) u s') X.xe s)
    (hbase : attributeBase o "replace" X.env (eval o X.env) = eval o X.env := by rfl) (hline : (apos.endLine == cpos.line) = true := by rfl) :
    wpAny (model X.prog X.w) X.A (eval (.Call (.Attribute o "replace" apos) [.Constant (.str y) j1 p1, .Constant (.str z) j2 p2] [] cpos) X.env) (EP X pins σ Q) X.xe s := by
  refine wpAny_Call_method_late hbase rfl hline rfl (thn ho fun v s1 ⟨hk, x, H1, I1, r1, q1⟩ => ?_)
  obtain ⟨a, rfl, hz, q⟩ := q1
  obtain ⟨t, rfl⟩ := r1
  refine ⟨"str", "str.replace", F.plainAttrs_str, F.slot_str_replace, F.type_str_replace, typeIs_str _ _ _, (fun _ e => nomatch e), ?_⟩
  refine Calls.callWith_builtin rfl (Calls.evalArgs_plain ?_)
  refine Calls.spliced_cons (Calls.Constant_str (k := j1) (pos := p1) (Calls.spliced_cons (Calls.Constant_str (k := j2) (pos := p2) (Calls.spliced_nil ?_))))
  exact SC.replace (u := s1.toks) (v := s1.toks + 1) (Nat.ne_of_gt hk) (Nat.succ_ne_zero _) ns1 hyz hz fun t' k => ⟨.str _, H1, I1.tok _, ⟨t', rfl⟩, q⟩
/-- e[k:].replace(y, z) -/
theorem pe_repl_sl {y z : Str} {k : Int} (hyz : (y == z) = false) (he : PE X e te)
    (hbase : attributeBase (.Subscript e (.Slice (some (.Constant (.int k) j3 p4)) none none p3) p5) "replace" X.env (eval (.Subscript e (.Slice (some (.Constant (.int k) j3 p4)) none none p3) p5) X.env) = eval (.Subscript e (.Slice (some (.Constant (.int k) j3 p4)) none none p3) p5) X.env := by rfl)
    (hline : (apos.endLine == cpos.line) = true := by rfl) :
    PE X (.Call (.Attribute (.Subscript e (.Slice (some (.Constant (.int k) j3 p4)) none none p3) p5) "replace" apos) [.Constant (.str y) j1 p1, .Constant (.str z) j2 p2] [] cpos) (fun σ H Q => te σ H fun x H1 => ∃ w : Str, x = .str w ∧ w.length ≤ sizeLine ∧ rRepl y z (.str (PySem.Txt.slice w (some k) none)) H1 Q) := by
  intro pins s σ H Q I h
  refine repl_core hyz I ?_ hbase hline
  refine Subscript_ (thn (he pins s σ H _ I h) fun v s1 ⟨x, H1, I1, r1, w, hx, hw, q1⟩ => ?_)
  subst hx
  obtain ⟨t, rfl⟩ := r1
  refine wpAny_Slice ?_
  rw [evalPart_some]
  refine wpAny_Constant_int ?_
  rw [evalPart_none]
  refine wpAny_pure ?_
  refine wpAny_pure ?_
  have I2 : Inv X pins σ H1 { s1 with toks := s1.toks + 1 } := I1.tok _
  have I4 : Inv X pins σ H1 { s1 with toks := s1.toks + 1, heap := s1.heap.push { cls := .type "slice", data := .fields #[.int k s1.toks, .none, .none] } } := I2.kept (t' := s1.toks + 1) fun b ob q => Heap.get?_push_of_some _ q
  obtain ⟨T, id, hT, ht, hg⟩ := sl_str (X := X) pins { s1 with toks := s1.toks + 1, heap := s1.heap.push { cls := .type "slice", data := .fields #[.int k s1.toks, .none, .none] } } σ H1 (.str w) (.str w t) (.int k s1.toks) .none (some k) none s1.heap.objs.size (fun x H1 => rRepl y z x H1 Q) I4 ⟨t, rfl⟩ (Heap.IsSliceOf.new ..) (.int k _) .none ⟨w, rfl, hw, q1⟩
  have fin := tail_any (value := e) (slice := .Slice (some (.Constant (.int k) j3 p4)) none none p3) (ops := [.ref s1.heap.objs.size, .str w t]) ht hT hg (by with_unfolding_all rfl)
  exact thnE (wpAny_toks_of (n := 1) (show 1 ≤ s1.toks + 1 by omega) fin) (fun _ _ q => q) fun _ _ q => q.2
/-- q + o.replace(y, z), q written -/
theorem pe_add_repl {q y z : Str} (hyz : (y == z) = false) (ho : PE X o to) (hbase : attributeBase o "replace" X.env (eval o X.env) = eval o X.env := by rfl) (hline : (apos.endLine == cpos.line) = true := by rfl) :
    PE X (.BinOp (.Constant (.str q) j3 p3) .Add (.Call (.Attribute o "replace" apos) [.Constant (.str y) j1 p1, .Constant (.str z) j2 p2] [] cpos) pos)
      (fun σ H Q => to σ H fun x H1 => rRepl y z x H1 fun v H2 => ∃ b : Str, v = .str b ∧ q.length + b.length ≤ sizeLine ∧ Q (.str (q ++ b)) H2) := by
  intro pins s σ H Q I h
  refine wpAny_BinOp (Calls.Constant_str ?_)
  have I2 : Inv X pins σ H { s with toks := s.toks + 1 } := I.tok _
  refine thn (repl_core (j1 := j1) (j2 := j2) (p1 := p1) (p2 := p2) (apos := apos) (cpos := cpos) hyz I2 (Q := fun v H2 => ∃ b : Str, v = .str b ∧ q.length + b.length ≤ sizeLine ∧ Q (.str (q ++ b)) H2)
    (thnE (wpAny_toks_of (n := 1) (show 1 ≤ s.toks + 1 by omega) (ho pins _ σ H _ I2 h)) (fun _ _ q => q) fun _ _ q => q.2) hbase hline) fun u s2 ⟨x, H2, I3, r, b, hx, hz, q2⟩ => ?_
  subst hx
  obtain ⟨t, rfl⟩ := r
  exact add_str (fun t' tk => ⟨.str (q ++ b), H2, I3.tok _, ⟨_, rfl⟩, q2⟩) hz
end
end L2
namespace L2
open PySem PySem.Spec PyProof.Rows
section
variable {X : Cx}
/-- a module's constant that is known up to its token -/
theorem pe_globE {x : Str} {v : V} {pos : Pos} (hg : Gl X x) (h : ∃ u, X.mg x = some u ∧ RelV v u) (hd : (x == ("__debug__" : Str)) = false := by decide) : PE X (.Name x pos) (tC v) := by
  obtain ⟨u, e, r⟩ := h
  exact pe_glob hg e r hd
/-- for x in a text, by what holds -/
theorem comp_str {caps : List (Str × Nat)} {z : Str} {te : TE} {σ : St} {H : Hp} {Q : VK} (Pv : Nat → List V → Hp → Prop) (h0 : Pv 0 [] H) (hn : z.length < sizeLine)
    (hs : ∀ i c ys H, z.cps.toList[i]? = some c → ys.length = i → Pv i ys H → te (capV caps σ ++ [some (.str ⟨#[c]⟩)]) H fun y H2 => ∃ m', m' < z.length - i ∧ m' = z.length - (i + 1) ∧ i + 1 ≤ z.length ∧ (ys ++ [y]).length = i + 1 ∧ Pv (i + 1) (ys ++ [y]) H2) (hd : ∀ ys H, ys.length = z.length → Pv z.length ys H → ∀ D, H D = none → Q (.ref D) (upd H D (.lst ys))) :
    CompW (Its z) caps te σ H Q := by
  refine ⟨fun i m ys H => m = z.length - i ∧ i ≤ z.length ∧ ys.length = i ∧ Pv i ys H, ⟨z.length, by simp, Nat.zero_le _, rfl, h0⟩, ?_⟩
  rintro i m ys H ⟨rfl, hi, hl, p⟩
  by_cases hlt : i < z.length
  · refine .inr ⟨hlt, by omega, fun x H' y => ?_⟩
    obtain ⟨e, c, e1, rfl⟩ := y
    subst e
    exact hs i c ys _ e1 hl p
  · have e : i = z.length := by omega
    subst e
    exact .inl ⟨Nat.le_refl _, hd ys H hl p⟩
theorem forW_enum {K : PySem.W.Frag} {a : Addr} {xs : List V} {g : TG} {tb : TS} {D : Ends} {σ : St} {H : Hp} (Pv : Nat → St → Hp → Prop) (h0 : Pv 0 σ H) (hl : ∀ i σ H, i ≤ xs.length → Pv i σ H → SqL K H a xs)
    (hs : ∀ i x p σ H, xs[i]? = some x → H p = none → Pv i σ H → g (.ref p) σ (upd H p (.tup [.int i, x])) fun σ2 H2 => tb { D with nx := Pv (i + 1), ct := Pv (i + 1), bk := D.nx } σ2 H2) (hd : ∀ σ H, Pv xs.length σ H → D.nx σ H) : ForW (Ite K a) g tb D σ H := by
  refine ⟨fun i m σ H => m = xs.length - i ∧ i ≤ xs.length ∧ Pv i σ H, ⟨xs.length, by simp, Nat.zero_le _, h0⟩, ?_⟩
  rintro i m σ H ⟨rfl, hi, p⟩
  have q := hl i σ H hi p
  by_cases hlt : i < xs.length
  · refine .inr ⟨⟨xs, xs[i], q, by simp [hlt]⟩, Pv (i + 1), fun σ' H' p' => ⟨xs.length - (i + 1), by omega, rfl, hlt, p'⟩, fun x H' y => ?_⟩
    obtain ⟨pp, v, h1, rfl, rfl, h2⟩ := y
    exact hs i v pp σ H (h2 xs q) h1 p
  · have e : i = xs.length := by omega
    subst e
    exact .inl ⟨⟨xs, q, Nat.le_refl _⟩, hd σ H p⟩
end
/-- all that was tracked is as it was, but at p -/
def Adv (H H' : Hp) (p : Addr) : Prop := ∀ b o, H b = some o → b ≠ p → H' b = some o
theorem Adv.trans {H H1 H2 : Hp} {p : Addr} (a : Adv H H1 p) (b : Adv H1 H2 p) : Adv H H2 p := fun c o h n => b c o (a c o h n) n
theorem Adv.same {H H1 H2 : Hp} {p : Addr} (a : Adv H H1 p) (b : Same H1 H2) : Adv H H2 p := fun c o h n => b c o (a c o h n)
theorem Same.adv {H H1 H2 : Hp} {p : Addr} (a : Same H H1) (b : Adv H1 H2 p) : Adv H H2 p := fun c o h n => b c o (a c o h) n
theorem Adv.upd {H : Hp} {p : Addr} {o : HO} : Adv H (L2.upd H p o) p := fun b u h n => by rw [upd_ne n]; exact h
end L2
namespace L2
open PySem PySem.Spec PyProof.Rows
section
variable {X : Cx}
/-- a list comprehension, whatever becomes of its list -/
theorem comp_gen {sc csc : Scope} {N : List Str} {elt iter : Expr} {x : Str} {px pos ppos : Pos} {caps : List (Str × Nat)} {wi : TI} {te : TE} (ck : CompOk sc csc N x caps) (hi : PI X (.Name x px) iter wi)
    (he : ∀ C s2 H2 fp, PE (compCx X (caps.map (·.1) ++ [x]) csc C s2 H2 fp) elt te) (hc : X.calm = true) (hsc : X.env.scope = sc) (hXN : X.N = N) (hs : ∀ x, foldedSetIterable iter X.env x = pure x)
    {pins : List (Addr × Obj)} {s : Shared} {σ : St} {H : Hp} {Q : VK} (I : Inv X pins σ H s) (h : tComp caps wi te σ H Q) (use : Option (Value → Sem Unit)) (QQ : Value → Shared → Prop)
    (fin : ∀ (s2 : Shared) (H2 : Hp) (D C : Addr) (ys : List V) (H' : Hp) (s4 : Shared) (m : Str → Option Value), Inv X pins σ H2 s2 → s2.heap.objs.size ≤ C → s2.heap.objs.size ≤ D → D ≠ C → s4.heap.Ns C m →
      (∀ h', Heap.SameBut C s4.heap h' → Inv X pins σ (upd H' D (.lst ys)) { s4 with heap := h' }) → H' C = none → Q (.ref D) (upd H' D (.lst ys)) →
      compPost (model X.prog X.w) X.A X.xe use QQ (.ref D) C (.ok .next) s4) :
    wpAny (model X.prog X.w) X.A (comprehension (.ListComp elt [⟨.Name x px, iter, [], 0⟩] csc pos) csc X.env ppos (newList []) false (eval iter X.env) use) QQ X.xe s := by
  subst hsc hXN
  have cellsOk : ∀ p ∈ csc.names, p.2 = .free → ∃ c, X.env.cells.lookup p.1 = some c := fun p hp e => I.ok.has p.1 (.inl (ck.free p hp e))
  refine wpAny_comprehension_free (use := use) rfl hs (closureFor_eq cellsOk) ck.kind ck.loc (thn (hi pins s σ H _ I h) fun v s1 h1 => thn h1 fun itv s2 h2 => ?_)
  obtain ⟨it, fp, tn, J, H2, e, I2, T, st2, f2, W, ⟨m0, w0⟩, turn⟩ := h2
  subst e
  refine wpAny_newObj_type (wpAny_newFunctionEnv ck.cell (by intro y hy; simp at hy) (fun h4 hns4 hsb4 => ?_) ck.kind)
  dsimp only at hns4 hsb4 ⊢
  generalize hD : s2.heap.objs.size = D at hns4 hsb4 ⊢
  generalize hH2 : s2.heap.push { cls := .type "list", dict := none, data := .seq ([] : List Value).toArray } = G at hns4 hsb4 ⊢
  have hGs : G.objs.size = D + 1 := by rw [← hH2, Heap.size_push, hD]
  rw [hGs] at hns4 hsb4 ⊢
  have lt2 : ∀ b o, s2.heap.get? b = some o → b < D := fun b o e => hD ▸ Heap.lt_size e
  have old : ∀ b o, s2.heap.get? b = some o → b ≠ D + 1 ∧ b ≠ D := fun b o e => ⟨nlt1 (lt2 b o e), nlt (lt2 b o e)⟩
  have leD : s2.heap.objs.size ≤ D := Nat.le_of_eq hD
  have leD1 : s2.heap.objs.size ≤ D + 1 := Nat.le_succ_of_le leD
  have keep4 : ∀ b o, s2.heap.get? b = some o → h4.get? b = some o := fun b o e => hsb4.extBut b o (old b o e).1 (Heap.get?_push_of_some _ (hH2 ▸ Heap.get?_push_of_some _ e))
  have hDo : h4.get? D = some { cls := .type "list", data := .seq ([] : List Value).toArray 0 } := by
    refine hsb4.extBut D _ ns1 (Heap.get?_push_of_some _ ?_)
    rw [← hH2, ← hD]
    exact Heap.get?_push_size _ rfl
  have fps : ∀ b ∈ fp, b < s2.heap.objs.size := fun b hb => by
    obtain ⟨o, e, _⟩ := T.obj _ _ st2 b hb
    exact Heap.lt_size e
  have I4 : ∀ t4, Inv (compCx X (caps.map (·.1) ++ [x]) csc (D + 1) s2 H2 fp) [] (capV caps σ ++ [none]) H2 { s2 with heap := h4, toks := t4 } := fun t4 => comp_start (m0 := fun x => [].reverse.lookup x) I2 ck f2 fps leD1 keep4 hns4
  have cellsLt : ∀ y c, (clFold X.env csc.names []).lookup y = some c → c < D := fun y c e => by
    obtain ⟨v, o, ho, _⟩ := I2.cell y c (clFold_in _ _ cellsOk (fun y c h => by simp at h) y c e)
    exact lt2 c o ho
  have fsLt : ∀ b ∈ frs X.stack, b < D := fun b hb => by
    obtain ⟨_, o, ho, _⟩ := I2.stack.mem hb
    exact lt2 b o ho
  -- the iterator's objects within the block
  have fpC : ∀ {pl : List (Addr × Obj)} {H' : Hp}, (∀ p ∈ pl, p.1 = D) → (∀ b ∈ fp, H' b = none) → ∀ b ∈ fp, FpOk (compCx X (caps.map (·.1) ++ [x]) csc (D + 1) s2 H2 fp) pl H' b := fun {pl H'} hpl hn b hb => by
    have hb' : b < D := hD ▸ fps b hb
    refine ⟨hn b hb, nlt1 hb', ?_, .inl hb, fun y c e => ?_, fun p hp => ?_⟩
    · intro z
      rcases List.mem_cons.mp (I2.stkSub b z) with e | e
      · exact (f2 b hb).2.1 e
      · exact (f2 b hb).2.2.1 e
    · exact (f2 b hb).2.2.2.2.1 y c (clFold_in _ _ cellsOk (fun y c h => by simp at h) y c e)
    · have : p.1 = D := hpl p (by simpa using hp)
      rw [this]; exact fun z => nlt hb' z.symm
  have loop : ∀ t4, codeAny (model X.prog X.w) X.A (.compLoop (.ListComp elt [⟨.Name x px, iter, [], 0⟩] csc pos) 0 (.ref it) (.ref D) (compEnvC csc (clFold X.env csc.names []) (D + 1) X.env))
      (compPost (model X.prog X.w) X.A X.xe use QQ (.ref D) (D + 1)) { s2 with heap := h4, toks := t4 } := by
    intro t4
    refine compLoop_go (fun n s' => ∃ (i : Nat) (ys : List V) (its : List Value) (k : Nat) (σ' : St) (H' : Hp), Inv (compCx X (caps.map (·.1) ++ [x]) csc (D + 1) s2 H2 fp) [(D, { cls := .type "list", data := .seq its.toArray k })] σ' H' s' ∧ tn i s'.heap ∧ (∀ b ∈ fp, H' b = none) ∧ Vals ys its ∧ ys.length ≤ sizeLine ∧ W i n ys H' ∧ (∃ z, σ' = capV caps σ ++ [z])) ?_ m0 ?_
    · rintro n s3 ⟨i, ys, its, k, σ3, H3, I3, st3, fr3, hv, hz, w3, z3, rfl⟩
      have pl1 : ∀ p ∈ [((D, { cls := .type "list", data := .seq its.toArray k }) : Addr × Obj)], p.1 = D := fun p hp => by rw [List.mem_singleton.mp hp]
      rcases turn i n ys H3 w3 with ⟨stop, qn⟩ | ⟨go, hlt, step⟩
      · refine wpAny_mono (T.done (compCx X (caps.map (·.1) ++ [x]) csc (D + 1) s2 H2 fp) rfl rfl rfl hc i _ s3 _ H3 (fun _ _ => False) I3 (fpC pl1 fr3) st3 stop) (fun r s4 ⟨hr, I4'⟩ => ?_) fun _ _ f => f.elim
        subst hr
        obtain ⟨m, hn, _⟩ := id I4'.loc
        have pD := I4'.pin (D, { cls := .type "list", data := .seq its.toArray k }) (by simp)
        exact fin s2 H2 D (D + 1) ys H3 s4 m I2 leD1 leD ns1 hn (fun h' hs' => comp_done I2 I4' f2 leD1 leD ns1 hs' hv hz pD.1 pD.2.1) I4'.free (qn D pD.2.1)
      · refine wpAny_mono (T.item (compCx X (caps.map (·.1) ++ [x]) csc (D + 1) s2 H2 fp) rfl rfl rfl hc i _ s3 _ H3 (fun _ _ => False) I3 (fpC pl1 fr3) st3 go) (fun r s4 ⟨u, hr, h4'⟩ => ?_) fun _ _ f => f.elim
        subst hr
        refine wpAny_mono h4' (fun _ s4 ⟨xv, H5, I5, r5, y5, st5, fr5⟩ => ?_) fun _ _ f => f.elim
        have I5' := I5.pinned (fpC pl1 fr5) (T.obj _ _ st5)
        have hiN : (caps.map (·.1) ++ [x])[caps.length]? = some x := by rw [List.getElem?_append_right (by simp)]; simp
        refine wpAny_mono (pg_name (X := compCx X (caps.map (·.1) ++ [x]) csc (D + 1) s2 H2 fp) (i := caps.length) ck.nd hiN (.inl (lookup_relabel_local ck.tg)) (.inr (lookup_relabel_local ck.tg)) _ s4 _ H5 xv u _ I5' r5 (show gName caps.length xv _ H5 (fun σ6 H6 => σ6 = capV caps σ ++ [some xv] ∧ H6 = H5) from ⟨?_, rfl⟩)) (fun _ s6 ⟨σ6, H6, I6, hσ, hH⟩ => ?_) fun _ _ f => f.elim
        · rw [List.set_append_right _ _ (by rw [capV_len]; exact Nat.le_refl _), capV_len, Nat.sub_self]; rfl
        subst hσ hH
        refine wpAny_mono (he (D + 1) s2 H2 fp _ s6 _ H6 _ I6 (step xv H6 y5)) (fun w7 s7 ⟨y, H7, I7, r7, m', hm, w8⟩ => ?_) fun _ _ f => f.elim
        have pD := I7.pin (D, { cls := .type "list", data := .seq its.toArray k }) (by simp)
        have hll := hv.length
        refine call_meets F.slot_list_append ⟨_, pD.1, rfl⟩ F.entry_list_append (F.args_list_append_2 _ _) (PySem.list_append D its.toArray k w7 (by rw [List.size_toArray]; omega)) ⟨pD.1, ?_⟩
        have q := PySem.IsL.update pD.1 (·.push w7)
        have hpush : its.toArray.push w7 = (its ++ [w7]).toArray := by simp
        rw [hpush] at q
        obtain ⟨k', q⟩ : ∃ k', (s7.heap.update D (Obj.mapSeq (·.push w7))).get? D = some { cls := .type "list", data := .seq (its ++ [w7]).toArray k' } := ⟨_, q⟩
        have I7u : Inv (compCx X (caps.map (·.1) ++ [x]) csc (D + 1) s2 H2 fp) (pinsAt fp s4.heap) _ H7 s7 := I7.pins_of fun p hp => I7.pin p (List.mem_append_right _ (List.mem_append_right _ hp))
        have pfp : ∀ p ∈ pinsAt fp s4.heap, p.1 < D := fun p hp => hD ▸ fps p.1 (of_pinsAt hp).1
        have I8 := I7u.turned (h' := s7.heap.update D (Obj.mapSeq (·.push w7))) (t' := s7.toks) (it := D) (fun b o hb e => (Heap.get?_update_other s7.heap _ (Ne.symm hb)).trans e) pD.2.1 ns1 (.inr leD) (fun y c e => nlt (cellsLt y c e)) (fun p hp => nlt (pfp p (by simpa using hp)))
        refine ⟨m', hm, i + 1, ys ++ [y], its ++ [w7], k', _, H7, I8.pins_of fun p hp => ?_, T.keep _ _ _ st5 fun b hb o e => (I8.pin (b, o) (List.mem_append_right _ (mem_pinsAt hb e))).1, fun b hb => ?_, hv.append (.cons r7 .nil), ?_, w8, _, rfl⟩
        · rw [List.mem_singleton.mp hp]
          exact ⟨q, pD.2.1, pD.2.2.1, pD.2.2.2.1, fun v => by simp⟩
        · obtain ⟨o, e, d⟩ := T.obj _ _ st5 b hb
          exact (I8.pin (b, o) (List.mem_append_right _ (mem_pinsAt hb e))).2.1
        · rw [List.length_append, List.length_singleton]; omega
    · refine ⟨0, [], [], 0, _, H2, (I4 t4).pins_of fun p hp => ?_, T.keep _ _ _ st2 fun b hb o e => keep4 b o e, fun b hb => (f2 b hb).1, .nil, Nat.zero_le _, w0, _, rfl⟩
      rw [List.mem_singleton.mp hp]
      refine ⟨hDo, I2.hok.fresh leD, ns1, fun z => absurd (fsLt D z) (Nat.lt_irrefl _), fun v => by simp⟩
  exact codeAny_compStart_list (loop _) (T.self _ 0 _ _ _ (T.keep _ _ _ st2 fun b hb o e => keep4 b o e) (loop _))

/-- x = [..]: the list is stored ahead of the block's own names being let go -/
theorem ps_setC {i : Nat} {y : Str} {sc csc : Scope} {N : List Str} {elt iter : Expr} {x : Str} {px pos pos' spos : Pos} {caps : List (Str × Nat)} {wi : TI} {te : TE} (hN : X.N.Nodup) (hiy : X.N[i]? = some y) (hy : Loc X.env.scope y) (ck : CompOk sc csc N x caps) (hi : PI X (.Name x px) iter wi)
    (he : ∀ C s2 H2 fp, PE (compCx X (caps.map (·.1) ++ [x]) csc C s2 H2 fp) elt te) (hc : X.calm = true := by rfl) (hsc : X.env.scope = sc := by rfl) (hXN : X.N = N := by rfl) (hs : ∀ x, foldedSetIterable iter X.env x = pure x := by intro _; rfl)
    (hsw : swapsWith (.ListComp elt [⟨.Name x px, iter, [], 0⟩] csc pos) (some (.Name y pos')) spos.line X.env = pure true := by rfl) (hf : X.fn y = true ∨ X.env.scope.names.lookup y = some .local := by first | exact .inl rfl | exact .inr rfl | assumption) :
    PS X (.Assign [.Name y pos'] (.ListComp elt [⟨.Name x px, iter, [], 0⟩] csc pos) spos) (tAsg (tComp caps wi te) (gName i)) := by
  intro pins s σ H D I h
  rw [exec_Assign_Name_used _ _ _ _ hsw]
  refine wpAny_bind (wpAny_standAt (wpAny_bind ?_))
  show wpAny _ X.A (do let _ ← comprehension (.ListComp elt [⟨.Name x px, iter, [], 0⟩] csc pos) csc X.env _ (newList []) false (eval iter X.env) (some (assign (.Name y pos') X.env))) _ _ s
  refine wpAny_bind (wpAny_mono (comp_gen ck hi he hc hsc hXN hs I h (some (assign (.Name y pos') X.env)) (fun _ s' => SP X pins D .next s') ?_) (fun _ s' hq => wpAny_pure (wpAny_pure hq)) fun _ _ e => e)
  intro s2 H2 Dl C ys H' s4 m I2 leC leD nDC hns hI hfC q
  have I0 : Inv X pins σ (upd H' Dl (.lst ys)) s4 := hI s4.heap (Heap.SameBut.refl _ _)
  have hCD : C ≠ Dl := Ne.symm nDC
  have hHC : upd H' Dl (.lst ys) C = none := by rw [upd_ne hCD]; exact hfC
  have hCL : C ≠ X.env.locals := fun z => by have := I2.lt; rw [← z] at this; exact absurd this (Nat.not_lt.mpr leC)
  have hCfs : C ∉ X.fs := I2.nofs leC
  have pinlt : ∀ p ∈ X.pn ++ pins, p.1 ≠ C := fun p hp z => by
    have := (I2.pin p hp).1
    have := Heap.lt_size this
    rw [z] at this
    exact absurd this (Nat.not_lt.mpr leC)
  have celllt : ∀ z c, X.env.cells.lookup z = some c → c ≠ C := fun z c e w => by
    obtain ⟨v, o, ho, _⟩ := I2.cell z c e
    have := Heap.lt_size ho
    rw [w] at this
    exact absurd this (Nat.not_lt.mpr leC)
  obtain ⟨oC, es, ep, eC, dC, rC⟩ := id hns
  have I1 : Inv X (pins ++ [(C, oC)]) σ (upd H' Dl (.lst ys)) s4 := I0.pins_of fun p hp => by
    rcases List.mem_append.mp hp with hp | hp
    · exact I0.pin p (List.mem_append_right _ hp)
    · rw [List.mem_singleton.mp hp]
      exact ⟨eC, hHC, hCL, hCfs, fun v z => by rw [dC] at z; cases z⟩
  refine thn (pg_name (i := i) (pos := pos') hN hiy hy hf (pins ++ [(C, oC)]) s4 σ _ (.ref Dl) (.ref Dl) D.nx I1 rfl q) fun _ s5 ⟨σ5, H5, I5, q5⟩ => ?_
  have pC := I5.pin (C, oC) (by simp)
  refine ⟨m, ⟨oC, es, ep, pC.1, dC, rC⟩, fun h' hs' => ?_⟩
  have I6 : Inv X pins σ5 H5 s5 := I5.pins_of fun p hp => I5.pin p (List.mem_append_right _ (List.mem_append_left _ hp))
  exact ⟨σ5, H5, I6.turned (h' := h') (t' := s5.toks) (it := C) (fun b o hb e => (hs'.2 b hb).trans e) pC.2.1 hCL (.inr (Nat.le_trans I2.sz leC)) celllt pinlt, q5⟩
theorem pe_fldK {K : PySem.W.Frag} {e : Expr} {ta : TE} {f : Str} {pos : Pos} (he : PE X e ta) (hb : attributeBase e f X.env (eval e X.env) = eval e X.env) (hK : X.K = K := by rfl) : PE X (.Attribute e f pos) (tFld K ta f) := by
  subst hK; exact pe_fld he hb
theorem ix_listK {K : PySem.W.Frag} (hK : X.K = K) : IxR X (rIxL K) := by subst hK; exact ix_list
theorem ix_tupK {K : PySem.W.Frag} (hK : X.K = K) : IxR X (rIxT K) := by subst hK; exact ix_tup
end
end L2
namespace L2
open PySem PySem.Spec PyProof.Rows
section
variable {X : Cx}
def strsOf : List Expr → Option (List Str)
  | [] => some []
  | e :: r => match e with
    | .Constant (.str x) _ _ => (strsOf r).map (x :: ·)
    | _ => none
theorem pa_strs : ∀ {es : List Expr} {xs : List Str}, strsOf es = some xs → PA X es (fun _ H Q => Q (xs.map V.str) H)
  | [], xs, h => by
    have e : xs = [] := (Option.some.inj h).symm
    subst e
    exact pa_nil
  | e :: r, xs, h => by
    unfold strsOf at h
    split at h
    · rename_i x j p
      obtain ⟨ys, h1, h2⟩ := Option.map_eq_some_iff.mp h
      subst h2
      exact pa_cons (te := tC (.str x)) (t := fun _ H Q => Q (ys.map V.str) H) pe_str (pa_strs h1) rfl
    · cases h
end
end L2
namespace L2
open PySem PySem.Spec PyProof.Rows
/-- all is kept, but the slots of the frames at F, and the records at ch -/
structure Kept (F ch : List Addr) (g h : Heap) : Prop where
  keep : ∀ b o, g.get? b = some o → b ∉ F → b ∉ ch → h.get? b = some o
  slot : ∀ b o, g.get? b = some o → b ∈ F → b ∉ ch → ∃ sl, h.get? b = some { o with slots := sl }
  there : ∀ b o, g.get? b = some o → ∃ u, h.get? b = some u
theorem Kept.trans {F c1 c2 : List Addr} {g h k : Heap} (x : Kept F c1 g h) (y : Kept F c2 h k) : Kept F (c1 ++ c2) g k where
  keep b o e n1 n2 := y.keep b o (x.keep b o e n1 fun z => n2 (List.mem_append_left _ z)) n1 fun z => n2 (List.mem_append_right _ z)
  slot b o e n1 n2 := by
    obtain ⟨sl, e1⟩ := x.slot b o e n1 fun z => n2 (List.mem_append_left _ z)
    obtain ⟨sl2, e2⟩ := y.slot b _ e1 n1 fun z => n2 (List.mem_append_right _ z)
    exact ⟨sl2, e2⟩
  there b o e := let ⟨u, e1⟩ := x.there b o e; y.there b u e1
/-- one record changed -/
theorem Kept.one {F : List Addr} {h : Heap} {a : Addr} {o : Obj} {f : Obj → Obj} (e : h.get? a = some o) (nf : (f o).isFreed = false) : Kept F [a] h (h.update a f) where
  keep b u q n1 n2 := by rw [Heap.get?_update_other _ _ (fun z => n2 (by simp [z]))]; exact q
  slot b u q n1 n2 := ⟨u.slots, by rw [Heap.get?_update_other _ _ (fun z => n2 (by simp [z]))]; exact q⟩
  there b u q := by
    by_cases z : b = a
    · subst z; exact ⟨_, Heap.get?_update_self _ e nf⟩
    · exact ⟨u, by rw [Heap.get?_update_other _ _ (Ne.symm z)]; exact q⟩
theorem Kept.push {F : List Addr} {h : Heap} {o : Obj} : Kept F [] h (h.push o) :=
  ⟨fun b u q _ _ => Heap.get?_push_of_some _ q, fun b u q _ _ => ⟨u.slots, Heap.get?_push_of_some _ q⟩, fun b u q => ⟨u, Heap.get?_push_of_some _ q⟩⟩
theorem Kept.slots {F : List Addr} {h k : Heap} (x : Heap.SlotsOnly F h k) : Kept F [] h k :=
  ⟨fun b u q n _ => (x.2.1 b n).trans q, fun b u q _ _ => x.2.2 b u q, fun b u q => let ⟨sl, e⟩ := x.2.2 b u q; ⟨_, e⟩⟩
theorem Kept.mono {F c1 c2 : List Addr} {g h : Heap} (x : Kept F c1 g h) (s : ∀ b ∈ c1, b ∈ c2) : Kept F c2 g h :=
  ⟨fun b o e n1 n2 => x.keep b o e n1 fun z => n2 (s b z), fun b o e n1 n2 => x.slot b o e n1 fun z => n2 (s b z), x.there⟩
theorem Kept.frame {ch : List Addr} {g h : Heap} (x : Kept [] ch g h) (F : List Addr) : Kept F ch g h :=
  ⟨fun b o e _ n => x.keep b o e (by simp) n, fun b o e _ n => ⟨o.slots, x.keep b o e (by simp) n⟩, x.there⟩
/-- what is tracked stands by itself: the records that change are not tracked -/
theorem Kept.un {F ch : List Addr} {g h : Heap} {H : Hp} (x : Kept F ch g h) : Un F ch H H g h :=
  ⟨fun b o e _ n1 n2 => x.keep b o e n1 n2, fun b o e _ n1 n2 => x.slot b o e n1 n2, fun _ _ _ n _ => n, fun b o e _ => x.there b o e, fun _ _ e => e, fun _ _ _ e => e, fun b ps e => ⟨#[], by rw [e]; simp⟩⟩
theorem Kept.hok {P : Program} {w : World} {F ch : List Addr} {g h : Heap} {H : Hp} (x : Kept F ch g h) (k : HOk P w H g) (hF : ∀ b ∈ F, H b = none) (hc : ∀ b ∈ ch, H b = none) : HOk P w H h := fun a o e => by
  refine (k a o e).stay (fun b u hb q => x.keep b u q (fun z => ?_) fun z => ?_) (fun _ q => q) fun _ _ q => q
  · rcases hb with y | y
    · rw [y] at z; rw [hF a z] at e; cases e
    · rw [hF b z] at y; cases y
  · rcases hb with y | y
    · rw [y] at z; rw [hc a z] at e; cases e
    · rw [hc b z] at y; cases y
section
variable {M : Model} {A : Around} {E : Value → Shared → Prop} {s : Shared} {base : Heap} {env : Env} {outer : List Env} {L e : Addr}
/-- a frame's entry is made -/
theorem note_core {oe : Obj} {vs : Array Value} {head : Value} {hn : Bool} {Q : Unit → Shared → Prop} (hfr : A.frames = some (env :: outer)) (hl : s.heap.FunFrames base (env :: outer)) (hf : env.frame = some L)
    (he : s.heap.get? e = some oe) (hd : oe.data = .fields vs) (hsz : 1 < vs.size)
    (h : ∀ (h2 : Heap) (T : Addr) (oT : Obj) (ts : Array Value), Kept (frs (env :: outer)) [e] s.heap h2 → s.heap.objs.size ≤ T → T ≠ e → h2.get? e = some (oe.mapFields (·.setIfInBounds 1 (.ref T))) → h2.get? T = some oT → oT.data = .fields ts → ts[3]? = some (rawInt L) → Q () { s with heap := h2 }) :
    wpAny M A (do let a ← frameOf env; let pl ← entryPlaceOf L hn; let b ← EntryCells.newEntry head a .none (rawInt L) .none pl; setField (.ref e) 1 b) Q E s := by
  have ef : e ∉ frs (env :: outer) := fun z => by
    obtain ⟨_, o, q, nf⟩ := hl.mem z
    rw [he] at q; cases q
    exact nf vs hd
  refine wpAny_bind (wpAny_frameOf_fun hfr hl hf fun g1 so => ?_)
  have k1 : Kept (frs (env :: outer)) [] s.heap g1 := Kept.slots so
  refine wpAny_bind (wpAny_entryPlaceOf fun pl isp => ?_)
  unfold EntryCells.newEntry newFields
  refine wpAny_bind (wpAny_newObj_type ?_ (isp.sizeOk5 _ _ _ _ _))
  have e1 : g1.get? e = some oe := k1.keep e oe he ef (by simp)
  generalize hO : ({ cls := .type "traceback", dict := none, data := .fields ([head, .ref L, .none, rawInt L, .none] ++ (if pl.isEmpty then List.replicate 6 Value.none else pl)).toArray } : Obj) = O
  have dO : O.data = .fields ([head, .ref L, .none, rawInt L, .none] ++ (if pl.isEmpty then List.replicate 6 Value.none else pl)).toArray := by rw [← hO]
  have fO : O.isFreed = false := Obj.isFreed_of_fields dO
  have e2 : (g1.push O).get? e = some oe := Heap.get?_push_of_some _ e1
  have d3 := Obj.data_mapFields hd (·.setIfInBounds 1 (Value.ref g1.objs.size))
  have nT : g1.objs.size ≠ e := Nat.ne_of_gt (Heap.lt_size e1)
  refine wpAny_setField e2 hd hsz (h _ g1.objs.size O _ ?_ ?_ nT (Heap.get?_update_self _ e2 (Obj.isFreed_of_fields d3)) ?_ dO ?_)
  · exact ((k1.trans Kept.push).trans (Kept.one e2 (Obj.isFreed_of_fields d3))).mono (by simp)
  · exact Nat.le_of_eq so.1.symm
  · rw [Heap.get?_update_other _ _ (Ne.symm nT)]
    exact Heap.get?_push_size g1 fO
  · simp
end
/-- the exception at e of the class C, with the dict d: its newest entry stands at T, and says fl of the flight -/
structure Flown (h : Heap) (e C : Addr) (d : Option Addr) (T : Addr) (fl : Value) : Prop where
  ob : ∃ oe vs, h.get? e = some oe ∧ oe.cls = .ref C ∧ oe.dict = d ∧ oe.data = .fields vs ∧ vs[1]? = some (.ref T)
  ne : T ≠ e
  tb : ∃ oT ts, h.get? T = some oT ∧ oT.data = .fields ts ∧ ts[3]? = some fl
/-- a new one: no frame has noted it -/
def Unflown (h : Heap) (e C : Addr) (d : Option Addr) : Prop := ∃ oe vs, h.get? e = some oe ∧ oe.cls = .ref C ∧ oe.dict = d ∧ oe.data = .fields vs ∧ vs[1]? = some .none
section
variable {M : Model} {A : Around} {E : Value → Shared → Prop} {s : Shared} {base : Heap} {env : Env} {outer : List Env} {L e C T : Addr} {d : Option Addr}
theorem note_new {Q : Unit → Shared → Prop} (hfr : A.frames = some (env :: outer)) (hl : s.heap.FunFrames base (env :: outer)) (hf : env.frame = some L) (x : Unflown s.heap e C d)
    (h : ∀ (h2 : Heap) (T : Addr), Kept (frs (env :: outer)) [e] s.heap h2 → s.heap.objs.size ≤ T → Flown h2 e C d T (rawInt L) → Q () { s with heap := h2 }) : wpAny M A (noteFrame (.ref e) env) Q E s := by
  obtain ⟨oe, vs, h1, h2, h3, h4, h5⟩ := x
  unfold noteFrame
  simp only [hf]
  refine wpAny_bind (wpAny_field h1 h4 h5 ?_)
  rw [if_neg (by decide)]
  have sz : 1 < vs.size := (Array.getElem?_eq_some_iff.mp h5).1
  refine note_core hfr hl hf h1 h4 sz fun g T oT ts k n ne q1 q2 q3 q4 => h g T k n ⟨⟨_, _, q1, ?_, ?_, Obj.data_mapFields h4 _, ?_⟩, ne, oT, ts, q2, q3, q4⟩
  · rw [Obj.cls_mapFields]; exact h2
  · obtain ⟨c, dd, dt, sl⟩ := oe
    cases dt <;> exact h3
  · simp [sz]
theorem note_on {Q : Unit → Shared → Prop} (hfr : A.frames = some (env :: outer)) (hl : s.heap.FunFrames base (env :: outer)) (hf : env.frame = some L) (x : Flown s.heap e C d T .none)
    (h : ∀ (h2 : Heap) (T2 : Addr), Kept (frs (env :: outer)) [T, e] s.heap h2 → s.heap.objs.size ≤ T2 → Flown h2 e C d T2 (rawInt L) → Q () { s with heap := h2 }) : wpAny M A (noteFrame (.ref e) env) Q E s := by
  obtain ⟨⟨oe, vs, h1, h2, h3, h4, h5⟩, ne, oT, ts, t1, t2, t3⟩ := x
  unfold noteFrame
  simp only [hf]
  refine wpAny_bind (wpAny_field h1 h4 h5 ?_)
  rw [if_pos (by simp)]
  refine wpAny_bind (wpAny_field t1 t2 t3 ?_)
  rw [if_neg (by simp [rawInt])]
  have sT : 3 < ts.size := (Array.getElem?_eq_some_iff.mp t3).1
  refine wpAny_bind (wpAny_setField t1 t2 sT ?_)
  have dT := Obj.data_mapFields t2 (·.setIfInBounds 3 Value.none)
  have kT : Kept (frs (env :: outer)) [T] s.heap (s.heap.update T (Obj.mapFields (·.setIfInBounds 3 Value.none))) := Kept.one t1 (Obj.isFreed_of_fields dT)
  have he2 : (s.heap.update T (Obj.mapFields (·.setIfInBounds 3 Value.none))).get? e = some oe := by rw [Heap.get?_update_other _ _ ne]; exact h1
  have hl2 : (s.heap.update T (Obj.mapFields (·.setIfInBounds 3 Value.none))).FunFrames base (env :: outer) := hl.of_keeps fun b o q nf => ⟨o, by
    rw [Heap.get?_update_other _ _ (fun z => by rw [← z, t1] at q; cases q; exact nf ts t2)]; exact q, rfl⟩
  have sz : 1 < vs.size := (Array.getElem?_eq_some_iff.mp h5).1
  refine note_core (s := { s with heap := s.heap.update T (Obj.mapFields (·.setIfInBounds 3 Value.none)) }) hfr hl2 hf he2 h4 sz fun g T2 o2 ts2 k n ne2 q1 q2 q3 q4 => h g T2 (kT.trans k) ?_ ⟨⟨_, _, q1, ?_, ?_, Obj.data_mapFields h4 _, ?_⟩, ne2, o2, ts2, q2, q3, q4⟩
  · have n : (s.heap.update T (Obj.mapFields (·.setIfInBounds 3 Value.none))).objs.size ≤ T2 := n
    rw [Heap.size_after_update] at n
    exact n
  · rw [Obj.cls_mapFields]; exact h2
  · obtain ⟨c, dd, dt, sl⟩ := oe
    cases dt <;> exact h3
  · simp [sz]
/-- the frame lets it go -/
theorem flight_none {fl : Value} {Q : Unit → Shared → Prop} (x : Flown s.heap e C d T fl) (h : ∀ h2 : Heap, Kept [] [T] s.heap h2 → Flown h2 e C d T .none → Q () { s with heap := h2 }) : wpAny M A (setFlight (.ref e) none) Q E s := by
  obtain ⟨⟨oe, vs, h1, h2, h3, h4, h5⟩, ne, oT, ts, t1, t2, t3⟩ := x
  have sT : 3 < ts.size := (Array.getElem?_eq_some_iff.mp t3).1
  unfold setFlight
  refine wpAny_bind (wpAny_field h1 h4 h5 ?_)
  rw [if_pos (by simp)]
  have dT := Obj.data_mapFields t2 (·.setIfInBounds 3 ((none : Option Addr).elim Value.none fun f => rawInt f))
  refine wpAny_setField t1 t2 sT (h _ (Kept.one t1 (Obj.isFreed_of_fields dT)) ⟨⟨oe, vs, ?_, h2, h3, h4, h5⟩, ne, _, _, Heap.get?_update_self _ t1 (Obj.isFreed_of_fields dT), dT, ?_⟩)
  · rw [Heap.get?_update_other _ _ ne]; exact h1
  · simp [sT]
theorem leave_new {Q : Unit → Shared → Prop} (hfr : A.frames = some (env :: outer)) (hl : s.heap.FunFrames base (env :: outer)) (hf : env.frame = some L) (x : Unflown s.heap e C d)
    (h : ∀ (h2 : Heap) (T : Addr), Kept (frs (env :: outer)) [e, T] s.heap h2 → s.heap.objs.size ≤ T → Flown h2 e C d T .none → Q () { s with heap := h2 }) : wpAny M A (leaving env (.ref e)) Q E s := by
  unfold leaving
  refine wpAny_bind (note_new hfr hl hf x fun g T k n y => flight_none (s := { s with heap := g }) y fun g2 k2 y2 => h g2 T (k.trans (k2.frame _)) n y2)
end
end L2
namespace L2
open PySem PySem.Spec PyProof.Rows
def xobj (e C : Addr) (d : Option Addr) : HO := .ext fun h => ∃ oe vs, h.get? e = some oe ∧ oe.cls = .ref C ∧ oe.dict = d ∧ oe.data = .fields vs ∧ 1 < vs.size
theorem xobj_ok {P : Program} {w : World} {H : Hp} {h : Heap} {e C : Addr} {d : Option Addr} {oe : Obj} {vs : Array Value} (h1 : h.get? e = some oe) (h2 : oe.cls = .ref C) (h3 : oe.dict = d) (h4 : oe.data = .fields vs) (h5 : 1 < vs.size) : ObjOk P w H h e (xobj e C d) :=
  ⟨⟨oe, vs, h1, h2, h3, h4, h5⟩, ⟨oe, h1⟩, fun g1 g2 ⟨o, v, q1, q2⟩ k => ⟨o, v, k o q1, q2⟩⟩
theorem Flown.ok {P : Program} {w : World} {H : Hp} {h : Heap} {e C T : Addr} {d : Option Addr} {fl : Value} (x : Flown h e C d T fl) : ObjOk P w H h e (xobj e C d) := by
  obtain ⟨oe, vs, h1, h2, h3, h4, h5⟩ := x.ob
  exact xobj_ok h1 h2 h3 h4 (Array.getElem?_eq_some_iff.mp h5).1
/-- what is tracked stands by itself, the exception too -/
theorem Kept.hokX {P : Program} {w : World} {F ch : List Addr} {g h : Heap} {H : Hp} {e C : Addr} {d : Option Addr} (x : Kept F ch g h) (k : HOk P w H g) (hF : ∀ b ∈ F, H b = none) (hc : ∀ b ∈ ch, b = e ∨ H b = none) (he : H e = some (xobj e C d)) (ok : ObjOk P w H h e (xobj e C d)) : HOk P w H h := fun a o q => by
  by_cases z : a = e
  · subst z
    rw [he] at q
    cases q
    exact ok
  refine (k a o q).stay (fun b u hb r => x.keep b u r (fun y => ?_) fun y => ?_) (fun _ r => r) fun _ _ r => r
  · rcases hb with v | v
    · rw [v] at y; rw [hF a y] at q; cases q
    · rw [hF b y] at v; cases v
  · rcases hc b y with n | n
    · rcases hb with v | v
      · exact z (v.symm.trans n)
      · rw [n, he] at v; cases v
    · rcases hb with v | v
      · rw [v] at n; rw [n] at q; cases q
      · rw [n] at v; cases v
theorem ObjOk.there {P : Program} {w : World} {H : Hp} {h : Heap} {a : Addr} {o : HO} (x : ObjOk P w H h a o) : ∃ ob, h.get? a = some ob := by
  induction o with
  | lst xs => obtain ⟨_, _, _, _, e⟩ := x; exact ⟨_, e⟩
  | tup xs => obtain ⟨_, _, _, p⟩ := x; obtain ⟨ob, e, _⟩ := p; exact ⟨ob, e⟩
  | dK kvs => obtain ⟨_, _, _, _, o, _, _, e, _⟩ := x; exact ⟨o, e⟩
  | dT kvs => obtain ⟨_, _, _, _, o, _, _, e, _⟩ := x; exact ⟨o, e⟩
  | set S n => obtain ⟨o, _, _, _, e, _⟩ := x; exact ⟨o, e⟩
  | ins C dx fs => obtain ⟨_, _, _, e, _⟩ := x; exact ⟨_, e⟩
  | own y => exact x
  | xd fs => obtain ⟨_, ⟨o, _, _, e, _⟩, _⟩ := x; exact ⟨o, e⟩
  | met f y => exact ⟨_, x⟩
  | rng lo hi => obtain ⟨_, _, _, e⟩ := x; exact ⟨_, e⟩
  | frz o u _ => exact ⟨o, x.1⟩
  | tbl ps => exact ⟨_, x⟩
  | ext φ => exact x.2.1
theorem HOk.new {P : Program} {w : World} {H : Hp} {h : Heap} {a : Addr} (k : HOk P w H h) (e : h.get? a = none) : H a = none := by
  cases q : H a with
  | none => rfl
  | some o =>
    obtain ⟨ob, q2⟩ := (k a o q).there
    rw [e] at q2; cases q2
/-- how an exception lies behind a call: it is new, tracked, and flies through the callers' frames -/
def CXE (P : Program) (w : World) : CXT := fun outer H s E ev s' => ∃ (e C T : Addr) (d : Option Addr) (H' : Hp), ev = .ref e ∧ Flown s'.heap e C d T .none ∧ s'.os = s.os ∧ AllBare s'.gens ∧ Un (frs outer) [] H H' s.heap s'.heap ∧ HOk P w H' s'.heap ∧
  H' e = some (xobj e C d) ∧ H' T = none ∧ s.heap.objs.size ≤ T ∧ s.heap.get? e = none ∧ E (.ref C) (some e) H'
section
variable {P : Program} {w : World} {K : PySem.W.Frag} {mg : Str → Option Value} {base : Heap} {N : List Str} {qual : Str} {scope : Scope} {f : Addr} {cd : Value} {A : Around} {outer : List Env} {s : Shared} {H : Hp} {E : XK}
theorem xe_end {X : Cx} {pins : List (Addr × Obj)} {σ : St} {H' : Hp} {s' : Shared} {h2 : Heap} {e C T2 : Addr} {d : Option Addr} {ch : List Addr} (hfs : X.fs = frs outer) (hex : X.ex = []) (hH : X.H₀ = H) (hs : X.s₀ = s) (hP : X.prog = P) (hw : X.w = w) (J : Inv X pins σ H' s') (k : Kept (frs X.stack) ch s'.heap h2) (y : Flown h2 e C d T2 .none)
    (he : H' e = some (xobj e C d)) (l2 : s'.heap.objs.size ≤ T2) (le : s.heap.get? e = none) (hch : ∀ b ∈ ch, (b = e ∨ H' b = none) ∧ s.heap.get? b = none) (hE : E (.ref C) (some e) H') : CXE P w outer H s E (.ref e) { s' with heap := h2 } := by
  subst hH hs hP hw
  have ll : ∀ b o, X.s₀.heap.get? b = some o → b ∉ ch ∧ b ≠ X.env.locals := fun b o q => by
    have lt := Heap.lt_size q
    refine ⟨(fun z => by rw [(hch b z).2] at q; cases q), fun z => ?_⟩
    have := J.ok.above
    rw [← z] at this
    exact absurd this (Nat.not_le.mpr lt)
  have nst : ∀ b o, X.s₀.heap.get? b = some o → b ∉ frs outer → b ∉ frs X.stack := fun b o q n z => by
    rcases List.mem_cons.mp (J.stkSub b z) with y | y
    · exact (ll b o q).2 y
    · rw [hfs] at y; exact n y
  have hb := J.base
  rw [hfs, hex] at hb
  refine ⟨e, C, T2, d, H', rfl, y, J.os, J.bare, ⟨fun b o q n n1 n2 => ?_, fun b o q n n1 n2 => ?_, fun b o q n n2 => hb.free b o q n n2, fun b o q n2 => ?_, hb.tups, hb.frzs, hb.tbls⟩, k.hokX J.hok J.stkFree (fun b z => (hch b z).1) he y.ok, he, J.hok.fresh l2, Nat.le_trans J.sz l2, le, hE⟩
  · exact k.keep b o (hb.keep b o q n n1 n2) (nst b o q n1) (ll b o q).1
  · obtain ⟨sl, q2⟩ := hb.slot b o q n n1 n2
    by_cases z : b ∈ frs X.stack
    · obtain ⟨sl2, q3⟩ := k.slot b _ q2 z (ll b o q).1
      exact ⟨sl2, q3⟩
    · exact ⟨sl, k.keep b _ q2 z (ll b o q).1⟩
  · obtain ⟨u, q2⟩ := hb.there b o q n2
    exact k.there b u q2
/-- an exception that is raised here -/
theorem raiseE {pins : List (Addr × Obj)} {σ : St} {H1 : Hp} {s1 : Shared} {e C : Addr} {d : Option Addr} (I : Inv (cxOf (CXE P w) P w K mg base N qual scope f cd A outer s H E) pins σ H1 s1) (u : Unflown s1.heap e C d) (he : H1 e = some (xobj e C d)) (le : s.heap.get? e = none) (hE : E (.ref C) (some e) H1) :
    (cxOf (CXE P w) P w K mg base N qual scope f cd A outer s H E).xe (.ref e) s1 := by
  refine leave_new (base := base) I.ok.frames I.stack rfl u fun h2 T2 k n y => ?_
  have szJ := I.sz
  refine xe_end (X := cxOf (CXE P w) P w K mg base N qual scope f cd A outer s H E) rfl rfl rfl rfl rfl rfl I k y he n le (fun b hb => ?_) hE
  simp only [List.mem_cons, List.not_mem_nil, or_false] at hb
  rcases hb with z | z
  · rw [z]; exact ⟨.inl rfl, le⟩
  · rw [z]; exact ⟨.inr (I.hok.fresh n), Heap.get?_none_of_le (Nat.le_trans szJ n)⟩
end
end L2
namespace L2
open PySem PySem.Spec PyProof.Rows
section
variable {X : Cx} {pins : List (Addr × Obj)} {σ : St} {H : Hp} {s : Shared} {h' : Heap}
/-- a new object at an address that was free -/
theorem Inv.laidN {a : Addr} {o : HO} {t' : Nat} (I : Inv X pins σ H s) (k : ∀ b u, s.heap.get? b = some u → h'.get? b = some u) (hp : s.heap.get? a = none) (new : ObjOk X.prog X.w (upd H a o) h' a o) : Inv X pins σ (upd H a o) { s with heap := h', toks := t' } := by
  have hn : H a = none := I.hok.new hp
  have ne : ∀ b u, s.heap.get? b = some u → b ≠ a := fun b u q z => by rw [z, hp] at q; cases q
  have ne2 : ∀ b u, H b = some u → b ≠ a := fun b u q => ne_of_none q hn
  refine I.un ⟨fun b u q _ _ _ => k b u q, fun b u q _ _ _ => ⟨u.slots, k b u q⟩, fun b u q n _ => by rw [upd_ne (ne b u q)]; exact n, fun b u q _ => ⟨u, k b u q⟩, fun b xs q => by rw [upd_ne (ne2 b _ q)]; exact q, fun b u xs q => by rw [upd_ne (ne2 b _ q)]; exact q, fun b ps q => ⟨#[], by rw [upd_ne (ne2 b _ q), q]; simp⟩⟩ fun b u q => ?_
  by_cases z : b = a
  · subst z
    rw [upd_same] at q
    cases q
    exact new
  · rw [upd_ne z] at q
    exact (I.hok b u q).stay (fun c v _ r => k c v r) (fun c r => by rw [upd_ne (ne2 c _ r)]; exact r) fun c xs r => by rw [upd_ne (ne2 c _ r)]; exact r
end
/-- the classes under ValueError -/
abbrev VE : List Value := [.type "ValueError", .type "Exception", .type "BaseException", .type "object"]
structure ExcAt (h : Heap) (C : Addr) (bm : List Value) (Nn : Addr) (mN : Str → Option Value) : Prop where
  ob : ∃ nm q bs hdct sn sub ab col dd k0 k1 k2 k3 k5, h.get? C = some (excClassObj nm q C Nn bs bm hdct sn sub ab col dd k0 k1 k2 k3 k5 "ValueError.__new__")
  ns : h.Ns Nn mN
  tail : OwnTail h VE bm
theorem ExcAt.keeps {h h2 : Heap} {C Nn : Addr} {bm : List Value} {mN : Str → Option Value} (x : ExcAt h C bm Nn mN) (k : ∀ b o, h.get? b = some o → h2.get? b = some o) : ExcAt h2 C bm Nn mN :=
  ⟨let ⟨a1, a2, a3, a4, a5, a6, a7, a8, a9, b0, b1, b2, b3, b4, e⟩ := x.ob; ⟨a1, a2, a3, a4, a5, a6, a7, a8, a9, b0, b1, b2, b3, b4, k _ _ e⟩, x.ns.keeps k, x.tail.keeps k⟩
section
variable {P : Program} {w : World} {K : PySem.W.Frag} {mg : Str → Option Value} {base : Heap} {N : List Str} {qual : Str} {scope : Scope} {f : Addr} {cd : Value} {A : Around} {outer : List Env} {s : Shared} {H : Hp} {E : XK}
end
end L2
namespace L2
open PySem PySem.Spec PyProof.Rows
section
variable {M : Model} {A : Around} {E : Value → Shared → Prop}
/-- does the clause's class take the exception? -/
theorem exc_match {hp : Heap} {g : Array GenState} {dr : Drawn} {tk : Nat} {os : OsState} {e C C2 Nn N2 : Addr} {bm bm2 : List Value} {mN m2 : Str → Option Value} {oe : Obj} {b : Bool} {Q : Bool → Shared → Prop} (x : ExcAt hp C bm Nn mN) (y : ExcAt hp C2 bm2 N2 m2) (he : hp.get? e = some oe) (hcls : oe.cls = .ref C)
    (hb : (Value.ref C :: bm).contains (.ref C2) = b) (hq : Q b ⟨hp, g, dr, tk, os⟩) : wpAny M A (excMatches (.ref e) (.ref C2)) Q E ⟨hp, g, dr, tk, os⟩ := by
  obtain ⟨a1, a2, a3, a4, a5, a6, a7, a8, a9, b0, b1, b2, b3, b4, eC⟩ := x.ob
  obtain ⟨c1, c2, c3, c4, c5, c6, c7, c8, c9, d0, d1, d2, d3, d4, eD⟩ := y.ob
  have base2 : (Value.ref C2 :: bm2).contains (.type "BaseException") = true := by rw [List.contains_cons, y.tail.hasType (b := true) (by decide), Bool.or_true]
  have nt := tc_notTuple
  unfold excMatches
  repeat (first
    | (with_reducible refine wpAny_loadPart_at he ?_; rw [hcls])
    | with_reducible refine wpAny_loadPart_at eD ?_
    | (with_reducible refine wpAny_isSubtype_exc eD ?_; rw [base2])
    | (with_reducible refine wpAny_isSubtype_exc eC ?_; rw [hb])
    | wp_step)
  cases b <;> (try wp_walk) <;> exact hq
end
end L2
namespace L2
open PySem PySem.Spec PyProof.Rows
section
variable {X : Cx} {pins pins' : List (Addr × Obj)} {σ : St} {H : Hp} {s : Shared}
/-- what is wanted of an exception that leaves a try's body: it flies, and Th holds of it and of the names as they are -/
def TryX (X : Cx) (pins : List (Addr × Obj)) (Th : St → Addr → Addr → Hp → Prop) (ev : Value) (s' : Shared) : Prop :=
  ∃ (e C T : Addr) (d : Option Addr) (σ : St) (H' : Hp), ev = .ref e ∧ Inv X pins σ H' s' ∧ Flown s'.heap e C d T .none ∧ H' e = some (xobj e C d) ∧ H' T = none ∧ X.s₀.heap.objs.size ≤ T ∧ (∀ p ∈ X.pn ++ pins, p.1 ≠ T) ∧ Th σ C e H'
abbrev Cx.trying (X : Cx) (pins : List (Addr × Obj)) (Th : St → Addr → Addr → Hp → Prop) : Cx := { X with pn := X.pn ++ pins, xe := TryX X pins Th }
theorem Cx.Ok.cast {X Y : Cx} (ok : X.Ok) (h1 : Y.K = X.K) (h2 : Y.mg = X.mg) (h3 : Y.base = X.base) (h4 : Y.env = X.env) (h5 : Y.s₀ = X.s₀) (h6 : Y.H₀ = X.H₀) (h7 : Y.outer = X.outer) (h8 : Y.stack = X.stack) (h9 : Y.ex = X.ex) (h10 : Y.fn = X.fn) (hd : Y.calm = true → Y.A.handled = none) (hf : Y.A.frames = some Y.stack) : Y.Ok := by
  obtain ⟨P, w, K, mg, base, A, N, s0, H0, env, outer, stack, ex, fn, calm, pn, xe⟩ := Y
  dsimp only at h1 h2 h3 h4 h5 h6 h7 h8 h9 h10
  subst h1 h2 h3 h4 h5 h6 h7 h8 h9 h10
  exact ⟨ok.mod, ok.kind, ok.glob, ok.blt, ok.above, ok.inj, ok.has, ok.cab, hd, hf, ok.stk, ok.exf, ok.bs, ok.bsz, ok.noex, ok.exfs, ok.funs, ok.frf⟩
theorem Inv.trying (I : Inv X pins σ H s) (Th : St → Addr → Addr → Hp → Prop) : Inv (X.trying pins Th) [] σ H s :=
  ⟨I.ok.cast rfl rfl rfl rfl rfl rfl rfl rfl rfl rfl I.ok.hd I.ok.frames, I.os, I.bare, I.base, I.loc, I.cell, I.free, I.freeC, fun p hp => I.pin p (by simpa using hp), I.hok, I.len⟩
theorem Inv.tried {Th : St → Addr → Addr → Hp → Prop} (I : Inv (X.trying pins Th) pins' σ H s) : Inv X pins σ H s :=
  ⟨I.ok.cast rfl rfl rfl rfl rfl rfl rfl rfl rfl rfl I.ok.hd I.ok.frames, I.os, I.bare, I.base, I.loc, I.cell, I.free, I.freeC, fun p hp => I.pin p (List.mem_append_left _ hp), I.hok, I.len⟩
/-- within an except suite -/
abbrev Cx.held (X : Cx) (e : Addr) : Cx := { X with A := X.A.mark (some (.ref e)), calm := false, xe := fun _ _ => False }
theorem Inv.held (I : Inv X pins σ H s) (e : Addr) : Inv (X.held e) pins σ H s :=
  ⟨I.ok.cast rfl rfl rfl rfl rfl rfl rfl rfl rfl rfl (fun z => nomatch z) I.ok.frames, I.os, I.bare, I.base, I.loc, I.cell, I.free, I.freeC, I.pin, I.hok, I.len⟩
theorem Inv.unheld {e : Addr} (hd : X.calm = true → X.A.handled = none) (I : Inv (X.held e) pins σ H s) : Inv X pins σ H s :=
  ⟨I.ok.cast rfl rfl rfl rfl rfl rfl rfl rfl rfl rfl hd I.ok.frames, I.os, I.bare, I.base, I.loc, I.cell, I.free, I.freeC, I.pin, I.hok, I.len⟩
/-- an exception of a callee, the names being σ -/
def PassesAt (CX : CXT) (X : Cx) (σ : St) (E : XK) : Prop := ∀ (pins : List (Addr × Obj)) (H : Hp) (s : Shared) (e : Value) (s' : Shared), Inv X pins σ H s → CX X.stack H s E e s' → X.xe e s'
theorem pass_try {P : Program} {w : World} {Th : St → Addr → Addr → Hp → Prop} {E : XK} (hP : X.prog = P) (hw : X.w = w) (hE : ∀ C e H', E (.ref C) (some e) H' → Th σ C e H') : PassesAt (CXE P w) (X.trying pins Th) σ E := by
  subst hP hw
  rintro pins1 H1 s1 ev s' I ⟨e, C, T, d, H', rfl, fl, os, bare, un, hok, he, hT, lT, le, hE'⟩
  have J := I.call' (ch := []) os un hok bare (by simp)
  refine ⟨e, C, T, d, σ, H', rfl, J.tried, fl, he, hT, Nat.le_trans I.sz lT, fun p hp z => ?_, hE _ _ _ hE'⟩
  have := (I.tried.pin p hp).1
  have := Heap.lt_size this
  rw [z] at this
  exact absurd lT (Nat.not_le.mpr this)
/-- the frame's own names changed, none that is known but the i-th -/
theorem Inv.forget {i : Nat} {n : Str} {m : Str → Option Value} {v : Option Value} {h' : Heap} {t' : Nat} (I : Inv X pins σ H s) (hN : X.N.Nodup) (hi : X.N[i]? = some n) (hn : s.heap.Ns X.env.locals m)
    (hk : ∀ (j : Nat) (x : Str) (v : V), X.N[j]? = some x → σ[j]? = some (some v) → Vis X.env.scope x → ∃ u, RelV v u ∧ Look X.env s.heap m x u) (hn' : h'.Ns X.env.locals (fun x => if x = n then v else m x)) (hs : Heap.SameBut X.env.locals s.heap h') : Inv X pins (σ.set i none) H { s with heap := h', toks := t' } := by
  have cne := I.cne
  have nl : ∀ b o, X.s₀.heap.get? b = some o → b ≠ X.env.locals := fun b o q => Nat.ne_of_lt (Nat.lt_of_lt_of_le (Heap.lt_size q) I.ok.above)
  refine ⟨I.ok, I.os, I.bare, ⟨fun b o q a1 a2 a3 => (hs.2 b (nl b o q)).trans (I.base.keep b o q a1 a2 a3), fun b o q a1 a2 a3 => ?_, I.base.free, fun b o q a1 => ?_, I.base.tups, I.base.frzs, I.base.tbls⟩, ⟨_, hn', fun j y w' q1 q2 q3 => ?_⟩, fun y c q => ?_, I.free, I.freeC, fun p hp => ?_, fun b o q => ?_, by rw [List.length_set]; exact I.len⟩
  · obtain ⟨sl, z⟩ := I.base.slot b o q a1 a2 a3
    exact ⟨sl, (hs.2 b (nl b o q)).trans z⟩
  · obtain ⟨u, z⟩ := I.base.there b o q a1
    exact ⟨u, (hs.2 b (nl b o q)).trans z⟩
  · have hj : j ≠ i := fun z => by
      rw [z] at q2
      have : i < σ.length := by rw [I.len]; exact (List.getElem?_eq_some_iff.mp hi).1
      rw [List.getElem?_set_self this] at q2
      cases q2
    rw [List.getElem?_set_ne (Ne.symm hj)] at q2
    obtain ⟨u, r, l⟩ := hk j y w' q1 q2 q3
    refine ⟨u, r, ?_⟩
    rcases l with ⟨k1, k2⟩ | ⟨k1, c, k2, k3⟩
    · have : y ≠ n := fun z => hj (nodup_ix hN q1 (z ▸ hi))
      exact .inl ⟨k1, by simp [this, k2]⟩
    · exact .inr ⟨k1, c, k2, k3.sameBut hs (cne y c k2)⟩
  · obtain ⟨w', z⟩ := I.cell y c q
    exact ⟨w', z.sameBut hs (cne y c q)⟩
  · obtain ⟨a1, a2, a3, a4, a5⟩ := I.pin p hp
    exact ⟨(hs.2 p.1 a3).trans a1, a2, a3, a4, a5⟩
  · refine (I.hok b o q).stay (fun c u hc r => (hs.2 c fun z => ?_).trans r) (fun _ r => r) fun _ _ r => r
    have fr := I.free
    rw [← z] at fr
    rcases hc with y | y
    · rw [y] at fr; rw [fr] at q; cases q
    · rw [fr] at y; cases y
end
end L2
namespace L2
open PySem PySem.Spec PyProof.Rows
section
variable {X : Cx} {pins : List (Addr × Obj)} {σ : St} {H : Hp} {s : Shared} {h2 : Heap} {e C T T2 : Addr} {d : Option Addr}
theorem Inv.noFields (I : Inv X pins σ H s) {o : Obj} {vs : Array Value} (q : s.heap.get? T = some o) (z : o.data = .fields vs) : T ≠ X.env.locals ∧ ∀ x c, X.env.cells.lookup x = some c → c ≠ T := by
  obtain ⟨m, ⟨o1, es, ep, q1, d1, _⟩, _⟩ := I.loc
  refine ⟨fun y => ?_, fun x c l y => ?_⟩
  · rw [y, q1] at q; cases q; rw [d1] at z; cases z
  · obtain ⟨v, o2, q2, d2⟩ := I.cell x c l
    rw [y, q] at q2; cases q2; rw [z] at d2; cases d2
/-- the frame has noted the exception -/
theorem Inv.noted (hst : X.stack = X.env :: X.outer) (I : Inv X pins σ H s) (fl : Flown s.heap e C d T .none) (he : H e = some (xobj e C d)) (hT : H T = none) (lT : X.s₀.heap.objs.size ≤ T) (pT : ∀ p ∈ X.pn ++ pins, p.1 ≠ T)
    (k : Kept (frs (X.env :: X.outer)) [T, e] s.heap h2) (y : ObjOk X.prog X.w H h2 e (xobj e C d)) : Inv X pins σ H { s with heap := h2 } := by
  rw [← hst] at k
  obtain ⟨oT, ts, t1, t2, _⟩ := fl.tb
  obtain ⟨n1, n2⟩ := I.noFields t1 t2
  have nin : ∀ b, H b = none → b ∉ [T] → b ∉ [T, e] := fun b hb z w => by
    simp only [List.mem_cons, List.not_mem_nil, or_false] at z w
    rcases w with w | w
    · exact z w
    · rw [w, he] at hb; cases hb
  refine I.call' (s' := { s with heap := h2 }) (ch := [T]) rfl ⟨fun b o q a1 a2 a3 => k.keep b o q a2 (nin b a1 a3), fun b o q a1 a2 a3 => k.slot b o q a2 (nin b a1 a3), fun _ _ _ n _ => n, fun b o q _ => k.there b o q, fun _ _ q => q, fun _ _ _ q => q, fun b ps q => ⟨#[], by rw [q]; simp⟩⟩ ?_ I.bare ?_
  · refine k.hokX I.hok I.stkFree (fun b hb => ?_) he y
    simp only [List.mem_cons, List.not_mem_nil, or_false] at hb
    rcases hb with z | z
    · rw [z]; exact .inr hT
    · exact .inl z
  · intro b hb
    rw [List.mem_singleton.mp hb]
    exact ⟨.inr lT, n1, n2, pT⟩
/-- a record of the flight turned -/
theorem Inv.flown {o : Obj} {vs : Array Value} (I : Inv X pins σ H s) (q : s.heap.get? T = some o) (z : o.data = .fields vs) (hT : H T = none) (lT : X.s₀.heap.objs.size ≤ T) (pT : ∀ p ∈ X.pn ++ pins, p.1 ≠ T) (k : Kept [] [T] s.heap h2) : Inv X pins σ H { s with heap := h2 } := by
  obtain ⟨n1, n2⟩ := I.noFields q z
  refine I.call' (s' := { s with heap := h2 }) (ch := [T]) rfl (k.frame _).un (k.hok I.hok (by simp) fun b hb => ?_) I.bare fun b hb => ?_
  · rw [List.mem_singleton.mp hb]; exact hT
  · rw [List.mem_singleton.mp hb]; exact ⟨.inr lT, n1, n2, pT⟩
/-- the clause takes it: the suite runs, then its name goes -/
theorem catch_as {x n : Str} {np hpos : Pos} {b0 : Stmt} {suite : List Stmt} {rest : List ExceptHandler} {i : Nat} {C2 : Addr} {D : Ends} (hst : X.stack = X.env :: X.outer) (hfr : X.env.frame = some X.env.locals) (hN : X.N.Nodup) (hi : X.N[i]? = some n) (hloc : X.env.scope.names.lookup n = some .local)
    (hg : Gl (X.held e) x) (hm : X.mg x = some (.ref C2)) (hdb : (x == ("__debug__" : Str)) = false) (hC : ∃ bm Nn mN, ExcAt X.base C bm Nn mN ∧ (Value.ref C :: bm).contains (.ref C2) = true) (hC2 : ∃ bm Nn mN, ExcAt X.base C2 bm Nn mN)
    (I : Inv X pins σ H s) (fl : Flown s.heap e C d T .none) (he : H e = some (xobj e C d)) (hT : H T = none) (lT : X.s₀.heap.objs.size ≤ T) (pT : ∀ p ∈ X.pn ++ pins, p.1 ≠ T)
    (hs : At (X.held e) { nx := fun σ2 H2 => D.nx (σ2.set i none) H2, rt := D.rt, bk := fun σ2 H2 => D.bk (σ2.set i none) H2, ct := fun σ2 H2 => D.ct (σ2.set i none) H2 } (b0 :: suite) (σ.set i (some (.ref e))) H) :
    wpAny (model X.prog X.w) X.A (noteFrame (.ref e) X.env) (fun _ s2 => wpAny (model X.prog X.w) X.A (setFlight (.ref e) none) (fun _ s3 =>
      wpAny (model X.prog X.w) X.A (handleBy (.ref e) X.env (.ExceptHandler (some (.Name x np)) (some n) (b0 :: suite) hpos :: rest)) (SP X pins D) X.xe s3) X.xe s2) X.xe s := by
  obtain ⟨bm, Nn, mN, xC, sub⟩ := hC
  obtain ⟨bm2, N2, m2, xC2⟩ := hC2
  have fs : s.heap.FunFrames X.base (X.env :: X.outer) := hst ▸ I.stack
  have ff : X.A.frames = some (X.env :: X.outer) := by rw [I.ok.frames, hst]
  refine note_on (base := X.base) ff fs hfr fl fun g2 T2 k n2 y => ?_
  have I2 := I.noted hst fl he hT lT pT k y.ok
  have l2 : X.s₀.heap.objs.size ≤ T2 := Nat.le_trans I.sz n2
  have h2T : H T2 = none := I.hok.fresh n2
  have p2 : ∀ p ∈ X.pn ++ pins, p.1 ≠ T2 := fun p hp z => by
    have := Heap.lt_size (I.pin p hp).1
    rw [z] at this
    exact absurd n2 (Nat.not_le.mpr this)
  refine flight_none (s := { s with heap := g2 }) y fun g3 k3 y3 => ?_
  obtain ⟨oT2, ts2, u1, u2, _⟩ := y.tb
  have I3 := I2.flown u1 u2 h2T l2 p2 k3
  refine wpAny_handleBy_cons (codeAny_handlers_test ?_) (by intro q; cases q)
  refine wpAny_mono (ld_glob (X := X.held e) (pos := np) (E := fun _ _ => False) (Q := fun u s4 => u = .ref C2 ∧ s4 = { s with heap := g3 }) (I3.held e) hg hm ⟨rfl, rfl⟩ hdb) (fun u s4 z => ?_) fun _ _ z => z.elim
  obtain ⟨rfl, rfl⟩ := z
  obtain ⟨oe, vs, o1, o2, _⟩ := y3.ob
  obtain ⟨hp, gg, dr, tk, os⟩ := s
  refine exc_match (xC.keeps I3.bk) (xC2.keeps I3.bk) o1 o2 sub ?_
  show codeAny _ _ _ _ _
  refine codeAny_handlers_suite_as ?_
  refine flight_none (s := ⟨g3, gg, dr, tk, os⟩) y3 fun g4 k4 y4 => ?_
  obtain ⟨oT3, ts3, w1, w2, _⟩ := y3.tb
  have I4 := I3.flown w1 w2 h2T l2 p2 k4
  refine store_ok (X := X.held e) (v := .ref e) (I4.held e) hN hi (.inl hloc) rfl (fun s5 I5 => ?_) (.inr hloc)
  refine wpAny_mono (hs pins s5 I5) (fun fw s6 sp => ?_) fun _ _ z => z.elim
  have fin : ∀ {σ6 : St} {H6 : Hp} {Q : Unit → Shared → Prop}, Inv (X.held e) pins σ6 H6 s6 → (∀ s7, Inv X pins (σ6.set i none) H6 s7 → Q () s7) → wpAny (model X.prog X.w) X.A (do bindName X.env n .none; unbindBehindTheSuite X.env n hpos) Q X.xe s6 := fun {σ6 H6 Q} I6 q => by
    obtain ⟨m, hn, hk⟩ := I6.loc
    exact wpAny_nameGoes_keeps hloc hn (by rw [I6.ok.kind]; rfl) fun h7 v hn7 hs7 => q _ ((I6.unheld I.ok.hd).forget hN hi hn hk hn7 hs7)
  cases fw with
  | next => obtain ⟨σ6, H6, I6, q⟩ := sp; exact fin I6 fun s7 I7 => ⟨_, H6, I7, q⟩
  | brk => obtain ⟨σ6, H6, I6, q⟩ := sp; exact fin I6 fun s7 I7 => ⟨_, H6, I7, q⟩
  | cont => obtain ⟨σ6, H6, I6, q⟩ := sp; exact fin I6 fun s7 I7 => ⟨_, H6, I7, q⟩
  | ret u => obtain ⟨v, σ6, H6, I6, r, q⟩ := sp; exact fin I6 fun s7 I7 => ⟨v, _, H6, I7, r, q⟩
end
end L2
namespace L2
open PySem PySem.Spec PyProof.Rows
section
variable {X : Cx}
/-- the ends of a suite behind which the i-th name goes -/
abbrev Ends.less (D : Ends) (i : Nat) : Ends := { nx := fun σ2 H2 => D.nx (σ2.set i none) H2, rt := D.rt, bk := fun σ2 H2 => D.bk (σ2.set i none) H2, ct := fun σ2 H2 => D.ct (σ2.set i none) H2 }
/-- what the clause's class takes -/
def Takes (X : Cx) (C C2 : Addr) : Prop := ∃ bm Nn mN, ExcAt X.base C bm Nn mN ∧ (Value.ref C :: bm).contains (.ref C2) = true
theorem ps_try {x n : Str} {np hpos pos : Pos} {b0 : Stmt} {body suite : List Stmt} {i : Nat} {C2 : Addr} (hst : X.stack = X.env :: X.outer) (hfr : X.env.frame = some X.env.locals) (hN : X.N.Nodup) (hi : X.N[i]? = some n) (hloc : X.env.scope.names.lookup n = some .local)
    (hg : Gl X x) (hm : X.mg x = some (.ref C2)) (hdb : (x == ("__debug__" : Str)) = false) (hC2 : ∃ bm Nn mN, ExcAt X.base C2 bm Nn mN) :
    PS X (.Try body [.ExceptHandler (some (.Name x np)) (some n) (b0 :: suite) hpos] [] [] pos) (fun D σ H => ∃ Th, (∀ pins, At (X.trying pins Th) D body σ H) ∧
      ∀ σ' C e H', Th σ' C e H' → Takes X C C2 ∧ At (X.held e) (D.less i) (b0 :: suite) (σ'.set i (some (.ref e))) H') := by
  rintro pins s σ H D I ⟨Th, hb, hh⟩
  refine wpAny_Try_except (wpAny_mono (hb pins [] s (I.trying Th)) (fun f s1 sp => ?_) fun ev s1 z => ?_)
  · cases f with
    | next => obtain ⟨σ1, H1, I1, q⟩ := sp; exact wpAny_execs_nil ⟨σ1, H1, I1.tried, q⟩
    | brk => obtain ⟨σ1, H1, I1, q⟩ := sp; exact ⟨σ1, H1, I1.tried, q⟩
    | cont => obtain ⟨σ1, H1, I1, q⟩ := sp; exact ⟨σ1, H1, I1.tried, q⟩
    | ret u => obtain ⟨v, σ1, H1, I1, r, q⟩ := sp; exact ⟨v, σ1, H1, I1.tried, r, q⟩
  · obtain ⟨e, C, T, d, σ1, H1, rfl, I1, fl, he, hT, lT, pT, th⟩ := z
    obtain ⟨tk, hs⟩ := hh σ1 C e H1 th
    exact catch_as hst hfr hN hi hloc hg hm hdb tk hC2 I1 fl he hT lT pT hs
end
section
variable {X : Cx} {CX : CXT} {k : Nat} {f C : Addr} {fd : FuncData} {ps : List Str} {sp : Sp} {dvs : List V} {ds : List Value} {x m : Str} {p pos apos : Pos} {e o : Expr} {es : List Expr} {ta : TE} {t : TA}
/-- the promise, and how its exceptions pass -/
abbrev Thru (CX : CXT) (X : Cx) (sp : Sp) (σ : St) (vs : List V) (H : Hp) (Q : VK) : Prop := ∃ E, PassesAt CX X σ E ∧ sp vs H Q E
theorem run_thru {pins : List (Addr × Obj)} {σ : St} {H : Hp} {s : Shared} {Q : VK} {us : List Value} {vs : List V} (F : FnOk X.prog X.w X.K X.mg X.base CX k f fd ps sp) (hr : Room k X.A) (hb : Binds X.K fd ps ds) (hd : Vals dvs ds)
    (I : Inv X pins σ H s) (r : Vals vs us) (h : Thru CX X sp σ (vs ++ dvs) H Q) : wpAny (model X.prog X.w) X.A (call (.ref f) us) (EP X pins σ Q) X.xe s := by
  obtain ⟨E, hx, h⟩ := h
  have r2 : Vals (vs ++ dvs) (us ++ ds) := r.append hd
  have hl : (us ++ ds).length = ps.length := (F.len _ _ _ _ h ▸ r2.length).symm
  refine wpAny_call (codeAny_mono (F.run X.A X.stack s H ⟨us, []⟩ _ _ Q E hr I.env0 (hb s us I.kIn hl) r2 h) fun y s' hq => ?_)
  match y, hq with
  | .error ev, hq => exact hx pins H s ev s' I hq
  | .ok (.ret _), hq => exact I.after hq
def tCallX (CX : CXT) (X : Cx) (sp : Sp) (dvs : List V) (t : TA) : TE := fun σ H Q => t σ H fun vs H1 => Thru CX X sp σ (vs ++ dvs) H1 Q
/-- x(e, ..) -/
theorem pe_callX (F : FnOk X.prog X.w X.K X.mg X.base CX k f fd ps sp) (hr : Room k X.A) (hg : Gl X x) (hm : X.mg x = some (.ref f)) (hk : PySem.W.keepIn X.K (.ref f) = true) (hb : Binds X.K fd ps ds) (hd : Vals dvs ds)
    (ha : PA X (e :: es) t) (hdb : (x == ("__debug__" : Str)) = false := by decide) (he : starEach (e :: es) X.env = (false, eval e X.env) :: starEach es X.env := by rfl) (hpl : (backTo pos (starEach es X.env)).any (·.1) = false := by rfl) :
    PE X (.Call (.Name x p) (e :: es) [] pos) (tCallX CX X sp dvs t) := fun pins s σ H Q I h =>
  wpAny_Call_Name_kw (ld_glob I hg hm (PySem.W.callWith_K (h₀ := X.base) I.ok.mod.kin hk (thn (ha pos pins s σ H _ I h) fun us s1 ⟨vs, H1, I1, r, q⟩ => ⟨I1.kIn, run_thru F hr hb hd I1 r q⟩) he hpl) hdb)
end
section
variable {P : Program} {w : World} {K : PySem.W.Frag} {mg : Str → Option Value} {base : Heap}
theorem Fun.okE {x qual : Str} {st : Stmt} {f : Addr} {fd : FuncData} {N ps : List Str} {k : Nat} {sp : Sp} (F : Fun K x qual st f fd) (S : FnScope N ps (defScope st)) (len : ∀ vs H Q E, sp vs H Q E → vs.length = ps.length)
    (hbody : ∀ (cdv : Value) (A : Around) (outer : List Env) (s : Shared) (H : Hp) (vs : List V) (Q : VK) (E : XK), Room k (A.deeper (envOfC qual (defScope st) s.heap.objs.size f cdv)) → sp vs H Q E →
      At (cxOf (CXE P w) P w K mg base N qual (defScope st) f cdv A outer s H E) { nx := fun _ H' => Q .non H', rt := Q } (defBody st) (start N vs) H) : FnOk P w K mg base (CXE P w) (k + 1) f fd ps sp := by
  obtain ⟨oc, od, kV, doc, pm, an, cdv, ct, osl, rfl, lk, hcd⟩ := F.ex
  exact fn_of lk hcd S len fun A outer s H vs Q E hr hsp => at_body (hbody cdv A outer s H vs Q E hr hsp)
end
end L2
namespace L2
open PySem PySem.Spec PyProof.Rows PySem.W
/-- the class's own say on attributes is none -/
structure ExcGet (K : Frag) (C : Addr) : Prop where
  ga : findIn K (.ref C) "__getattribute__" = some (some (.builtin "BaseException.__getattribute__"))
  gh : findIn K (.ref C) "__getattr__" = some none
  sub : mroIn K C (.type "BaseException") = some true
section
variable {prog : Program} {w : World} {A : Around} {E : Value → Shared → Prop} {s : Shared} {K : Frag} {x C : Addr} {ox : Obj} {od : Option Obj} {name : Str}
theorem bex_check {M : Model} {nm : Value} {Q : Unit → Shared → Prop} (G : ExcGet K C) (X : K.In s.heap) (I : InstAt s.heap x ox C od) (q : Q () s) : wpAny M A (checkBuiltinCall "BaseException.__getattribute__" ⟨[.ref x, nm], []⟩) Q E s := by
  obtain ⟨h0, g, d, tt, os⟩ := s
  have k1 : builtinKind "BaseException.__getattribute__" = some .slot := by decide +kernel
  have k2 : splitId "BaseException.__getattribute__" = some ("BaseException", "__getattribute__") := by decide +kernel
  have k3 := F.args_bexc_ga (.ref x) nm
  have LI : Looks M h0 (isInstance (.ref x) (.type "BaseException")) true := I.type.andThen (looks_mroIn X G.sub)
  simp only [checkBuiltinCall, k1, k2]
  refine wpAny_bind (LI.at ?_)
  repeat (first | assumption | wp_step)
theorem bex_by {fill ex : Bool} {tk : Tok} {Q : Value → Shared → Prop} (G : ExcGet K C) (X : K.In s.heap) (I : InstAt s.heap x ox C od)
    (h : wpAny (model prog w) A.in1 (Builtin.«object.__getattribute__» ⟨[.ref x, .str name tk], []⟩) (fun fin s' => match fin with
      | .done (.ret v) => wpAny (model prog w) A (handedOut v) Q E s'
      | _ => False) (fun _ _ => False) s) : wpAny (model prog w) A (getAttrBy (.ref x) (.str name tk) fill ex) Q E s := by
  have X0 := X
  have I0 := I
  obtain ⟨h0, g, d, tt, os⟩ := s
  have f3 := (F.excAttr_ValueError).ga.bind (.ref x)
  have e0 : (ex && onTheHeap (Value.builtin "BaseException.__getattribute__")) = false := by cases ex <;> rfl
  have e2 : (Value.builtin "BaseException.__getattribute__" == Value.builtin "object.__getattribute__") = false := by decide +kernel
  have e1 : (onTheHeap (Value.ref C) && Value.builtin "BaseException.__getattribute__" == Value.builtin "object.__getattribute__") = false := by rw [e2]; rfl
  unfold getAttrBy
  refine wpAny_holding (wpAny_bind (I.type.at (wpAny_bind ((looks_findIn X G.ga).at ?_))))
  dsimp only
  rw [e1]
  unfold getAttrByItsOwn hookBefore callGetattribute boundAndCalled
  rw [e0]
  refine wpAny_bind (show wpAny _ _ (if onTheHeap (Value.ref C) = true then typeLookup (.ref C) "__getattr__" else pure none) _ _ _ from ?_)
  refine ((looks_findIn X G.gh).at ?_)
  simp only [Bool.false_eq_true, if_false]
  refine wpAny_bind (wpAny_attempt (wpAny_holding ?_))
  refine wpAny_bind ?_
  rw [f3]
  refine wpAny_pure ?_
  refine wpAny_call (codeAny_call_builtin (F.excAttr_ValueError).ga.plain F.entry_bexc_ga (bex_check (s := ⟨h0, g, d, tt, os⟩) G X0 I0 (wpAny_mono h (fun fin s' z => ?_) fun _ _ z => z.elim)))
  rcases fin with (_ | _ | _ | _) | _ <;> first | exact z.elim | exact z
/-- what stands in its own dict -/
theorem bex_value {ex : Bool} {v : Value} {Q : Value → Shared → Prop} (G : ExcGet K C) (X : K.In s.heap) (I : InstAt s.heap x ox C od) (hf : findObj K C od name = some (.value v)) (hh : handedIn v = true) (h : Q v { s with toks := s.toks + 1 }) :
    wpAny (model prog w) A (getAttr (.ref x) name ex) Q E s := by
  have L1 : ∀ M, Looks M s.heap _ _ := fun M => looks_find (M := M) X I hf
  have L0 : ∀ M, Looks M s.heap _ _ := fun M => I.type (M := M)
  obtain ⟨h0, g, d, tt, os⟩ := s
  refine wpAny_bind (wpAny_mkText (bex_by (s := ⟨h0, g, d, tt + 1, os⟩) G X I ?_))
  unfold Builtin.«object.__getattribute__»
  refine wpAny_bind (wpAny_pure (wpAny_bind (wpAny_pure (wpAny_bind ((L0 _).at (wpAny_bind ((L1 _).at ?_)))))))
  refine wpAny_pure ?_
  show wpAny _ _ (handedOut v) _ _ _
  rw [handedOut_of hh]
  exact wpAny_pure h
/-- its class -/
theorem bex_class {Q : Option Value → Shared → Prop} (G : ExcGet K C) (X : K.In s.heap) (I : InstAt s.heap x ox C od) (hm : mroIn K C (.type "object") = some true) (hf : findObj K C od "__class__" = some (.bind (.builtin "getset_descriptor.__get__") (.builtin "object.__class__")))
    (h : Q (some (.ref C)) { s with toks := s.toks + 1 }) : wpAny (model prog w) A (getAttr? (.ref x) "__class__") Q E s := by
  have L1 : ∀ M, Looks M s.heap _ _ := fun M => looks_find (M := M) X I hf
  have L0 : ∀ M, Looks M s.heap _ _ := fun M => I.type (M := M)
  obtain ⟨h0, g, d, tt, os⟩ := s
  unfold getAttr? getAttrBy?
  refine wpAny_bind (wpAny_mkText (wpAny_bind (wpAny_attempt (bex_by (s := ⟨h0, g, d, tt + 1, os⟩) G X I ?_))))
  unfold Builtin.«object.__getattribute__»
  refine wpAny_bind (wpAny_pure (wpAny_bind (wpAny_pure (wpAny_bind ((L0 _).at (wpAny_bind ((L1 _).at ?_)))))))
  refine wpAny_bind (wpAny_holding (wpAny_call (class_get (s := ⟨h0, g, d, tt + 1, os⟩) X I hm ?_)))
  refine wpAny_pure ?_
  show wpAny _ _ (handedOut (.ref C)) _ _ _
  exact wpAny_pure (wpAny_pure h)
/-- isinstance takes it -/
theorem kitx_exc {cd : ClassData} (G : ExcGet K C) (hc : clsIn K C = some cd) (hm : mroIn K C (.type "object") = some true) (ha : findIn K (.ref C) "__class__" = some (some (.builtin "object.__class__")))
    (hn : specialIn K (.builtin "object.__class__") "__get__" = some (some (.builtin "getset_descriptor.__get__"))) (htk : takesIn K (.builtin "object.__class__") = some true) : KitX K (.ref x) (.ref C) (fun h => ∃ ox od, InstAt h x ox C od) where
  ty := fun _ _ _ ⟨_, _, I⟩ => I.type
  it := fun _ _ X _ => by
    unfold clsIn at hc
    split at hc
    next ho => exact fun A' Q' E' s' k q => wpAny_bind (wpAny_loadPart (k _ _ (X _ _ ho)) (wpAny_pure q))
    next => cases hc
  ne := fun h tp dd its n sl X htp => by
    refine Bool.eq_false_iff.mpr fun q => ?_
    have e : C = tp := Value.ref.inj (beq_iff_eq.mp q)
    unfold clsIn at hc
    split at hc
    next ho => rw [e] at ho; have z := (X _ _ ho).symm.trans htp; cases z
    next => cases hc
  ca := fun X ⟨_, _, I⟩ k => bex_class G X I hm (by unfold findObj; rw [hc]; simp only [Option.bind_some, ha, hn, htk]) k
end
end L2
namespace L2
open PySem PySem.Spec PyProof.Rows PySem.W
def excC (K : Frag) (C : Addr) : Bool :=
  match K.lookup C with
  | some ⟨.type "type", _, .cls cd, sl⟩ =>
    match cd.mro, sl.toList with
    | .ref D :: r, [_, _, _, _, some (.builtin m), _] => (D == C && m == "ValueError.__new__") && (!cd.hasDel && (tailIn K VE r && nsOkIn K cd.ns))
    | _, _ => false
  | _ => false
theorem exc_atC {K : Frag} {h : Heap} {C : Addr} (kin : K.In h) (q : excC K C = true) : ∃ bm Nn mN, ExcAt h C bm Nn mN := by
  unfold excC at q
  split at q
  next dd cd sl look =>
    split at q
    next D r c0 c1 c2 c3 m c5 em es =>
      simp only [Bool.and_eq_true, beq_iff_eq, Bool.not_eq_true'] at q
      obtain ⟨⟨e1, e2⟩, del, tl, nsok⟩ := q
      subst e1 e2
      have esl : sl = #[c0, c1, c2, c3, some (.builtin "ValueError.__new__"), c5] := Array.toList_inj.mp es
      obtain ⟨f1, f2, f3, f4, f5, f6, f7, f8, f9, f10, f11⟩ := cd
      have em : f3 = .ref D :: r := em
      have del : f11 = false := del
      subst em del esl
      exact ⟨r, f4, _, ⟨_, _, _, _, _, _, _, _, _, _, _, _, _, _, kin _ _ look⟩, .of_isNs (isNs_of_in kin nsok), tail_of_in kin tl⟩
    next => cases q
  next => cases q
section
variable {prog : Program} {w : World} {A : Around} {E : Value → Shared → Prop} {h : Heap} {g : Array GenState} {d : Drawn} {t : Nat} {os : OsState} {K : Frag} {C fI : Addr} {oI : Obj} {bm : List Value} {Nn : Addr} {mN : Str → Option Value} {rest : List Value}
theorem exc_typecall {Q : Fin → Shared → Prop} (X : K.In h) (x : ExcAt h C bm Nn mN) (hi : findIn K (.ref C) "__init__" = some (some (.ref fI))) (hf : h.get? fI = some oI) (hfc : oI.cls = .type "function") (sz : rest.length ≤ sizeLine)
    (hq : ∀ h2 e, Heap.MadeExcOf h h2 e (.ref C) rest → wpAny (model prog w) A (call (.ref fI) (.ref e :: rest)) (fun r s2 => r = .none ∧ Q (.done (.ret (.ref e))) s2) E ⟨h2, g, d, t, os⟩) :
    wpAny (model prog w) A (Builtin.«type.__call__» ⟨.ref C :: rest, []⟩) Q E ⟨h, g, d, t, os⟩ := by
  obtain ⟨a1, a2, a3, a4, a5, a6, a7, a8, a9, b0, b1, b2, b3, b4, eC⟩ := x.ob
  have B := PySem.F.excBase_ValueError
  repeat (first | with_reducible refine wpAny_loadPart_at eC ?_ | with_reducible refine wpAny_madeBy_exc eC ?_ | wp_step)
  refine codeAny_call_builtin_code (Code.quiet_builtin _ B.quiet) (wpAny_check_new_subU B (by decide) x.tail eC (codeAny_exc_new_subU B (by decide) B x.tail eC ?_ sz))
  show wpAny _ _ _ _ _ _
  generalize e2 : (h.push { cls := .type "tuple", data := .seq rest.toArray }).push { cls := .ref C, data := .fields #[.ref h.objs.size, .none, .none, .none, .bool false, .none] } = h2
  have k : ∀ b o, h.get? b = some o → h2.get? b = some o := fun b o q => by rw [← e2]; exact Heap.get?_push_of_some _ (Heap.get?_push_of_some _ q)
  have ge : h2.get? (h.objs.size + 1) = some { cls := .ref C, data := .fields #[.ref h.objs.size, .none, .none, .none, .bool false, .none] } := by rw [← e2]; heap_get
  have eC2 := k _ _ eC
  have L : Looks (model prog w) h2 (typeLookup (.ref C) "__init__") (some (.ref fI)) := looks_findIn (fun a o q => k _ _ (X a o q)) hi
  have self : (Value.ref C :: bm).contains (.ref C) = true := by simp
  unfold isInstance
  repeat (first | with_reducible refine wpAny_loadPart_at ge ?_ | (with_reducible refine wpAny_isSubtype_exc eC2 ?_; rw [self]) | wp_step)
  refine L.at ?_
  refine wpAny_holding (wpAny_bind ?_)
  unfold bindSpecial
  refine wpAny_bind (wpAny_typeOf (T := "function") ⟨_, k _ _ hf, hfc⟩ ?_)
  rw [if_pos (by decide)]
  refine wpAny_pure (wpAny_bind (thn (hq h2 (h.objs.size + 1) ⟨k, Heap.get?_none_of_le (Nat.le_succ _), h.objs.size, ge, Heap.get?_none_of_le (Nat.le_refl _), ?_⟩) fun r s2 z => ?_))
  · rw [← e2]; exact Heap.get?_push_of_some _ (Heap.get?_push_at rfl rfl)
  · obtain ⟨z1, z2⟩ := z
    subst z1
    wp_walk
    exact z2
theorem exc_call {Q : Value → Shared → Prop} (X : K.In h) (x : ExcAt h C bm Nn mN) (hi : findIn K (.ref C) "__init__" = some (some (.ref fI))) (hf : h.get? fI = some oI) (hfc : oI.cls = .type "function") (sz : rest.length ≤ sizeLine)
    (hq : ∀ h2 e, Heap.MadeExcOf h h2 e (.ref C) rest → wpAny (model prog w) (A.under (.builtin "type.__call__" ⟨.ref C :: rest, []⟩)) (call (.ref fI) (.ref e :: rest)) (fun r s2 => r = .none ∧ Q (.ref e) s2) E ⟨h2, g, d, t, os⟩) :
    wpAny (model prog w) A (call (.ref C) rest) Q E ⟨h, g, d, t, os⟩ := by
  obtain ⟨a1, a2, a3, a4, a5, a6, a7, a8, a9, b0, b1, b2, b3, b4, eC⟩ := id x.ob
  have f1 := tc_lookup
  have f2 := tc_bind (.ref C)
  have hT : (⟨h, g, d, t, os⟩ : Shared).TypeIs (.ref C) "type" := ⟨_, eC, rfl⟩
  refine wpAny_call (codeAny_of_tree (show wpAny _ _ (callAny (.ref C) _) _ _ _ from ?_))
  repeat (any_goals (first | assumption | with_reducible refine wpAny_loadPart_at eC ?_ | wp_step))
  exact ⟨rfl, codeAny_call_builtin_at (Code.quiet_builtin _ (by decide +kernel)) entry_typeCall (wpAny_check_type_call_sub eC (exc_typecall X x hi hf hfc sz hq))⟩
/-- raise of an exception that is at hand -/
theorem raise_obj {s : Shared} {env : Env} {M : Model} {x : Sem Value} {Q : Flow → Shared → Prop} (hh : A.handled = none)
    (h : wpAny M A x (fun v s1 => ∃ e C bm Nn mN oe vs, v = .ref e ∧ ExcAt s1.heap C bm Nn mN ∧ s1.heap.get? e = some oe ∧ oe.cls = .ref C ∧ oe.data = .fields vs ∧ vs[1]? = some .none ∧ E (.ref e) s1) E s) : wpAny M A (raiseStmt env (some x) none) Q E s := by
  unfold raiseStmt
  refine wpAny_bind (thn h fun v s1 ⟨e, C, bm, Nn, mN, oe, vs, ev, xx, ge, gc, gd, g1, hE⟩ => ?_)
  subst ev
  obtain ⟨a1, a2, a3, a4, a5, a6, a7, a8, a9, b0, b1, b2, b3, b4, eC⟩ := xx.ob
  have hb : (Value.ref C :: bm).contains (.type "BaseException") = true := by rw [List.contains_cons, xx.tail.hasType (b := true) (by decide), Bool.or_true]
  obtain ⟨oc, od, odt, osl⟩ := oe
  dsimp only at gc gd
  subst gc gd
  obtain ⟨hp, gg, dr, tk, os1⟩ := s1
  have fl : ∀ {R : Value → Shared → Prop}, R .none ⟨hp, gg, dr, tk, os1⟩ → wpAny M A (field (.ref e) 1) R E ⟨hp, gg, dr, tk, os1⟩ := fun r => wpAny_field ge rfl g1 r
  repeat (first | with_reducible refine wpAny_loadPart_at ge ?_ | with_reducible refine wpAny_loadPart_at eC ?_ | (with_reducible refine wpAny_isSubtype_exc eC ?_; rw [hb]) | with_reducible refine fl ?_ | wp_step)
  exact wpAny_raiseNew_none hh hE
end
end L2
namespace L2
open PySem PySem.Spec PyProof.Rows PySem.W
theorem tail_passes {h : Heap} {bm : List Value} (self : Value) (t : OwnTail h VE bm) : refuseLoop self "__setattr__" bm = pure () := by
  induction t with
  | base => exact PySem.F.store_ValueError.passes self
  | own _ _ _ _ ih => rw [refuseLoop_ref]; exact ih
section
variable {prog : Program} {w : World} {A : Around} {E : Value → Shared → Prop} {s : Shared} {K : Frag} {e C : Addr} {oe : Obj} {od : Option Obj} {bm : List Value} {Nn : Addr} {mN : Str → Option Value} {name : Str} {v : Value} {vs : Array Value}
theorem exc_osa {tk : Tok} {R : Result → Shared → Prop} (X : K.In s.heap) (I : InstAt s.heap e oe C od) (x : ExcAt s.heap C bm Nn mN) (hn : findIn K (.ref C) name = some none) (hm : mroIn K C (.type "object") = some true)
    (h : wpAny (model prog w) A.in1 (Builtin.ObjectAttr.storeInOwnDict (.ref e) (.ref C) (.str name tk) name v false) (fun fin s2 => match fin with | .done f => R (.ok f) s2 | .again c => c.quiet = true ∧ codeAny (model prog w) A c R s2) (fun ev s2 => R (.error ev) s2) s) :
    codeAny (model prog w) A (.call (.builtin "object.__setattr__") ⟨[.ref e, .str name tk, v], []⟩) R s := by
  have SF := PySem.F.store_object
  obtain ⟨a1, a2, a3, a4, a5, a6, a7, a8, a9, b0, b1, b2, b3, b4, eC⟩ := x.ob
  have sub : Looks (model prog w) s.heap (isInstance (.ref e) (.type "object")) true := I.type.andThen (looks_mroIn X hm)
  refine codeAny_call_builtin SF.slot.plain SF.entry (@check_slot (model prog w) _ _ s "object.__setattr__" "object" "__setattr__" (.ref e) [.str name tk, v] [] _ SF.kind SF.split sub (SF.args (.ref e) (.str name tk) v) ?_)
  have pass : refuseLoop (.ref e) "__setattr__" (.ref C :: bm) = pure () := by rw [refuseLoop_ref]; exact tail_passes _ x.tail
  rw [osa_eq, refuse_eq]
  refine wpAny_bind (wpAny_bind (I.type.here (wpAny_bind ?_)))
  obtain ⟨hp, g, dr, t, os⟩ := s
  refine wpAny_mroOf_exc eC ?_
  rw [pass]
  exact wpAny_pure (wpAny_bind (I.type.here (wpAny_bind ((looks_findIn X hn).here (wpAny_bind (wpAny_pure h))))))
/-- the dict is there -/
theorem exc_store {dx : Addr} {mA : Str → Option Value} {ns : List Str} {Q : Unit → Shared → Prop} {cd : ClassData} (X : K.In s.heap) (I : InstAt s.heap e oe C od) (x : ExcAt s.heap C bm Nn mN) (hs : findIn K (.ref C) "__setattr__" = some (some (.builtin "object.__setattr__")))
    (hn : findIn K (.ref C) name = some none) (hm : mroIn K C (.type "object") = some true) (hc : clsIn K C = some cd) (hh : cd.hasDict = true) (hd : oe.dict = some dx) (hda : oe.data = .fields vs) (hns : s.heap.Ns1 dx mA) (hw : Within mA ns) (sz : ns.length ≤ sizeLine)
    (h : ∀ h2 tk, h2.Ns1 dx (fun y => if y = name then some v else mA y) → Heap.SameBut dx s.heap h2 → Q () { s with heap := h2, toks := tk }) : wpAny (model prog w) A (setAttr (.ref e) name v) Q E s := by
  obtain ⟨oc, odt, oda, osl⟩ := oe
  have cl : oc = .ref C := I.cls
  dsimp only at hd hda
  subst cl hd hda
  refine set_plain X I hs (exc_osa (s := { s with toks := s.toks + 1 }) X I x hn hm ?_)
  refine wpAny_bind (wpAny_pure (wpAny_bind (wpAny_bind (wpAny_loadPart I.at_ (wpAny_bind (Looks.here (s := { s with toks := s.toks + 1 }) (looks_clsIn X hc) ?_))))))
  rw [hh]
  refine wpAny_pure (a := some dx) (wpAny_bind (wpAny_pure (wpAny_bind ?_)))
  refine wpAny_nsSet1 (s := { s with toks := s.toks + 1 }) hns fun h2 n2 s2 => ?_
  obtain ⟨oD, esD, epD, hoD, hdD, hcD⟩ := n2.count (Within.cons name v hw)
  exact wpAny_bind (wpAny_lookBehind hoD (by rw [hdD]; exact pastItsLine_dict (Nat.le_trans hcD (by rw [List.length_cons]; omega))) (wpAny_pure (h _ _ n2 s2)))
/-- the dict is made -/
theorem exc_store0 {Q : Unit → Shared → Prop} {cd : ClassData} (X : K.In s.heap) (I : InstAt s.heap e oe C od) (x : ExcAt s.heap C bm Nn mN) (hs : findIn K (.ref C) "__setattr__" = some (some (.builtin "object.__setattr__")))
    (hn : findIn K (.ref C) name = some none) (hm : mroIn K C (.type "object") = some true) (hc : clsIn K C = some cd) (hh : cd.hasDict = true) (hd : oe.dict = none) (hda : oe.data = .fields vs)
    (h : ∀ h2 tk, h2.get? e = some { oe with dict := some s.heap.objs.size } → h2.Ns1 s.heap.objs.size (fun y => if y = name then some v else none) → (∀ b o, b ≠ e → s.heap.get? b = some o → h2.get? b = some o) → Q () { s with heap := h2, toks := tk }) : wpAny (model prog w) A (setAttr (.ref e) name v) Q E s := by
  obtain ⟨oc, odt, oda, osl⟩ := oe
  have cl : oc = .ref C := I.cls
  dsimp only at hd hda
  subst cl hd hda
  refine set_plain X I hs (exc_osa (s := { s with toks := s.toks + 1 }) X I x hn hm ?_)
  refine wpAny_bind (wpAny_pure (wpAny_bind (wpAny_bind (wpAny_loadPart I.at_ (wpAny_bind (Looks.here (s := { s with toks := s.toks + 1 }) (looks_clsIn X hc) ?_))))))
  rw [hh]
  have he1 := Heap.get?_push_of_some { cls := .type "dict", data := .dict #[] } I.at_
  have nes : e ≠ s.heap.objs.size := Nat.ne_of_lt (Heap.lt_size I.at_)
  refine wpAny_bind (wpAny_alloc' (wpAny_bind (wpAny_update' he1 (wpAny_pure ?_))))
  generalize e2 : (Heap.update (Heap.push s.heap { cls := .type "dict", data := .dict #[] }) e fun o => { cls := o.cls, dict := some s.heap.objs.size, data := o.data, slots := o.slots }) = h1
  have g1 : h1.get? s.heap.objs.size = some { cls := .type "dict", data := .dict #[] } := by rw [← e2]; exact (Heap.get?_update_ne _ _ _ _ nes.symm).trans (Heap.get?_push_at rfl rfl)
  have n1 : h1.Ns s.heap.objs.size (fun _ => none) := ⟨_, #[], _, g1, rfl, fun z hz => absurd hz (by simp), fun _ => rfl⟩
  have ge : h1.get? e = some ⟨.ref C, some s.heap.objs.size, .fields vs, osl⟩ := by rw [← e2]; exact Heap.get?_update_self _ he1 rfl
  refine wpAny_bind (wpAny_pure (wpAny_bind (wpAny_nsSet1 (Heap.Ns1.of_empty n1) fun h2 n2 s2 => ?_)))
  obtain ⟨oD, esD, epD, hoD, hdD, hcD⟩ := n2.count (Within.cons name v Within.nil)
  refine wpAny_bind (wpAny_lookBehind hoD (by rw [hdD]; exact pastItsLine_dict (Nat.le_trans hcD (by rw [List.length_cons, List.length_nil, sizeLine_eq]; omega))) (wpAny_pure ?_))
  exact h h2 _ ((s2.2 e nes).trans ge) n2 fun b o nb q => (s2.2 b (Nat.ne_of_lt (Heap.lt_size q))).trans (by rw [← e2]; exact (Heap.get?_update_ne _ _ _ _ nb).trans (Heap.get?_push_of_some _ q))
end
end L2
namespace L2
open PySem PySem.Spec PyProof.Rows PySem.W
def xnew (e C : Addr) (d : Option Addr) : HO := .ext fun h => Unflown h e C d
theorem xnew_ok {P : Program} {w : World} {H : Hp} {h : Heap} {e C : Addr} {d : Option Addr} (u : Unflown h e C d) : ObjOk P w H h e (xnew e C d) := by
  obtain ⟨oe, vs, g1, g2⟩ := id u
  exact ⟨u, ⟨oe, g1⟩, fun a b ⟨o, v, q1, q2⟩ k => ⟨o, v, k o q1, q2⟩⟩
/-- what of the text an exception's class must have -/
structure ExcC (K : Frag) (C : Addr) : Prop where
  at_ : excC K C = true
  ge : ExcGet K C
  sa : findIn K (.ref C) "__setattr__" = some (some (.builtin "object.__setattr__"))
  ob : mroIn K C (.type "object") = some true
  hd : hasDictIn K C = true
section
variable {X : Cx} {pins : List (Addr × Obj)} {σ : St} {H : Hp} {s : Shared} {e C dx : Addr} {d : Option Addr} {fs : List (Str × V)} {f : Str} {A : Around} {E : Value → Shared → Prop}
theorem xd_get {P : Program} {w : World} {h : Heap} (k : HOk P w H h) (q : H dx = some (.xd fs)) : ∃ mA, h.Ns1 dx mA ∧ ∀ g, RelO (fs.lookup g) (mA g) := k dx _ q
theorem xd_within {mA : Str → Option Value} (r : ∀ g, RelO (fs.lookup g) (mA g)) : Within mA (fs.map (·.1)) := by
  intro g hg
  cases q : fs.lookup g with
  | none =>
    have := RelO.none_of (o := mA g) (by rw [← q]; exact r g)
    exact absurd this hg
  | some y => exact List.mem_map_of_mem (PySem.mem_of_lookup q)
/-- e.f, read -/
theorem xget_ok {o : HO} {b : Bool} {y : V} {Q : Value → Shared → Prop} (I : Inv X pins σ H s) (he : H e = some o) (ho : o = xobj e C (some dx) ∨ o = xnew e C (some dx)) (hx : H dx = some (.xd fs)) (c : ExcC X.K C) (n : NoAttr X.K C f) (l : fs.lookup f = some y)
    (h : ∀ u s', Inv X pins σ H s' → RelV y u → Q u s') : wpAny (model X.prog X.w) A (getAttr (.ref e) f b) Q E s := by
  obtain ⟨mA, n1, r⟩ := xd_get I.hok hx
  obtain ⟨u, hu, ru⟩ := RelO.some_of (v := y) (o := mA f) (by rw [← l]; exact r f)
  obtain ⟨od, god, look⟩ := lookIn_ns n1
  have ob : ∃ oe vs, s.heap.get? e = some oe ∧ oe.cls = .ref C ∧ oe.dict = some dx ∧ oe.data = .fields vs := by
    rcases ho with z | z <;> subst z
    · obtain ⟨oe, vs, a1, a2, a3, a4, _⟩ := (I.hok e _ he).1; exact ⟨oe, vs, a1, a2, a3, a4⟩
    · obtain ⟨oe, vs, a1, a2, a3, a4, _⟩ := (I.hok e _ he).1; exact ⟨oe, vs, a1, a2, a3, a4⟩
  obtain ⟨oe, vs, a1, a2, a3, a4⟩ := ob
  have J : InstAt s.heap e oe C (some od) := ⟨a1, a2, by unfold notCls; rw [a4], by rw [a3]; exact god⟩
  exact bex_value c.ge I.kIn J (findObj_own c.hd n rfl (by rw [look, hu])) (handed_of ru) (h u _ (I.tok _) ru)
/-- self.f = v, the dict being there -/
theorem xset_ok {y : V} {u : Value} {Q : Unit → Shared → Prop} (I : Inv X pins σ H s) (he : H e = some (xnew e C (some dx))) (hx : H dx = some (.xd fs)) (c : ExcC X.K C) (n : NoAttr X.K C f) (hl : fs.length < 1000) (ry : RelV y u)
    (h : ∀ s', Inv X pins σ (upd H dx (.xd ((f, y) :: fs))) s' → Q () s') : wpAny (model X.prog X.w) A (setAttr (.ref e) f u) Q E s := by
  obtain ⟨mA, n1, r⟩ := xd_get I.hok hx
  obtain ⟨od, god, look⟩ := lookIn_ns n1
  obtain ⟨oe, vs, a1, a2, a3, a4, a5⟩ := (I.hok e _ he).1
  have J : InstAt s.heap e oe C (some od) := ⟨a1, a2, by unfold notCls; rw [a4], by rw [a3]; exact god⟩
  obtain ⟨bm, Nn, mN, xx⟩ := exc_atC I.kIn c.at_
  obtain ⟨cd, hc, hh⟩ := any_some c.hd
  refine exc_store I.kIn J xx c.sa n c.ob hc hh a3 a4 n1 (xd_within r) (by rw [List.length_map, sizeLine_eq]; omega) fun h2 tk m2 sb => h _ ?_
  have ned : e ≠ dx := fun z => by rw [z, hx] at he; cases he
  refine I.un ⟨fun b o q a _ _ => (sb.2 b fun z => ?_).trans q, fun b o q a _ _ => ⟨o.slots, (sb.2 b fun z => ?_).trans q⟩, fun b o q a _ => ?_, fun b o q _ => ?_, fun b xs q => ?_, fun b o v q => ?_, fun b ps q => ?_⟩ fun b o q => ?_
  · rw [z, hx] at a; cases a
  · rw [z, hx] at a; cases a
  · rw [upd_ne (fun z => by rw [z, hx] at a; cases a)]; exact a
  · by_cases z : b = dx
    · obtain ⟨o2, _, _, g2, _⟩ := m2; exact ⟨o2, z ▸ g2⟩
    · exact ⟨o, (sb.2 b z).trans q⟩
  · rw [upd_ne (fun z => by rw [z, hx] at q; cases q)]; exact q
  · rw [upd_ne (fun z => by rw [z, hx] at q; cases q)]; exact q
  · exact ⟨#[], by rw [upd_ne (fun z => by rw [z, hx] at q; cases q), q]; simp⟩
  · by_cases z : b = dx
    · subst z
      rw [upd_same] at q
      cases q
      refine ⟨_, m2, fun g => ?_⟩
      rw [List.lookup_cons]
      by_cases w : g = f
      · subst w; simp only [beq_self_eq_true, if_true]; exact ry
      · rw [if_neg w, show (g == f) = false from beq_eq_false_iff_ne.mpr w]; exact r g
    · rw [upd_ne z] at q
      refine (I.hok b o q).stay (fun cc v hcc rr => (sb.2 cc fun y => ?_).trans rr) (fun cc rr => ?_) fun cc xs rr => ?_
      · rcases hcc with p | p
        · exact z (p.symm.trans y)
        · rw [y, hx] at p; cases p
      · rw [upd_ne (fun y => by rw [y, hx] at rr; cases rr)]; exact rr
      · rw [upd_ne (fun y => by rw [y, hx] at rr; cases rr)]; exact rr
/-- self.f = v, the dict being made -/
theorem xset0_ok {y : V} {u : Value} {Q : Unit → Shared → Prop} (I : Inv X pins σ H s) (he : H e = some (xnew e C none)) (c : ExcC X.K C) (n : NoAttr X.K C f) (ry : RelV y u)
    (h : ∀ dx s', H dx = none → Inv X pins σ (upd (upd H dx (.xd [(f, y)])) e (xnew e C (some dx))) s' → Q () s') : wpAny (model X.prog X.w) A (setAttr (.ref e) f u) Q E s := by
  obtain ⟨oe, vs, a1, a2, a3, a4, a5⟩ := (I.hok e _ he).1
  have J : InstAt s.heap e oe C none := ⟨a1, a2, by unfold notCls; rw [a4], by rw [a3]; trivial⟩
  obtain ⟨bm, Nn, mN, xx⟩ := exc_atC I.kIn c.at_
  obtain ⟨cd, hc, hh⟩ := any_some c.hd
  have fr : H s.heap.objs.size = none := I.hok.fresh (Nat.le_refl _)
  refine exc_store0 I.kIn J xx c.sa n c.ob hc hh a3 a4 fun h2 tk ge m2 k => h s.heap.objs.size _ fr ?_
  have ned : s.heap.objs.size ≠ e := fun z => by rw [z, he] at fr; cases fr
  have old : ∀ {b o}, s.heap.get? b = some o → b ≠ s.heap.objs.size := fun q => Nat.ne_of_lt (Heap.lt_size q)
  have ne2 : ∀ {b o}, H b = some o → b ≠ s.heap.objs.size := fun q z => by rw [z, fr] at q; cases q
  have nee : ∀ {b}, H b = none → b ≠ e := fun q z => by rw [z, he] at q; cases q
  refine I.un ⟨fun b o q a _ _ => k b o (nee a) q, fun b o q a _ _ => ⟨o.slots, k b o (nee a) q⟩, fun b o q a _ => ?_, fun b o q _ => ?_, fun b xs q => ?_, fun b o v q => ?_, fun b ps q => ?_⟩ fun b o q => ?_
  · rw [upd_ne (nee a), upd_ne (old q)]; exact a
  · by_cases z : b = e
    · exact ⟨_, z ▸ ge⟩
    · exact ⟨o, k b o z q⟩
  · rw [upd_ne (fun z => by rw [z, he] at q; cases q), upd_ne (ne2 q)]; exact q
  · rw [upd_ne (fun z => by rw [z, he] at q; cases q), upd_ne (ne2 q)]; exact q
  · exact ⟨#[], by rw [upd_ne (fun z => by rw [z, he] at q; cases q), upd_ne (ne2 q), q]; simp⟩
  · by_cases z : b = e
    · subst z
      rw [upd_same] at q
      cases q
      exact xnew_ok ⟨_, vs, ge, a2, rfl, a4, a5⟩
    · rw [upd_ne z] at q
      by_cases z2 : b = s.heap.objs.size
      · rw [z2, upd_same] at q
        cases q
        rw [z2]
        refine ⟨_, m2, fun g => ?_⟩
        rw [List.lookup_cons]
        by_cases w : g = f
        · subst w; simp only [beq_self_eq_true, if_true]; exact ry
        · rw [if_neg w, show (g == f) = false from beq_eq_false_iff_ne.mpr w]; trivial
      · rw [upd_ne z2] at q
        refine (I.hok b o q).stay (fun cc v hcc rr => k cc v (fun y => ?_) rr) (fun cc rr => ?_) fun cc xs rr => ?_
        · rcases hcc with p | p
          · exact z (p.symm.trans y)
          · rw [y, he] at p; cases p
        · rw [upd_ne (fun y => by rw [y, he] at rr; cases rr), upd_ne (ne2 rr)]; exact rr
        · rw [upd_ne (fun y => by rw [y, he] at rr; cases rr), upd_ne (ne2 rr)]; exact rr
end
end L2
namespace L2
open PySem PySem.Spec PyProof.Rows PySem.W
section
variable {X : Cx} {o value ex : Expr} {f : Str} {pos pos' : Pos} {ta tv : TE}
/-- e.f, read -/
def tFldX (K : Frag) (ta : TE) (f : Str) : TE := fun σ H Q => ta σ H fun x H1 => ∃ e C dx fs y ho, x = .ref e ∧ H1 e = some ho ∧ (ho = xobj e C (some dx) ∨ ho = xnew e C (some dx)) ∧ H1 dx = some (.xd fs) ∧ ExcC K C ∧ NoAttr K C f ∧ fs.lookup f = some y ∧ Q y H1
theorem pe_fldX (he : PE X ex ta) (hb : attributeBase ex f X.env (eval ex X.env) = eval ex X.env) : PE X (.Attribute ex f pos) (tFldX X.K ta f) := by
  intro pins s σ H Q I h
  refine attr_of hb (thn (he pins s σ H _ I h) fun u s1 ⟨x, H1, I1, rx, e, C, dx, fs, y, ho, z1, z2, z3, z4, c, n, l, q⟩ => ?_)
  subst z1
  obtain rfl : u = Value.ref e := rx
  exact xget_ok I1 z2 z3 z4 c n l fun u2 s2 I2 ru => ⟨y, H1, I2, ru, q⟩
/-- self.f = v -/
def sFldX (K : Frag) (ta tv : TE) (f : Str) : TS := fun D σ H => tv σ H fun y H1 => ta σ H1 fun x H2 => ∃ e C, x = .ref e ∧ ExcC K C ∧ NoAttr K C f ∧
  ((H2 e = some (xnew e C none) ∧ ∀ dx, H2 dx = none → D.nx σ (upd (upd H2 dx (.xd [(f, y)])) e (xnew e C (some dx)))) ∨
    ∃ dx fs, H2 e = some (xnew e C (some dx)) ∧ H2 dx = some (.xd fs) ∧ fs.length < 1000 ∧ D.nx σ (upd H2 dx (.xd ((f, y) :: fs))))
theorem ps_fldX (ha : PE X o ta) (hv : PE X value tv) (hs : swapsWith value (some (.Attribute o f pos')) pos.line X.env = pure false) : PS X (.Assign [.Attribute o f pos'] value pos) (sFldX X.K ta tv f) := by
  intro pins s σ H D I h
  refine plainObj_wpAny_Assign_Attribute (thn (hv pins s σ H _ I h) fun u s1 ⟨y, H1, I1, ry, q⟩ => thn (ha pins s1 σ H1 _ I1 q) fun ov s2 ⟨x, H2, I2, rx, e, C, z1, c, n, q2⟩ => ?_) hs
  subst z1
  obtain rfl : ov = Value.ref e := rx
  rcases q2 with ⟨he, q3⟩ | ⟨dx, fs, he, hd, l, q3⟩
  · exact xset0_ok I2 he c n ry fun dx s3 fr I3 => ⟨σ, _, I3, q3 dx fr⟩
  · exact xset_ok I2 he hd c n l ry fun s3 I3 => ⟨σ, _, I3, q3⟩
/-- isinstance of an exception -/
structure ExcI (K : Frag) (C : Addr) : Prop extends ExcC K C where
  ca : findIn K (.ref C) "__class__" = some (some (.builtin "object.__class__"))
  cg : specialIn K (.builtin "object.__class__") "__get__" = some (some (.builtin "getset_descriptor.__get__"))
  ct : takesIn K (.builtin "object.__class__") = some true
theorem xisinst {pins : List (Addr × Obj)} {σ : St} {H : Hp} {s : Shared} {e C : Addr} {d : Option Addr} {c : Value} {b : Bool} {A : Around} {E : Value → Shared → Prop} {Q : Value → Shared → Prop} (I : Inv X pins σ H s) (he : H e = some (xobj e C d)) (hd : ∀ dx, d = some dx → ∃ fs, H dx = some (.xd fs))
    (k : ExcI X.K C) (q : kitOne X.K (.ref C) c = some b) (h : ∀ tk, Q (.bool b) { s with toks := tk }) : wpAny (model X.prog X.w) A (call (.builtin "isinstance") [.ref e, c]) Q E s := by
  obtain ⟨oe, vs, a1, a2, a3, a4, _⟩ := (I.hok e _ he).1
  obtain ⟨cd, hc, _⟩ := any_some k.hd
  refine kia_one (kitx_exc k.ge hc k.ob k.ca k.cg k.ct) I.kIn ?_ q (fun z => nomatch z) h
  cases d with
  | none => exact ⟨oe, none, a1, a2, by unfold notCls; rw [a4], by rw [a3]; trivial⟩
  | some dx =>
    obtain ⟨fs, hx⟩ := hd dx rfl
    obtain ⟨mA, n1, _⟩ := xd_get I.hok hx
    obtain ⟨od, god, _⟩ := lookIn_ns n1
    exact ⟨oe, some od, a1, a2, by unfold notCls; rw [a4], by rw [a3]; exact god⟩
theorem call_isiX : CallR X (.builtin "isinstance") (fun xs H Q => ∃ e C d a b, xs = [.ref e, .ref a] ∧ H e = some (xobj e C d) ∧ (∀ dx, d = some dx → ∃ fs, H dx = some (.xd fs)) ∧ ExcI X.K C ∧ kitOne X.K (.ref C) (.ref a) = some b ∧ Q (.bl b) H) := by
  intro pins s σ H xs us Q I r h
  obtain ⟨e, C, d, a, b, rfl, he, hd, k, kk, q⟩ := h
  obtain ⟨u, w', rfl, ru, rw'⟩ := vals2 r
  cases rw'
  cases ru
  exact xisinst I he hd k kk fun tk => ⟨.bl b, H, I.tok _, rfl, q⟩
end
end L2
namespace L2
open PySem PySem.Spec PyProof.Rows PySem.W
theorem Inv.xold {X : Cx} {pins : List (Addr × Obj)} {σ : St} {H : Hp} {s : Shared} {e C : Addr} {d : Option Addr} (I : Inv X pins σ H s) (he : H e = some (xnew e C d)) : Inv X pins σ (upd H e (xobj e C d)) s := by
  have ne : ∀ {b}, H b = none → b ≠ e := fun q z => by rw [z, he] at q; cases q
  refine I.un (h' := s.heap) (t' := s.toks) ⟨fun b o q _ _ _ => q, fun b o q _ _ _ => ⟨o.slots, q⟩, fun b o q a _ => by rw [upd_ne (ne a)]; exact a, fun b o q _ => ⟨o, q⟩, fun b xs q => ?_, fun b o v q => ?_, fun b ps q => ?_⟩ fun b o q => ?_
  · rw [upd_ne (fun z => by rw [z, he] at q; cases q)]; exact q
  · rw [upd_ne (fun z => by rw [z, he] at q; cases q)]; exact q
  · exact ⟨#[], by rw [upd_ne (fun z => by rw [z, he] at q; cases q), q]; simp⟩
  · by_cases z : b = e
    · subst z
      rw [upd_same] at q
      cases q
      obtain ⟨oe, vs, a1, a2, a3, a4, a5⟩ := (I.hok b _ he).1
      exact xobj_ok a1 a2 a3 a4 (Array.getElem?_eq_some_iff.mp a5).1
    · rw [upd_ne z] at q
      refine (I.hok b o q).stay (fun _ _ _ r => r) (fun cc rr => ?_) fun cc xs rr => ?_
      · rw [upd_ne (fun y => by rw [y, he] at rr; cases rr)]; exact rr
      · rw [upd_ne (fun y => by rw [y, he] at rr; cases rr)]; exact rr
section
variable {P : Program} {w : World} {K : PySem.W.Frag} {mg : Str → Option Value} {base : Heap} {N : List Str} {qual : Str} {scope : Scope} {f : Addr} {cd : Value} {A : Around} {outer : List Env} {s : Shared} {H : Hp} {E : XK}
theorem ps_raise1 {x : Str} {np cpos pos : Pos} {e1 : Expr} {es : List Expr} {ta : TA} {C fI : Addr} {k : Nat} {fd : FuncData} {ps : List Str} {sp : Sp} (c : ExcC K C) (hi : findIn K (.ref C) "__init__" = some (some (.ref fI))) (hfn : isFn K (.ref fI) = true) (hkp : keepIn K (.ref C) = true)
    (F : FnOk P w K mg base CX0 k fI fd ps sp) (hb : Binds K fd ps []) (hr : Room (k + 1) (cxOf (CXE P w) P w K mg base N qual scope f cd A outer s H E).A) (hg : Gl (cxOf (CXE P w) P w K mg base N qual scope f cd A outer s H E) x) (hm : mg x = some (.ref C))
    (ha : PA (cxOf (CXE P w) P w K mg base N qual scope f cd A outer s H E) (e1 :: es) ta) (hd : (x == ("__debug__" : Str)) = false := by decide)
    (he : starEach (e1 :: es) (cxOf (CXE P w) P w K mg base N qual scope f cd A outer s H E).env = (false, eval e1 (cxOf (CXE P w) P w K mg base N qual scope f cd A outer s H E).env) :: starEach es (cxOf (CXE P w) P w K mg base N qual scope f cd A outer s H E).env := by rfl)
    (hpl : (backTo cpos (starEach es (cxOf (CXE P w) P w K mg base N qual scope f cd A outer s H E).env)).any (·.1) = false := by rfl) :
    PS (cxOf (CXE P w) P w K mg base N qual scope f cd A outer s H E) (.Raise (some (.Call (.Name x np) (e1 :: es) [] cpos)) none pos) (fun _ σ H1 => ta σ H1 fun vs H2 => vs.length ≤ sizeLine ∧ ∀ e, H2 e = none → sp (.ref e :: vs) (upd H2 e (xnew e C none)) (fun v H3 => v = .non ∧ ∃ d, H3 e = some (xnew e C d) ∧ E (.ref C) (some e) (upd H3 e (xobj e C d))) E0) := by
  intro pins s1 σ H1 D I h
  rw [arm_exec_Raise]
  refine wpAny_bind (wpAny_standAt (raise_obj (I.ok.hd rfl) (wpAny_bind (wpAny_mono (wpAny_Call_Name_kw (ld_glob I hg hm (PySem.W.callWith_K (h₀ := base) I.ok.mod.kin hkp (thn (ha cpos pins s1 σ H1 _ I h) fun us s3 ⟨vs, H3, I3, rv, sz, kk⟩ => ⟨I3.kIn, ?_⟩) he hpl) hd)) (fun v s4 h4 => wpAny_bind (wpAny_standAt (wpAny_pure h4))) fun _ _ z => z))))
  obtain ⟨bm, Nn, mN, xx⟩ := exc_atC I3.kIn c.at_
  have lk := beq_iff_eq.mp hfn
  have fo : ∃ oI, s3.heap.get? fI = some oI ∧ oI.cls = .type "function" := by
    obtain ⟨oI, l1, l2⟩ := Option.map_eq_some_iff.mp lk
    exact ⟨oI, I3.kIn _ _ l1, l2⟩
  obtain ⟨oI, fo1, fo2⟩ := fo
  obtain ⟨hp, g, dr, t, os⟩ := s3
  refine exc_call I3.kIn xx hi fo1 fo2 (show us.length ≤ sizeLine by rw [← rv.length]; exact sz) fun h2 e md => ?_
  obtain ⟨t0, g1, _, _⟩ := md.there
  have new := I3.hok.new md.new
  have I4 := I3.laidN (h' := h2) (t' := t) (o := xnew e C none) md.keeps md.new (xnew_ok ⟨_, _, g1, rfl, rfl, rfl, rfl⟩)
  have r2 : Vals (V.ref e :: vs) (Value.ref e :: us) := .cons rfl rv
  have hsp := kk e new
  have hl : (Value.ref e :: us).length = ps.length := (F.len _ _ _ _ hsp ▸ r2.length).symm
  have bnd := hb _ (Value.ref e :: us) I4.kIn (by rw [List.append_nil]; exact hl)
  rw [List.append_nil] at bnd
  refine wpAny_call (codeAny_mono (F.run _ (cxOf (CXE P w) P w K mg base N qual scope f cd A outer s H E).stack _ _ ⟨Value.ref e :: us, []⟩ (Value.ref e :: us) (V.ref e :: vs) _ E0 (hr.make C us []) (I4.env0.make C us []) bnd r2 hsp) fun y s' hq => ?_)
  match y, hq with
  | .ok (.ret u), hq =>
    obtain ⟨v, H5, I5, rv5, z1, d5, z2, z3⟩ := I4.after hq
    subst z1
    obtain ⟨bm5, N5, m5, x5⟩ := exc_atC I5.kIn c.at_
    refine ⟨rv5, e, C, bm5, N5, m5, ?_⟩
    obtain ⟨oe, ws, a1, a2, a3, a4, a5⟩ := (I5.hok e _ z2).1
    refine ⟨oe, ws, rfl, x5, a1, a2, a4, a5, raiseE (I5.xold z2) ⟨oe, ws, a1, a2, a3, a4, a5⟩ upd_same ?_ z3⟩
    cases z : s.heap.get? e with
    | none => rfl
    | some o =>
        obtain ⟨u2, z4⟩ := I3.base.there e o z (by show e ∉ []; simp)
        rw [md.new] at z4; cases z4
end
end L2
namespace L2
open PySem PySem.Spec PyProof.Rows PySem.W
section
variable {P : Program} {w : World} {K : Frag} {mg : Str → Option Value} {base : Heap} {CX : CXT} {k : Nat} {f : Addr} {fd : FuncData} {ps : List Str} {sp : Sp}
end
section
variable {X : Cx} {CX : CXT} {k : Nat} {f : Addr} {fd : FuncData} {ps : List Str} {sp : Sp} {x : Str} {p pos : Pos} {e : Expr} {es : List Expr} {t : TA} {E : XK}
end
end L2
namespace L2
open PySem PySem.Spec PyProof.Rows PySem.W
section
variable {X : Cx} {pins : List (Addr × Obj)} {σ : St} {H : Hp} {s : Shared} {e C : Addr} {d : Option Addr} {A : Around} {E : Value → Shared → Prop}
/-- a new exception's record changed, and what is new -/
theorem Inv.xput {h2 : Heap} {t' : Nat} (I : Inv X pins σ H s) (he : H e = some (xnew e C d)) (k : ∀ b o, b ≠ e → s.heap.get? b = some o → h2.get? b = some o) (u : Unflown h2 e C d) : Inv X pins σ H { s with heap := h2, toks := t' } := by
  have nee : ∀ {b}, H b = none → b ≠ e := fun q z => by rw [z, he] at q; cases q
  refine I.un ⟨fun b o q a _ _ => k b o (nee a) q, fun b o q a _ _ => ⟨o.slots, k b o (nee a) q⟩, fun _ _ _ a _ => a, fun b o q _ => ?_, fun _ _ q => q, fun _ _ _ q => q, fun b ps q => ⟨#[], by rw [q]; simp⟩⟩ fun b o q => ?_
  · by_cases z : b = e
    · obtain ⟨oe, vs, g1, _⟩ := u; exact ⟨oe, z ▸ g1⟩
    · exact ⟨o, k b o z q⟩
  · by_cases z : b = e
    · subst z
      rw [he] at q
      cases q
      exact xnew_ok u
    · refine (I.hok b o q).stay (fun cc v hcc rr => k cc v (fun y => ?_) rr) (fun _ rr => rr) fun _ _ rr => rr
      rcases hcc with p | p
      · exact z (p.symm.trans y)
      · rw [y, he] at p; cases p
theorem xinit_ok {rest : List Value} {Q : Value → Shared → Prop} (I : Inv X pins σ H s) (he : H e = some (xnew e C d)) (c : ExcC X.K C) (hz : rest.length ≤ sizeLine) (h : ∀ s', Inv X pins σ H s' → Q .none s') : wpAny (model X.prog X.w) A (call (.builtin "ValueError.__init__") (.ref e :: rest)) Q E s := by
  obtain ⟨bm, Nn, mN, xx⟩ := exc_atC I.kIn c.at_
  obtain ⟨a1, a2, a3, a4, a5, a6, a7, a8, a9, b0, b1, b2, b3, b4, eC⟩ := xx.ob
  obtain ⟨oe, vs, g1, g2, g3, g4, g5⟩ := (I.hok e _ he).1
  have B := PySem.F.excBase_ValueError
  have sz : 1 < vs.size := (Array.getElem?_eq_some_iff.mp g5).1
  have I0 := I
  obtain ⟨hp, g, dr, t, os⟩ := s
  refine wpAny_call (codeAny_call_builtin B.init.plain B.initEntry (wpAny_check_init_subU B xx.tail eC g1 g2 ?_))
  unfold Builtin.«BaseException.__init__»
  refine wpAny_bind (wpAny_newTuple (s := ⟨hp, g, dr, t, os⟩) ?_ hz)
  have ge : (hp.push { cls := .type "tuple", data := .seq rest.toArray }).get? e = some oe := Heap.get?_push_of_some _ g1
  have v0 : vs[0]? = some vs[0] := Array.getElem?_eq_getElem (by omega)
  refine wpAny_bind (wpAny_bind (wpAny_field ge g4 v0 (wpAny_bind (wpAny_setField ge g4 (show 0 < vs.size by omega) ?_))))
  have fin : Inv X pins σ H ⟨(hp.push { cls := .type "tuple", data := .seq rest.toArray }).update e (Obj.mapFields (·.setIfInBounds 0 (.ref hp.objs.size))), g, dr, t, os⟩ := by
    refine I0.xput (t' := t) he (fun b o nb q => (Heap.get?_update_ne _ _ _ _ nb).trans (Heap.get?_push_of_some _ q)) ?_
    obtain ⟨oc, od, oda, osl⟩ := oe
    dsimp only at g2 g3 g4
    subst g2 g3 g4
    exact ⟨_, _, Heap.get?_update_self _ ge rfl, rfl, rfl, rfl, by rw [Array.getElem?_setIfInBounds_ne (by decide)]; exact g5⟩
  split
  · exact wpAny_letGo (wpAny_pure (h _ fin))
  · exact wpAny_pure (wpAny_pure (h _ fin))
end
section
variable {X : Cx} {T : Str} {tp apos pos : Pos} {e1 : Expr} {es : List Expr} {t : TA} {D : Addr}
/-- T.__init__(self, ..), T an own class that has none of its own, under ValueError -/
theorem pe_super {pl : Sem Bool} (hg : Gl X T) (hm : X.mg T = some (.ref D)) (hga : specialIn X.K (.ref D) "__getattribute__" = some (some (.builtin "type.__getattribute__"))) (hr : readsIn X.K D (.type "type") = true) (hf : findCls X.K (.ref D) (.type "type") "__init__" = some (.val (.builtin "ValueError.__init__")))
    (ha : PA X (e1 :: es) t) (hdb : (T == ("__debug__" : Str)) = false := by decide) (hst : starEach (e1 :: es) X.env = (false, eval e1 X.env) :: starEach es X.env := by rfl) (hpl : (backTo pos (starEach es X.env)).any (·.1) = false := by rfl)
    (ht : eval (.Call (.Attribute (.Name T tp) "__init__" apos) (e1 :: es) [] pos) X.env = (do
      let ov ← eval (.Name T tp) X.env
      standAt apos.atName
      let (f, first) ← holding [ov] (getMethod ov "__init__" pl)
      callWith pos f first (backTo pos (starEach (e1 :: es) X.env)) (backToKw pos (keywordEach [] X.env))) := by rfl) :
    PE X (.Call (.Attribute (.Name T tp) "__init__" apos) (e1 :: es) [] pos) (fun σ H Q => t σ H fun vs H1 => ∃ e C d rest, vs = .ref e :: rest ∧ H1 e = some (xnew e C d) ∧ ExcC X.K C ∧ rest.length ≤ sizeLine ∧ Q .non H1) := by
  intro pins s σ H Q I h
  refine methodCall_KW (pl := pl) (ld_glob I hg hm ?_ hdb) ht
  refine method_cls I.kIn hga (cls_value I.kIn hr hf (by decide +kernel) ?_)
  refine callWith_builtin1 (thn (ha pos pins _ σ H _ (I.tok _) h) fun us s1 ⟨vs, H1, I1, r, e, C, d, rest, z1, z2, c, z3, q⟩ => ?_) hst hpl
  subst z1
  cases r with
  | cons r1 r2 =>
    cases r1
    exact xinit_ok I1 z2 c (by rw [← r2.length]; exact z3) fun s2 I2 => ⟨.non, H1, I2, rfl, q⟩
end
end L2
namespace L2
open PySem PySem.Spec PyProof.Rows PySem.W
/-- the clause's class takes it, out of the text -/
theorem takes_of {X : Cx} {C C2 : Addr} (kin : X.K.In X.base) (q : excC X.K C = true) (m : mroIn X.K C (.ref C2) = some true) : Takes X C C2 := by
  unfold excC at q
  split at q
  next dd cd sl look =>
    split at q
    next D r c0 c1 c2 c3 mm c5 em es =>
      simp only [Bool.and_eq_true, beq_iff_eq, Bool.not_eq_true'] at q
      obtain ⟨⟨e1, e2⟩, del, tl, nsok⟩ := q
      subst e1 e2
      have esl : sl = #[c0, c1, c2, c3, some (.builtin "ValueError.__new__"), c5] := Array.toList_inj.mp es
      have con : cd.mro.contains (.ref C2) = true := by
        unfold mroIn clsIn at m
        rw [look] at m
        simp only [Option.bind_some] at m
        split at m
        · cases m
        · exact Option.some.inj m
      obtain ⟨f1, f2, f3, f4, f5, f6, f7, f8, f9, f10, f11⟩ := cd
      have em : f3 = .ref D :: r := em
      have del : f11 = false := del
      subst em del esl
      exact ⟨r, f4, _, ⟨⟨_, _, _, _, _, _, _, _, _, _, _, _, _, _, kin _ _ look⟩, .of_isNs (isNs_of_in kin nsok), tail_of_in kin tl⟩, con⟩
    next => cases q
  next => cases q
end L2
namespace L2
open PySem PySem.Spec PyProof.Rows
section
variable {X : Cx} {pins : List (Addr × Obj)} {σ : St} {H : Hp} {s : Shared}
end
/-- try, by what the text says of the classes -/
theorem ps_tryK {X : Cx} {x n : Str} {np hpos pos : Pos} {b0 : Stmt} {body suite : List Stmt} {i : Nat} {C2 : Addr} (hst : X.stack = X.env :: X.outer) (hfr : X.env.frame = some X.env.locals) (hN : X.N.Nodup) (hi : X.N[i]? = some n) (hloc : X.env.scope.names.lookup n = some .local)
    (hg : Gl X x) (hm : X.mg x = some (.ref C2)) (hdb : (x == ("__debug__" : Str)) = false) (h2 : excC X.K C2 = true) :
    PS X (.Try body [.ExceptHandler (some (.Name x np)) (some n) (b0 :: suite) hpos] [] [] pos) (fun D σ H => ∃ Th, (∀ pins, At (X.trying pins Th) D body σ H) ∧
      ∀ σ' C e H', Th σ' C e H' → excC X.K C = true ∧ PySem.W.mroIn X.K C (.ref C2) = some true ∧ At (X.held e) (D.less i) (b0 :: suite) (σ'.set i (some (.ref e))) H') := fun pins s σ H D I ⟨Th, hb, hh⟩ =>
  (ps_try hst hfr hN hi hloc hg hm hdb (exc_atC I.ok.mod.kin h2)) pins s σ H D I ⟨Th, hb, fun σ' C e H' th => let ⟨a, b, c⟩ := hh σ' C e H' th; ⟨takes_of I.ok.mod.kin a b, c⟩⟩
end L2
namespace L2
open PySem PySem.Spec PyProof.Rows
section
variable {X : Cx} {pins : List (Addr × Obj)} {σ : St} {H : Hp} {s : Shared}
theorem call_len_seqK {K : PySem.W.Frag} (hK : X.K = K) : CallR X (.builtin "len") (fun xs H Q => ∃ p ys, xs = [.ref p] ∧ (SqL K H p ys ∨ SqT K H p ys) ∧ Q (.int ys.length) H) := by subst hK; exact call_len_seq
def PlainV (xs ys : List V) : Prop := ∀ x ∈ xs, ∀ y ∈ ys, flatV x = true ∧ flatV y = true ∧ eqV x y = decide (x = y)
theorem plain_items {xs ys : List V} {is js : List Value} {A : Around} (p : PlainV xs ys) (r1 : Vals xs is) (r2 : Vals ys js) :
    ∀ j (h1 : j < is.toArray.size) (h2 : j < js.toArray.size), SeqAt.EqAt A s is.toArray[j] js.toArray[j] ((fun j => decide (xs[j]? = ys[j]?)) j) := by
  intro j h1 h2
  have l1 := r1.length
  have l2 := r2.length
  have j1 : j < xs.length := by simpa [l1] using h1
  have j2 : j < ys.length := by simpa [l2] using h2
  have e1 := List.getElem?_eq_getElem j1
  have e2 := List.getElem?_eq_getElem j2
  obtain ⟨u1, g1, q1⟩ := r1.get e1
  obtain ⟨u2, g2, q2⟩ := r2.get e2
  have g1' : is.toArray[j] = u1 := by simpa [List.getElem?_eq_some_iff] using (List.getElem?_eq_some_iff.mp g1).2
  have g2' : js.toArray[j] = u2 := by simpa [List.getElem?_eq_some_iff] using (List.getElem?_eq_some_iff.mp g2).2
  rw [g1', g2']
  obtain ⟨f1, f2, f3⟩ := p _ (List.getElem_mem j1) _ (List.getElem_mem j2)
  have := eqAt_V (A := A) (s := s) q1 q2 f1 f2
  rw [f3] at this
  have e : decide (xs[j]? = ys[j]?) = decide (xs[j] = ys[j]) := by rw [e1, e2]; simp
  show SeqAt.EqAt A s u1 u2 (decide (xs[j]? = ys[j]?))
  rw [e]
  exact this
theorem all_same {xs ys : List V} (h : xs.length = ys.length) : ((List.range xs.length).all fun j => decide (xs[j]? = ys[j]?)) = decide (xs = ys) := by
  rw [Bool.eq_iff_iff, List.all_eq_true, decide_eq_true_eq]
  constructor
  · intro z
    refine List.ext_getElem? fun j => ?_
    by_cases hj : j < xs.length
    · simpa using z j (List.mem_range.mpr hj)
    · rw [List.getElem?_eq_none (by omega), List.getElem?_eq_none (by omega)]
  · intro z j _
    rw [z]; simp
def rNeLs (K : PySem.W.Frag) : R2 := fun x y H Q => ∃ a b xs ys, x = .ref a ∧ y = .ref b ∧ SqL K H a xs ∧ SqL K H b ys ∧ PlainV xs ys ∧ Q (.bl (!decide (xs = ys))) H
theorem op_neLs (hu : X.A.units < cLine) : OpR X (compareOp .NotEq) (rNeLs X.K) := by
  intro pins s σ H x y v u Q I rx ry h
  obtain ⟨a, b, xs, ys, rfl, rfl, ha, hb, hp, q⟩ := h
  cases rx
  cases ry
  obtain ⟨is, r1, p1, _⟩ := I.list ha
  obtain ⟨js, r2, p2, _⟩ := I.list hb
  obtain ⟨o1, n1, e1, c1, _, d1⟩ := p1
  obtain ⟨o2, n2, e2, c2, _, d2⟩ := p2
  have l1 := r1.length
  have l2 := r2.length
  by_cases hl : xs.length = ys.length
  · refine PySem.SeqAt.RcNeAt.lists (e := fun j => decide (xs[j]? = ys[j]?)) ⟨o1, e1, c1, n1, d1⟩ ⟨o2, e2, c2, n2, d2⟩ (by simp [← l1, ← l2, hl]) hu (plain_items hp r1 r2) _ _ _ _ ?_
    have z : is.toArray.size = xs.length := by simp [← l1]
    rw [z, all_same hl]
    exact ⟨.bl _, H, I, rfl, q⟩
  · refine PySem.SeqAt.RcNeAt.lists_lengths ⟨o1, e1, c1, n1, d1⟩ ⟨o2, e2, c2, n2, d2⟩ (by simpa [← l1, ← l2] using hl) hu _ _ _ _ ?_
    rw [decide_eq_false (fun z => hl (by rw [z]))] at q
    exact ⟨.bl true, H, I, rfl, q⟩
end
end L2
namespace L2
open PySem PySem.Spec PyProof.Rows
section
variable {X : Cx} {pins : List (Addr × Obj)} {σ : St} {H : Hp} {s : Shared}
end
end L2
namespace L2
open PySem PySem.Spec PyProof.Rows
section
variable {X : Cx} {pins : List (Addr × Obj)} {σ : St} {H : Hp} {s : Shared}
end
end L2
namespace L2
open PySem PySem.Spec PyProof.Rows
section
variable {X : Cx} {e v1 v2 : Expr} {es : List Expr} {te : TE} {pos : Pos}
variable {t : TF}
end
end L2
namespace L2
open PySem PySem.Spec PyProof.Rows PySem.W
section
variable {X : Cx}
end
end L2
namespace L2
open PySem PySem.Spec PyProof.Rows
section
variable {X : Cx}
end
end L2
namespace L2
open PySem PySem.Spec PyProof.Rows
section
variable {X : Cx}
end
end L2
namespace L2
open PySem PySem.Spec PyProof.Rows
section
variable {X : Cx}
end
end L2
namespace L2
open PySem PySem.Spec PyProof.Rows
variable {X : Cx}
end L2
namespace L2
open PySem PySem.Spec PyProof.Rows
section
variable {prog : Program} {w : World} {A : Around} {E : Value → Shared → Prop} {s : Shared}
set_option maxRecDepth 100000 in
end
section
variable {X : Cx}
/-- ns.index(n), of texts -/
def rIndex : V → List V → Hp → VK → Prop := fun x vs H Q => ∃ (l : Addr) (ns : List Str) (n : Str) (j : Nat), x = .ref l ∧ vs = [.str n] ∧ H l = some (.lst (ns.map V.str)) ∧ ns[j]? = some n ∧ (∀ m, m < j → ns[m]? ≠ some n) ∧ ns.length ≤ 1000000 ∧ Q (.int j) H
theorem mt_index : MtM X "list.index" rIndex := by
  intro pins s σ H x vs v us Q I rx rv h
  obtain ⟨l, ns, n, j, rfl, rfl, hH, hj, hm, hz, q⟩ := h
  cases rx
  obtain ⟨u, rfl, ru⟩ := rv.one
  obtain ⟨z, its, c, r, hl, e⟩ := I.lstM hH
  have hlen := r.length
  rw [List.length_map] at hlen
  have hjl := (List.getElem?_eq_some_iff.mp hj).1
  obtain ⟨tu, rfl⟩ := ru
  have key : ∀ m (hm : m < its.toArray.size), ∃ t, its.toArray[m] = Value.str (ns[m]'(by rw [hlen]; simpa using hm)) t := fun m hm => by
    have hmn : m < ns.length := by rw [hlen]; simpa using hm
    obtain ⟨y, h1, h2⟩ := r.get (i := m) (x := .str ns[m]) (by rw [List.getElem?_map, List.getElem?_eq_getElem hmn]; rfl)
    have : its.toArray[m] = y := by simpa [List.getElem?_eq_some_iff] using (List.getElem?_eq_some_iff.mp h1).2
    rw [this]; exact h2
  refine call_meets F.slot_list_index ⟨_, e, rfl⟩ F.entry_list_index (F.args_list_index_2 _ _) (SeqAt.list_indexAt l its.toArray c none #[] (.str n tu) (fun y => match y with | .str a _ => decide (a = n) | _ => false) j (by simpa [← hlen] using hjl) (by omega) ?_ ?_) ⟨e, ?_, ?_⟩
  · obtain ⟨t, h⟩ := key j (by simpa [← hlen] using hjl)
    rw [h]
    have := (List.getElem?_eq_some_iff.mp hj).2
    simp [this]
  · intro m h1 h2
    obtain ⟨t, h⟩ := key m h1
    rw [h]
    have h3 := hm m h2
    have hmn : m < ns.length := by rw [hlen]; simpa using h1
    rw [List.getElem?_eq_getElem hmn] at h3
    simpa using fun z => h3 (by rw [z])
  · intro y hy
    obtain ⟨m, h1, rfl⟩ := Array.mem_iff_getElem.mp hy
    obtain ⟨t, h⟩ := key m h1
    rw [h]
    have := eqAt_V (A := X.A.in1) (s := s) (y := .str (ns[m]'(by rw [hlen]; simpa using h1))) (x := .str n) ⟨t, rfl⟩ ⟨tu, rfl⟩ rfl rfl
    exact this
  · exact ⟨.int j, H, I.kept (t' := s.toks + 1) fun b o q => q, ⟨_, rfl⟩, q⟩
end
end L2
namespace K05
open PySem L2
def top (i : Nat) : Stmt := PySem.Challenge.pw_tintrow_k05_whole_rings.main.body.getD i (.Pass ⟨0, 0, 0, 0⟩)
abbrev s_Rings___init__ : Stmt := inClass (top 3) 0
theorem sc_Rings___init__ : FnScope ["self", "ring", "sign"] ["self", "ring", "sign"] (defScope s_Rings___init__) := ⟨rfl, rfl, rfl, by decide +kernel, rfl, by decide +kernel, by decide +kernel⟩
abbrev s_Pattern_eaten : Stmt := inClass (top 5) 0
theorem sc_Pattern_eaten : FnScope ["self", "row", "at"] ["self", "row", "at"] (defScope s_Pattern_eaten) := ⟨rfl, rfl, rfl, by decide +kernel, rfl, by decide +kernel, by decide +kernel⟩
abbrev s_Pattern_eats : Stmt := inClass (top 5) 1
theorem sc_Pattern_eats : FnScope ["self"] ["self"] (defScope s_Pattern_eats) := ⟨rfl, rfl, rfl, by decide +kernel, rfl, by decide +kernel, by decide +kernel⟩
abbrev s_Word___init__ : Stmt := inClass (top 6) 0
theorem sc_Word___init__ : FnScope ["self", "text"] ["self", "text"] (defScope s_Word___init__) := ⟨rfl, rfl, rfl, by decide +kernel, rfl, by decide +kernel, by decide +kernel⟩
abbrev s_Word_eaten : Stmt := inClass (top 6) 1
theorem sc_Word_eaten : FnScope ["self", "row", "at"] ["self", "row", "at"] (defScope s_Word_eaten) := ⟨rfl, rfl, rfl, by decide +kernel, rfl, by decide +kernel, by decide +kernel⟩
abbrev s_Word_eats : Stmt := inClass (top 6) 2
theorem sc_Word_eats : FnScope ["self"] ["self"] (defScope s_Word_eats) := ⟨rfl, rfl, rfl, by decide +kernel, rfl, by decide +kernel, by decide +kernel⟩
abbrev s_One___init__ : Stmt := inClass (top 7) 0
theorem sc_One___init__ : FnScope ["self", "signs"] ["self", "signs"] (defScope s_One___init__) := ⟨rfl, rfl, rfl, by decide +kernel, rfl, by decide +kernel, by decide +kernel⟩
abbrev s_One_eaten : Stmt := inClass (top 7) 1
theorem sc_One_eaten : FnScope ["self", "row", "at"] ["self", "row", "at"] (defScope s_One_eaten) := ⟨rfl, rfl, rfl, by decide +kernel, rfl, by decide +kernel, by decide +kernel⟩
abbrev s_One_eats : Stmt := inClass (top 7) 2
theorem sc_One_eats : FnScope ["self"] ["self"] (defScope s_One_eats) := ⟨rfl, rfl, rfl, by decide +kernel, rfl, by decide +kernel, by decide +kernel⟩
abbrev s_Without___init__ : Stmt := inClass (top 8) 0
theorem sc_Without___init__ : FnScope ["self", "signs"] ["self", "signs"] (defScope s_Without___init__) := ⟨rfl, rfl, rfl, by decide +kernel, rfl, by decide +kernel, by decide +kernel⟩
abbrev s_Without_eaten : Stmt := inClass (top 8) 1
theorem sc_Without_eaten : FnScope ["self", "row", "at"] ["self", "row", "at"] (defScope s_Without_eaten) := ⟨rfl, rfl, rfl, by decide +kernel, rfl, by decide +kernel, by decide +kernel⟩
abbrev s_Without_eats : Stmt := inClass (top 8) 2
theorem sc_Without_eats : FnScope ["self"] ["self"] (defScope s_Without_eats) := ⟨rfl, rfl, rfl, by decide +kernel, rfl, by decide +kernel, by decide +kernel⟩
abbrev s_Many___init__ : Stmt := inClass (top 9) 0
theorem sc_Many___init__ : FnScope ["self", "signs"] ["self", "signs"] (defScope s_Many___init__) := ⟨rfl, rfl, rfl, by decide +kernel, rfl, by decide +kernel, by decide +kernel⟩
abbrev s_Many_eaten : Stmt := inClass (top 9) 1
theorem sc_Many_eaten : FnScope ["self", "row", "at", "end"] ["self", "row", "at"] (defScope s_Many_eaten) := ⟨rfl, rfl, rfl, by decide +kernel, rfl, by decide +kernel, by decide +kernel⟩
abbrev s_Many_eats : Stmt := inClass (top 9) 2
theorem sc_Many_eats : FnScope ["self"] ["self"] (defScope s_Many_eats) := ⟨rfl, rfl, rfl, by decide +kernel, rfl, by decide +kernel, by decide +kernel⟩
abbrev s_Any_eaten : Stmt := inClass (top 10) 0
theorem sc_Any_eaten : FnScope ["self", "row", "at"] ["self", "row", "at"] (defScope s_Any_eaten) := ⟨rfl, rfl, rfl, by decide +kernel, rfl, by decide +kernel, by decide +kernel⟩
abbrev s_Any_eats : Stmt := inClass (top 10) 1
theorem sc_Any_eats : FnScope ["self"] ["self"] (defScope s_Any_eats) := ⟨rfl, rfl, rfl, by decide +kernel, rfl, by decide +kernel, by decide +kernel⟩
abbrev s_Still_eaten : Stmt := inClass (top 11) 0
theorem sc_Still_eaten : FnScope ["self", "row", "at"] ["self", "row", "at"] (defScope s_Still_eaten) := ⟨rfl, rfl, rfl, by decide +kernel, rfl, by decide +kernel, by decide +kernel⟩
abbrev s_End_eaten : Stmt := inClass (top 12) 0
theorem sc_End_eaten : FnScope ["self", "row", "at"] ["self", "row", "at"] (defScope s_End_eaten) := ⟨rfl, rfl, rfl, by decide +kernel, rfl, by decide +kernel, by decide +kernel⟩
abbrev s_is_name : Stmt := top 17
theorem sc_is_name : FnScope ["word"] ["word"] (defScope s_is_name) := ⟨rfl, rfl, rfl, by decide +kernel, rfl, by decide +kernel, by decide +kernel⟩
abbrev s_Rule___init__ : Stmt := inClass (top 18) 0
theorem sc_Rule___init__ : FnScope ["self", "pattern", "colour", "deed", "goal", "fold"] ["self", "pattern", "colour", "deed", "goal", "fold"] (defScope s_Rule___init__) := ⟨rfl, rfl, rfl, by decide +kernel, rfl, by decide +kernel, by decide +kernel⟩
abbrev s_Mode___init__ : Stmt := inClass (top 19) 0
theorem sc_Mode___init__ : FnScope ["self", "name", "colour", "rules"] ["self", "name", "colour", "rules"] (defScope s_Mode___init__) := ⟨rfl, rfl, rfl, by decide +kernel, rfl, by decide +kernel, by decide +kernel⟩
abbrev s_Rules___init__ : Stmt := inClass (top 20) 0
theorem sc_Rules___init__ : FnScope ["self", "modes"] ["self", "modes"] (defScope s_Rules___init__) := ⟨rfl, rfl, rfl, by decide +kernel, rfl, by decide +kernel, by decide +kernel⟩
abbrev s_first_rule : Stmt := top 23
theorem sc_first_rule : FnScope ["rules", "mode", "row", "at", "number", "rule"] ["rules", "mode", "row", "at"] (defScope s_first_rule) := ⟨rfl, rfl, rfl, by decide +kernel, rfl, by decide +kernel, by decide +kernel⟩
abbrev s_do_deed : Stmt := top 24
theorem sc_do_deed : FnScope ["modes", "rule"] ["modes", "rule"] (defScope s_do_deed) := ⟨rfl, rfl, rfl, by decide +kernel, rfl, by decide +kernel, by decide +kernel⟩
abbrev s_ask_rings : Stmt := top 25
theorem sc_ask_rings : FnScope ["rules", "found"] ["rules"] (defScope s_ask_rings) := ⟨rfl, rfl, rfl, by decide +kernel, rfl, by decide +kernel, by decide +kernel⟩
abbrev s_ring_of : Stmt := top 26
theorem sc_ring_of : FnScope ["rules", "row", "first", "ring"] ["rules"] (defScope s_ring_of) := ⟨rfl, rfl, rfl, by decide +kernel, rfl, by decide +kernel, by decide +kernel⟩
abbrev s_short_rows : Stmt := top 27
theorem sc_short_rows : FnScope [] [] (defScope s_short_rows) := ⟨rfl, rfl, rfl, by decide +kernel, rfl, by decide +kernel, by decide +kernel⟩
abbrev s_ring_from : Stmt := top 28
theorem sc_ring_from : FnScope ["rules", "first", "row", "ring", "modes", "rule"] ["rules", "first", "row"] (defScope s_ring_from) := ⟨rfl, rfl, rfl, by decide +kernel, rfl, by decide +kernel, by decide +kernel⟩
abbrev s_idle_rule : Stmt := top 29
theorem sc_idle_rule : FnScope ["rules", "mode", "row", "number", "rule"] ["rules", "mode", "row"] (defScope s_idle_rule) := ⟨rfl, rfl, rfl, by decide +kernel, rfl, by decide +kernel, by decide +kernel⟩
abbrev s_Cursor___init__ : Stmt := inClass (top 37) 0
theorem sc_Cursor___init__ : FnScope ["self", "row", "text"] ["self", "row", "text"] (defScope s_Cursor___init__) := ⟨rfl, rfl, rfl, by decide +kernel, rfl, by decide +kernel, by decide +kernel⟩
abbrev s_Cursor_more : Stmt := inClass (top 37) 1
theorem sc_Cursor_more : FnScope ["self"] ["self"] (defScope s_Cursor_more) := ⟨rfl, rfl, rfl, by decide +kernel, rfl, by decide +kernel, by decide +kernel⟩
abbrev s_Cursor_peek : Stmt := inClass (top 37) 2
theorem sc_Cursor_peek : FnScope ["self"] ["self"] (defScope s_Cursor_peek) := ⟨rfl, rfl, rfl, by decide +kernel, rfl, by decide +kernel, by decide +kernel⟩
abbrev s_Cursor_ask : Stmt := inClass (top 37) 3
theorem sc_Cursor_ask : FnScope ["self", "good"] ["self", "good"] (defScope s_Cursor_ask) := ⟨rfl, rfl, rfl, by decide +kernel, rfl, by decide +kernel, by decide +kernel⟩
abbrev s_Cursor_take : Stmt := inClass (top 37) 4
theorem sc_Cursor_take : FnScope ["self", "good", "word"] ["self", "good"] (defScope s_Cursor_take) := ⟨rfl, rfl, rfl, by decide +kernel, rfl, by decide +kernel, by decide +kernel⟩
abbrev s_Cursor_take_choice : Stmt := inClass (top 37) 5
theorem sc_Cursor_take_choice : FnScope ["self", "words"] ["self", "words"] (defScope s_Cursor_take_choice) := ⟨rfl, rfl, rfl, by decide +kernel, rfl, by decide +kernel, by decide +kernel⟩
abbrev s_Cursor_take_name : Stmt := inClass (top 37) 6
theorem sc_Cursor_take_name : FnScope ["self"] ["self"] (defScope s_Cursor_take_name) := ⟨rfl, rfl, rfl, by decide +kernel, rfl, by decide +kernel, by decide +kernel⟩
abbrev s_Cursor_take_signs : Stmt := inClass (top 37) 7
theorem sc_Cursor_take_signs : FnScope ["self", "word"] ["self"] (defScope s_Cursor_take_signs) := ⟨rfl, rfl, rfl, by decide +kernel, rfl, by decide +kernel, by decide +kernel⟩
abbrev s_read_rules : Stmt := top 38
theorem sc_read_rules : FnScope ["text", "rows", "numbers", "modes", "nowhere", "number", "row", "cursor", "rules"] ["text"] (defScope s_read_rules) := ⟨rfl, rfl, rfl, by decide +kernel, rfl, by decide +kernel, by decide +kernel⟩
abbrev s_mode_numbers : Stmt := top 39
theorem sc_mode_numbers : FnScope ["rows", "numbers", "row", "words"] ["rows"] (defScope s_mode_numbers) := ⟨rfl, rfl, rfl, by decide +kernel, rfl, by decide +kernel, by decide +kernel⟩
abbrev s_read_mode : Stmt := top 40
theorem sc_read_mode : FnScope ["cursor", "modes", "name", "colour"] ["cursor", "modes"] (defScope s_read_mode) := ⟨rfl, rfl, rfl, by decide +kernel, rfl, by decide +kernel, by decide +kernel⟩
abbrev s_read_rule : Stmt := top 41
theorem sc_read_rule : FnScope ["cursor", "numbers", "nowhere", "pattern", "colour", "deed", "goal", "fold"] ["cursor", "numbers", "nowhere"] (defScope s_read_rule) := ⟨rfl, rfl, rfl, by decide +kernel, rfl, by decide +kernel, by decide +kernel⟩
abbrev s_read_pattern : Stmt := top 42
theorem sc_read_pattern : FnScope ["cursor", "kind", "signs"] ["cursor"] (defScope s_read_pattern) := ⟨rfl, rfl, rfl, by decide +kernel, rfl, by decide +kernel, by decide +kernel⟩
abbrev s_read_goal : Stmt := top 43
theorem sc_read_goal : FnScope ["cursor", "numbers", "nowhere", "place", "name"] ["cursor", "numbers", "nowhere"] (defScope s_read_goal) := ⟨rfl, rfl, rfl, by decide +kernel, rfl, by decide +kernel, by decide +kernel⟩
abbrev s__law_draw : Stmt := top 45
theorem sc__law_draw : FnScope ["_law_script", "_law_k", "_law_many", "_law_cell", "_law_left_here", "_law_seed"] ["_law_script", "_law_k", "_law_many"] (defScope s__law_draw) := ⟨rfl, rfl, rfl, by decide +kernel, rfl, by decide +kernel, by decide +kernel⟩
abbrev s__law_all : Stmt := top 46
theorem sc__law_all : FnScope ["_law_some"] [] (defScope s__law_all) := ⟨rfl, rfl, rfl, by decide +kernel, rfl, by decide +kernel, by decide +kernel⟩
abbrev s__law_signs : Stmt := top 47
theorem sc__law_signs : FnScope ["_law_script", "_law_base", "_law_every", "_law_way", "_law_at", "_law_first_here", "_law_size"] ["_law_script", "_law_base"] (defScope s__law_signs) := ⟨rfl, rfl, rfl, by decide +kernel, rfl, by decide +kernel, by decide +kernel⟩
abbrev s__law_rule : Stmt := top 48
theorem sc__law_rule : FnScope ["_law_script", "_law_base", "_law_mode", "_law_names", "_law_calm_here", "_law_sort", "_law_signs_here", "_law_deed", "_law_goal"] ["_law_script", "_law_base", "_law_mode", "_law_names", "_law_calm_here"] (defScope s__law_rule) := ⟨rfl, rfl, rfl, by decide +kernel, rfl, by decide +kernel, by decide +kernel⟩
abbrev s__law_text : Stmt := top 49
theorem sc__law_text : FnScope ["_law_names", "_law_modes", "_law_rows", "_law_k", "_law_sort", "_law_signs_here", "_law_deed", "_law_goal", "_law_words"] ["_law_names", "_law_modes"] (defScope s__law_text) := ⟨rfl, rfl, rfl, by decide +kernel, rfl, by decide +kernel, by decide +kernel⟩
abbrev s__law_first : Stmt := top 50
theorem sc__law_first : FnScope ["_law_rules", "_law_row", "_law_rule_here", "_law_sort", "_law_good"] ["_law_rules", "_law_row"] (defScope s__law_first) := ⟨rfl, rfl, rfl, by decide +kernel, rfl, by decide +kernel, by decide +kernel⟩
abbrev s__law_after : Stmt := top 51
theorem sc__law_after : FnScope ["_law_modes", "_law_rule_here"] ["_law_modes", "_law_rule_here"] (defScope s__law_after) := ⟨rfl, rfl, rfl, by decide +kernel, rfl, by decide +kernel, by decide +kernel⟩
abbrev s__law_is_ring : Stmt := top 52
theorem sc__law_is_ring : FnScope ["_law_modes", "_law_names", "_law_ring", "_law_sign", "_law_row", "_law_stack", "_law_name", "_law_rule_here"] ["_law_modes", "_law_names", "_law_ring", "_law_sign"] (defScope s__law_is_ring) := ⟨rfl, rfl, rfl, by decide +kernel, rfl, by decide +kernel, by decide +kernel⟩
abbrev s__law_calm : Stmt := top 53
theorem sc__law_calm : FnScope ["_law_modes", "_law_stack", "_law_row", "_law_k", "_law_rule_here"] ["_law_modes", "_law_stack", "_law_row"] (defScope s__law_calm) := ⟨rfl, rfl, rfl, by decide +kernel, rfl, by decide +kernel, by decide +kernel⟩
abbrev s__law_refused : Stmt := top 54
theorem sc__law_refused : FnScope ["_law_rules", "_law_told", "e"] ["_law_rules"] (defScope s__law_refused) := ⟨rfl, rfl, rfl, by decide +kernel, rfl, by decide +kernel, by decide +kernel⟩
abbrev s__law_left : Stmt := top 55
theorem sc__law_left : FnScope ["_law_script", "_law_modes", "_law_mode", "_law_under", "_law_row"] ["_law_script", "_law_modes"] (defScope s__law_left) := ⟨rfl, rfl, rfl, by decide +kernel, rfl, by decide +kernel, by decide +kernel⟩
abbrev s_law : Stmt := top 56
theorem sc_law : FnScope ["_law_script", "_law_names", "_law_calm_here", "_law_modes", "_law_k", "_law_size", "_law_again", "_law_rules", "_law_found", "_law_told"] ["_law_script"] (defScope s_law) := ⟨rfl, rfl, rfl, by decide +kernel, rfl, by decide +kernel, by decide +kernel⟩
set_option genInjectivity false in
structure Adr where
  c_TintError : Addr
  c_NoRules : Addr
  c_Rings : Addr
  c_Pattern : Addr
  c_Word : Addr
  c_One : Addr
  c_Without : Addr
  c_Many : Addr
  c_Any : Addr
  c_Still : Addr
  c_End : Addr
  c_Rule : Addr
  c_Mode : Addr
  c_Rules : Addr
  c_Cursor : Addr
  f_Rings___init__ : Addr
  d_Rings___init__ : FuncData
  f_Pattern_eaten : Addr
  d_Pattern_eaten : FuncData
  f_Pattern_eats : Addr
  d_Pattern_eats : FuncData
  f_Word___init__ : Addr
  d_Word___init__ : FuncData
  f_Word_eaten : Addr
  d_Word_eaten : FuncData
  f_Word_eats : Addr
  d_Word_eats : FuncData
  f_One___init__ : Addr
  d_One___init__ : FuncData
  f_One_eaten : Addr
  d_One_eaten : FuncData
  f_One_eats : Addr
  d_One_eats : FuncData
  f_Without___init__ : Addr
  d_Without___init__ : FuncData
  f_Without_eaten : Addr
  d_Without_eaten : FuncData
  f_Without_eats : Addr
  d_Without_eats : FuncData
  f_Many___init__ : Addr
  d_Many___init__ : FuncData
  f_Many_eaten : Addr
  d_Many_eaten : FuncData
  f_Many_eats : Addr
  d_Many_eats : FuncData
  f_Any_eaten : Addr
  d_Any_eaten : FuncData
  f_Any_eats : Addr
  d_Any_eats : FuncData
  f_Still_eaten : Addr
  d_Still_eaten : FuncData
  f_End_eaten : Addr
  d_End_eaten : FuncData
  f_is_name : Addr
  d_is_name : FuncData
  f_Rule___init__ : Addr
  d_Rule___init__ : FuncData
  f_Mode___init__ : Addr
  d_Mode___init__ : FuncData
  f_Rules___init__ : Addr
  d_Rules___init__ : FuncData
  f_first_rule : Addr
  d_first_rule : FuncData
  f_do_deed : Addr
  d_do_deed : FuncData
  f_ask_rings : Addr
  d_ask_rings : FuncData
  f_ring_of : Addr
  d_ring_of : FuncData
  f_short_rows : Addr
  d_short_rows : FuncData
  f_ring_from : Addr
  d_ring_from : FuncData
  f_idle_rule : Addr
  d_idle_rule : FuncData
  f_Cursor___init__ : Addr
  d_Cursor___init__ : FuncData
  f_Cursor_more : Addr
  d_Cursor_more : FuncData
  f_Cursor_peek : Addr
  d_Cursor_peek : FuncData
  f_Cursor_ask : Addr
  d_Cursor_ask : FuncData
  f_Cursor_take : Addr
  d_Cursor_take : FuncData
  f_Cursor_take_choice : Addr
  d_Cursor_take_choice : FuncData
  f_Cursor_take_name : Addr
  d_Cursor_take_name : FuncData
  f_Cursor_take_signs : Addr
  d_Cursor_take_signs : FuncData
  f_read_rules : Addr
  d_read_rules : FuncData
  f_mode_numbers : Addr
  d_mode_numbers : FuncData
  f_read_mode : Addr
  d_read_mode : FuncData
  f_read_rule : Addr
  d_read_rule : FuncData
  f_read_pattern : Addr
  d_read_pattern : FuncData
  f_read_goal : Addr
  d_read_goal : FuncData
  f__law_draw : Addr
  d__law_draw : FuncData
  f__law_all : Addr
  d__law_all : FuncData
  f__law_signs : Addr
  d__law_signs : FuncData
  f__law_rule : Addr
  d__law_rule : FuncData
  f__law_text : Addr
  d__law_text : FuncData
  f__law_first : Addr
  d__law_first : FuncData
  f__law_after : Addr
  d__law_after : FuncData
  f__law_is_ring : Addr
  d__law_is_ring : FuncData
  f__law_calm : Addr
  d__law_calm : FuncData
  f__law_refused : Addr
  d__law_refused : FuncData
  f__law_left : Addr
  d__law_left : FuncData
  g_PATTERNS : Addr
  g_DEEDS : Addr
  g_GOING : Addr
  g_FOLDS : Addr
structure Txt (K : PySem.W.Frag) (mg : Str → Option Value) (t : Adr) : Prop where
  mgc_TintError : mg "TintError" = some (.ref t.c_TintError)
  mgc_NoRules : mg "NoRules" = some (.ref t.c_NoRules)
  mgc_Rings : mg "Rings" = some (.ref t.c_Rings)
  mgc_Pattern : mg "Pattern" = some (.ref t.c_Pattern)
  mgc_Word : mg "Word" = some (.ref t.c_Word)
  mgc_One : mg "One" = some (.ref t.c_One)
  mgc_Without : mg "Without" = some (.ref t.c_Without)
  mgc_Many : mg "Many" = some (.ref t.c_Many)
  mgc_Any : mg "Any" = some (.ref t.c_Any)
  mgc_Still : mg "Still" = some (.ref t.c_Still)
  mgc_End : mg "End" = some (.ref t.c_End)
  mgc_Rule : mg "Rule" = some (.ref t.c_Rule)
  mgc_Mode : mg "Mode" = some (.ref t.c_Mode)
  mgc_Rules : mg "Rules" = some (.ref t.c_Rules)
  mgc_Cursor : mg "Cursor" = some (.ref t.c_Cursor)
  F_Rings___init__ : Fun K "__init__" "Rings.__init__" s_Rings___init__ t.f_Rings___init__ t.d_Rings___init__
  F_Pattern_eaten : Fun K "eaten" "Pattern.eaten" s_Pattern_eaten t.f_Pattern_eaten t.d_Pattern_eaten
  F_Pattern_eats : Fun K "eats" "Pattern.eats" s_Pattern_eats t.f_Pattern_eats t.d_Pattern_eats
  F_Word___init__ : Fun K "__init__" "Word.__init__" s_Word___init__ t.f_Word___init__ t.d_Word___init__
  F_Word_eaten : Fun K "eaten" "Word.eaten" s_Word_eaten t.f_Word_eaten t.d_Word_eaten
  F_Word_eats : Fun K "eats" "Word.eats" s_Word_eats t.f_Word_eats t.d_Word_eats
  F_One___init__ : Fun K "__init__" "One.__init__" s_One___init__ t.f_One___init__ t.d_One___init__
  F_One_eaten : Fun K "eaten" "One.eaten" s_One_eaten t.f_One_eaten t.d_One_eaten
  F_One_eats : Fun K "eats" "One.eats" s_One_eats t.f_One_eats t.d_One_eats
  F_Without___init__ : Fun K "__init__" "Without.__init__" s_Without___init__ t.f_Without___init__ t.d_Without___init__
  F_Without_eaten : Fun K "eaten" "Without.eaten" s_Without_eaten t.f_Without_eaten t.d_Without_eaten
  F_Without_eats : Fun K "eats" "Without.eats" s_Without_eats t.f_Without_eats t.d_Without_eats
  F_Many___init__ : Fun K "__init__" "Many.__init__" s_Many___init__ t.f_Many___init__ t.d_Many___init__
  F_Many_eaten : Fun K "eaten" "Many.eaten" s_Many_eaten t.f_Many_eaten t.d_Many_eaten
  F_Many_eats : Fun K "eats" "Many.eats" s_Many_eats t.f_Many_eats t.d_Many_eats
  F_Any_eaten : Fun K "eaten" "Any.eaten" s_Any_eaten t.f_Any_eaten t.d_Any_eaten
  F_Any_eats : Fun K "eats" "Any.eats" s_Any_eats t.f_Any_eats t.d_Any_eats
  F_Still_eaten : Fun K "eaten" "Still.eaten" s_Still_eaten t.f_Still_eaten t.d_Still_eaten
  F_End_eaten : Fun K "eaten" "End.eaten" s_End_eaten t.f_End_eaten t.d_End_eaten
  F_Rule___init__ : Fun K "__init__" "Rule.__init__" s_Rule___init__ t.f_Rule___init__ t.d_Rule___init__
  F_Mode___init__ : Fun K "__init__" "Mode.__init__" s_Mode___init__ t.f_Mode___init__ t.d_Mode___init__
  F_Rules___init__ : Fun K "__init__" "Rules.__init__" s_Rules___init__ t.f_Rules___init__ t.d_Rules___init__
  F_Cursor___init__ : Fun K "__init__" "Cursor.__init__" s_Cursor___init__ t.f_Cursor___init__ t.d_Cursor___init__
  F_Cursor_more : Fun K "more" "Cursor.more" s_Cursor_more t.f_Cursor_more t.d_Cursor_more
  F_Cursor_peek : Fun K "peek" "Cursor.peek" s_Cursor_peek t.f_Cursor_peek t.d_Cursor_peek
  F_Cursor_ask : Fun K "ask" "Cursor.ask" s_Cursor_ask t.f_Cursor_ask t.d_Cursor_ask
  F_Cursor_take : Fun K "take" "Cursor.take" s_Cursor_take t.f_Cursor_take t.d_Cursor_take
  F_Cursor_take_choice : Fun K "take_choice" "Cursor.take_choice" s_Cursor_take_choice t.f_Cursor_take_choice t.d_Cursor_take_choice
  F_Cursor_take_name : Fun K "take_name" "Cursor.take_name" s_Cursor_take_name t.f_Cursor_take_name t.d_Cursor_take_name
  F_Cursor_take_signs : Fun K "take_signs" "Cursor.take_signs" s_Cursor_take_signs t.f_Cursor_take_signs t.d_Cursor_take_signs
  F_is_name : Fun K "is_name" "is_name" s_is_name t.f_is_name t.d_is_name
  mg_is_name : mg "is_name" = some (.ref t.f_is_name)
  F_first_rule : Fun K "first_rule" "first_rule" s_first_rule t.f_first_rule t.d_first_rule
  mg_first_rule : mg "first_rule" = some (.ref t.f_first_rule)
  F_do_deed : Fun K "do_deed" "do_deed" s_do_deed t.f_do_deed t.d_do_deed
  mg_do_deed : mg "do_deed" = some (.ref t.f_do_deed)
  F_ask_rings : Fun K "ask_rings" "ask_rings" s_ask_rings t.f_ask_rings t.d_ask_rings
  mg_ask_rings : mg "ask_rings" = some (.ref t.f_ask_rings)
  F_ring_of : Fun K "ring_of" "ring_of" s_ring_of t.f_ring_of t.d_ring_of
  mg_ring_of : mg "ring_of" = some (.ref t.f_ring_of)
  F_short_rows : Fun K "short_rows" "short_rows" s_short_rows t.f_short_rows t.d_short_rows
  mg_short_rows : mg "short_rows" = some (.ref t.f_short_rows)
  F_ring_from : Fun K "ring_from" "ring_from" s_ring_from t.f_ring_from t.d_ring_from
  mg_ring_from : mg "ring_from" = some (.ref t.f_ring_from)
  F_idle_rule : Fun K "idle_rule" "idle_rule" s_idle_rule t.f_idle_rule t.d_idle_rule
  mg_idle_rule : mg "idle_rule" = some (.ref t.f_idle_rule)
  F_read_rules : Fun K "read_rules" "read_rules" s_read_rules t.f_read_rules t.d_read_rules
  mg_read_rules : mg "read_rules" = some (.ref t.f_read_rules)
  F_mode_numbers : Fun K "mode_numbers" "mode_numbers" s_mode_numbers t.f_mode_numbers t.d_mode_numbers
  mg_mode_numbers : mg "mode_numbers" = some (.ref t.f_mode_numbers)
  F_read_mode : Fun K "read_mode" "read_mode" s_read_mode t.f_read_mode t.d_read_mode
  mg_read_mode : mg "read_mode" = some (.ref t.f_read_mode)
  F_read_rule : Fun K "read_rule" "read_rule" s_read_rule t.f_read_rule t.d_read_rule
  mg_read_rule : mg "read_rule" = some (.ref t.f_read_rule)
  F_read_pattern : Fun K "read_pattern" "read_pattern" s_read_pattern t.f_read_pattern t.d_read_pattern
  mg_read_pattern : mg "read_pattern" = some (.ref t.f_read_pattern)
  F_read_goal : Fun K "read_goal" "read_goal" s_read_goal t.f_read_goal t.d_read_goal
  mg_read_goal : mg "read_goal" = some (.ref t.f_read_goal)
  F__law_draw : Fun K "_law_draw" "_law_draw" s__law_draw t.f__law_draw t.d__law_draw
  mg__law_draw : mg "_law_draw" = some (.ref t.f__law_draw)
  F__law_all : Fun K "_law_all" "_law_all" s__law_all t.f__law_all t.d__law_all
  mg__law_all : mg "_law_all" = some (.ref t.f__law_all)
  F__law_signs : Fun K "_law_signs" "_law_signs" s__law_signs t.f__law_signs t.d__law_signs
  mg__law_signs : mg "_law_signs" = some (.ref t.f__law_signs)
  F__law_rule : Fun K "_law_rule" "_law_rule" s__law_rule t.f__law_rule t.d__law_rule
  mg__law_rule : mg "_law_rule" = some (.ref t.f__law_rule)
  F__law_text : Fun K "_law_text" "_law_text" s__law_text t.f__law_text t.d__law_text
  mg__law_text : mg "_law_text" = some (.ref t.f__law_text)
  F__law_first : Fun K "_law_first" "_law_first" s__law_first t.f__law_first t.d__law_first
  mg__law_first : mg "_law_first" = some (.ref t.f__law_first)
  F__law_after : Fun K "_law_after" "_law_after" s__law_after t.f__law_after t.d__law_after
  mg__law_after : mg "_law_after" = some (.ref t.f__law_after)
  F__law_is_ring : Fun K "_law_is_ring" "_law_is_ring" s__law_is_ring t.f__law_is_ring t.d__law_is_ring
  mg__law_is_ring : mg "_law_is_ring" = some (.ref t.f__law_is_ring)
  F__law_calm : Fun K "_law_calm" "_law_calm" s__law_calm t.f__law_calm t.d__law_calm
  mg__law_calm : mg "_law_calm" = some (.ref t.f__law_calm)
  F__law_refused : Fun K "_law_refused" "_law_refused" s__law_refused t.f__law_refused t.d__law_refused
  mg__law_refused : mg "_law_refused" = some (.ref t.f__law_refused)
  F__law_left : Fun K "_law_left" "_law_left" s__law_left t.f__law_left t.d__law_left
  mg__law_left : mg "_law_left" = some (.ref t.f__law_left)
  cl_Word : Cls K t.c_Word
  mk_Word : Mk K t.c_Word t.f_Word___init__
  n_Word_wanted : NoAttr K t.c_Word "wanted"
  m_Word_eaten : Meth K t.c_Word "eaten" t.f_Word_eaten
  m_Word_eats : Meth K t.c_Word "eats" t.f_Word_eats
  cl_One : Cls K t.c_One
  mk_One : Mk K t.c_One t.f_One___init__
  n_One_signs : NoAttr K t.c_One "signs"
  m_One_eaten : Meth K t.c_One "eaten" t.f_One_eaten
  m_One_eats : Meth K t.c_One "eats" t.f_One_eats
  cl_Without : Cls K t.c_Without
  mk_Without : Mk K t.c_Without t.f_Without___init__
  n_Without_signs : NoAttr K t.c_Without "signs"
  m_Without_eaten : Meth K t.c_Without "eaten" t.f_Without_eaten
  m_Without_eats : Meth K t.c_Without "eats" t.f_Without_eats
  cl_Many : Cls K t.c_Many
  mk_Many : Mk K t.c_Many t.f_Many___init__
  n_Many_signs : NoAttr K t.c_Many "signs"
  m_Many_eaten : Meth K t.c_Many "eaten" t.f_Many_eaten
  m_Many_eats : Meth K t.c_Many "eats" t.f_Many_eats
  cl_Any : Cls K t.c_Any
  mk_Any : MkO K t.c_Any
  m_Any_eaten : Meth K t.c_Any "eaten" t.f_Any_eaten
  m_Any_eats : Meth K t.c_Any "eats" t.f_Any_eats
  cl_Still : Cls K t.c_Still
  mk_Still : MkO K t.c_Still
  m_Still_eaten : Meth K t.c_Still "eaten" t.f_Still_eaten
  m_Still_eats : Meth K t.c_Still "eats" t.f_Pattern_eats
  cl_End : Cls K t.c_End
  mk_End : MkO K t.c_End
  m_End_eaten : Meth K t.c_End "eaten" t.f_End_eaten
  m_End_eats : Meth K t.c_End "eats" t.f_Pattern_eats
  cl_Rule : Cls K t.c_Rule
  mk_Rule : Mk K t.c_Rule t.f_Rule___init__
  n_Rule_pattern : NoAttr K t.c_Rule "pattern"
  n_Rule_colour : NoAttr K t.c_Rule "colour"
  n_Rule_deed : NoAttr K t.c_Rule "deed"
  n_Rule_goal : NoAttr K t.c_Rule "goal"
  n_Rule_fold : NoAttr K t.c_Rule "fold"
  cl_Mode : Cls K t.c_Mode
  mk_Mode : Mk K t.c_Mode t.f_Mode___init__
  n_Mode_name : NoAttr K t.c_Mode "name"
  n_Mode_colour : NoAttr K t.c_Mode "colour"
  n_Mode_rules : NoAttr K t.c_Mode "rules"
  cl_Rules : Cls K t.c_Rules
  mk_Rules : Mk K t.c_Rules t.f_Rules___init__
  n_Rules_modes : NoAttr K t.c_Rules "modes"
  cl_Cursor : Cls K t.c_Cursor
  mk_Cursor : Mk K t.c_Cursor t.f_Cursor___init__
  n_Cursor_row : NoAttr K t.c_Cursor "row"
  n_Cursor_words : NoAttr K t.c_Cursor "words"
  n_Cursor_at : NoAttr K t.c_Cursor "at"
  m_Cursor_more : Meth K t.c_Cursor "more" t.f_Cursor_more
  m_Cursor_peek : Meth K t.c_Cursor "peek" t.f_Cursor_peek
  m_Cursor_ask : Meth K t.c_Cursor "ask" t.f_Cursor_ask
  m_Cursor_take : Meth K t.c_Cursor "take" t.f_Cursor_take
  m_Cursor_take_choice : Meth K t.c_Cursor "take_choice" t.f_Cursor_take_choice
  m_Cursor_take_name : Meth K t.c_Cursor "take_name" t.f_Cursor_take_name
  m_Cursor_take_signs : Meth K t.c_Cursor "take_signs" t.f_Cursor_take_signs
  x_TintError : ExcI K t.c_TintError
  xn_TintError : PySem.W.excIn K t.c_TintError VE "ValueError.__new__" = true
  x_Rings : ExcI K t.c_Rings
  xi_Rings : PySem.W.findIn K (.ref t.c_Rings) "__init__" = some (some (.ref t.f_Rings___init__)) ∧ PySem.W.isFn K (.ref t.f_Rings___init__) = true ∧ PySem.W.keepIn K (.ref t.c_Rings) = true
  n_Rings_ring : NoAttr K t.c_Rings "ring"
  n_Rings_sign : NoAttr K t.c_Rings "sign"
  tk_Rings_TintError : PySem.W.mroIn K t.c_Rings (.ref t.c_TintError) = some true
  su_TintError : PySem.W.specialIn K (.ref t.c_TintError) "__getattribute__" = some (some (.builtin "type.__getattribute__")) ∧ PySem.W.readsIn K t.c_TintError (.type "type") = true ∧ PySem.W.findCls K (.ref t.c_TintError) (.type "type") "__init__" = some (.val (.builtin "ValueError.__init__"))
  kx_Rings_Rings : PySem.W.kitOne K (.ref t.c_Rings) (.ref t.c_Rings) = some true
  cg : PySem.W.specialIn K (.builtin "object.__class__") "__get__" = some (some (.builtin "getset_descriptor.__get__"))
  ct : PySem.W.takesIn K (.builtin "object.__class__") = some true
  ty_Word : PySem.W.findIn K (.ref t.c_Word) "__class__" = some (some (.builtin "object.__class__"))
  mr_Word : PySem.W.mroIn K t.c_Word (.type "object") = some true
  ty_One : PySem.W.findIn K (.ref t.c_One) "__class__" = some (some (.builtin "object.__class__"))
  mr_One : PySem.W.mroIn K t.c_One (.type "object") = some true
  ty_Without : PySem.W.findIn K (.ref t.c_Without) "__class__" = some (some (.builtin "object.__class__"))
  mr_Without : PySem.W.mroIn K t.c_Without (.type "object") = some true
  ty_Many : PySem.W.findIn K (.ref t.c_Many) "__class__" = some (some (.builtin "object.__class__"))
  mr_Many : PySem.W.mroIn K t.c_Many (.type "object") = some true
  ty_Any : PySem.W.findIn K (.ref t.c_Any) "__class__" = some (some (.builtin "object.__class__"))
  mr_Any : PySem.W.mroIn K t.c_Any (.type "object") = some true
  ty_Still : PySem.W.findIn K (.ref t.c_Still) "__class__" = some (some (.builtin "object.__class__"))
  mr_Still : PySem.W.mroIn K t.c_Still (.type "object") = some true
  ty_End : PySem.W.findIn K (.ref t.c_End) "__class__" = some (some (.builtin "object.__class__"))
  mr_End : PySem.W.mroIn K t.c_End (.type "object") = some true
  kit_Word_Word : PySem.W.kitOne K (.ref t.c_Word) (.ref t.c_Word) = some true
  kit_One_One : PySem.W.kitOne K (.ref t.c_One) (.ref t.c_One) = some true
  kit_Without_Without : PySem.W.kitOne K (.ref t.c_Without) (.ref t.c_Without) = some true
  kit_Many_Many : PySem.W.kitOne K (.ref t.c_Many) (.ref t.c_Many) = some true
  kit_Any_Any : PySem.W.kitOne K (.ref t.c_Any) (.ref t.c_Any) = some true
  kit_Still_Still : PySem.W.kitOne K (.ref t.c_Still) (.ref t.c_Still) = some true
  kit_End_End : PySem.W.kitOne K (.ref t.c_End) (.ref t.c_End) = some true
  kb_list_list : PySem.W.kitOne K (.type "list") (.type "list") = some true
  kb_str_str : PySem.W.kitOne K (.type "str") (.type "str") = some true
  mgv_LETTERS : ∃ u, mg "LETTERS" = some u ∧ RelV (.str "abcdefghijklmnopqrstuvwxyz") u
  mgv_LONGEST_NAME : ∃ u, mg "LONGEST_NAME" = some u ∧ RelV (.int 8) u
  mgv_START : ∃ u, mg "START" = some u ∧ RelV (.int 0) u
  mgv_SIGNS : ∃ u, mg "SIGNS" = some u ∧ RelV (.str " !\"#$&'()*+,-./0123456789:;<=>?@ABCDEFGHIJKLMNOPQRSTUVWXYZ[\\]^_`abcdefghijklmnopqrstuvwxyz{|}~") u
  mgv_MOST_MODES : ∃ u, mg "MOST_MODES" = some u ∧ RelV (.int 12) u
  mgv_MOST_RULES : ∃ u, mg "MOST_RULES" = some u ∧ RelV (.int 12) u
  mgv_PATTERNS : mg "PATTERNS" = some (.ref t.g_PATTERNS)
  tv_PATTERNS : ∀ H, SqT K H t.g_PATTERNS [.str "word", .str "one", .str "none", .str "many", .str "any", .str "still", .str "end"]
  mgv_DEEDS : mg "DEEDS" = some (.ref t.g_DEEDS)
  tv_DEEDS : ∀ H, SqT K H t.g_DEEDS [.str "stay", .str "push", .str "pop", .str "into"]
  mgv_GOING : mg "GOING" = some (.ref t.g_GOING)
  tv_GOING : ∀ H, SqT K H t.g_GOING [.str "push", .str "into"]
  mgv_FOLDS : mg "FOLDS" = some (.ref t.g_FOLDS)
  tv_FOLDS : ∀ H, SqT K H t.g_FOLDS [.str "open", .str "close"]
  z_all : mg "all" = none
  z_enumerate : mg "enumerate" = none
  z_isinstance : mg "isinstance" = none
  z_len : mg "len" = none
  z_list : mg "list" = none
  z_max : mg "max" = none
  z_range : mg "range" = none
  z_str : mg "str" = none
  z_tuple : mg "tuple" = none
theorem ls0 : ∀ {us : List Value}, us.length = 0 → us = []
  | [], _ => rfl
theorem ls1 : ∀ {us : List Value}, us.length = 1 → ∃ a0, us = [a0]
  | [a0], _ => ⟨a0, rfl⟩
theorem ls2 : ∀ {us : List Value}, us.length = 2 → ∃ a0 a1, us = [a0, a1]
  | [a0, a1], _ => ⟨a0, a1, rfl⟩
theorem ls3 : ∀ {us : List Value}, us.length = 3 → ∃ a0 a1 a2, us = [a0, a1, a2]
  | [a0, a1, a2], _ => ⟨a0, a1, a2, rfl⟩
theorem ls4 : ∀ {us : List Value}, us.length = 4 → ∃ a0 a1 a2 a3, us = [a0, a1, a2, a3]
  | [a0, a1, a2, a3], _ => ⟨a0, a1, a2, a3, rfl⟩
theorem ls5 : ∀ {us : List Value}, us.length = 5 → ∃ a0 a1 a2 a3 a4, us = [a0, a1, a2, a3, a4]
  | [a0, a1, a2, a3, a4], _ => ⟨a0, a1, a2, a3, a4, rfl⟩
theorem ls6 : ∀ {us : List Value}, us.length = 6 → ∃ a0 a1 a2 a3 a4 a5, us = [a0, a1, a2, a3, a4, a5]
  | [a0, a1, a2, a3, a4, a5], _ => ⟨a0, a1, a2, a3, a4, a5, rfl⟩
section
variable {P : Program} {w : World} {K : PySem.W.Frag} {mg : Str → Option Value} {base : Heap} {t : Adr}
theorem bd_Rings___init__ (T : Txt K mg t) : Binds K t.d_Rings___init__ ["self", "ring", "sign"] [] := T.F_Rings___init__.binds (by intro _ _ _ _ _ _ us hl; obtain ⟨_, _, _, rfl⟩ := ls3 hl; rfl)
theorem bd_Pattern_eaten (T : Txt K mg t) : Binds K t.d_Pattern_eaten ["self", "row", "at"] [] := T.F_Pattern_eaten.binds (by intro _ _ _ _ _ _ us hl; obtain ⟨_, _, _, rfl⟩ := ls3 hl; rfl)
theorem bd_Pattern_eats (T : Txt K mg t) : Binds K t.d_Pattern_eats ["self"] [] := T.F_Pattern_eats.binds (by intro _ _ _ _ _ _ us hl; obtain ⟨_, rfl⟩ := ls1 hl; rfl)
theorem bd_Word___init__ (T : Txt K mg t) : Binds K t.d_Word___init__ ["self", "text"] [] := T.F_Word___init__.binds (by intro _ _ _ _ _ _ us hl; obtain ⟨_, _, rfl⟩ := ls2 hl; rfl)
theorem bd_Word_eaten (T : Txt K mg t) : Binds K t.d_Word_eaten ["self", "row", "at"] [] := T.F_Word_eaten.binds (by intro _ _ _ _ _ _ us hl; obtain ⟨_, _, _, rfl⟩ := ls3 hl; rfl)
theorem bd_Word_eats (T : Txt K mg t) : Binds K t.d_Word_eats ["self"] [] := T.F_Word_eats.binds (by intro _ _ _ _ _ _ us hl; obtain ⟨_, rfl⟩ := ls1 hl; rfl)
theorem bd_One___init__ (T : Txt K mg t) : Binds K t.d_One___init__ ["self", "signs"] [] := T.F_One___init__.binds (by intro _ _ _ _ _ _ us hl; obtain ⟨_, _, rfl⟩ := ls2 hl; rfl)
theorem bd_One_eaten (T : Txt K mg t) : Binds K t.d_One_eaten ["self", "row", "at"] [] := T.F_One_eaten.binds (by intro _ _ _ _ _ _ us hl; obtain ⟨_, _, _, rfl⟩ := ls3 hl; rfl)
theorem bd_One_eats (T : Txt K mg t) : Binds K t.d_One_eats ["self"] [] := T.F_One_eats.binds (by intro _ _ _ _ _ _ us hl; obtain ⟨_, rfl⟩ := ls1 hl; rfl)
theorem bd_Without___init__ (T : Txt K mg t) : Binds K t.d_Without___init__ ["self", "signs"] [] := T.F_Without___init__.binds (by intro _ _ _ _ _ _ us hl; obtain ⟨_, _, rfl⟩ := ls2 hl; rfl)
theorem bd_Without_eaten (T : Txt K mg t) : Binds K t.d_Without_eaten ["self", "row", "at"] [] := T.F_Without_eaten.binds (by intro _ _ _ _ _ _ us hl; obtain ⟨_, _, _, rfl⟩ := ls3 hl; rfl)
theorem bd_Without_eats (T : Txt K mg t) : Binds K t.d_Without_eats ["self"] [] := T.F_Without_eats.binds (by intro _ _ _ _ _ _ us hl; obtain ⟨_, rfl⟩ := ls1 hl; rfl)
theorem bd_Many___init__ (T : Txt K mg t) : Binds K t.d_Many___init__ ["self", "signs"] [] := T.F_Many___init__.binds (by intro _ _ _ _ _ _ us hl; obtain ⟨_, _, rfl⟩ := ls2 hl; rfl)
theorem bd_Many_eaten (T : Txt K mg t) : Binds K t.d_Many_eaten ["self", "row", "at"] [] := T.F_Many_eaten.binds (by intro _ _ _ _ _ _ us hl; obtain ⟨_, _, _, rfl⟩ := ls3 hl; rfl)
theorem bd_Many_eats (T : Txt K mg t) : Binds K t.d_Many_eats ["self"] [] := T.F_Many_eats.binds (by intro _ _ _ _ _ _ us hl; obtain ⟨_, rfl⟩ := ls1 hl; rfl)
theorem bd_Any_eaten (T : Txt K mg t) : Binds K t.d_Any_eaten ["self", "row", "at"] [] := T.F_Any_eaten.binds (by intro _ _ _ _ _ _ us hl; obtain ⟨_, _, _, rfl⟩ := ls3 hl; rfl)
theorem bd_Any_eats (T : Txt K mg t) : Binds K t.d_Any_eats ["self"] [] := T.F_Any_eats.binds (by intro _ _ _ _ _ _ us hl; obtain ⟨_, rfl⟩ := ls1 hl; rfl)
theorem bd_Still_eaten (T : Txt K mg t) : Binds K t.d_Still_eaten ["self", "row", "at"] [] := T.F_Still_eaten.binds (by intro _ _ _ _ _ _ us hl; obtain ⟨_, _, _, rfl⟩ := ls3 hl; rfl)
theorem bd_End_eaten (T : Txt K mg t) : Binds K t.d_End_eaten ["self", "row", "at"] [] := T.F_End_eaten.binds (by intro _ _ _ _ _ _ us hl; obtain ⟨_, _, _, rfl⟩ := ls3 hl; rfl)
theorem bd_is_name (T : Txt K mg t) : Binds K t.d_is_name ["word"] [] := T.F_is_name.binds (by intro _ _ _ _ _ _ us hl; obtain ⟨_, rfl⟩ := ls1 hl; rfl)
theorem bd_Rule___init__ (T : Txt K mg t) : Binds K t.d_Rule___init__ ["self", "pattern", "colour", "deed", "goal", "fold"] [] := T.F_Rule___init__.binds (by intro _ _ _ _ _ _ us hl; obtain ⟨_, _, _, _, _, _, rfl⟩ := ls6 hl; rfl)
theorem bd_Mode___init__ (T : Txt K mg t) : Binds K t.d_Mode___init__ ["self", "name", "colour", "rules"] [] := T.F_Mode___init__.binds (by intro _ _ _ _ _ _ us hl; obtain ⟨_, _, _, _, rfl⟩ := ls4 hl; rfl)
theorem bd_Rules___init__ (T : Txt K mg t) : Binds K t.d_Rules___init__ ["self", "modes"] [] := T.F_Rules___init__.binds (by intro _ _ _ _ _ _ us hl; obtain ⟨_, _, rfl⟩ := ls2 hl; rfl)
theorem bd_first_rule (T : Txt K mg t) : Binds K t.d_first_rule ["rules", "mode", "row", "at"] [] := T.F_first_rule.binds (by intro _ _ _ _ _ _ us hl; obtain ⟨_, _, _, _, rfl⟩ := ls4 hl; rfl)
theorem bd_do_deed (T : Txt K mg t) : Binds K t.d_do_deed ["modes", "rule"] [] := T.F_do_deed.binds (by intro _ _ _ _ _ _ us hl; obtain ⟨_, _, rfl⟩ := ls2 hl; rfl)
theorem bd_ask_rings (T : Txt K mg t) : Binds K t.d_ask_rings ["rules"] [] := T.F_ask_rings.binds (by intro _ _ _ _ _ _ us hl; obtain ⟨_, rfl⟩ := ls1 hl; rfl)
theorem bd_ring_of (T : Txt K mg t) : Binds K t.d_ring_of ["rules"] [] := T.F_ring_of.binds (by intro _ _ _ _ _ _ us hl; obtain ⟨_, rfl⟩ := ls1 hl; rfl)
theorem bd_short_rows (T : Txt K mg t) : Binds K t.d_short_rows [] [] := T.F_short_rows.binds (by intro _ _ _ _ _ _ us hl; obtain rfl := ls0 hl; rfl)
theorem bd_ring_from (T : Txt K mg t) : Binds K t.d_ring_from ["rules", "first", "row"] [] := T.F_ring_from.binds (by intro _ _ _ _ _ _ us hl; obtain ⟨_, _, _, rfl⟩ := ls3 hl; rfl)
theorem bd_idle_rule (T : Txt K mg t) : Binds K t.d_idle_rule ["rules", "mode", "row"] [] := T.F_idle_rule.binds (by intro _ _ _ _ _ _ us hl; obtain ⟨_, _, _, rfl⟩ := ls3 hl; rfl)
theorem bd_Cursor___init__ (T : Txt K mg t) : Binds K t.d_Cursor___init__ ["self", "row", "text"] [] := T.F_Cursor___init__.binds (by intro _ _ _ _ _ _ us hl; obtain ⟨_, _, _, rfl⟩ := ls3 hl; rfl)
theorem bd_Cursor_more (T : Txt K mg t) : Binds K t.d_Cursor_more ["self"] [] := T.F_Cursor_more.binds (by intro _ _ _ _ _ _ us hl; obtain ⟨_, rfl⟩ := ls1 hl; rfl)
theorem bd_Cursor_peek (T : Txt K mg t) : Binds K t.d_Cursor_peek ["self"] [] := T.F_Cursor_peek.binds (by intro _ _ _ _ _ _ us hl; obtain ⟨_, rfl⟩ := ls1 hl; rfl)
theorem bd_Cursor_ask (T : Txt K mg t) : Binds K t.d_Cursor_ask ["self", "good"] [] := T.F_Cursor_ask.binds (by intro _ _ _ _ _ _ us hl; obtain ⟨_, _, rfl⟩ := ls2 hl; rfl)
theorem bd_Cursor_take (T : Txt K mg t) : Binds K t.d_Cursor_take ["self", "good"] [] := T.F_Cursor_take.binds (by intro _ _ _ _ _ _ us hl; obtain ⟨_, _, rfl⟩ := ls2 hl; rfl)
theorem bd_Cursor_take_choice (T : Txt K mg t) : Binds K t.d_Cursor_take_choice ["self", "words"] [] := T.F_Cursor_take_choice.binds (by intro _ _ _ _ _ _ us hl; obtain ⟨_, _, rfl⟩ := ls2 hl; rfl)
theorem bd_Cursor_take_name (T : Txt K mg t) : Binds K t.d_Cursor_take_name ["self"] [] := T.F_Cursor_take_name.binds (by intro _ _ _ _ _ _ us hl; obtain ⟨_, rfl⟩ := ls1 hl; rfl)
theorem bd_Cursor_take_signs (T : Txt K mg t) : Binds K t.d_Cursor_take_signs ["self"] [] := T.F_Cursor_take_signs.binds (by intro _ _ _ _ _ _ us hl; obtain ⟨_, rfl⟩ := ls1 hl; rfl)
theorem bd_read_rules (T : Txt K mg t) : Binds K t.d_read_rules ["text"] [] := T.F_read_rules.binds (by intro _ _ _ _ _ _ us hl; obtain ⟨_, rfl⟩ := ls1 hl; rfl)
theorem bd_mode_numbers (T : Txt K mg t) : Binds K t.d_mode_numbers ["rows"] [] := T.F_mode_numbers.binds (by intro _ _ _ _ _ _ us hl; obtain ⟨_, rfl⟩ := ls1 hl; rfl)
theorem bd_read_mode (T : Txt K mg t) : Binds K t.d_read_mode ["cursor", "modes"] [] := T.F_read_mode.binds (by intro _ _ _ _ _ _ us hl; obtain ⟨_, _, rfl⟩ := ls2 hl; rfl)
theorem bd_read_rule (T : Txt K mg t) : Binds K t.d_read_rule ["cursor", "numbers", "nowhere"] [] := T.F_read_rule.binds (by intro _ _ _ _ _ _ us hl; obtain ⟨_, _, _, rfl⟩ := ls3 hl; rfl)
theorem bd_read_pattern (T : Txt K mg t) : Binds K t.d_read_pattern ["cursor"] [] := T.F_read_pattern.binds (by intro _ _ _ _ _ _ us hl; obtain ⟨_, rfl⟩ := ls1 hl; rfl)
theorem bd_read_goal (T : Txt K mg t) : Binds K t.d_read_goal ["cursor", "numbers", "nowhere"] [] := T.F_read_goal.binds (by intro _ _ _ _ _ _ us hl; obtain ⟨_, _, _, rfl⟩ := ls3 hl; rfl)
theorem bd__law_draw (T : Txt K mg t) : Binds K t.d__law_draw ["_law_script", "_law_k", "_law_many"] [] := T.F__law_draw.binds (by intro _ _ _ _ _ _ us hl; obtain ⟨_, _, _, rfl⟩ := ls3 hl; rfl)
theorem bd__law_all (T : Txt K mg t) : Binds K t.d__law_all [] [] := T.F__law_all.binds (by intro _ _ _ _ _ _ us hl; obtain rfl := ls0 hl; rfl)
theorem bd__law_signs (T : Txt K mg t) : Binds K t.d__law_signs ["_law_script", "_law_base"] [] := T.F__law_signs.binds (by intro _ _ _ _ _ _ us hl; obtain ⟨_, _, rfl⟩ := ls2 hl; rfl)
theorem bd__law_rule (T : Txt K mg t) : Binds K t.d__law_rule ["_law_script", "_law_base", "_law_mode", "_law_names", "_law_calm_here"] [] := T.F__law_rule.binds (by intro _ _ _ _ _ _ us hl; obtain ⟨_, _, _, _, _, rfl⟩ := ls5 hl; rfl)
theorem bd__law_text (T : Txt K mg t) : Binds K t.d__law_text ["_law_names", "_law_modes"] [] := T.F__law_text.binds (by intro _ _ _ _ _ _ us hl; obtain ⟨_, _, rfl⟩ := ls2 hl; rfl)
theorem bd__law_first (T : Txt K mg t) : Binds K t.d__law_first ["_law_rules", "_law_row"] [] := T.F__law_first.binds (by intro _ _ _ _ _ _ us hl; obtain ⟨_, _, rfl⟩ := ls2 hl; rfl)
theorem bd__law_after (T : Txt K mg t) : Binds K t.d__law_after ["_law_modes", "_law_rule_here"] [] := T.F__law_after.binds (by intro _ _ _ _ _ _ us hl; obtain ⟨_, _, rfl⟩ := ls2 hl; rfl)
theorem bd__law_is_ring (T : Txt K mg t) : Binds K t.d__law_is_ring ["_law_modes", "_law_names", "_law_ring", "_law_sign"] [] := T.F__law_is_ring.binds (by intro _ _ _ _ _ _ us hl; obtain ⟨_, _, _, _, rfl⟩ := ls4 hl; rfl)
theorem bd__law_calm (T : Txt K mg t) : Binds K t.d__law_calm ["_law_modes", "_law_stack", "_law_row"] [] := T.F__law_calm.binds (by intro _ _ _ _ _ _ us hl; obtain ⟨_, _, _, rfl⟩ := ls3 hl; rfl)
theorem bd__law_refused (T : Txt K mg t) : Binds K t.d__law_refused ["_law_rules"] [] := T.F__law_refused.binds (by intro _ _ _ _ _ _ us hl; obtain ⟨_, rfl⟩ := ls1 hl; rfl)
theorem bd__law_left (T : Txt K mg t) : Binds K t.d__law_left ["_law_script", "_law_modes"] [] := T.F__law_left.binds (by intro _ _ _ _ _ _ us hl; obtain ⟨_, _, rfl⟩ := ls2 hl; rfl)
end
local macro_rules | `(tactic| walk_at "rd") => `(tactic| simp only [tSeq, tAsg, tIf, tTest, tB, tOp, tCB, tCons, tNil, tVar, tC, L2.start, rI, rI0, gName, tIfS, tAnd, tOr, tNot, tTup, tLst, tUn, rU, rEq, rNe, rIn, tRet, tNext, rIxL, rIxT, rIxS, tCall, tMeth, tMake, tMakeO, tDrop, tBM, tBM0, tAug, ipI, tAndV, tOrV, tNotV, tSl, rSlS, tPart, tNoPart, rJoin, rStarts3, rStarts2, rSplit, cxOf_K, capV, Option.join_some, Option.join_none, if_true, if_false, Bool.false_eq_true, List.map_cons, List.map_nil, List.length_cons, List.length_nil, List.replicate, List.cons_append, List.nil_append, List.append_nil, List.getElem?_cons_zero, List.getElem?_cons_succ, List.set_cons_zero, List.set_cons_succ, Option.some.injEq, exists_eq_left', exists_eq_left, V.int.injEq, V.str.injEq, V.ref.injEq, V.bl.injEq, List.cons.injEq, and_true, true_and, and_assoc, exists_and_left, exists_eq, exists_const])
local macro_rules | `(tactic| walk_at "ck") => `(tactic| exact ⟨by decide +kernel, rfl, by decide +kernel, by decide +kernel, by decide +kernel, by decide +kernel, by decide +kernel⟩)

section
variable {P : Program} {w : World} {K : PySem.W.Frag} {mg : Str → Option Value} {base : Heap} {t : Adr}

def isName (z : Str) : Bool := decide (1 ≤ z.length) && decide (z.length ≤ 8) && z.cps.toList.all fun c => decide (c ∈ (Str.ofString "abcdefghijklmnopqrstuvwxyz").cps.toList)
def spIsName : Sp := fun vs H Q _ => ∃ z : Str, vs = [.str z] ∧ z.length ≤ 100000 ∧ ∀ H', Same H H' → Q (.bl (isName z)) H'
theorem ok_is_name (T : Txt K mg t) : FnOk P w K mg base CX0 1 t.f_is_name t.d_is_name ["word"] spIsName := by
  refine T.F_is_name.ok sc_is_name (fun vs H Q E h => ?_) (fun cdv A outer s H vs Q E hr h => at_body ?_)
  · obtain ⟨z, rfl, _⟩ := h
    rfl
  · obtain ⟨z, rfl, hz, q⟩ := h
    refine at_consR (fun σ' H' => σ' = [some (.str z)] ∧ H' = H ∧ 1 ≤ z.length ∧ z.length ≤ 8) (ps_if (PW.pt (pw_or (pt_cmpR op_lt (pe_callB call_len_str (by rfl) T.z_len (by decide +kernel) (pa_cons (pv 0) pa_nil)) pe_int (nomark _)) (pw_or1 (pt_cmpR op_gt (pe_callB call_len_str (by rfl) T.z_len (by decide +kernel) (pa_cons (pv 0) pa_nil)) (pe_globE rfl T.mgv_LONGEST_NAME) (nomark _))))) pss_at pss_at) ?_ ?_
    · walk_at "rd"
      refine ⟨sl_le (by omega), ifd (fun h => ?_) (fun h => ?_)⟩
      · refine at_one (ps_ret pe_bl) ?_
        have := q H (Same.refl H)
        rw [isName, decide_eq_false (by omega)] at this
        exact this
      · refine ⟨sl_le (by omega), ifd (fun h => ?_) (fun h => at_nil ⟨rfl, rfl, by omega, by omega⟩)⟩
        refine at_one (ps_ret pe_bl) ?_
        have := q H (Same.refl H)
        rw [isName, decide_eq_false (p := z.length ≤ 8) (by omega), Bool.and_false] at this
        exact this
    rintro σ' H' ⟨rfl, e, h1, h2⟩
    rw [e]
    clear e H'
    refine at_one (ps_ret (pe_callB (call_allL rfl) (by rfl) T.z_all (by decide +kernel) (pa_cons (pe_comp (sc := defScope s_is_name) (N := ["word"]) (x := "sign") (caps := []) (by walk_at "ck") (pi_str (pv 0)) (fun _ _ _ _ => (pe_cmpR op_in_str (pv 0) (pe_globE rfl T.mgv_LETTERS) rfl))) pa_nil))) ?_
    refine ⟨_, rfl, z, rfl, comp_str (fun i ys H2 => H2 = H ∧ ys = (z.cps.toList.take i).map fun c => V.bl (decide (c ∈ (Str.ofString "abcdefghijklmnopqrstuvwxyz").cps.toList))) ⟨rfl, rfl⟩ (sl_lt (by omega)) ?_ ?_⟩
    · rintro i c ys H2 hc hl ⟨rfl, rfl⟩
      have hi : i < z.length := by
        have := (List.getElem?_eq_some_iff.mp hc).1
        simpa [Str.length] using this
      refine ⟨_, rfl, _, _, rfl, rfl, ?_⟩
      rw [PySem.StrLaws.found_one]
      refine comp_turn hi hl ⟨rfl, ?_⟩
      rw [List.take_succ, hc, List.map_append]
      rfl
    · rintro ys H2 hl ⟨rfl, rfl⟩ D hD
      refine ⟨D, (z.cps.toList.map fun c => decide (c ∈ (Str.ofString "abcdefghijklmnopqrstuvwxyz").cps.toList)), rfl, SqL.of (by rw [upd_same, List.take_of_length_le (by simp [Str.length]), List.map_map]; rfl), ?_⟩
      have := q _ (Same.upd (o := .lst (((z.cps.toList.take z.length)).map fun c => V.bl (decide (c ∈ (Str.ofString "abcdefghijklmnopqrstuvwxyz").cps.toList)))) hD)
      rw [isName, decide_eq_true h1, decide_eq_true h2] at this
      rw [List.all_map]
      exact this
def cf (row : Int) (lw : Addr) (i : Nat) : List (Str × V) := [("row", .int row), ("words", .ref lw), ("at", .int i)]
structure Cur (t : Adr) (H : Hp) (p dx lw : Addr) (row : Int) (ws : List Str) (i : Nat) : Prop where
  ob : H p = some (.ins t.c_Cursor dx (cf row lw i))
  ls : H lw = some (.lst (ws.map V.str))
  sz : ws.length ≤ 1000 ∧ ∀ w ∈ ws, w.length ≤ 100000
theorem Cur.ne {H : Hp} {p dx lw : Addr} {row : Int} {ws : List Str} {i : Nat} (c : Cur t H p dx lw row ws i) : p ≠ lw := ne_of c.ob c.ls (by intro z; cases z)
theorem Cur.same {H H' : Hp} {p dx lw : Addr} {row : Int} {ws : List Str} {i : Nat} (c : Cur t H p dx lw row ws i) (s : Same H H') : Cur t H' p dx lw row ws i := ⟨s _ _ c.ob, s _ _ c.ls, c.sz⟩
def pk (ws : List Str) (i : Nat) : Str := ws.getD i ""
theorem pk_lt {ws : List Str} {i : Nat} (h : i < ws.length) : pk ws i = ws[i] := by simp [pk, h]
theorem pk_ge {ws : List Str} {i : Nat} (h : ws.length ≤ i) : pk ws i = "" := by
  unfold pk
  rw [List.getD_eq_getElem?_getD, List.getElem?_eq_none h]
  rfl
theorem Cur.pkl {H : Hp} {p dx lw : Addr} {row : Int} {ws : List Str} {i : Nat} (c : Cur t H p dx lw row ws i) : (pk ws i).length ≤ 100000 := by
  by_cases h : i < ws.length
  · rw [pk_lt h]; exact c.sz.2 _ (List.getElem_mem h)
  · rw [pk_ge (by omega)]; decide
def spCInit (t : Adr) : Sp := fun vs H Q _ => ∃ (p dx : Addr) (row : Int) (text : Str), vs = [.ref p, .int row, .str text] ∧ H p = some (.ins t.c_Cursor dx []) ∧ text.length ≤ 100000 ∧ (PySem.Txt.split text ⟨#[32]⟩).length ≤ 1000 ∧
  ∀ lw H', H lw = none → Cur t H' p dx lw row (PySem.Txt.split text ⟨#[32]⟩) 0 → Adv H H' p → Q .non H'
theorem ok_Cursor___init__ (T : Txt K mg t) : FnOk P w K mg base CX0 1 t.f_Cursor___init__ t.d_Cursor___init__ ["self", "row", "text"] (spCInit t) := by
  refine T.F_Cursor___init__.ok sc_Cursor___init__ (fun vs H Q E h => ?_) (fun cdv A outer s H vs Q E hr h => at_body ?_)
  · obtain ⟨p, dx, row, text, rfl, _⟩ := h
    rfl
  · obtain ⟨p, dx, row, text, rfl, hp, hz, hn, q⟩ := h
    refine at_cons (ps_fld (pv 0) (pv 1) rfl) ⟨_, rfl, _, rfl, p, _, dx, [], rfl, hp, T.cl_Cursor, T.n_Cursor_row, by decide, ?_⟩
    refine at_cons (ps_fld (pv 0) (pe_bm PySem.F.plainAttrs_str PySem.F.slot_str_split PySem.F.type_str_split mt_split (pv 2) (pa_cons pe_str pa_nil)) rfl) ?_
    refine ⟨_, rfl, rfl, _, _, rfl, rfl, by decide, sl_le (by omega), fun lw hl => ⟨_, rfl, p, _, dx, [("row", .int row)], rfl, ?_, T.cl_Cursor, T.n_Cursor_words, by show 1 < 1000; decide, ?_⟩⟩
    · rw [upd_ne (ne_of_none upd_same hl)]; exact upd_same
    have npl : p ≠ lw := ne_of_none upd_same hl
    refine at_one (ps_fld (pv 0) pe_int rfl) ⟨_, rfl, p, _, dx, [("row", .int row), ("words", .ref lw)], rfl, upd_same, T.cl_Cursor, T.n_Cursor_at, by show 2 < 1000; decide, ?_⟩
    have hl0 : H lw = none := by rw [upd_ne (Ne.symm npl)] at hl; exact hl
    refine q lw _ hl0 ⟨upd_same, ?_, hn, fun w hw => Nat.le_trans (PyProof.Rows.part_short hw) hz⟩ fun b o hb nb => ?_
    · rw [upd_ne (Ne.symm npl), upd_ne (Ne.symm npl), upd_same]; rfl
    · rw [upd_ne nb, upd_ne nb, upd_ne (ne_of_none hb hl0), upd_ne nb]; exact hb
def spMore (t : Adr) : Sp := fun vs H Q _ => ∃ (p dx lw : Addr) (row : Int) (ws : List Str) (i : Nat), vs = [.ref p] ∧ Cur t H p dx lw row ws i ∧ Q (.bl (decide (i < ws.length))) H
theorem ok_Cursor_more (T : Txt K mg t) : FnOk P w K mg base CX0 1 t.f_Cursor_more t.d_Cursor_more ["self"] (spMore t) := by
  refine T.F_Cursor_more.ok sc_Cursor_more (fun vs H Q E h => ?_) (fun cdv A outer s H vs Q E hr h => at_body ?_)
  · obtain ⟨p, dx, lw, row, ws, i, rfl, _⟩ := h
    rfl
  · obtain ⟨p, dx, lw, row, ws, i, rfl, C, q⟩ := h
    refine at_one (ps_ret (pe_cmpR op_lt (pe_fld (pv 0) rfl) (pe_callB call_len_seq (by rfl) T.z_len (by decide +kernel) (pa_cons (pe_fld (pv 0) rfl) pa_nil)) (nomark _))) ?_
    simp only [tRet, tOp, tCB, tCons, tNil]
    refine fldv rfl C.ob T.cl_Cursor T.n_Cursor_at rfl ?_
    refine fldv rfl C.ob T.cl_Cursor T.n_Cursor_words rfl ?_
    refine ⟨_, _, rfl, .inl (SqL.of C.ls), _, _, rfl, rfl, ?_⟩
    rw [List.length_map]
    have e : decide ((i : Int) < (ws.length : Int)) = decide (i < ws.length) := by simp
    show Q (.bl (decide ((i : Int) < (ws.length : Int)))) H
    rw [e]
    exact q
def spPeek (t : Adr) : Sp := fun vs H Q _ => ∃ (p dx lw : Addr) (row : Int) (ws : List Str) (i : Nat), vs = [.ref p] ∧ Cur t H p dx lw row ws i ∧ Q (.str (pk ws i)) H
theorem ok_Cursor_peek (T : Txt K mg t) : FnOk P w K mg base CX0 2 t.f_Cursor_peek t.d_Cursor_peek ["self"] (spPeek t) := by
  refine T.F_Cursor_peek.ok sc_Cursor_peek (fun vs H Q E h => ?_) (fun cdv A outer s H vs Q E hr h => at_body ?_)
  · obtain ⟨p, dx, lw, row, ws, i, rfl, _⟩ := h
    rfl
  · obtain ⟨p, dx, lw, row, ws, i, rfl, C, q⟩ := h
    refine at_one (ps_ret (pe_ifExp (pt_val (pe_meth0 (pv 0) T.cl_Cursor T.m_Cursor_more (ok_Cursor_more T) (hr.mono (by decide)) (bd_Cursor_more T) .nil pass0)) (pe_ix ix_list (pe_fld (pv 0) rfl) (pe_fld (pv 0) rfl) (fun _ _ => rfl)) pe_str)) ?_
    refine ⟨_, rfl, p, dx, _, rfl, C.ob, rfl, p, dx, lw, row, ws, i, rfl, C, _, rfl, ifd (fun h => ?_) (fun h => ?_)⟩
    · refine fldv rfl C.ob T.cl_Cursor T.n_Cursor_words rfl ?_
      refine fldv rfl C.ob T.cl_Cursor T.n_Cursor_at rfl ?_
      refine ⟨_, _, _, .str (pk ws i), rfl, rfl, SqL.of C.ls, atI_nat ?_, q⟩
      rw [List.getElem?_map, List.getElem?_eq_getElem h, pk_lt h]
      rfl
    · rw [pk_ge (by omega)] at q
      exact q
def spAsk : Sp := fun vs H Q _ => ∃ p : V, vs = [p, .bl true] ∧ Q .non H
theorem ok_Cursor_ask (T : Txt K mg t) : FnOk P w K mg base CX0 1 t.f_Cursor_ask t.d_Cursor_ask ["self", "good"] spAsk := by
  refine T.F_Cursor_ask.ok sc_Cursor_ask (fun vs H Q E h => ?_) (fun cdv A outer s H vs Q E hr h => at_body ?_)
  · obtain ⟨p, rfl, _⟩ := h
    rfl
  · obtain ⟨p, rfl, q⟩ := h
    refine at_one (ps_if (pt_not (pt_val (pv 1))) pss_at pss_at) ⟨_, rfl, true, rfl, iteF (at_nil q)⟩
/-- one word taken -/
def spTake (t : Adr) : Sp := fun vs H Q _ => ∃ (p dx lw : Addr) (row : Int) (ws : List Str) (i : Nat), vs = [.ref p, .bl true] ∧ Cur t H p dx lw row ws i ∧ ∀ H', Cur t H' p dx lw row ws (i + 1) → Adv H H' p → Q (.str (pk ws i)) H'
theorem ok_Cursor_take (T : Txt K mg t) : FnOk P w K mg base CX0 3 t.f_Cursor_take t.d_Cursor_take ["self", "good"] (spTake t) := by
  refine T.F_Cursor_take.ok sc_Cursor_take (fun vs H Q E h => ?_) (fun cdv A outer s H vs Q E hr h => at_body ?_)
  · obtain ⟨p, dx, lw, row, ws, i, rfl, _⟩ := h
    rfl
  · obtain ⟨p, dx, lw, row, ws, i, rfl, C, q⟩ := h
    refine at_cons (ps_expr (pe_meth (pv 0) T.cl_Cursor T.m_Cursor_ask (ok_Cursor_ask T) (hr.mono (by decide)) (bd_Cursor_ask T) .nil pass0 (pa_cons (pv 1) pa_nil))) ⟨_, rfl, p, dx, _, rfl, C.ob, rfl, _, rfl, _, rfl, ?_⟩
    refine at_cons (ps_set (i := 2) sc_Cursor_take.nd rfl (Or.inl rfl) (pe_meth0 (pv 0) T.cl_Cursor T.m_Cursor_peek (ok_Cursor_peek T) (hr.mono (by decide)) (bd_Cursor_peek T) .nil pass0)) ⟨_, rfl, p, dx, _, rfl, C.ob, rfl, p, dx, lw, row, ws, i, rfl, C, ?_⟩
    refine at_cons (ps_fldaug (pv 0) pe_int in_add) ⟨_, rfl, p, _, dx, _, _, rfl, C.ob, T.cl_Cursor, T.n_Cursor_at, rfl, ?_⟩
    refine ⟨_, _, rfl, rfl, dx, _, C.ob, by show 3 < 1000; decide, ?_⟩
    refine at_one (ps_ret (pv 2)) ⟨_, rfl, ?_⟩
    have C' : Cur t (upd H p (.ins t.c_Cursor dx (cf row lw (i + 1)))) p dx lw row ws (i + 1) := ⟨upd_same, by rw [upd_ne (Ne.symm C.ne)]; exact C.ls, C.sz⟩
    exact q _ C' Adv.upd
/-- a word out of some -/
def spChoice (K : PySem.W.Frag) (t : Adr) : Sp := fun vs H Q _ => ∃ (p dx lw c : Addr) (cs : List Str) (row : Int) (ws : List Str) (i : Nat), vs = [.ref p, .ref c] ∧ Cur t H p dx lw row ws i ∧ SqT K H c (cs.map V.str) ∧ pk ws i ∈ cs ∧ ∀ H', Cur t H' p dx lw row ws (i + 1) → Adv H H' p → Q (.str (pk ws i)) H'
theorem inV_strs {x : Str} {cs : List Str} : inV (.str x) (cs.map V.str) = decide (x ∈ cs) := by
  unfold inV
  rw [List.any_map, Bool.eq_iff_iff, List.any_eq_true, decide_eq_true_eq]
  constructor
  · rintro ⟨y, hy, e⟩
    have : (y == x) = true := e
    rw [← eq_of_beq this]; exact hy
  · intro h
    exact ⟨x, h, by show (x == x) = true; simp⟩
theorem flat_strs {cs : List Str} : (cs.map V.str).all flatV = true := by
  rw [List.all_map, List.all_eq_true]
  intro _ _
  rfl
theorem ok_Cursor_take_choice (T : Txt K mg t) : FnOk P w K mg base CX0 4 t.f_Cursor_take_choice t.d_Cursor_take_choice ["self", "words"] (spChoice K t) := by
  refine T.F_Cursor_take_choice.ok sc_Cursor_take_choice (fun vs H Q E h => ?_) (fun cdv A outer s H vs Q E hr h => at_body ?_)
  · obtain ⟨p, dx, lw, c, cs, row, ws, i, rfl, _⟩ := h
    rfl
  · obtain ⟨p, dx, lw, c, cs, row, ws, i, rfl, C, hc, hin, q⟩ := h
    refine at_one (ps_ret (pe_meth (pv 0) T.cl_Cursor T.m_Cursor_take (ok_Cursor_take T) (hr.mono (by decide)) (bd_Cursor_take T) .nil pass0 (pa_cons (pe_cmpR op_in_seq (pe_meth0 (pv 0) T.cl_Cursor T.m_Cursor_peek (ok_Cursor_peek T) (hr.mono (by decide)) (bd_Cursor_peek T) .nil pass0) (pv 1) rfl) pa_nil))) ?_
    refine ⟨_, rfl, p, dx, _, rfl, C.ob, rfl, ?_⟩
    refine ⟨_, rfl, p, dx, _, rfl, C.ob, rfl, p, dx, lw, row, ws, i, rfl, C, _, rfl, _, _, rfl, .inr hc, rfl, flat_strs, ?_⟩
    rw [inV_strs, decide_eq_true hin]
    exact ⟨p, dx, lw, row, ws, i, rfl, C, q⟩
def spName (t : Adr) : Sp := fun vs H Q _ => ∃ (p dx lw : Addr) (row : Int) (ws : List Str) (i : Nat), vs = [.ref p] ∧ Cur t H p dx lw row ws i ∧ isName (pk ws i) = true ∧ ∀ H', Cur t H' p dx lw row ws (i + 1) → Adv H H' p → Q (.str (pk ws i)) H'
theorem ok_Cursor_take_name (T : Txt K mg t) : FnOk P w K mg base CX0 4 t.f_Cursor_take_name t.d_Cursor_take_name ["self"] (spName t) := by
  refine T.F_Cursor_take_name.ok sc_Cursor_take_name (fun vs H Q E h => ?_) (fun cdv A outer s H vs Q E hr h => at_body ?_)
  · obtain ⟨p, dx, lw, row, ws, i, rfl, _⟩ := h
    rfl
  · obtain ⟨p, dx, lw, row, ws, i, rfl, C, hin, q⟩ := h
    refine at_one (ps_ret (pe_meth (pv 0) T.cl_Cursor T.m_Cursor_take (ok_Cursor_take T) (hr.mono (by decide)) (bd_Cursor_take T) .nil pass0 (pa_cons (pe_call (ok_is_name T) (hr.mono (by decide)) rfl T.mg_is_name T.F_is_name.kp (bd_is_name T) .nil pass0 (pa_cons (pe_meth0 (pv 0) T.cl_Cursor T.m_Cursor_peek (ok_Cursor_peek T) (hr.mono (by decide)) (bd_Cursor_peek T) .nil pass0) pa_nil)) pa_nil))) ?_
    refine ⟨_, rfl, p, dx, _, rfl, C.ob, rfl, ?_⟩
    refine ⟨_, rfl, p, dx, _, rfl, C.ob, rfl, p, dx, lw, row, ws, i, rfl, C, pk ws i, rfl, C.pkl, fun H1 s1 => ?_⟩
    rw [hin]
    exact ⟨p, dx, lw, row, ws, i, rfl, C.same s1, fun H2 C2 a2 => q H2 C2 (s1.adv a2)⟩
/-- the word that tells some signs -/
def wSigns (z : Str) : Str := "'" ++ PySem.Txt.replace z " " "_"
theorem wSigns_cps (z : Str) : (wSigns z).cps.toList = 39 :: subL 32 95 z.cps.toList := by
  unfold wSigns
  rw [cps_app, show ((" " : Str)) = ⟨#[32]⟩ from by decide +kernel, show (("_" : Str)) = ⟨#[95]⟩ from by decide +kernel, replace_cps]
  rfl
def spSigns (t : Adr) : Sp := fun vs H Q _ => ∃ (p dx lw : Addr) (row : Int) (ws : List Str) (i : Nat) (z : Str), vs = [.ref p] ∧ Cur t H p dx lw row ws i ∧ pk ws i = wSigns z ∧ 1 ≤ z.length ∧ z.length ≤ 1000 ∧ 95 ∉ z.cps.toList ∧ ∀ H', Cur t H' p dx lw row ws (i + 1) → Adv H H' p → Q (.str z) H'
theorem slice1 {w : Str} (h : 1 ≤ w.length) : (PySem.Txt.slice w (some 1) none).cps.toList = w.cps.toList.drop 1 := by
  rw [PyProof.Rows.slice_from_eq (b := (w.length : Int)) (by decide) (by omega) rfl]
  show (w.cps.toList.drop 1).take _ = _
  refine List.take_of_length_le ?_
  rw [List.length_drop, Array.length_toList]
  show w.length - 1 ≤ _
  omega
theorem ok_Cursor_take_signs (T : Txt K mg t) : FnOk P w K mg base CX0 4 t.f_Cursor_take_signs t.d_Cursor_take_signs ["self"] (spSigns t) := by
  refine T.F_Cursor_take_signs.ok sc_Cursor_take_signs (fun vs H Q E h => ?_) (fun cdv A outer s H vs Q E hr h => at_body ?_)
  · obtain ⟨p, dx, lw, row, ws, i, z, rfl, _⟩ := h
    rfl
  · obtain ⟨p, dx, lw, row, ws, i, z, rfl, C, hw, hz1, hz2, hz3, q⟩ := h
    have hlen : (wSigns z).length = z.length + 1 := by
      have := congrArg List.length (wSigns_cps z)
      simpa [Str.length, subL] using this
    refine at_cons (ps_set (i := 1) sc_Cursor_take_signs.nd rfl (Or.inl rfl) (pe_meth0 (pv 0) T.cl_Cursor T.m_Cursor_peek (ok_Cursor_peek T) (hr.mono (by decide)) (bd_Cursor_peek T) .nil pass0)) ⟨_, rfl, p, dx, _, rfl, C.ob, rfl, p, dx, lw, row, ws, i, rfl, C, ?_⟩
    rw [hw]
    refine at_cons (ps_expr (pe_meth (pv 0) T.cl_Cursor T.m_Cursor_take (ok_Cursor_take T) (hr.mono (by decide)) (bd_Cursor_take T) .nil pass0 (pa_cons (pe_and (pe_cmpR op_gt (pe_callB call_len_str (by rfl) T.z_len (by decide +kernel) (pa_cons (pv 1) pa_nil)) pe_int (nomark _)) (pe_one (pe_bm PySem.F.plainAttrs_str PySem.F.slot_str_startswith PySem.F.type_str_startswith mt_starts2 (pv 1) (pa_cons pe_str pa_nil)))) pa_nil))) ?_
    refine ⟨_, rfl, p, dx, _, rfl, C.ob, rfl, ?_⟩
    refine ⟨_, rfl, _, rfl, sl_le (by omega), _, _, rfl, rfl, _, rfl, ?_⟩
    rw [decide_eq_true (by omega), if_pos rfl]
    refine ⟨_, rfl, rfl, _, _, rfl, rfl, ?_⟩
    have hst : (decide (0 + ("'" : Str).length ≤ (wSigns z).length) && Builtin.Str.subAt (wSigns z) "'" 0) = true := by
      have e1 : ("'" : Str).length = 1 := by decide +kernel
      rw [Bool.and_eq_true, decide_eq_true_eq, e1]
      refine ⟨by omega, ?_⟩
      unfold Builtin.Str.subAt
      rw [beq_iff_eq, ← Array.toList_inj, e1]
      have e2 := wSigns_cps z
      simp only [Array.toList_extract, List.extract_eq_take_drop, e2]
      rfl
    rw [hst]
    refine ⟨p, dx, lw, row, ws, i, rfl, C, fun H1 C1 a1 => ?_⟩
    refine at_one (ps_ret (pe_repl_sl (by decide +kernel) (pv 1))) ⟨_, rfl, _, rfl, sl_le (by omega), _, rfl, ?_, ?_⟩
    · have h1 : (PySem.Txt.slice (wSigns z) (some 1) none).length ≤ 1001 := Nat.le_trans (PySem.Txt.slice_le _ _ _) (by omega)
      have h2 : (" " : Str).length = 1 := by decide +kernel
      rw [h2]
      omega
    · have e : PySem.Txt.replace (PySem.Txt.slice (wSigns z) (some 1) none) "_" " " = z := by
        refine str_ext ?_
        rw [show ((" " : Str)) = ⟨#[32]⟩ from by decide +kernel, show (("_" : Str)) = ⟨#[95]⟩ from by decide +kernel, replace_cps, slice1 (by omega), wSigns_cps]
        exact subL_back hz3
      rw [e]
      exact q H1 C1 a1
end
local macro_rules | `(tactic| walk_at "u") => `(tactic| first | rfl | decide | exact Or.inl rfl | exact Or.inr rfl | exact Or.inr (Or.inl rfl) | exact Or.inr (Or.inr rfl) | assumption | (intro _; rfl) | exact nobehind _ (by decide) (by decide))
section
variable {P : Program} {w : World} {K : PySem.W.Frag} {mg : Str → Option Value} {base : Heap} {t : Adr}
def runL (sg : List Nat) : List Nat → Nat
  | [] => 0
  | c :: r => if c ∈ sg then 1 + runL sg r else 0
def dueV (sort signs row : Str) (i : Nat) : V :=
  if sort = "end" then (if i = row.length then .int 0 else .non)
  else if sort = "word" then (if (row.cps.toList.drop i).take signs.length = signs.cps.toList then .int signs.length else .non)
  else match row.cps.toList[i]? with
    | none => .non
    | some c =>
      if sort = "any" ∨ sort = "still" then .int (if sort = "any" then 1 else 0)
      else if sort = "none" then (if c ∈ signs.cps.toList then .non else .int 1)
      else if c ∈ signs.cps.toList then .int (if sort = "many" then 1 + runL signs.cps.toList (row.cps.toList.drop (i + 1)) else 1) else .non

theorem getL {row : Str} {i : Nat} : row.cps.toList.length = row.length := by simp [Str.length]
/-- one sign of a text at a place in it -/
theorem strAt {row : Str} {i : Int} (h0 : 0 ≤ i) (h1 : i < row.length) : ∃ c, row.cps.toList[i.toNat]? = some c ∧ atI row.cps.toList i = some c := atI_in _ h0 (by rw [getL (i := 0)]; exact h1)
/-- what eaten promises: an instance of C with the attributes that fl tells -/
def spEat (C : Addr) (fl : Str → List (Str × V)) (sort : Str) : Sp := fun vs H Q _ => ∃ (p dx : Addr) (signs row : Str) (i : Nat), vs = [.ref p, .str row, .int i] ∧ H p = some (.ins C dx (fl signs)) ∧ signs.length ≤ 1000 ∧ row.length ≤ 1000 ∧ i ≤ row.length ∧ Q (dueV sort signs row i) H
def spEats (b : Bool) : Sp := fun vs H Q _ => ∃ p : V, vs = [p] ∧ Q (.bl b) H
def spInit (C : Addr) (f : Str) : Sp := fun vs H Q _ => ∃ (p dx : Addr) (z : Str), vs = [.ref p, .str z] ∧ H p = some (.ins C dx []) ∧ Q .non (upd H p (.ins C dx [(f, .str z)]))
theorem ok_Word___init__ (T : Txt K mg t) : FnOk P w K mg base CX0 1 t.f_Word___init__ t.d_Word___init__ ["self", "text"] (spInit t.c_Word "wanted") := by
  refine T.F_Word___init__.ok sc_Word___init__ (fun vs H Q E h => ?_) (fun cdv A outer s H vs Q E hr h => at_body ?_)
  · obtain ⟨p, dx, z, rfl, _⟩ := h
    rfl
  · obtain ⟨p, dx, z, rfl, hp, q⟩ := h
    refine @at_one _ _ _ _ _ _ (ps_fld (pv 0) (pv 1) rfl) ?_
    exact ⟨_, rfl, _, rfl, p, _, dx, [], rfl, hp, T.cl_Word, T.n_Word_wanted, by decide, q⟩
theorem ok_One___init__ (T : Txt K mg t) : FnOk P w K mg base CX0 1 t.f_One___init__ t.d_One___init__ ["self", "signs"] (spInit t.c_One "signs") := by
  refine T.F_One___init__.ok sc_One___init__ (fun vs H Q E h => ?_) (fun cdv A outer s H vs Q E hr h => at_body ?_)
  · obtain ⟨p, dx, z, rfl, _⟩ := h
    rfl
  · obtain ⟨p, dx, z, rfl, hp, q⟩ := h
    refine @at_one _ _ _ _ _ _ (ps_fld (pv 0) (pv 1) rfl) ?_
    exact ⟨_, rfl, _, rfl, p, _, dx, [], rfl, hp, T.cl_One, T.n_One_signs, by decide, q⟩
theorem ok_Without___init__ (T : Txt K mg t) : FnOk P w K mg base CX0 1 t.f_Without___init__ t.d_Without___init__ ["self", "signs"] (spInit t.c_Without "signs") := by
  refine T.F_Without___init__.ok sc_Without___init__ (fun vs H Q E h => ?_) (fun cdv A outer s H vs Q E hr h => at_body ?_)
  · obtain ⟨p, dx, z, rfl, _⟩ := h
    rfl
  · obtain ⟨p, dx, z, rfl, hp, q⟩ := h
    refine @at_one _ _ _ _ _ _ (ps_fld (pv 0) (pv 1) rfl) ?_
    exact ⟨_, rfl, _, rfl, p, _, dx, [], rfl, hp, T.cl_Without, T.n_Without_signs, by decide, q⟩
theorem ok_Many___init__ (T : Txt K mg t) : FnOk P w K mg base CX0 1 t.f_Many___init__ t.d_Many___init__ ["self", "signs"] (spInit t.c_Many "signs") := by
  refine T.F_Many___init__.ok sc_Many___init__ (fun vs H Q E h => ?_) (fun cdv A outer s H vs Q E hr h => at_body ?_)
  · obtain ⟨p, dx, z, rfl, _⟩ := h
    rfl
  · obtain ⟨p, dx, z, rfl, hp, q⟩ := h
    refine @at_one _ _ _ _ _ _ (ps_fld (pv 0) (pv 1) rfl) ?_
    exact ⟨_, rfl, _, rfl, p, _, dx, [], rfl, hp, T.cl_Many, T.n_Many_signs, by decide, q⟩
theorem ok_Pattern_eats (T : Txt K mg t) : FnOk P w K mg base CX0 1 t.f_Pattern_eats t.d_Pattern_eats ["self"] (spEats false) := by
  refine T.F_Pattern_eats.ok sc_Pattern_eats (fun vs H Q E h => ?_) (fun cdv A outer s H vs Q E hr h => at_body ?_)
  · obtain ⟨p, rfl, _⟩ := h
    rfl
  · obtain ⟨p, rfl, q⟩ := h
    exact @at_one _ _ _ _ _ _ (ps_ret pe_bl) q
theorem ok_Word_eats (T : Txt K mg t) : FnOk P w K mg base CX0 1 t.f_Word_eats t.d_Word_eats ["self"] (spEats true) := by
  refine T.F_Word_eats.ok sc_Word_eats (fun vs H Q E h => ?_) (fun cdv A outer s H vs Q E hr h => at_body ?_)
  · obtain ⟨p, rfl, _⟩ := h
    rfl
  · obtain ⟨p, rfl, q⟩ := h
    exact @at_one _ _ _ _ _ _ (ps_ret pe_bl) q
theorem ok_One_eats (T : Txt K mg t) : FnOk P w K mg base CX0 1 t.f_One_eats t.d_One_eats ["self"] (spEats true) := by
  refine T.F_One_eats.ok sc_One_eats (fun vs H Q E h => ?_) (fun cdv A outer s H vs Q E hr h => at_body ?_)
  · obtain ⟨p, rfl, _⟩ := h
    rfl
  · obtain ⟨p, rfl, q⟩ := h
    exact @at_one _ _ _ _ _ _ (ps_ret pe_bl) q
theorem ok_Without_eats (T : Txt K mg t) : FnOk P w K mg base CX0 1 t.f_Without_eats t.d_Without_eats ["self"] (spEats true) := by
  refine T.F_Without_eats.ok sc_Without_eats (fun vs H Q E h => ?_) (fun cdv A outer s H vs Q E hr h => at_body ?_)
  · obtain ⟨p, rfl, _⟩ := h
    rfl
  · obtain ⟨p, rfl, q⟩ := h
    exact @at_one _ _ _ _ _ _ (ps_ret pe_bl) q
theorem ok_Many_eats (T : Txt K mg t) : FnOk P w K mg base CX0 1 t.f_Many_eats t.d_Many_eats ["self"] (spEats true) := by
  refine T.F_Many_eats.ok sc_Many_eats (fun vs H Q E h => ?_) (fun cdv A outer s H vs Q E hr h => at_body ?_)
  · obtain ⟨p, rfl, _⟩ := h
    rfl
  · obtain ⟨p, rfl, q⟩ := h
    exact @at_one _ _ _ _ _ _ (ps_ret pe_bl) q
theorem ok_Any_eats (T : Txt K mg t) : FnOk P w K mg base CX0 1 t.f_Any_eats t.d_Any_eats ["self"] (spEats true) := by
  refine T.F_Any_eats.ok sc_Any_eats (fun vs H Q E h => ?_) (fun cdv A outer s H vs Q E hr h => at_body ?_)
  · obtain ⟨p, rfl, _⟩ := h
    rfl
  · obtain ⟨p, rfl, q⟩ := h
    exact @at_one _ _ _ _ _ _ (ps_ret pe_bl) q

theorem subAt_iff {row sg : Str} {i : Nat} (hi : i ≤ row.length) : (decide (fromIndex row.length (i : Int) + sg.length ≤ row.length) && Builtin.Str.subAt row sg (fromIndex row.length (i : Int))) = decide ((row.cps.toList.drop i).take sg.length = sg.cps.toList) := by
  have e : fromIndex row.length (i : Int) = i := by unfold fromIndex; rw [if_neg (by omega)]; omega
  rw [e]
  have e2 : Builtin.Str.subAt row sg i = decide ((row.cps.toList.drop i).take sg.length = sg.cps.toList) := by
    unfold Builtin.Str.subAt
    rw [Bool.eq_iff_iff, beq_iff_eq, decide_eq_true_eq]
    rw [← Array.toList_inj]
    simp [Array.toList_extract, List.extract_eq_take_drop]
  rw [e2, Bool.eq_iff_iff, Bool.and_eq_true, decide_eq_true_eq, decide_eq_true_eq]
  refine ⟨fun z => z.2, fun z => ⟨?_, z⟩⟩
  have := congrArg List.length z
  rw [List.length_take, List.length_drop, getL (i := 0), getL (i := 0)] at this
  omega
theorem ok_Word_eaten (T : Txt K mg t) : FnOk P w K mg base CX0 1 t.f_Word_eaten t.d_Word_eaten ["self", "row", "at"] (spEat t.c_Word (fun z => [("wanted", .str z)]) "word") := by
  refine T.F_Word_eaten.ok sc_Word_eaten (fun vs H Q E h => ?_) (fun cdv A outer s H vs Q E hr h => at_body ?_)
  · obtain ⟨p, dx, sg, row, i, rfl, _⟩ := h
    rfl
  · obtain ⟨p, dx, sg, row, i, rfl, hp, hs, hw, hi, q⟩ := h
    refine @at_one _ _ _ _ _ _ (ps_ret (pe_ifExp (pt_val (pe_bm PySem.F.plainAttrs_str PySem.F.slot_str_startswith PySem.F.type_str_startswith mt_starts3 (pv 1) (pa_cons (pe_fld (pv 0) rfl) (pa_cons (pv 2) pa_nil)))) (pe_callB call_len_str (by rfl) T.z_len (by decide +kernel) (pa_cons (pe_fld (pv 0) rfl) pa_nil)) pe_non)) ?_
    rw [dueV, if_neg (by decide), if_pos rfl] at q
    refine ⟨_, rfl, rfl, _, rfl, p, _, dx, _, _, rfl, hp, T.cl_Word, T.n_Word_wanted, rfl, _, rfl, _, _, _, rfl, rfl, _, rfl, ?_⟩
    rw [subAt_iff hi]
    refine ifd (fun h => ?_) (fun h => ?_)
    · rw [if_pos h] at q
      exact ⟨_, rfl, p, _, dx, _, _, rfl, hp, T.cl_Word, T.n_Word_wanted, rfl, _, rfl, sl_le (by omega), q⟩
    · rw [if_neg h] at q
      exact q
theorem dueV_at {sort sg row : Str} {i c : Nat} (h1 : sort ≠ "end") (h2 : sort ≠ "word") (e : row.cps.toList[i]? = some c) : dueV sort sg row i = if sort = "any" ∨ sort = "still" then .int (if sort = "any" then 1 else 0)
      else if sort = "none" then (if c ∈ sg.cps.toList then .non else .int 1)
      else if c ∈ sg.cps.toList then .int (if sort = "many" then 1 + runL sg.cps.toList (row.cps.toList.drop (i + 1)) else 1) else .non := by
  rw [dueV, if_neg h1, if_neg h2, e]
theorem dueV_out {sort sg row : Str} {i : Nat} (h1 : sort ≠ "end") (h2 : sort ≠ "word") (h : row.length ≤ i) : dueV sort sg row i = .non := by
  rw [dueV, if_neg h1, if_neg h2, List.getElem?_eq_none (by rw [getL (i := 0)]; exact h)]
theorem ok_One_eaten (T : Txt K mg t) : FnOk P w K mg base CX0 1 t.f_One_eaten t.d_One_eaten ["self", "row", "at"] (spEat t.c_One (fun z => [("signs", .str z)]) "one") := by
  refine T.F_One_eaten.ok sc_One_eaten (fun vs H Q E h => ?_) (fun cdv A outer s H vs Q E hr h => at_body ?_)
  · obtain ⟨p, dx, sg, row, i, rfl, _⟩ := h
    rfl
  · obtain ⟨p, dx, sg, row, i, rfl, hp, hs, hw, hi, q⟩ := h
    refine @at_one _ _ _ _ _ _ (ps_ret (pe_ifExp (PW.pt (pw_and (pt_cmpR op_lt (pv 2) (pe_callB call_len_str (by rfl) T.z_len (by decide +kernel) (pa_cons (pv 1) pa_nil)) (nomark _)) (pw_and1 (pt_cmpR op_in_str (pe_ix ix_str (pv 1) (pv 2) (fun _ _ => rfl)) (pe_fld (pv 0) rfl) rfl)))) pe_int pe_non)) ?_
    walk_at "rd"
    refine ⟨sl_le (by omega), ifd (fun h => ?_) (fun h => ?_)⟩
    · obtain ⟨c, e1, e2⟩ := strAt (row := row) (i := (i : Int)) (by omega) h
      rw [Int.toNat_natCast] at e1
      refine ⟨sl_le (by omega), c, e2, ⟨_, rfl, _, _, _, _, _, rfl, hp, T.cl_One, T.n_One_signs, rfl, ⟨sg, rfl, ?_⟩⟩⟩
      rw [PySem.StrLaws.found_one]
      rw [dueV_at (by decide) (by decide) e1, if_neg (by decide), if_neg (by decide)] at q
      refine ifd (fun h => ?_) (fun h => ?_)
      · rw [if_pos h, if_neg (by decide)] at q
        exact q
      · rw [if_neg h] at q
        exact q
    · rw [dueV_out (by decide) (by decide) (by omega)] at q
      exact q
theorem ok_Without_eaten (T : Txt K mg t) : FnOk P w K mg base CX0 1 t.f_Without_eaten t.d_Without_eaten ["self", "row", "at"] (spEat t.c_Without (fun z => [("signs", .str z)]) "none") := by
  refine T.F_Without_eaten.ok sc_Without_eaten (fun vs H Q E h => ?_) (fun cdv A outer s H vs Q E hr h => at_body ?_)
  · obtain ⟨p, dx, sg, row, i, rfl, _⟩ := h
    rfl
  · obtain ⟨p, dx, sg, row, i, rfl, hp, hs, hw, hi, q⟩ := h
    refine @at_one _ _ _ _ _ _ (ps_ret (pe_ifExp (PW.pt (pw_and (pt_cmpR op_lt (pv 2) (pe_callB call_len_str (by rfl) T.z_len (by decide +kernel) (pa_cons (pv 1) pa_nil)) (nomark _)) (pw_and1 (pt_cmpR op_notin_str (pe_ix ix_str (pv 1) (pv 2) (fun _ _ => rfl)) (pe_fld (pv 0) rfl) rfl)))) pe_int pe_non)) ?_
    walk_at "rd"
    refine ⟨sl_le (by omega), ifd (fun h => ?_) (fun h => ?_)⟩
    · obtain ⟨c, e1, e2⟩ := strAt (row := row) (i := (i : Int)) (by omega) h
      rw [Int.toNat_natCast] at e1
      refine ⟨sl_le (by omega), c, e2, ⟨_, rfl, _, _, _, _, _, rfl, hp, T.cl_Without, T.n_Without_signs, rfl, ⟨sg, rfl, ?_⟩⟩⟩
      rw [PySem.StrLaws.found_one]
      rw [dueV_at (by decide) (by decide) e1, if_neg (by decide), if_pos rfl] at q
      refine ifnd (fun h => ?_) (fun h => ?_)
      · rw [if_neg h] at q
        exact q
      · rw [if_pos h] at q
        exact q
    · rw [dueV_out (by decide) (by decide) (by omega)] at q
      exact q
theorem ok_Any_eaten (T : Txt K mg t) : FnOk P w K mg base CX0 1 t.f_Any_eaten t.d_Any_eaten ["self", "row", "at"] (spEat t.c_Any (fun z => []) "any") := by
  refine T.F_Any_eaten.ok sc_Any_eaten (fun vs H Q E h => ?_) (fun cdv A outer s H vs Q E hr h => at_body ?_)
  · obtain ⟨p, dx, sg, row, i, rfl, _⟩ := h
    rfl
  · obtain ⟨p, dx, sg, row, i, rfl, hp, hs, hw, hi, q⟩ := h
    refine @at_one _ _ _ _ _ _ (ps_ret (pe_ifExp (pt_cmpR op_lt (pv 2) (pe_callB call_len_str (by rfl) T.z_len (by decide +kernel) (pa_cons (pv 1) pa_nil)) (nomark _)) pe_int pe_non)) ?_
    walk_at "rd"
    refine ⟨sl_le (by omega), ifd (fun h => ?_) (fun h => ?_)⟩
    · obtain ⟨c, e1, e2⟩ := strAt (row := row) (i := (i : Int)) (by omega) h
      rw [Int.toNat_natCast] at e1
      rw [dueV_at (by decide) (by decide) e1, if_pos (by decide), if_pos rfl] at q
      exact q
    · rw [dueV_out (by decide) (by decide) (by omega)] at q
      exact q
theorem ok_Still_eaten (T : Txt K mg t) : FnOk P w K mg base CX0 1 t.f_Still_eaten t.d_Still_eaten ["self", "row", "at"] (spEat t.c_Still (fun z => []) "still") := by
  refine T.F_Still_eaten.ok sc_Still_eaten (fun vs H Q E h => ?_) (fun cdv A outer s H vs Q E hr h => at_body ?_)
  · obtain ⟨p, dx, sg, row, i, rfl, _⟩ := h
    rfl
  · obtain ⟨p, dx, sg, row, i, rfl, hp, hs, hw, hi, q⟩ := h
    refine @at_one _ _ _ _ _ _ (ps_ret (pe_ifExp (pt_cmpR op_lt (pv 2) (pe_callB call_len_str (by rfl) T.z_len (by decide +kernel) (pa_cons (pv 1) pa_nil)) (nomark _)) pe_int pe_non)) ?_
    walk_at "rd"
    refine ⟨sl_le (by omega), ifd (fun h => ?_) (fun h => ?_)⟩
    · obtain ⟨c, e1, e2⟩ := strAt (row := row) (i := (i : Int)) (by omega) h
      rw [Int.toNat_natCast] at e1
      rw [dueV_at (by decide) (by decide) e1, if_pos (by decide), if_neg (by decide)] at q
      exact q
    · rw [dueV_out (by decide) (by decide) (by omega)] at q
      exact q
theorem ok_End_eaten (T : Txt K mg t) : FnOk P w K mg base CX0 1 t.f_End_eaten t.d_End_eaten ["self", "row", "at"] (spEat t.c_End (fun z => []) "end") := by
  refine T.F_End_eaten.ok sc_End_eaten (fun vs H Q E h => ?_) (fun cdv A outer s H vs Q E hr h => at_body ?_)
  · obtain ⟨p, dx, sg, row, i, rfl, _⟩ := h
    rfl
  · obtain ⟨p, dx, sg, row, i, rfl, hp, hs, hw, hi, q⟩ := h
    refine @at_one _ _ _ _ _ _ (ps_ret (pe_ifExp (pt_cmpR op_eq (pv 2) (pe_callB call_len_str (by rfl) T.z_len (by decide +kernel) (pa_cons (pv 1) pa_nil)) (nomark _)) pe_int pe_non)) ?_
    walk_at "rd"
    rw [dueV, if_pos rfl] at q
    refine ⟨sl_le (by omega), rfl, ifd (fun h => ?_) (fun h => ?_)⟩
    · rw [if_pos (by omega)] at q
      exact q
    · rw [if_neg (by omega)] at q
      exact q
theorem run_step {sg l : List Nat} {j c : Nat} (e : l[j]? = some c) : runL sg (l.drop j) = if c ∈ sg then 1 + runL sg (l.drop (j + 1)) else 0 := by
  have hdrop : l.drop j = c :: l.drop (j + 1) := by
    rw [List.drop_eq_getElem?_toList_append, e]; rfl
  rw [hdrop, runL]
theorem ok_Many_eaten (T : Txt K mg t) : FnOk P w K mg base CX0 1 t.f_Many_eaten t.d_Many_eaten ["self", "row", "at"] (spEat t.c_Many (fun z => [("signs", .str z)]) "many") := by
  refine T.F_Many_eaten.ok sc_Many_eaten (fun vs H Q E h => ?_) (fun cdv A outer s H vs Q E hr h => at_body ?_)
  · obtain ⟨p, dx, sg, row, i, rfl, _⟩ := h
    rfl
  · obtain ⟨p, dx, sg, row, i, rfl, hp, hs, hw, hi, q⟩ := h
    have q' : Q (if 0 < runL sg.cps.toList (row.cps.toList.drop i) then .int (runL sg.cps.toList (row.cps.toList.drop i)) else .non) H := by
      by_cases h : i < row.length
      · obtain ⟨c, e1, e2⟩ := strAt (row := row) (i := (i : Int)) (by omega) (by omega)
        rw [Int.toNat_natCast] at e1
        rw [dueV_at (by decide) (by decide) e1, if_neg (by decide), if_neg (by decide), if_pos rfl] at q
        rw [run_step e1]
        by_cases h2 : c ∈ sg.cps.toList
        · rw [if_pos h2] at q ⊢
          rw [if_pos (by omega)]
          exact q
        · rw [if_neg h2] at q ⊢
          exact q
      · rw [dueV_out (by decide) (by decide) (by omega)] at q
        have : row.cps.toList.drop i = [] := List.drop_eq_nil_of_le (by rw [getL (i := 0)]; omega)
        rw [this]
        exact q
    refine @at_cons _ _ _ _ _ _ _ (ps_set (i := 3) sc_Many_eaten.nd rfl (Or.inl rfl) (pv 2)) ?_
    walk_at "rd"
    refine at_consR (fun σ' H' => H' = H ∧ σ' = [some (.ref p), some (.str row), some (.int i), some (.int ((i : Int) + runL sg.cps.toList (row.cps.toList.drop i)))]) (ps_while PassesOwn.never (PW.pt (pw_and (pt_cmpR op_lt (pv 3) (pe_callB call_len_str (by rfl) T.z_len (by decide +kernel) (pa_cons (pv 1) pa_nil)) (nomark _)) (pw_and1 (pt_cmpR op_in_str (pe_ix ix_str (pv 1) (pv 3) (fun _ _ => rfl)) (pe_fld (pv 0) rfl) rfl)))) pss_at) ?_ ?_
    · refine ⟨fun m σ' H' => ∃ j : Nat, σ' = [some (.ref p), some (.str row), some (.int i), some (.int (j : Int))] ∧ H' = H ∧ j ≤ row.length ∧ m = row.length - j ∧ i + runL sg.cps.toList (row.cps.toList.drop i) = j + runL sg.cps.toList (row.cps.toList.drop j), ⟨_, i, rfl, rfl, hi, rfl, rfl⟩, ?_⟩
      rintro m σ' H' ⟨j, rfl, e, hj, rfl, hr⟩
      rw [e]
      clear e H'
      walk_at "rd"
      refine ⟨sl_le (by omega), ifd (fun h => ?_) (fun h => ?_)⟩
      · obtain ⟨c, e1, e2⟩ := strAt (row := row) (i := (j : Int)) (by omega) h
        rw [Int.toNat_natCast] at e1
        rw [run_step (j := j) e1] at hr
        refine ⟨sl_le (by omega), c, e2, ⟨_, rfl, _, _, _, _, _, rfl, hp, T.cl_Many, T.n_Many_signs, rfl, ⟨sg, rfl, ?_⟩⟩⟩
        rw [PySem.StrLaws.found_one]
        refine ifd (fun h2 => ?_) (fun h2 => ?_)
        · rw [if_pos h2] at hr
          refine ⟨_, fun σ' H' z => z, @at_one _ _ _ _ _ _ (ps_aug (i := 3) sc_Many_eaten.nd rfl (Or.inl rfl) pe_int ip_add) ?_⟩
          walk_at "rd"
          exact ⟨row.length - (j + 1), by omega, j + 1, by simp, by omega, rfl, by omega⟩
        · rw [if_neg h2] at hr
          refine ⟨rfl, ?_⟩
          rw [show (i : Int) + (runL sg.cps.toList (row.cps.toList.drop i) : Nat) = (j : Int) by omega]
      · have : row.cps.toList.drop j = [] := List.drop_eq_nil_of_le (by rw [getL (i := 0)]; omega)
        rw [this, runL] at hr
        omega
    rintro σ' H' ⟨e, rfl⟩
    rw [e]
    clear e H'
    refine @at_one _ _ _ _ _ _ (ps_ret (pe_ifExp (pt_cmpR op_gt (pv 3) (pv 2) (nomark _)) (pe_op op_sub (pv 3) (pv 2)) pe_non)) ?_
    walk_at "rd"
    refine ifd (fun h => ?_) (fun h => ?_)
    · rw [if_pos (by omega)] at q'
      rw [show (i : Int) + (runL sg.cps.toList (row.cps.toList.drop i) : Nat) - i = runL sg.cps.toList (row.cps.toList.drop i) by omega]
      exact q'
    · rw [if_neg (by omega)] at q'
      exact q'
def eatsB (sort : Str) : Bool := !decide (sort = "still" ∨ sort = "end")
structure PatK (P : Program) (w : World) (K : PySem.W.Frag) (mg : Str → Option Value) (base : Heap) (C fe fs : Addr) (de ds : FuncData) (sort : Str) (fl : Str → List (Str × V)) : Prop where
  cl : Cls K C
  me : Meth K C "eaten" fe
  ms : Meth K C "eats" fs
  ne : ∀ z, (fl z).lookup ("eaten" : Str) = none
  ns : ∀ z, (fl z).lookup ("eats" : Str) = none
  ge : FnOk P w K mg base CX0 1 fe de ["self", "row", "at"] (spEat C fl sort)
  be : Binds K de ["self", "row", "at"] []
  gs : FnOk P w K mg base CX0 1 fs ds ["self"] (spEats (eatsB sort))
  bs : Binds K ds ["self"] []
  ty : PySem.W.findIn K (.ref C) "__class__" = some (some (.builtin "object.__class__"))
  mr : PySem.W.mroIn K C (.type "object") = some true
theorem pk_Word (T : Txt K mg t) : PatK P w K mg base t.c_Word t.f_Word_eaten t.f_Word_eats t.d_Word_eaten t.d_Word_eats "word" (fun z => [("wanted", .str z)]) :=
  ⟨T.cl_Word, T.m_Word_eaten, T.m_Word_eats, fun _ => by rfl, fun _ => by rfl, ok_Word_eaten T, bd_Word_eaten T, by rw [show eatsB "word" = true by decide +kernel]; exact ok_Word_eats T, bd_Word_eats T, T.ty_Word, T.mr_Word⟩
theorem pk_One (T : Txt K mg t) : PatK P w K mg base t.c_One t.f_One_eaten t.f_One_eats t.d_One_eaten t.d_One_eats "one" (fun z => [("signs", .str z)]) :=
  ⟨T.cl_One, T.m_One_eaten, T.m_One_eats, fun _ => by rfl, fun _ => by rfl, ok_One_eaten T, bd_One_eaten T, by rw [show eatsB "one" = true by decide +kernel]; exact ok_One_eats T, bd_One_eats T, T.ty_One, T.mr_One⟩
theorem pk_Without (T : Txt K mg t) : PatK P w K mg base t.c_Without t.f_Without_eaten t.f_Without_eats t.d_Without_eaten t.d_Without_eats "none" (fun z => [("signs", .str z)]) :=
  ⟨T.cl_Without, T.m_Without_eaten, T.m_Without_eats, fun _ => by rfl, fun _ => by rfl, ok_Without_eaten T, bd_Without_eaten T, by rw [show eatsB "none" = true by decide +kernel]; exact ok_Without_eats T, bd_Without_eats T, T.ty_Without, T.mr_Without⟩
theorem pk_Many (T : Txt K mg t) : PatK P w K mg base t.c_Many t.f_Many_eaten t.f_Many_eats t.d_Many_eaten t.d_Many_eats "many" (fun z => [("signs", .str z)]) :=
  ⟨T.cl_Many, T.m_Many_eaten, T.m_Many_eats, fun _ => by rfl, fun _ => by rfl, ok_Many_eaten T, bd_Many_eaten T, by rw [show eatsB "many" = true by decide +kernel]; exact ok_Many_eats T, bd_Many_eats T, T.ty_Many, T.mr_Many⟩
theorem pk_Any (T : Txt K mg t) : PatK P w K mg base t.c_Any t.f_Any_eaten t.f_Any_eats t.d_Any_eaten t.d_Any_eats "any" (fun z => []) :=
  ⟨T.cl_Any, T.m_Any_eaten, T.m_Any_eats, fun _ => by rfl, fun _ => by rfl, ok_Any_eaten T, bd_Any_eaten T, by rw [show eatsB "any" = true by decide +kernel]; exact ok_Any_eats T, bd_Any_eats T, T.ty_Any, T.mr_Any⟩
theorem pk_Still (T : Txt K mg t) : PatK P w K mg base t.c_Still t.f_Still_eaten t.f_Pattern_eats t.d_Still_eaten t.d_Pattern_eats "still" (fun z => []) :=
  ⟨T.cl_Still, T.m_Still_eaten, T.m_Still_eats, fun _ => by rfl, fun _ => by rfl, ok_Still_eaten T, bd_Still_eaten T, by rw [show eatsB "still" = false by decide +kernel]; exact ok_Pattern_eats T, bd_Pattern_eats T, T.ty_Still, T.mr_Still⟩
theorem pk_End (T : Txt K mg t) : PatK P w K mg base t.c_End t.f_End_eaten t.f_Pattern_eats t.d_End_eaten t.d_Pattern_eats "end" (fun z => []) :=
  ⟨T.cl_End, T.m_End_eaten, T.m_End_eats, fun _ => by rfl, fun _ => by rfl, ok_End_eaten T, bd_End_eaten T, by rw [show eatsB "end" = false by decide +kernel]; exact ok_Pattern_eats T, bd_Pattern_eats T, T.ty_End, T.mr_End⟩

structure RuleM where
  sort : Str
  signs : Str
  colour : Str
  deed : Str
  goal : Option Nat
  fold : Str
structure ModeM where
  name : Str
  colour : Str
  rules : List RuleM
abbrev sorts : List Str := ["word", "one", "none", "many", "any", "still", "end"]
abbrev bare (s : Str) : Prop := s = "any" ∨ s = "still" ∨ s = "end"
def clsOf (t : Adr) (s : Str) : Addr := if s = "any" then t.c_Any else if s = "still" then t.c_Still else if s = "end" then t.c_End else if s = "word" then t.c_Word else if s = "one" then t.c_One else if s = "none" then t.c_Without else t.c_Many
def flOf (s z : Str) : List (Str × V) := if bare s then [] else if s = "word" then [("wanted", .str z)] else [("signs", .str z)]
theorem cls_any : clsOf t "any" = t.c_Any := by rw [clsOf, if_pos rfl]
theorem cls_still : clsOf t "still" = t.c_Still := by rw [clsOf, if_neg (by decide), if_pos rfl]
theorem cls_end : clsOf t "end" = t.c_End := by rw [clsOf, if_neg (by decide), if_neg (by decide), if_pos rfl]
theorem cls_word : clsOf t "word" = t.c_Word := by rw [clsOf, if_neg (by decide), if_neg (by decide), if_neg (by decide), if_pos rfl]
theorem cls_one : clsOf t "one" = t.c_One := by rw [clsOf, if_neg (by decide), if_neg (by decide), if_neg (by decide), if_neg (by decide), if_pos rfl]
theorem cls_none : clsOf t "none" = t.c_Without := by rw [clsOf, if_neg (by decide), if_neg (by decide), if_neg (by decide), if_neg (by decide), if_neg (by decide), if_pos rfl]
theorem cls_many : clsOf t "many" = t.c_Many := by rw [clsOf, if_neg (by decide), if_neg (by decide), if_neg (by decide), if_neg (by decide), if_neg (by decide), if_neg (by decide)]
theorem fl_any : flOf "any" = fun _ => [] := by funext z; rw [flOf, if_pos (by decide)]
theorem fl_still : flOf "still" = fun _ => [] := by funext z; rw [flOf, if_pos (by decide)]
theorem fl_end : flOf "end" = fun _ => [] := by funext z; rw [flOf, if_pos (by decide)]
theorem fl_word : flOf "word" = fun z => ([("wanted", .str z)] : List (Str × V)) := by funext z; rw [flOf, if_neg (by decide), if_pos rfl]
theorem fl_sg {s : Str} (h : ¬ bare s) (h2 : s ≠ "word") : flOf s = fun z => ([("signs", .str z)] : List (Str × V)) := by funext z; rw [flOf, if_neg h, if_neg h2]
theorem sorts_cases {s : Str} (h : s ∈ sorts) : s = "word" ∨ s = "one" ∨ s = "none" ∨ s = "many" ∨ s = "any" ∨ s = "still" ∨ s = "end" := by simpa using h
theorem patK (T : Txt K mg t) {s : Str} (h : s ∈ sorts) : ∃ fe fs de ds, PatK P w K mg base (clsOf t s) fe fs de ds s (flOf s) := by
  rcases sorts_cases h with rfl | rfl | rfl | rfl | rfl | rfl | rfl
  · rw [cls_word, fl_word]; exact ⟨_, _, _, _, pk_Word T⟩
  · rw [cls_one, fl_sg (by decide) (by decide)]; exact ⟨_, _, _, _, pk_One T⟩
  · rw [cls_none, fl_sg (by decide) (by decide)]; exact ⟨_, _, _, _, pk_Without T⟩
  · rw [cls_many, fl_sg (by decide) (by decide)]; exact ⟨_, _, _, _, pk_Many T⟩
  · rw [cls_any, fl_any]; exact ⟨_, _, _, _, pk_Any T⟩
  · rw [cls_still, fl_still]; exact ⟨_, _, _, _, pk_Still T⟩
  · rw [cls_end, fl_end]; exact ⟨_, _, _, _, pk_End T⟩
def IsPat (t : Adr) (H : Hp) (p : Addr) (s z : Str) : Prop := ∃ dx, H p = some (.ins (clsOf t s) dx (flOf s z))
def goalV : Option Nat → V
  | none => .non
  | some g => .int g
def rf (p : Addr) (R : RuleM) : List (Str × V) := [("pattern", .ref p), ("colour", .str R.colour), ("deed", .str R.deed), ("goal", goalV R.goal), ("fold", .str R.fold)]
def mf (M : ModeM) (l : Addr) : List (Str × V) := [("name", .str M.name), ("colour", .str M.colour), ("rules", .ref l)]
def IsRule (t : Adr) (H : Hp) (r : Addr) (R : RuleM) : Prop := ∃ dx p, H r = some (.ins t.c_Rule dx (rf p R)) ∧ IsPat t H p R.sort R.signs
theorem IsPat.same {H H' : Hp} {p : Addr} {s z : Str} (h : IsPat t H p s z) (e : Same H H') : IsPat t H' p s z := let ⟨dx, x⟩ := h; ⟨dx, e _ _ x⟩
theorem IsRule.same {H H' : Hp} {r : Addr} {R : RuleM} (h : IsRule t H r R) (e : Same H H') : IsRule t H' r R := let ⟨dx, p, x, y⟩ := h; ⟨dx, p, e _ _ x, y.same e⟩
/-- two lists, place by place -/
def All2 {α β : Type} (R : α → β → Prop) (as : List α) (bs : List β) : Prop := as.length = bs.length ∧ ∀ (i : Nat) a b, as[i]? = some a → bs[i]? = some b → R a b
theorem All2.nil {α β : Type} {R : α → β → Prop} : All2 R [] [] := ⟨rfl, fun i a b h => by simp at h⟩
theorem All2.mono {α β : Type} {R S : α → β → Prop} {as : List α} {bs : List β} (h : All2 R as bs) (f : ∀ a b, R a b → S a b) : All2 S as bs := ⟨h.1, fun i a b x y => f a b (h.2 i a b x y)⟩
theorem snoc_get {α : Type} {as : List α} {a x : α} {i : Nat} (h : (as ++ [a])[i]? = some x) : as[i]? = some x ∨ (i = as.length ∧ x = a) := by
  by_cases hi : i < as.length
  · rw [List.getElem?_append_left hi] at h; exact .inl h
  · rw [List.getElem?_append_right (by omega)] at h
    have : i - as.length = 0 := by
      cases e : i - as.length with
      | zero => rfl
      | succ n => rw [e] at h; simp at h
    rw [this] at h
    simp at h
    exact .inr ⟨by omega, h.symm⟩
theorem All2.snoc {α β : Type} {R : α → β → Prop} {as : List α} {bs : List β} {a : α} {b : β} (h : All2 R as bs) (r : R a b) : All2 R (as ++ [a]) (bs ++ [b]) := by
  refine ⟨by simp [h.1], fun i x y hx hy => ?_⟩
  have hl := h.1
  rcases snoc_get hx with h1 | ⟨e1, rfl⟩
  · rcases snoc_get hy with h2 | ⟨e2, rfl⟩
    · exact h.2 i x y h1 h2
    · have := (List.getElem?_eq_some_iff.mp h1).1; omega
  · rcases snoc_get hy with h2 | ⟨e2, rfl⟩
    · have := (List.getElem?_eq_some_iff.mp h2).1; omega
    · exact r
theorem All2.at {α β : Type} {R : α → β → Prop} {as : List α} {bs : List β} (h : All2 R as bs) {i : Nat} {b : β} (e : bs[i]? = some b) : ∃ a, as[i]? = some a ∧ R a b := by
  have hi := (List.getElem?_eq_some_iff.mp e).1
  have hi2 : i < as.length := by rw [h.1]; exact hi
  exact ⟨as[i], List.getElem?_eq_getElem hi2, h.2 i _ _ (List.getElem?_eq_getElem hi2) e⟩
/-- modes at their places: their objects, their rules' lists (each its own) -/
structure ModesAt (t : Adr) (H : Hp) (as ls : List Addr) (ms : List ModeM) : Prop where
  la : as.length = ms.length
  ll : ls.length = ms.length
  nd : ls.Nodup
  ob : ∀ (i : Nat) a l m, as[i]? = some a → ls[i]? = some l → ms[i]? = some m → ∃ dx rs, H a = some (.ins t.c_Mode dx (mf m l)) ∧ H l = some (.lst (rs.map V.ref)) ∧ All2 (IsRule t H) rs m.rules
theorem ModesAt.same {H H' : Hp} {as ls : List Addr} {ms : List ModeM} (h : ModesAt t H as ls ms) (e : Same H H') : ModesAt t H' as ls ms :=
  ⟨h.la, h.ll, h.nd, fun i a l m h1 h2 h3 => let ⟨dx, rs, x, y, z⟩ := h.ob i a l m h1 h2 h3; ⟨dx, rs, e _ _ x, e _ _ y, z.mono fun _ _ r => r.same e⟩⟩
def IsRules (t : Adr) (H : Hp) (a : Addr) (ms : List ModeM) : Prop := ∃ dx lm as ls, H a = some (.ins t.c_Rules dx [("modes", .ref lm)]) ∧ H lm = some (.lst (as.map V.ref)) ∧ ModesAt t H as ls ms
theorem IsRules.same {H H' : Hp} {a : Addr} {ms : List ModeM} (h : IsRules t H a ms) (e : Same H H') : IsRules t H' a ms := let ⟨dx, lm, as, ls, x, y, z⟩ := h; ⟨dx, lm, as, ls, e _ _ x, e _ _ y, z.same e⟩

theorem mk_same {H : Hp} {x dx : Addr} {o1 o2 o3 : HO} (h1 : H x = none) (h2 : H dx = none) : Same H (upd (upd (upd H dx o1) x o2) x o3) := fun b o e => by
  rw [upd_ne (ne_of_none e h1), upd_ne (ne_of_none e h1), upd_ne (ne_of_none e h2)]; exact e
theorem mk_same0 {H : Hp} {x dx : Addr} {o1 o2 : HO} (h1 : H x = none) (h2 : H dx = none) : Same H (upd (upd H dx o1) x o2) := fun b o e => by
  rw [upd_ne (ne_of_none e h1), upd_ne (ne_of_none e h2)]; exact e
def spRInit (t : Adr) : Sp := fun vs H Q _ => ∃ (x dx p : Addr) (R : RuleM), vs = [.ref x, .ref p, .str R.colour, .str R.deed, goalV R.goal, .str R.fold] ∧ H x = some (.ins t.c_Rule dx []) ∧ Q .non (upd H x (.ins t.c_Rule dx (rf p R)))
theorem ok_Rule___init__ (T : Txt K mg t) : FnOk P w K mg base CX0 1 t.f_Rule___init__ t.d_Rule___init__ ["self", "pattern", "colour", "deed", "goal", "fold"] (spRInit t) := by
  refine T.F_Rule___init__.ok sc_Rule___init__ (fun vs H Q E h => ?_) (fun cdv A outer s H vs Q E hr h => at_body ?_)
  · obtain ⟨x, dx, p, R, rfl, _⟩ := h
    rfl
  · obtain ⟨x, dx, p, R, rfl, hx, q⟩ := h
    refine @at_cons _ _ _ _ _ _ _ (ps_fld (pv 0) (pv 1) rfl) ⟨_, rfl, _, rfl, x, _, dx, [], rfl, hx, T.cl_Rule, T.n_Rule_pattern, by decide, ?_⟩
    refine @at_cons _ _ _ _ _ _ _ (ps_fld (pv 0) (pv 2) rfl) ⟨_, rfl, _, rfl, x, _, dx, [("pattern", .ref p)], rfl, upd_same, T.cl_Rule, T.n_Rule_colour, by show 1 < 1000; decide, ?_⟩
    refine @at_cons _ _ _ _ _ _ _ (ps_fld (pv 0) (pv 3) rfl) ⟨_, rfl, _, rfl, x, _, dx, [("pattern", .ref p), ("colour", .str R.colour)], rfl, upd_same, T.cl_Rule, T.n_Rule_deed, by show 2 < 1000; decide, ?_⟩
    refine @at_cons _ _ _ _ _ _ _ (ps_fld (pv 0) (pv 4) rfl) ⟨_, rfl, _, rfl, x, _, dx, [("pattern", .ref p), ("colour", .str R.colour), ("deed", .str R.deed)], rfl, upd_same, T.cl_Rule, T.n_Rule_goal, by show 3 < 1000; decide, ?_⟩
    refine @at_one _ _ _ _ _ _ (ps_fld (pv 0) (pv 5) rfl) ⟨_, rfl, _, rfl, x, _, dx, [("pattern", .ref p), ("colour", .str R.colour), ("deed", .str R.deed), ("goal", goalV R.goal)], rfl, upd_same, T.cl_Rule, T.n_Rule_fold, by show 4 < 1000; decide, ?_⟩
    rw [upd_upd, upd_upd, upd_upd, upd_upd]
    exact q
def spMInit (t : Adr) : Sp := fun vs H Q _ => ∃ (x dx l : Addr) (n c : Str) (rs : List V), vs = [.ref x, .str n, .str c, .ref l] ∧ H x = some (.ins t.c_Mode dx []) ∧ H l = some (.lst rs) ∧
  ∀ l2 H', H l2 = none → H' x = some (.ins t.c_Mode dx (mf ⟨n, c, []⟩ l2)) → H' l2 = some (.lst rs) → Adv H H' x → Q .non H'
theorem ok_Mode___init__ (T : Txt K mg t) : FnOk P w K mg base CX0 1 t.f_Mode___init__ t.d_Mode___init__ ["self", "name", "colour", "rules"] (spMInit t) := by
  refine T.F_Mode___init__.ok sc_Mode___init__ (fun vs H Q E h => ?_) (fun cdv A outer s H vs Q E hr h => at_body ?_)
  · obtain ⟨x, dx, l, n, c, rs, rfl, _⟩ := h
    rfl
  · obtain ⟨x, dx, l, n, c, rs, rfl, hx, hl, q⟩ := h
    have nlx : l ≠ x := ne_of hl hx (by intro z; cases z)
    refine @at_cons _ _ _ _ _ _ _ (ps_fld (pv 0) (pv 1) rfl) ⟨_, rfl, _, rfl, x, _, dx, [], rfl, hx, T.cl_Mode, T.n_Mode_name, by decide, ?_⟩
    refine @at_cons _ _ _ _ _ _ _ (ps_fld (pv 0) (pv 2) rfl) ⟨_, rfl, _, rfl, x, _, dx, [("name", .str n)], rfl, upd_same, T.cl_Mode, T.n_Mode_colour, by show 1 < 1000; decide, ?_⟩
    refine @at_one _ _ _ _ _ _ (ps_fld (pv 0) (pe_callTy call_list_of (by rfl) T.z_list (by decide +kernel) (pa_cons (pv 3) pa_nil)) rfl) ⟨_, rfl, l, rs, rfl, .inl (SqL.of (by rw [upd_ne nlx, upd_ne nlx]; exact hl)), fun l2 hl2 => ?_⟩
    have n2 : x ≠ l2 := ne_of_none upd_same hl2
    have hl0 : H l2 = none := by rw [upd_ne (Ne.symm n2), upd_ne (Ne.symm n2)] at hl2; exact hl2
    refine ⟨_, rfl, x, _, dx, [("name", .str n), ("colour", .str c)], rfl, by rw [upd_ne n2]; exact upd_same, T.cl_Mode, T.n_Mode_rules, by show 2 < 1000; decide, ?_⟩
    refine q l2 _ hl0 upd_same (by rw [upd_ne (Ne.symm n2)]; exact upd_same) fun b o hb nb => ?_
    rw [upd_ne nb, upd_ne (ne_of_none hb hl0), upd_ne nb, upd_ne nb]; exact hb
def spRsInit (t : Adr) : Sp := fun vs H Q _ => ∃ (x dx l : Addr) (rs : List V), vs = [.ref x, .ref l] ∧ H x = some (.ins t.c_Rules dx []) ∧ H l = some (.lst rs) ∧
  ∀ l2 H', H l2 = none → H' x = some (.ins t.c_Rules dx [("modes", .ref l2)]) → H' l2 = some (.lst rs) → Adv H H' x → Q .non H'
theorem ok_Rules___init__ (T : Txt K mg t) : FnOk P w K mg base CX0 1 t.f_Rules___init__ t.d_Rules___init__ ["self", "modes"] (spRsInit t) := by
  refine T.F_Rules___init__.ok sc_Rules___init__ (fun vs H Q E h => ?_) (fun cdv A outer s H vs Q E hr h => at_body ?_)
  · obtain ⟨x, dx, l, rs, rfl, _⟩ := h
    rfl
  · obtain ⟨x, dx, l, rs, rfl, hx, hl, q⟩ := h
    refine @at_one _ _ _ _ _ _ (ps_fld (pv 0) (pe_callTy call_list_of (by rfl) T.z_list (by decide +kernel) (pa_cons (pv 1) pa_nil)) rfl) ⟨_, rfl, l, rs, rfl, .inl (SqL.of hl), fun l2 hl2 => ?_⟩
    have n2 : x ≠ l2 := ne_of_none hx hl2
    refine ⟨_, rfl, x, _, dx, [], rfl, by rw [upd_ne n2]; exact hx, T.cl_Rules, T.n_Rules_modes, by decide, ?_⟩
    refine q l2 _ hl2 upd_same (by rw [upd_ne (Ne.symm n2)]; exact upd_same) fun b o hb nb => ?_
    rw [upd_ne nb, upd_ne (ne_of_none hb hl2)]; exact hb

abbrev patWords (s z : Str) : List Str := if bare s then [s] else [s, wSigns z]
structure GoodPat (s z : Str) : Prop where
  sort : s ∈ sorts
  nosg : bare s → z = ""
  sg : ¬ bare s → 1 ≤ z.length ∧ z.length ≤ 200 ∧ 95 ∉ z.cps.toList ∧ 10 ∉ z.cps.toList
theorem drop_cons {α : Type} {ws : List α} {i : Nat} {x : α} {r : List α} (h : ws.drop i = x :: r) : ws[i]? = some x ∧ ws.drop (i + 1) = r := by
  constructor
  · have := congrArg (fun l => l[0]?) h
    simpa [List.getElem?_drop] using this
  · rw [← List.drop_drop, h]; rfl
theorem pk_drop {ws : List Str} {i : Nat} {x : Str} {r : List Str} (h : ws.drop i = x :: r) : pk ws i = x := by
  unfold pk
  rw [List.getD_eq_getElem?_getD, (drop_cons h).1]
  rfl
theorem lt_drop {ws : List Str} {i : Nat} {x : Str} {r : List Str} (h : ws.drop i = x :: r) : i < ws.length := (List.getElem?_eq_some_iff.mp (drop_cons h).1).1
theorem nil_drop {ws : List Str} {i : Nat} (h : ws.drop i = []) : ws.length ≤ i := List.drop_eq_nil_iff.mp h
def spRdPat (t : Adr) : Sp := fun vs H Q _ => ∃ (p dx lw : Addr) (row : Int) (ws : List Str) (i : Nat) (s z : Str) (rest : List Str), vs = [.ref p] ∧ Cur t H p dx lw row ws i ∧ ws.drop i = patWords s z ++ rest ∧ GoodPat s z ∧
  ∀ a H' j, IsPat t H' a s z → Cur t H' p dx lw row ws j → ws.drop j = rest → Adv H H' p → Q (.ref a) H'
theorem ok_read_pattern (T : Txt K mg t) : FnOk P w K mg base CX0 5 t.f_read_pattern t.d_read_pattern ["cursor"] (spRdPat t) := by
  refine T.F_read_pattern.ok sc_read_pattern (fun vs H Q E h => ?_) (fun cdv A outer s H vs Q E hr h => at_body ?_)
  · obtain ⟨p, dx, lw, row, ws, i, s, z, rest, rfl, _⟩ := h
    rfl
  · obtain ⟨p, dx, lw, row, ws, i, s, z, rest, rfl, C, hd, G, q⟩ := h
    have hk : pk ws i = s := by
      by_cases hb : bare s
      · rw [patWords, if_pos hb] at hd; exact pk_drop hd
      · rw [patWords, if_neg hb] at hd; exact pk_drop hd
    refine @at_cons _ _ _ _ _ _ _ (ps_set (i := 1) sc_read_pattern.nd rfl (Or.inl rfl) (pe_meth (pv 0) T.cl_Cursor T.m_Cursor_take_choice (ok_Cursor_take_choice T) (hr.mono (by decide)) (bd_Cursor_take_choice T) .nil pass0 (pa_cons (pe_glob rfl T.mgv_PATTERNS (v := V.ref t.g_PATTERNS) rfl) pa_nil))) ⟨_, rfl, p, dx, _, rfl, C.ob, rfl, p, dx, lw, t.g_PATTERNS, sorts, row, ws, i, rfl, C, T.tv_PATTERNS _, by rw [hk]; exact G.sort, fun H1 C1 a1 => ?_⟩
    rw [hk]
    refine @at_cons _ _ _ _ _ _ _ (ps_if (pt_cmpR op_eq (pv 1) pe_str (nomark _)) pss_at pss_at) ⟨_, rfl, rfl, _, rfl, ifd (fun h => ?_) (fun h1 => at_nil ?_)⟩
    · have h := V.str.inj h
      subst h
      refine @at_one _ _ _ _ _ _ (ps_ret (pe_makeO T.mk_Any rfl T.mgc_Any)) fun x dx' nx ndx ne => ?_
      rw [patWords, if_pos (by decide)] at hd
      exact q x _ (i + 1) ⟨dx', by rw [cls_any, fl_any]; exact upd_same⟩ (C1.same (mk_same0 nx ndx)) (drop_cons hd).2 (a1.same (mk_same0 nx ndx))
    refine @at_cons _ _ _ _ _ _ _ (ps_if (pt_cmpR op_eq (pv 1) pe_str (nomark _)) pss_at pss_at) ⟨_, rfl, rfl, _, rfl, ifd (fun h => ?_) (fun h2 => at_nil ?_)⟩
    · have h := V.str.inj h
      subst h
      refine @at_one _ _ _ _ _ _ (ps_ret (pe_makeO T.mk_Still rfl T.mgc_Still)) fun x dx' nx ndx ne => ?_
      rw [patWords, if_pos (by decide)] at hd
      exact q x _ (i + 1) ⟨dx', by rw [cls_still, fl_still]; exact upd_same⟩ (C1.same (mk_same0 nx ndx)) (drop_cons hd).2 (a1.same (mk_same0 nx ndx))
    refine @at_cons _ _ _ _ _ _ _ (ps_if (pt_cmpR op_eq (pv 1) pe_str (nomark _)) pss_at pss_at) ⟨_, rfl, rfl, _, rfl, ifd (fun h => ?_) (fun h3 => at_nil ?_)⟩
    · have h := V.str.inj h
      subst h
      refine @at_one _ _ _ _ _ _ (ps_ret (pe_makeO T.mk_End rfl T.mgc_End)) fun x dx' nx ndx ne => ?_
      rw [patWords, if_pos (by decide)] at hd
      exact q x _ (i + 1) ⟨dx', by rw [cls_end, fl_end]; exact upd_same⟩ (C1.same (mk_same0 nx ndx)) (drop_cons hd).2 (a1.same (mk_same0 nx ndx))
    have nb : ¬ bare s := by
      rintro (e | e | e)
      · exact h1 (by rw [e])
      · exact h2 (by rw [e])
      · exact h3 (by rw [e])
    rw [patWords, if_neg nb] at hd
    have hd2 := (drop_cons hd).2
    obtain ⟨z1, z2, z3, z4⟩ := G.sg nb
    refine @at_cons _ _ _ _ _ _ _ (ps_set (i := 2) sc_read_pattern.nd rfl (Or.inl rfl) (pe_meth0 (pv 0) T.cl_Cursor T.m_Cursor_take_signs (ok_Cursor_take_signs T) (hr.mono (by decide)) (bd_Cursor_take_signs T) .nil pass0)) ⟨_, rfl, p, dx, _, rfl, C1.ob, rfl, p, dx, lw, row, ws, i + 1, z, rfl, C1, pk_drop hd2, z1, by omega, z3, fun H2 C2 a2 => ?_⟩
    have hd3 := (drop_cons hd2).2
    have a3 := a1.trans a2
    refine @at_cons _ _ _ _ _ _ _ (ps_if (pt_cmpR op_eq (pv 1) pe_str (nomark _)) pss_at pss_at) ⟨_, rfl, rfl, _, rfl, ifd (fun h => ?_) (fun h4 => at_nil ?_)⟩
    · have h := V.str.inj h
      subst h
      refine @at_one _ _ _ _ _ _ (ps_ret (pe_make T.mk_Word (ok_Word___init__ T) (hr.mono (by decide)) rfl T.mgc_Word (bd_Word___init__ T) .nil pass0 (pa_cons (pv 2) pa_nil))) ⟨_, rfl, fun x dx' nx ndx ne => ⟨x, dx', z, rfl, upd_same, rfl, ?_⟩⟩
      exact q x _ (i + 1 + 1) ⟨dx', by rw [cls_word, fl_word]; exact upd_same⟩ (C2.same (mk_same nx ndx)) hd3 (a3.same (mk_same nx ndx))
    refine @at_cons _ _ _ _ _ _ _ (ps_if (pt_cmpR op_eq (pv 1) pe_str (nomark _)) pss_at pss_at) ⟨_, rfl, rfl, _, rfl, ifd (fun h => ?_) (fun h5 => at_nil ?_)⟩
    · have h := V.str.inj h
      subst h
      refine @at_one _ _ _ _ _ _ (ps_ret (pe_make T.mk_One (ok_One___init__ T) (hr.mono (by decide)) rfl T.mgc_One (bd_One___init__ T) .nil pass0 (pa_cons (pv 2) pa_nil))) ⟨_, rfl, fun x dx' nx ndx ne => ⟨x, dx', z, rfl, upd_same, rfl, ?_⟩⟩
      exact q x _ (i + 1 + 1) ⟨dx', by rw [cls_one, fl_sg nb (by decide)]; exact upd_same⟩ (C2.same (mk_same nx ndx)) hd3 (a3.same (mk_same nx ndx))
    refine @at_cons _ _ _ _ _ _ _ (ps_if (pt_cmpR op_eq (pv 1) pe_str (nomark _)) pss_at pss_at) ⟨_, rfl, rfl, _, rfl, ifd (fun h => ?_) (fun h6 => at_nil ?_)⟩
    · have h := V.str.inj h
      subst h
      refine @at_one _ _ _ _ _ _ (ps_ret (pe_make T.mk_Without (ok_Without___init__ T) (hr.mono (by decide)) rfl T.mgc_Without (bd_Without___init__ T) .nil pass0 (pa_cons (pv 2) pa_nil))) ⟨_, rfl, fun x dx' nx ndx ne => ⟨x, dx', z, rfl, upd_same, rfl, ?_⟩⟩
      exact q x _ (i + 1 + 1) ⟨dx', by rw [cls_none, fl_sg nb (by decide)]; exact upd_same⟩ (C2.same (mk_same nx ndx)) hd3 (a3.same (mk_same nx ndx))
    have h : s = "many" := by
      rcases sorts_cases G.sort with e | e | e | e | e | e | e
      · exact absurd (by rw [e]) h4
      · exact absurd (by rw [e]) h5
      · exact absurd (by rw [e]) h6
      · exact e
      · exact absurd (by rw [e]) h1
      · exact absurd (by rw [e]) h2
      · exact absurd (by rw [e]) h3
    subst h
    refine @at_one _ _ _ _ _ _ (ps_ret (pe_make T.mk_Many (ok_Many___init__ T) (hr.mono (by decide)) rfl T.mgc_Many (bd_Many___init__ T) .nil pass0 (pa_cons (pv 2) pa_nil))) ⟨_, rfl, fun x dx' nx ndx ne => ⟨x, dx', z, rfl, upd_same, rfl, ?_⟩⟩
    exact q x _ (i + 1 + 1) ⟨dx', by rw [cls_many, fl_sg nb (by decide)]; exact upd_same⟩ (C2.same (mk_same nx ndx)) hd3 (a3.same (mk_same nx ndx))
def spRdGoal (t : Adr) : Sp := fun vs H Q _ => ∃ (p dx lw d : Addr) (nw : V) (row : Int) (ws : List Str) (i g : Nat) (kvs : List (Key × V)), vs = [.ref p, .ref d, nw] ∧ Cur t H p dx lw row ws i ∧ H d = some (.dK kvs) ∧ isName (pk ws i) = true ∧ valV kvs (.inr (pk ws i)) = some (.int g) ∧
  ∀ H', Cur t H' p dx lw row ws (i + 1) → Adv H H' p → Q (.int g) H'
theorem ok_read_goal (T : Txt K mg t) : FnOk P w K mg base CX0 5 t.f_read_goal t.d_read_goal ["cursor", "numbers", "nowhere"] (spRdGoal t) := by
  refine T.F_read_goal.ok sc_read_goal (fun vs H Q E h => ?_) (fun cdv A outer s H vs Q E hr h => at_body ?_)
  · obtain ⟨p, dx, lw, d, nw, row, ws, i, g, kvs, rfl, _⟩ := h
    rfl
  · obtain ⟨p, dx, lw, d, nw, row, ws, i, g, kvs, rfl, C, hd, hn, hv, q⟩ := h
    refine @at_cons _ _ _ _ _ _ _ (ps_set (i := 3) sc_read_goal.nd rfl (Or.inl rfl) (pe_tup (pa_cons (pe_fld (pv 0) rfl) (pa_cons (pe_fld (pv 0) rfl) pa_nil)))) ?_
    refine ⟨_, rfl, _, _, _, _, _, rfl, C.ob, T.cl_Cursor, T.n_Cursor_row, rfl, ?_⟩
    refine ⟨_, rfl, _, _, _, _, _, rfl, C.ob, T.cl_Cursor, T.n_Cursor_at, rfl, ?_⟩
    refine ⟨by show 2 ≤ sizeLine; decide, fun pt hpt => ?_⟩
    have s1 : Same H (upd H pt (.tup [.int row, .int i])) := Same.upd hpt
    have C1 := C.same s1
    refine @at_cons _ _ _ _ _ _ _ (ps_set (i := 4) sc_read_goal.nd rfl (Or.inl rfl) (pe_meth0 (pv 0) T.cl_Cursor T.m_Cursor_take_name (ok_Cursor_take_name T) (hr.mono (by decide)) (bd_Cursor_take_name T) .nil pass0)) ⟨_, rfl, p, dx, _, rfl, C1.ob, rfl, p, dx, lw, row, ws, i, rfl, C1, hn, fun H2 C2 a2 => ?_⟩
    have npd : d ≠ p := ne_of hd C.ob (by intro z; cases z)
    have hd2 : H2 d = some (.dK kvs) := a2 _ _ (s1 _ _ hd) npd
    refine @at_cons _ _ _ _ _ _ _ (ps_if (pt_cmp (pc_dnotin (hu_of hr) (pv 4) (pv 1))) pss_at pss_at) ⟨_, rfl, _, rfl, d, _, rfl, DGet.k (k := .inr (pk ws i)) hd2, _, rfl, ?_⟩
    rw [hv]
    refine iteF (at_nil ?_)
    refine @at_one _ _ _ _ _ _ (ps_ret (pe_dget1 (hu_of hr) (pv 1) (pv 4) ⟨rfl, rfl, rfl, rfl⟩)) ⟨_, rfl, d, rfl, .inl ⟨kvs, .inl hd2⟩, _, rfl, _, DGet.k (k := .inr (pk ws i)) hd2, ?_⟩
    rw [hv]
    exact q H2 C2 (s1.adv a2)
abbrev deeds : List Str := ["stay", "push", "pop", "into"]
abbrev going (d : Str) : Prop := d = "push" ∨ d = "into"
def goalW (names : List Str) : Option Nat → List Str
  | some g => [names.getD g ""]
  | none => []
theorem goalW_len {names : List Str} {g : Option Nat} : (goalW names g).length ≤ 1 := by cases g <;> simp [goalW]
def ruleWords (names : List Str) (R : RuleM) : List Str := patWords R.sort R.signs ++ ((if eatsB R.sort = true then [R.colour] else []) ++ ([R.deed] ++ (goalW names R.goal ++ if R.fold = "" then [] else [R.fold])))
structure GoodRule (names : List Str) (R : RuleM) : Prop where
  pat : GoodPat R.sort R.signs
  col : eatsB R.sort = true → isName R.colour = true
  col0 : eatsB R.sort = false → R.colour = ""
  deed : R.deed ∈ deeds
  goal : going R.deed → ∃ g, R.goal = some g ∧ g < names.length
  goal0 : ¬ going R.deed → R.goal = none
  fold : R.fold = "" ∨ R.fold = "open" ∨ R.fold = "close"
/-- the modes' numbers by their names -/
def numsOf (names : List Str) (kvs : List (Key × V)) : Prop := ∀ (g : Nat) n, names[g]? = some n → valV kvs (.inr n) = some (.int g)
def spRdRule (t : Adr) : Sp := fun vs H Q _ => ∃ (p dx lw d : Addr) (nw : V) (row : Int) (ws : List Str) (kvs : List (Key × V)) (names : List Str) (R : RuleM), vs = [.ref p, .ref d, nw] ∧ Cur t H p dx lw row ws 0 ∧ ws = ruleWords names R ∧ H d = some (.dK kvs) ∧ numsOf names kvs ∧
  (∀ n ∈ names, isName n = true) ∧ GoodRule names R ∧ ∀ r H', IsRule t H' r R → Adv H H' p → Q (.ref r) H'
theorem IsPat.adv {H H' : Hp} {p a dx lw : Addr} {row : Int} {ws : List Str} {i : Nat} {s z : Str} (h : IsPat t H a s z) (C : Cur t H p dx lw row ws i) (e : Adv H H' p) : IsPat t H' a s z := by
  obtain ⟨d, x⟩ := h
  refine ⟨d, e _ _ x (ne_of x C.ob fun q => ?_)⟩
  injection q with _ _ q
  unfold flOf cf at q
  split at q
  · cases q
  · split at q <;> simp at q
theorem ok_read_rule (T : Txt K mg t) : FnOk P w K mg base CX0 6 t.f_read_rule t.d_read_rule ["cursor", "numbers", "nowhere"] (spRdRule t) := by
  refine T.F_read_rule.ok sc_read_rule (fun vs H Q E h => ?_) (fun cdv A outer s H vs Q E hr h => at_body ?_)
  · obtain ⟨p, dx, lw, d, nw, row, ws, kvs, names, R, rfl, _⟩ := h
    rfl
  · obtain ⟨p, dx, lw, d, nw, row, ws, kvs, names, R, rfl, C, hws, hd, hnum, hnm, G, q⟩ := h
    have npd : d ≠ p := ne_of hd C.ob (by intro z; cases z)
    obtain ⟨fe, fs, de, ds, PK⟩ := patK (P := P) (w := w) (base := base) T G.pat.sort
    refine @at_cons _ _ _ _ _ _ _ (ps_set (i := 3) sc_read_rule.nd rfl (Or.inl rfl) (pe_call (ok_read_pattern T) (hr.mono (by decide)) rfl T.mg_read_pattern T.F_read_pattern.kp (bd_read_pattern T) .nil pass0 (pa_cons (pv 0) pa_nil))) ⟨_, rfl, p, dx, lw, row, ws, 0, R.sort, R.signs, _, rfl, C, by rw [List.drop_zero, hws, ruleWords], G.pat, fun pa H1 j1 hp1 C1 hd1 a1 => ?_⟩
    -- colour
    refine at_consR (fun σ' H' => ∃ j, σ' = [some (.ref p), some (.ref d), some nw, some (.ref pa), some (.str R.colour), none, none, none] ∧ Cur t H' p dx lw row ws j ∧ IsPat t H' pa R.sort R.signs ∧ Adv H H' p ∧
      ws.drop j = R.deed :: (goalW names R.goal ++ if R.fold = "" then [] else [R.fold])) (ps_set (i := 4) sc_read_rule.nd rfl (Or.inl rfl) (pe_ifExp (pt_val (pe_meth0 (pv 3) PK.cl PK.ms PK.gs (hr.mono (by decide)) PK.bs .nil pass0)) (pe_meth0 (pv 0) T.cl_Cursor T.m_Cursor_take_name (ok_Cursor_take_name T) (hr.mono (by decide)) (bd_Cursor_take_name T) .nil pass0) pe_str)) ?_ ?_
    · obtain ⟨dpa, hpa⟩ := hp1
      refine ⟨_, rfl, pa, dpa, _, rfl, hpa, PK.ns _, _, rfl, _, rfl, ifb (fun h => ?_) (fun h => ?_)⟩
      · rw [if_pos h] at hd1
        refine ⟨_, rfl, p, dx, _, rfl, C1.ob, rfl, p, dx, lw, row, ws, j1, rfl, C1, by rw [pk_drop hd1]; exact G.col h, fun H2 C2 a2 => ?_⟩
        rw [pk_drop hd1]
        exact ⟨j1 + 1, rfl, C2, IsPat.adv ⟨dpa, hpa⟩ C1 a2, a1.trans a2, (drop_cons hd1).2⟩
      · rw [h, if_neg (by decide)] at hd1
        rw [G.col0 h]
        exact ⟨j1, rfl, C1, ⟨dpa, hpa⟩, a1, hd1⟩
    rintro σ' H2 ⟨j2, rfl, C2, hp2, a2, hd2⟩
    refine @at_cons _ _ _ _ _ _ _ (ps_set (i := 5) sc_read_rule.nd rfl (Or.inl rfl) (pe_meth (pv 0) T.cl_Cursor T.m_Cursor_take_choice (ok_Cursor_take_choice T) (hr.mono (by decide)) (bd_Cursor_take_choice T) .nil pass0 (pa_cons (pe_glob rfl T.mgv_DEEDS (v := V.ref t.g_DEEDS) rfl) pa_nil))) ⟨_, rfl, p, dx, _, rfl, C2.ob, rfl, p, dx, lw, t.g_DEEDS, deeds, row, ws, j2, rfl, C2, T.tv_DEEDS _, by rw [pk_drop hd2]; exact G.deed, fun H3 C3 a3 => ?_⟩
    rw [pk_drop hd2]
    have hp3 := hp2.adv C2 a3
    have a3 := a2.trans a3
    have hd3 := (drop_cons hd2).2
    -- goal
    refine at_consR (fun σ' H' => ∃ j, σ' = [some (.ref p), some (.ref d), some nw, some (.ref pa), some (.str R.colour), some (.str R.deed), some (goalV R.goal), none] ∧ Cur t H' p dx lw row ws j ∧ IsPat t H' pa R.sort R.signs ∧ Adv H H' p ∧
      ws.drop j = if R.fold = "" then [] else [R.fold]) (ps_set (i := 6) sc_read_rule.nd rfl (Or.inl rfl) (pe_ifExp (pt_cmpR op_in_seq (pv 5) (pe_glob rfl T.mgv_GOING (v := V.ref t.g_GOING) rfl) rfl) (pe_call (ok_read_goal T) (hr.mono (by decide)) rfl T.mg_read_goal T.F_read_goal.kp (bd_read_goal T) .nil pass0 (pa_cons (pv 0) (pa_cons (pv 1) (pa_cons (pv 2) pa_nil)))) pe_non)) ?_ ?_
    · refine ⟨_, rfl, _, _, rfl, .inr (T.tv_GOING _), rfl, rfl, _, rfl, ?_⟩
      rw [show ([.str "push", .str "into"] : List V) = (["push", "into"] : List Str).map V.str from rfl, inV_strs]
      refine ifd (fun h => ?_) (fun h => ?_)
      · have h : going R.deed := by simpa using h
        obtain ⟨g, eg, hg⟩ := G.goal h
        rw [eg] at hd3 ⊢
        have e := pk_drop hd3
        have hgn : names[g]? = some (names.getD g "") := by simp [hg]
        have hv := hnum g _ hgn
        have hin : isName (names.getD g "") = true := hnm _ (List.mem_of_getElem? hgn)
        refine ⟨_, rfl, _, rfl, _, rfl, p, dx, lw, d, nw, row, ws, j2 + 1, g, kvs, rfl, C3, a3 _ _ hd npd, by rw [e]; exact hin, by rw [e]; exact hv, fun H4 C4 a4 => ?_⟩
        exact ⟨_, rfl, C4, hp3.adv C3 a4, a3.trans a4, (drop_cons hd3).2⟩
      · have h : ¬ going R.deed := by simpa using h
        rw [G.goal0 h] at hd3 ⊢
        exact ⟨_, rfl, C3, hp3, a3, hd3⟩
    rintro σ' H4 ⟨j4, rfl, C4, hp4, a4, hd4⟩
    -- fold
    refine at_consR (fun σ' H' => ∃ j, σ' = [some (.ref p), some (.ref d), some nw, some (.ref pa), some (.str R.colour), some (.str R.deed), some (goalV R.goal), some (.str R.fold)] ∧ Cur t H' p dx lw row ws j ∧ IsPat t H' pa R.sort R.signs ∧ Adv H H' p ∧
      ws.drop j = []) (ps_set (i := 7) sc_read_rule.nd rfl (Or.inl rfl) (pe_ifExp (pt_val (pe_meth0 (pv 0) T.cl_Cursor T.m_Cursor_more (ok_Cursor_more T) (hr.mono (by decide)) (bd_Cursor_more T) .nil pass0)) (pe_meth (pv 0) T.cl_Cursor T.m_Cursor_take_choice (ok_Cursor_take_choice T) (hr.mono (by decide)) (bd_Cursor_take_choice T) .nil pass0 (pa_cons (pe_glob rfl T.mgv_FOLDS (v := V.ref t.g_FOLDS) rfl) pa_nil)) pe_str)) ?_ ?_
    · refine ⟨_, rfl, p, dx, _, rfl, C4.ob, rfl, p, dx, lw, row, ws, j4, rfl, C4, _, rfl, ifd (fun h => ?_) (fun h => ?_)⟩
      · have hf : R.fold ≠ "" := fun z => by rw [if_pos z] at hd4; have := nil_drop hd4; omega
        rw [if_neg hf] at hd4
        refine ⟨_, rfl, p, dx, _, rfl, C4.ob, rfl, p, dx, lw, t.g_FOLDS, ["open", "close"], row, ws, j4, rfl, C4, T.tv_FOLDS _, ?_, fun H5 C5 a5 => ?_⟩
        · rw [pk_drop hd4]
          rcases G.fold with z | z | z
          · exact absurd z hf
          · rw [z]; decide
          · rw [z]; decide
        · rw [pk_drop hd4]
          exact ⟨_, rfl, C5, hp4.adv C4 a5, a4.trans a5, (drop_cons hd4).2⟩
      · have hf : R.fold = "" := by
          by_cases z : R.fold = ""
          · exact z
          · rw [if_neg z] at hd4; exact absurd (lt_drop hd4) h
        rw [if_pos hf] at hd4
        rw [hf]
        exact ⟨_, rfl, C4, hp4, a4, hd4⟩
    rintro σ' H5 ⟨j5, rfl, C5, hp5, a5, hd5⟩
    have hj5 := nil_drop hd5
    refine @at_cons _ _ _ _ _ _ _ (ps_expr (pe_meth (pv 0) T.cl_Cursor T.m_Cursor_ask (ok_Cursor_ask T) (hr.mono (by decide)) (bd_Cursor_ask T) .nil pass0 (pa_cons (pe_not (pe_meth0 (pv 0) T.cl_Cursor T.m_Cursor_more (ok_Cursor_more T) (hr.mono (by decide)) (bd_Cursor_more T) .nil pass0)) pa_nil))) ⟨_, rfl, p, dx, _, rfl, C5.ob, rfl, ⟨_, rfl, p, dx, _, rfl, C5.ob, rfl, p, dx, lw, row, ws, j5, rfl, C5, _, rfl, ?_⟩⟩
    rw [decide_eq_false (by omega)]
    refine ⟨_, rfl, ?_⟩
    refine @at_one _ _ _ _ _ _ (ps_ret (pe_make T.mk_Rule (ok_Rule___init__ T) (hr.mono (by decide)) rfl T.mgc_Rule (bd_Rule___init__ T) .nil pass0 (pa_cons (pv 3) (pa_cons (pv 4) (pa_cons (pv 5) (pa_cons (pv 6) (pa_cons (pv 7) pa_nil))))))) ⟨_, rfl, _, rfl, _, rfl, _, rfl, _, rfl, fun x dx' nx ndx ne => ⟨x, dx', pa, R, rfl, upd_same, rfl, ?_⟩⟩
    exact q x _ ⟨dx', pa, upd_same, hp5.same (mk_same nx ndx)⟩ (a5.same (mk_same nx ndx))
end
section
variable {P : Program} {w : World} {K : PySem.W.Frag} {mg : Str → Option Value} {base : Heap} {t : Adr}
inductive Item where
  | mode (n c : Str)
  | rule (R : RuleM)
def Item.words (names : List Str) : Item → List Str
  | .mode n c => ["mode", n, c]
  | .rule R => ruleWords names R
def rowOf (names : List Str) (it : Item) : Str := Str.join ⟨#[32]⟩ (it.words names)
def addRule (R : RuleM) : List ModeM → List ModeM
  | [] => []
  | [m] => [{ m with rules := m.rules ++ [R] }]
  | m :: n :: r => m :: addRule R (n :: r)
def stepI (ms : List ModeM) : Item → List ModeM
  | .mode n c => ms ++ [⟨n, c, []⟩]
  | .rule R => addRule R ms
def foldI (its : List Item) : List ModeM := its.foldl stepI []
def nameI : Item → List Str
  | .mode n _ => [n]
  | .rule _ => []
def namesOf (its : List Item) : List Str := its.flatMap nameI
structure GoodItems (its : List Item) : Prop where
  ne : its ≠ []
  mode : ∀ (i : Nat) n c, its[i]? = some (.mode n c) → isName n = true ∧ isName c = true ∧ (namesOf (its.take i)).length < 12 ∧ n ∉ namesOf (its.take i)
  rule : ∀ (i : Nat) R, its[i]? = some (.rule R) → GoodRule (namesOf its) R ∧ ∃ ms m, foldI (its.take i) = ms ++ [m] ∧ m.rules.length < 12
theorem addRule_snoc (R : RuleM) (m : ModeM) : ∀ ms : List ModeM, addRule R (ms ++ [m]) = ms ++ [{ m with rules := m.rules ++ [R] }]
  | [] => rfl
  | [x] => rfl
  | x :: y :: r => by
    show x :: addRule R (y :: r ++ [m]) = _
    rw [addRule_snoc R m (y :: r)]
    rfl
theorem addRule_names (R : RuleM) : ∀ ms : List ModeM, (addRule R ms).map (·.name) = ms.map (·.name)
  | [] => rfl
  | [x] => rfl
  | x :: y :: r => by
    show x.name :: (addRule R (y :: r)).map (·.name) = _
    rw [addRule_names R (y :: r)]
    rfl
theorem take_snoc {α : Type} {l : List α} {i : Nat} {x : α} (h : l[i]? = some x) : l.take (i + 1) = l.take i ++ [x] := by rw [List.take_succ, h]; rfl
theorem foldI_snoc (its : List Item) (it : Item) : foldI (its ++ [it]) = stepI (foldI its) it := by unfold foldI; rw [List.foldl_append]; rfl
theorem namesOf_app (a b : List Item) : namesOf (a ++ b) = namesOf a ++ namesOf b := by unfold namesOf; rw [List.flatMap_append]
theorem names_fold_aux : ∀ (its : List Item) (ms : List ModeM), (its.foldl stepI ms).map (·.name) = ms.map (·.name) ++ namesOf its
  | [], ms => by simp [namesOf]
  | .mode n c :: r, ms => by
    rw [List.foldl_cons, names_fold_aux r]
    simp [stepI, namesOf, nameI]
  | .rule R :: r, ms => by
    rw [List.foldl_cons, names_fold_aux r]
    simp [stepI, namesOf, nameI, addRule_names]
theorem names_fold (its : List Item) : (foldI its).map (·.name) = namesOf its := by
  unfold foldI; rw [names_fold_aux]; rfl
structure GoodWord (x : Str) : Prop where
  b : 32 ∉ x.cps.toList
  n : 10 ∉ x.cps.toList
  l : x.length ≤ 202
theorem len_cps (x : Str) : x.cps.toList.length = x.length := by simp [Str.length]
theorem name_word {x : Str} (h : isName x = true) : GoodWord x := by
  unfold isName at h
  simp only [Bool.and_eq_true, decide_eq_true_eq, List.all_eq_true] at h
  obtain ⟨⟨h1, h2⟩, h3⟩ := h
  refine ⟨fun z => ?_, fun z => ?_, by omega⟩
  · exact absurd (h3 _ z) (by decide +kernel)
  · exact absurd (h3 _ z) (by decide +kernel)
theorem wSigns_word {z : Str} (h : z.length ≤ 200) (h2 : 10 ∉ z.cps.toList) : GoodWord (wSigns z) := by
  refine ⟨fun y => ?_, fun y => ?_, ?_⟩
  · rw [wSigns_cps] at y
    rcases List.mem_cons.mp y with y | y
    · exact absurd y (by decide)
    · unfold subL at y
      obtain ⟨c, _, e⟩ := List.mem_map.mp y
      split at e <;> omega
  · rw [wSigns_cps] at y
    rcases List.mem_cons.mp y with y | y
    · exact absurd y (by decide)
    · unfold subL at y
      obtain ⟨c, hc, e⟩ := List.mem_map.mp y
      split at e
      · omega
      · exact h2 (e ▸ hc)
  · have := congrArg List.length (wSigns_cps z)
    rw [len_cps, List.length_cons, subL, List.length_map, len_cps] at this
    omega
theorem sort_word {s : Str} (h : s ∈ sorts) : GoodWord s ∧ s ≠ "mode" := by
  rcases sorts_cases h with rfl | rfl | rfl | rfl | rfl | rfl | rfl <;> exact ⟨⟨by decide +kernel, by decide +kernel, by decide +kernel⟩, by decide +kernel⟩
theorem pat_words {s z : Str} (G : GoodPat s z) : ∀ x ∈ patWords s z, GoodWord x := by
  intro x hx
  unfold patWords at hx
  split at hx
  · rw [List.mem_singleton.mp hx]; exact (sort_word G.sort).1
  · rename_i hb
    obtain ⟨z1, z2, z3, z4⟩ := G.sg hb
    rcases List.mem_cons.mp hx with e | e
    · rw [e]; exact (sort_word G.sort).1
    · rw [List.mem_singleton.mp e]; exact wSigns_word z2 z4
theorem rule_words {names : List Str} {R : RuleM} (hn : ∀ n ∈ names, isName n = true) (G : GoodRule names R) : ∀ x ∈ ruleWords names R, GoodWord x := by
  intro x hx
  unfold ruleWords at hx
  simp only [List.mem_append] at hx
  rcases hx with hx | hx | hx | hx | hx
  · exact pat_words G.pat x hx
  · split at hx
    · rename_i h; rw [List.mem_singleton.mp hx]; exact name_word (G.col h)
    · cases hx
  · rw [List.mem_singleton.mp hx]
    have := G.deed
    simp only [List.mem_cons, List.not_mem_nil, or_false] at this
    rcases this with e | e | e | e <;> rw [e] <;> exact ⟨by decide +kernel, by decide +kernel, by decide +kernel⟩
  · cases e : R.goal with
    | some g =>
      rw [e] at hx
      rw [List.mem_singleton.mp hx]
      have hg : g < names.length := by
        by_cases h : going R.deed
        · obtain ⟨g', e', h'⟩ := G.goal h
          rw [e] at e'; cases e'; exact h'
        · rw [G.goal0 h] at e; cases e
      refine name_word (hn _ ?_)
      have : names.getD g "" = names[g] := by simp [hg]
      rw [this]; exact List.getElem_mem hg
    | none => rw [e] at hx; cases hx
  · split at hx
    · cases hx
    · rw [List.mem_singleton.mp hx]
      rcases G.fold with e | e | e <;> rw [e] <;> exact ⟨by decide +kernel, by decide +kernel, by decide +kernel⟩
theorem pat_len {s z : Str} : 1 ≤ (patWords s z).length ∧ (patWords s z).length ≤ 2 := by
  unfold patWords
  split
  · exact ⟨by show 1 ≤ 1; decide, by show 1 ≤ 2; decide⟩
  · exact ⟨by show 1 ≤ 2; decide, by show 2 ≤ 2; decide⟩
theorem rule_len {names : List Str} {R : RuleM} : 1 ≤ (ruleWords names R).length ∧ (ruleWords names R).length ≤ 7 := by
  have h1 := pat_len (s := R.sort) (z := R.signs)
  have h2 : (if eatsB R.sort = true then [R.colour] else []).length ≤ 1 := by split <;> simp
  have h3 := goalW_len (names := names) (g := R.goal)
  have h4 : (if R.fold = "" then [] else [R.fold]).length ≤ 1 := by split <;> simp
  unfold ruleWords
  simp only [List.length_append, List.length_cons, List.length_nil]
  omega
theorem good_names {its : List Item} (G : GoodItems its) : ∀ n ∈ namesOf its, isName n = true := by
  intro n hn
  unfold namesOf at hn
  obtain ⟨it, h1, h2⟩ := List.mem_flatMap.mp hn
  obtain ⟨i, h3⟩ := List.mem_iff_getElem?.mp h1
  cases it with
  | mode a c =>
    have e : n = a := List.mem_singleton.mp h2
    rw [e]
    exact (G.mode i a c h3).1
  | rule R => cases h2
theorem item_words {its : List Item} (G : GoodItems its) {i : Nat} {it : Item} (h : its[i]? = some it) : (∀ x ∈ it.words (namesOf its), GoodWord x) ∧ it.words (namesOf its) ≠ [] ∧ (it.words (namesOf its)).length ≤ 7 := by
  cases it with
  | mode n c =>
    obtain ⟨h1, h2, _⟩ := G.mode i n c h
    refine ⟨fun x hx => ?_, by simp [Item.words], by simp [Item.words]⟩
    simp only [Item.words, List.mem_cons, List.not_mem_nil, or_false] at hx
    rcases hx with e | e | e
    · rw [e]; exact ⟨by decide +kernel, by decide +kernel, by decide +kernel⟩
    · rw [e]; exact name_word h1
    · rw [e]; exact name_word h2
  | rule R =>
    obtain ⟨h1, _⟩ := G.rule i R h
    have hl := rule_len (names := namesOf its) (R := R)
    exact ⟨rule_words (good_names G) h1, fun z => by simp only [Item.words] at z; rw [z] at hl; simp at hl, hl.2⟩
theorem mem_joinL {c d : Nat} (hcd : d ≠ c) : ∀ {ps : List (List Nat)}, (∀ p ∈ ps, d ∉ p) → d ∉ joinL c ps
  | [], _, z => by cases z
  | [x], h, z => h x (by simp) z
  | x :: y :: r, h, z => by
    unfold joinL at z
    rcases List.mem_append.mp z with z | z
    · exact h x (by simp) z
    · rcases List.mem_cons.mp z with z | z
      · exact hcd z
      · exact mem_joinL hcd (fun p hp => h p (List.mem_cons_of_mem _ hp)) z
theorem len_joinL {c m : Nat} : ∀ {ps : List (List Nat)}, (∀ p ∈ ps, p.length ≤ m) → (joinL c ps).length ≤ ps.length * (m + 1)
  | [], _ => by simp [joinL]
  | [x], h => by have := h x (by simp); simp [joinL]; omega
  | x :: y :: r, h => by
    have h1 := h x (by simp)
    have h2 := len_joinL (c := c) (ps := y :: r) (fun p hp => h p (List.mem_cons_of_mem _ hp))
    unfold joinL
    rw [List.length_append, List.length_cons, List.length_cons, Nat.succ_mul]
    omega
theorem row_good {its : List Item} (G : GoodItems its) {i : Nat} {it : Item} (h : its[i]? = some it) : 10 ∉ (rowOf (namesOf its) it).cps.toList ∧ (rowOf (namesOf its) it).length ≤ 1421 ∧ PySem.Txt.split (rowOf (namesOf its) it) ⟨#[32]⟩ = it.words (namesOf its) := by
  obtain ⟨h1, h2, h3⟩ := item_words G h
  refine ⟨?_, ?_, split_join h2 fun p hp => (h1 p hp).b⟩
  · unfold rowOf
    rw [join_cps]
    refine mem_joinL (by decide) fun p hp => ?_
    obtain ⟨x, hx, rfl⟩ := List.mem_map.mp hp
    exact (h1 x hx).n
  · have h4 := len_joinL (c := 32) (m := 202) (ps := (it.words (namesOf its)).map fun p => p.cps.toList) (fun p hp => by
      obtain ⟨x, hx, rfl⟩ := List.mem_map.mp hp
      rw [len_cps]; exact (h1 x hx).l)
    rw [← join_cps, len_cps, List.length_map] at h4
    unfold rowOf
    omega
def rowsOf (its : List Item) : List Str := its.map (rowOf (namesOf its))
theorem rows_at {its : List Item} {i : Nat} {x : Str} (h : (rowsOf its)[i]? = some x) : ∃ it, its[i]? = some it ∧ x = rowOf (namesOf its) it := by
  unfold rowsOf at h
  rw [List.getElem?_map] at h
  obtain ⟨it, h1, h2⟩ := Option.map_eq_some_iff.mp h
  exact ⟨it, h1, h2.symm⟩
theorem rows_split {its : List Item} (G : GoodItems its) : PySem.Txt.split (Str.join ⟨#[10]⟩ (rowsOf its)) ⟨#[10]⟩ = rowsOf its := by
  refine split_join (by unfold rowsOf; simpa using G.ne) fun p hp => ?_
  obtain ⟨i, h⟩ := List.mem_iff_getElem?.mp hp
  obtain ⟨it, h1, rfl⟩ := rows_at h
  exact (row_good G h1).1
theorem text_len {its : List Item} (G : GoodItems its) (hl : its.length ≤ 200) : (Str.join ⟨#[10]⟩ (rowsOf its)).length ≤ 300000 := by
  have h4 := len_joinL (c := 10) (m := 1421) (ps := (rowsOf its).map fun p => p.cps.toList) (fun p hp => by
    obtain ⟨x, hx, rfl⟩ := List.mem_map.mp hp
    obtain ⟨i, h⟩ := List.mem_iff_getElem?.mp hx
    obtain ⟨it, h1, rfl⟩ := rows_at h
    rw [len_cps]; exact (row_good G h1).2.1)
  rw [← join_cps, len_cps, List.length_map, rowsOf, List.length_map] at h4
  unfold rowsOf
  omega
structure Nums (names : List Str) (kvs : List (Key × V)) : Prop where
  has : numsOf names kvs
  not : ∀ n, n ∉ names → valV kvs (.inr n) = none
  len : kvs.length = names.length
theorem Nums.nil : Nums [] [] := ⟨fun g n h => by simp at h, fun _ _ => rfl, rfl⟩
theorem Nums.put {names : List Str} {kvs : List (Key × V)} {n : Str} (N : Nums names kvs) (h : n ∉ names) : Nums (names ++ [n]) (putK kvs (.inr n) (.int names.length)) := by
  refine ⟨fun g m e => ?_, fun m hm => ?_, ?_⟩
  · rw [valV_put]
    rcases snoc_get e with e | ⟨e1, e2⟩
    · have : m ≠ n := fun z => h (z ▸ List.mem_of_getElem? e)
      rw [if_neg (fun z => this (Sum.inr.inj z))]
      exact N.has g m e
    · rw [e2, if_pos rfl, e1]
  · rw [valV_put, if_neg (fun z => hm (by rw [Sum.inr.inj z]; simp))]
    exact N.not m fun z => hm (List.mem_append_left _ z)
  · unfold putK
    rw [valV_any, N.not n h, if_neg (by decide), List.length_append, List.length_append, N.len]
    rfl
def spNums : Sp := fun vs H Q _ => ∃ (a : Addr) (its : List Item), vs = [.ref a] ∧ H a = some (.lst ((rowsOf its).map V.str)) ∧ GoodItems its ∧ its.length ≤ 200 ∧
  ∀ d kvs H', H' d = some (.dK kvs) → Nums (namesOf its) kvs → Same H H' → Q (.ref d) H'
theorem first_word {names : List Str} {R : RuleM} (G : GoodRule names R) : ∃ x r, ruleWords names R = x :: r ∧ x ≠ "mode" := by
  unfold ruleWords patWords
  split
  · exact ⟨R.sort, _, rfl, (sort_word G.pat.sort).2⟩
  · exact ⟨R.sort, _, rfl, (sort_word G.pat.sort).2⟩
theorem ok_mode_numbers (T : Txt K mg t) : FnOk P w K mg base CX0 1 t.f_mode_numbers t.d_mode_numbers ["rows"] spNums := by
  refine T.F_mode_numbers.ok sc_mode_numbers (fun vs H Q E h => ?_) (fun cdv A outer s H vs Q E hr h => at_body ?_)
  · obtain ⟨a, its, rfl, _⟩ := h
    rfl
  · obtain ⟨a, its, rfl, ha, G, hlen, q⟩ := h
    have sp1 : (" " : Str) = ⟨#[32]⟩ := by decide +kernel
    refine @at_cons _ _ _ _ _ _ _ (ps_set (i := 1) sc_mode_numbers.nd rfl (Or.inl rfl) pe_dnewK) fun d hd => ?_
    refine @at_consR _ _ _ _ _ _ _ (fun σ' H' => ∃ x y kvs, σ' = [some (.ref a), some (.ref d), x, y] ∧ H' d = some (.dK kvs) ∧ Nums (namesOf its) kvs ∧ Same H H') (ps_forA PassesOwn.never rfl (pi_list (pv 0)) (pg_name (i := 2) sc_mode_numbers.nd rfl (Or.inl rfl)) pss_at) ?_ ?_
    · refine ⟨_, rfl, a, rfl, ⟨_, SqL.of (by rw [upd_ne (ne_of_none ha hd)]; exact ha)⟩, forW_list (xs := (rowsOf its).map V.str) (fun i σ' H' => ∃ x y kvs, σ' = [some (.ref a), some (.ref d), x, y] ∧ H' d = some (.dK kvs) ∧ Nums (namesOf (its.take i)) kvs ∧ Same H H') ⟨_, _, [], rfl, upd_same, Nums.nil, Same.upd hd⟩ ?_ ?_ ?_⟩
      · rintro i σ' H' _ ⟨x, y, kvs, rfl, h1, h2, h3⟩
        exact SqL.of (h3 _ _ ha)
      · rintro i xv σ' H1 hx ⟨x, y, kvs, rfl, h1, h2, s1⟩
        rw [List.getElem?_map] at hx
        obtain ⟨row, hrow, rfl⟩ := Option.map_eq_some_iff.mp hx
        obtain ⟨it, hit, rfl⟩ := rows_at hrow
        obtain ⟨g1, g2, g3⟩ := row_good G hit
        refine @at_cons _ _ _ _ _ _ _ (ps_set (i := 3) sc_mode_numbers.nd rfl (Or.inl rfl) (pe_bm PySem.F.plainAttrs_str PySem.F.slot_str_split PySem.F.type_str_split mt_split (pv 2) (pa_cons pe_str pa_nil))) ⟨_, rfl, rfl, _, _, rfl, rfl, by decide, sl_le (by omega), fun lw hlw => ?_⟩
        rw [sp1, g3]
        have s2 : Same H1 (upd H1 lw (.lst ((it.words (namesOf its)).map V.str))) := Same.upd hlw
        have hw : upd H1 lw (.lst ((it.words (namesOf its)).map V.str)) lw = some (.lst ((it.words (namesOf its)).map V.str)) := upd_same
        have hd2 := s2 _ _ h1
        generalize upd H1 lw (.lst ((it.words (namesOf its)).map V.str)) = H2 at s2 hw hd2
        cases it with
        | mode n c =>
          obtain ⟨m1, m2, m3, m4⟩ := G.mode i n c hit
          refine @at_one _ _ _ _ _ _ (ps_if (PW.pt (pw_and (pt_cmpR op_eq (pe_ix ix_list (pv 3) pe_int (fun _ _ => rfl)) pe_str (nomark _)) (pw_and1 (pt_cmpR op_gt (pe_callB call_len_seq (by rfl) T.z_len (by decide +kernel) (pa_cons (pv 3) pa_nil)) pe_int (nomark _))))) pss_at pss_at) ⟨_, rfl, _, _, _, _, rfl, rfl, SqL.of hw, atI_nat (j := 0) rfl, rfl, _, rfl, ifd (fun _ => ?_) (fun h => absurd rfl h)⟩
          refine ⟨_, rfl, _, _, rfl, .inl (SqL.of hw), _, _, rfl, rfl, _, rfl, ifd (fun _ => ?_) (fun h => absurd (by simp [Item.words]) h)⟩
          refine @at_one _ _ _ _ _ _ (ps_dput (hu_of hr) (pv 1) (pe_ix ix_list (pv 3) pe_int (fun _ _ => rfl)) (pe_callB call_lenD (by rfl) T.z_len (by decide +kernel) (pa_cons (pv 1) pa_nil)) rfl) ⟨_, rfl, d, kvs, rfl, hd2, _, rfl, _, rfl, _, _, _, _, rfl, rfl, SqL.of hw, atI_nat (j := 1) rfl, d, _, rfl, DPut.k (k := .inr n) hd2 ?_, ?_⟩
          · rw [h2.len]; exact sl_lt (by omega)
          · refine ⟨_, _, _, rfl, upd_same, ?_, fun b o hb => ?_⟩
            · rw [take_snoc hit, namesOf_app, h2.len]
              exact h2.put m4
            · rw [upd_ne (ne_of_none hb hd)]; exact s2 _ _ (s1 _ _ hb)
        | rule R =>
          obtain ⟨r1, _⟩ := G.rule i R hit
          obtain ⟨fw, fr, e1, e2⟩ := first_word r1
          have hw' : H2 lw = some (.lst (V.str fw :: fr.map V.str)) := by rw [hw]; simp only [Item.words]; rw [e1]; rfl
          refine @at_one _ _ _ _ _ _ (ps_if (PW.pt (pw_and (pt_cmpR op_eq (pe_ix ix_list (pv 3) pe_int (fun _ _ => rfl)) pe_str (nomark _)) (pw_and1 (pt_cmpR op_gt (pe_callB call_len_seq (by rfl) T.z_len (by decide +kernel) (pa_cons (pv 3) pa_nil)) pe_int (nomark _))))) pss_at pss_at) ⟨_, rfl, _, _, _, _, rfl, rfl, SqL.of hw', atI_nat (j := 0) rfl, rfl, _, rfl, ifd (fun h => absurd (V.str.inj h) e2) (fun _ => at_nil ?_)⟩
          refine ⟨_, _, kvs, rfl, hd2, ?_, s1.trans s2⟩
          rw [take_snoc hit, namesOf_app]
          show Nums (namesOf (its.take i) ++ []) kvs
          rw [List.append_nil]
          exact h2
      · rintro σ' H' ⟨x, y, kvs, rfl, h1, h2, h3⟩
        refine ⟨x, y, kvs, rfl, h1, ?_, h3⟩
        rw [List.length_map, rowsOf, List.length_map, List.take_length] at h2
        exact h2
    rintro σ' H' ⟨x, y, kvs, rfl, h1, h2, h3⟩
    exact @at_one _ _ _ _ _ _ (ps_ret (pv 1)) ⟨_, rfl, q d kvs H' h1 h2 h3⟩
def spRdMode (t : Adr) : Sp := fun vs H Q _ => ∃ (p dx lw lm : Addr) (row : Int) (n c : Str) (as ls : List Addr) (ms : List ModeM), vs = [.ref p, .ref lm] ∧ Cur t H p dx lw row ["mode", n, c] 0 ∧ isName n = true ∧ isName c = true ∧ H lm = some (.lst (as.map V.ref)) ∧ ModesAt t H as ls ms ∧ ms.length < 12 ∧ n ∉ ms.map (·.name) ∧
  ∀ m l2 dm H', H' m = some (.ins t.c_Mode dm (mf ⟨n, c, []⟩ l2)) → H' l2 = some (.lst []) → H l2 = none → Adv H H' p → Q (.ref m) H'
theorem mode_ne {H : Hp} {m dm l p dx lw : Addr} {M : ModeM} {row : Int} {ws : List Str} {i : Nat} (h : H m = some (.ins t.c_Mode dm (mf M l))) (C : Cur t H p dx lw row ws i) : m ≠ p := ne_of h C.ob fun q => by
  injection q with _ _ q
  unfold mf cf at q
  simp at q
theorem ok_read_mode (T : Txt K mg t) : FnOk P w K mg base CX0 5 t.f_read_mode t.d_read_mode ["cursor", "modes"] (spRdMode t) := by
  refine T.F_read_mode.ok sc_read_mode (fun vs H Q E h => ?_) (fun cdv A outer s H vs Q E hr h => at_body ?_)
  · obtain ⟨p, dx, lw, lm, row, n, c, as, ls, ms, rfl, _⟩ := h
    rfl
  · obtain ⟨p, dx, lw, lm, row, n, c, as, ls, ms, rfl, C, hn, hc, hlm, hM, hl12, hnn, q⟩ := h
    have nlp : lm ≠ p := ne_of hlm C.ob (by intro z; cases z)
    refine @at_cons _ _ _ _ _ _ _ (ps_expr (pe_meth (pv 0) T.cl_Cursor T.m_Cursor_ask (ok_Cursor_ask T) (hr.mono (by decide)) (bd_Cursor_ask T) .nil pass0 (pa_cons (pe_cmpR op_lt (pe_callB call_len_seq (by rfl) T.z_len (by decide +kernel) (pa_cons (pv 1) pa_nil)) (pe_globE rfl T.mgv_MOST_MODES) (nomark _)) pa_nil))) ⟨_, rfl, p, dx, _, rfl, C.ob, rfl, _, rfl, _, _, rfl, .inl (SqL.of hlm), _, _, rfl, rfl, ?_⟩
    dsimp only
    rw [decide_eq_true (by rw [List.length_map, hM.la]; omega)]
    refine ⟨_, rfl, ?_⟩
    refine @at_cons _ _ _ _ _ _ _ (ps_expr (pe_meth (pv 0) T.cl_Cursor T.m_Cursor_take_choice (ok_Cursor_take_choice T) (hr.mono (by decide)) (bd_Cursor_take_choice T) .nil pass0 (pa_cons (pe_tup (pa_cons pe_str pa_nil)) pa_nil))) ⟨_, rfl, p, dx, _, rfl, C.ob, rfl, by show 1 ≤ sizeLine; decide, fun pt hpt => ?_⟩
    have s1 : Same H (upd H pt (.tup [.str "mode"])) := Same.upd hpt
    have C1 := C.same s1
    refine ⟨p, dx, lw, pt, ["mode"], row, _, 0, rfl, C1, SqT.of upd_same, List.mem_singleton.mpr rfl, fun H2 C2 a2 => ?_⟩
    have a2 := s1.adv a2
    have hlm2 : H2 lm = some (.lst (as.map V.ref)) := a2 _ _ hlm nlp
    refine @at_cons _ _ _ _ _ _ _ (@ps_expr _ _ _ _ (@pe_meth _ _ _ _ _ _ _ _ _ _ _ _ _ _ _ _ _ _ _ _ (pv 0) T.cl_Cursor T.m_Cursor_ask (ok_Cursor_ask T) (hr.mono (by decide)) (bd_Cursor_ask T) .nil pass0 (@pa_cons _ _ _ _ _ (@pe_cmpR _ _ _ _ _ _ _ _ op_notIn_seq (@pe_meth0 _ _ _ _ _ _ _ _ _ _ _ _ _ _ _ _ _ (pv 0) T.cl_Cursor T.m_Cursor_peek (ok_Cursor_peek T) (hr.mono (by decide)) (bd_Cursor_peek T) .nil pass0 (by walk_at "u")) (@pe_comp _ (defScope s_read_mode) _ ["cursor", "modes", "name", "colour"] _ _ ("mode") _ _ [] _ _ (by walk_at "ck") (@pi_list _ _ _ _ (pv 1)) (fun _ _ _ _ => by exact (@pe_fldK _ K _ _ _ _ (pv 0) rfl (by walk_at "u"))) (by walk_at "u") (by walk_at "u") (by walk_at "u") (by walk_at "u")) rfl) pa_nil (by walk_at "u")) (by walk_at "u") (by walk_at "u") (by walk_at "u")) (by walk_at "u")) ?_
    refine ⟨_, rfl, p, dx, _, rfl, C2.ob, rfl, ⟨_, rfl, p, dx, _, rfl, C2.ob, rfl, p, dx, lw, row, _, 0 + 1, rfl, C2, ?_⟩⟩
    refine ⟨_, rfl, lm, rfl, ⟨_, SqL.of hlm2⟩, comp_list (xs := as.map V.ref) (fun i ys H' => H' = H2 ∧ ys = ((ms.map (·.name)).take i).map V.str) ⟨rfl, rfl⟩ (sl_lt (by rw [List.length_map, hM.la]; omega)) ?_ ?_ ?_⟩
    · rintro i ys H' _ ⟨rfl, _⟩
      exact SqL.of hlm2
    · rintro i xv ys H' hx hyl ⟨rfl, rfl⟩
      rw [List.getElem?_map] at hx
      obtain ⟨a, ha, rfl⟩ := Option.map_eq_some_iff.mp hx
      have hi : i < as.length := (List.getElem?_eq_some_iff.mp ha).1
      obtain ⟨m, hm⟩ : ∃ m, ms[i]? = some m := ⟨ms[i]'(by rw [← hM.la]; exact hi), List.getElem?_eq_getElem _⟩
      obtain ⟨l, hll⟩ : ∃ l, ls[i]? = some l := ⟨ls[i]'(by rw [hM.ll, ← hM.la]; exact hi), List.getElem?_eq_getElem _⟩
      obtain ⟨dm, rs, o1, o2, o3⟩ := hM.ob i a l m ha hll hm
      refine ⟨_, rfl, a, t.c_Mode, dm, _, _, rfl, a2 _ _ o1 (mode_ne o1 C), T.cl_Mode, T.n_Mode_name, rfl, ?_⟩
      refine comp_turn (by rw [List.length_map]; exact hi) hyl ⟨rfl, ?_⟩
      rw [take_snoc (l := ms.map (·.name)) (x := m.name) (by rw [List.getElem?_map, hm]; rfl), List.map_append]
      rfl
    · rintro ys H' hyl ⟨rfl, rfl⟩ D hD
      have hall : (ms.map (·.name)).take (as.map V.ref).length = ms.map (·.name) := List.take_of_length_le (by rw [List.length_map, List.length_map, hM.la]; omega)
      rw [hall]
      have s3 : Same H' (upd H' D (.lst ((ms.map (·.name)).map V.str))) := Same.upd hD
      have C3 := C2.same s3
      refine ⟨D, _, rfl, .inl (SqL.of upd_same), rfl, flat_strs, ?_⟩
      rw [if_pos rfl, inV_strs, decide_eq_false (p := pk ["mode", n, c] (0 + 1) ∈ ms.map (·.name)) hnn]
      refine ⟨_, rfl, ?_⟩
      refine @at_cons _ _ _ _ _ _ _ (ps_set (i := 2) sc_read_mode.nd rfl (Or.inl rfl) (pe_meth0 (pv 0) T.cl_Cursor T.m_Cursor_take_name (ok_Cursor_take_name T) (hr.mono (by decide)) (bd_Cursor_take_name T) .nil pass0)) ⟨_, rfl, p, dx, _, rfl, C3.ob, rfl, p, dx, lw, row, _, 0 + 1, rfl, C3, hn, fun H4 C4 a4 => ?_⟩
      refine @at_cons _ _ _ _ _ _ _ (ps_set (i := 3) sc_read_mode.nd rfl (Or.inl rfl) (pe_meth0 (pv 0) T.cl_Cursor T.m_Cursor_take_name (ok_Cursor_take_name T) (hr.mono (by decide)) (bd_Cursor_take_name T) .nil pass0)) ⟨_, rfl, p, dx, _, rfl, C4.ob, rfl, p, dx, lw, row, _, 0 + 1 + 1, rfl, C4, hc, fun H5 C5 a5 => ?_⟩
      have a5 := (a2.same s3).trans (a4.trans a5)
      refine @at_cons _ _ _ _ _ _ _ (ps_expr (pe_meth (pv 0) T.cl_Cursor T.m_Cursor_ask (ok_Cursor_ask T) (hr.mono (by decide)) (bd_Cursor_ask T) .nil pass0 (pa_cons (pe_not (pe_meth0 (pv 0) T.cl_Cursor T.m_Cursor_more (ok_Cursor_more T) (hr.mono (by decide)) (bd_Cursor_more T) .nil pass0)) pa_nil))) ⟨_, rfl, p, dx, _, rfl, C5.ob, rfl, ⟨_, rfl, p, dx, _, rfl, C5.ob, rfl, p, dx, lw, row, _, 0 + 1 + 1 + 1, rfl, C5, _, rfl, ?_⟩⟩
      refine ⟨_, rfl, ?_⟩
      refine @at_one _ _ _ _ _ _ (ps_ret (pe_make T.mk_Mode (ok_Mode___init__ T) (hr.mono (by decide)) rfl T.mgc_Mode (bd_Mode___init__ T) .nil pass0 (pa_cons (pv 2) (pa_cons (pv 3) (pa_cons (pe_lst pa_nil) pa_nil))))) ⟨_, rfl, _, rfl, by show 0 ≤ sizeLine; decide, fun l1 hl1 => ?_⟩
      intro x dm nx ndm ne
      have nl1 : l1 ≠ x := ne_of_none upd_same nx
      have nl2 : l1 ≠ dm := ne_of_none upd_same ndm
      refine ⟨x, dm, l1, n, c, [], rfl, upd_same, by rw [upd_ne nl1, upd_ne nl2]; exact upd_same, fun l2 H6 h1 h2 h3 h4 => ⟨rfl, ?_⟩⟩
      have key : ∀ b o, H5 b = some o → b ≠ x ∧ b ≠ dm ∧ b ≠ l1 := fun b o hb => by
        have e1 : b ≠ l1 := ne_of_none hb hl1
        have hb' : upd H5 l1 (.lst []) b = some o := by rw [upd_ne e1]; exact hb
        exact ⟨ne_of_none hb' nx, ne_of_none hb' ndm, e1⟩
      have hadv : ∀ b o, H5 b = some o → H6 b = some o := fun b o hb => by
        obtain ⟨k1, k2, k3⟩ := key b o hb
        refine h4 b o ?_ k1
        rw [upd_ne k1, upd_ne k2, upd_ne k3]; exact hb
      refine q x l2 dm H6 h2 h3 ?_ fun b o hb nb => hadv b o (a5 b o hb nb)
      cases e : H l2 with
      | none => rfl
      | some o =>
        by_cases z : l2 = p
        · have h5 := hadv p _ C5.ob
          rw [z, h5] at h3
          cases h3
        · have h5 := a5 _ _ e z
          obtain ⟨k1, k2, k3⟩ := key _ _ h5
          rw [upd_ne k1, upd_ne k2, upd_ne k3, h5] at h1
          cases h1
def spRead (t : Adr) : Sp := fun vs H Q _ => ∃ (its : List Item), vs = [.str (Str.join ⟨#[10]⟩ (rowsOf its))] ∧ GoodItems its ∧ its.length ≤ 200 ∧ ∀ a H', IsRules t H' a (foldI its) → Same H H' → Q (.ref a) H'
theorem foldI_len (its : List Item) : (foldI its).length = (namesOf its).length := by rw [← names_fold, List.length_map]
theorem Adv.fresh {H H1 H2 : Hp} {p : Addr} (s : Same H H1) (h : H p = none) (a : Adv H1 H2 p) : Same H H2 := fun b o hb => a b o (s b o hb) (ne_of_none hb h)
theorem IsRule.updL {H : Hp} {r l : Addr} {R : RuleM} {xs : List V} {o : HO} (h : IsRule t H r R) (hl : H l = some (.lst xs)) : IsRule t (upd H l o) r R := by
  obtain ⟨dx, p, x, ⟨dp, y⟩⟩ := h
  exact ⟨dx, p, by rw [upd_ne (ne_of x hl (by intro z; cases z))]; exact x, dp, by rw [upd_ne (ne_of y hl (by intro z; cases z))]; exact y⟩
theorem ModesAt.updL {H : Hp} {as ls : List Addr} {ms : List ModeM} {l : Addr} {xs : List V} {o : HO} (h : ModesAt t H as ls ms) (hl : H l = some (.lst xs)) (hn : l ∉ ls) : ModesAt t (upd H l o) as ls ms :=
  ⟨h.la, h.ll, h.nd, fun i a l' m h1 h2 h3 => by
    obtain ⟨dx, rs, x, y, z⟩ := h.ob i a l' m h1 h2 h3
    exact ⟨dx, rs, by rw [upd_ne (ne_of x hl (by intro z; cases z))]; exact x, by rw [upd_ne (show l' ≠ l from fun e => hn (e ▸ List.mem_of_getElem? h2))]; exact y, z.mono fun _ _ r => r.updL hl⟩⟩
theorem ModesAt.alive {H : Hp} {as ls : List Addr} {ms : List ModeM} (h : ModesAt t H as ls ms) {l : Addr} (hl : l ∈ ls) : ∃ xs, H l = some (.lst xs) := by
  obtain ⟨i, e⟩ := List.mem_iff_getElem?.mp hl
  have hi := (List.getElem?_eq_some_iff.mp e).1
  obtain ⟨dx, rs, x, y, z⟩ := h.ob i _ l _ (List.getElem?_eq_getElem (by rw [h.la, ← h.ll]; exact hi)) e (List.getElem?_eq_getElem (by rw [← h.ll]; exact hi))
  exact ⟨_, y⟩
theorem ModesAt.addM {H : Hp} {as ls : List Addr} {ms : List ModeM} {m l dm : Addr} {n c : Str} (h : ModesAt t H as ls ms) (hm : H m = some (.ins t.c_Mode dm (mf ⟨n, c, []⟩ l))) (hl : H l = some (.lst [])) (hn : l ∉ ls) : ModesAt t H (as ++ [m]) (ls ++ [l]) (ms ++ [⟨n, c, []⟩]) := by
  refine ⟨by simp [h.la], by simp [h.ll], ?_, fun i a l' m' h1 h2 h3 => ?_⟩
  · refine List.nodup_append.mpr ⟨h.nd, by simp, fun a ha b hb => ?_⟩
    rw [List.mem_singleton.mp hb]
    exact fun e => hn (e ▸ ha)
  · have e1 := h.la
    have e2 := h.ll
    rcases snoc_get h1 with h1 | ⟨i1, rfl⟩
    · have := (List.getElem?_eq_some_iff.mp h1).1
      rcases snoc_get h2 with h2 | ⟨i2, rfl⟩
      · rcases snoc_get h3 with h3 | ⟨i3, rfl⟩
        · exact h.ob i a l' m' h1 h2 h3
        · omega
      · omega
    · rcases snoc_get h2 with h2 | ⟨i2, rfl⟩
      · have := (List.getElem?_eq_some_iff.mp h2).1; omega
      · rcases snoc_get h3 with h3 | ⟨i3, rfl⟩
        · have := (List.getElem?_eq_some_iff.mp h3).1; omega
        · exact ⟨dm, [], hm, hl, All2.nil⟩
theorem nodup_at {l : List Addr} (h : l.Nodup) {i j : Nat} {a : Addr} (h1 : l[i]? = some a) (h2 : l[j]? = some a) : i = j := by
  obtain ⟨i1, e1⟩ := List.getElem?_eq_some_iff.mp h1
  obtain ⟨j1, e2⟩ := List.getElem?_eq_some_iff.mp h2
  exact (List.getElem_inj h).mp (e1.trans e2.symm)
theorem ModesAt.addR {H : Hp} {as ls : List Addr} {ms : List ModeM} {m : ModeM} {l r : Addr} {rs : List Addr} {R : RuleM} (h : ModesAt t H as ls (ms ++ [m])) (hl : ls[ms.length]? = some l) (hH : H l = some (.lst (rs.map V.ref))) (hA : All2 (IsRule t H) rs m.rules) (hr : IsRule t H r R) :
    ModesAt t (upd H l (.lst (rs.map V.ref ++ [.ref r]))) as ls (ms ++ [{ m with rules := m.rules ++ [R] }]) := by
  refine ⟨by rw [h.la]; simp, by rw [h.ll]; simp, h.nd, fun i a l' m' h1 h2 h3 => ?_⟩
  rcases snoc_get h3 with h3 | ⟨i3, rfl⟩
  · have hi := (List.getElem?_eq_some_iff.mp h3).1
    obtain ⟨dx, rs', x, y, z⟩ := h.ob i a l' m' h1 h2 (by rw [List.getElem?_append_left hi]; exact h3)
    refine ⟨dx, rs', by rw [upd_ne (ne_of x hH (by intro z; cases z))]; exact x, ?_, z.mono fun _ _ r => r.updL hH⟩
    rw [upd_ne (fun e => ?_)]
    · exact y
    · subst e
      have := nodup_at h.nd h2 hl
      omega
  · subst i3
    rw [hl] at h2
    cases h2
    obtain ⟨dx, rs', x, y, z⟩ := h.ob _ a l m h1 hl (by simp)
    refine ⟨dx, rs ++ [r], by rw [upd_ne (ne_of x hH (by intro z; cases z))]; exact x, by rw [upd_same, List.map_append]; rfl, ?_⟩
    exact All2.snoc (hA.mono fun _ _ r => r.updL hH) (hr.updL hH)
theorem atI_lastM {α β : Type} {f : α → β} {as : List α} {k : Nat} {a : α} (hl : as.length = k + 1) (h : as[k]? = some a) : atI (as.map f) (-1) = some (f a) := by
  unfold atI ixN
  rw [List.length_map, hl]
  have e : ((-1 : Int) + ((k + 1 : Nat) : Int)).toNat = k := by omega
  first
    | (rw [if_neg (by omega), if_pos (by omega)]; simp only [Option.bind_some]; rw [show (((k + 1 : Nat) : Int) + (-1 : Int)).toNat = k by omega, List.getElem?_map, h]; rfl)
    | (rw [if_neg (by omega), if_pos (by omega)]; simp only [Option.bind_some]; rw [e, List.getElem?_map, h]; rfl)
theorem ok_read_rules (T : Txt K mg t) : FnOk P w K mg base CX0 7 t.f_read_rules t.d_read_rules ["text"] (spRead t) := by
  refine T.F_read_rules.ok sc_read_rules (fun vs H Q E h => ?_) (fun cdv A outer s H vs Q E hr h => at_body ?_)
  · obtain ⟨its, rfl, _⟩ := h
    rfl
  · obtain ⟨its, rfl, G, hlen, q⟩ := h
    have nl1 : ("\n" : Str) = ⟨#[10]⟩ := by decide +kernel
    refine @at_cons _ _ _ _ _ _ _ (ps_set (i := 1) sc_read_rules.nd rfl (Or.inl rfl) (pe_bm PySem.F.plainAttrs_str PySem.F.slot_str_split PySem.F.type_str_split mt_split (pv 0) (pa_cons pe_str pa_nil))) ⟨_, rfl, rfl, _, _, rfl, rfl, by decide, sl_le (by have := text_len G hlen; omega), fun lr hlr => ?_⟩
    rw [nl1, rows_split G]
    have s1 : Same H (upd H lr (.lst ((rowsOf its).map V.str))) := Same.upd hlr
    have hr1 : upd H lr (.lst ((rowsOf its).map V.str)) lr = some (.lst ((rowsOf its).map V.str)) := upd_same
    generalize upd H lr (.lst ((rowsOf its).map V.str)) = H1 at s1 hr1
    refine @at_cons _ _ _ _ _ _ _ (ps_set (i := 2) sc_read_rules.nd rfl (Or.inl rfl) (pe_call (ok_mode_numbers T) (hr.mono (by decide)) rfl T.mg_mode_numbers T.F_mode_numbers.kp (bd_mode_numbers T) .nil pass0 (pa_cons (pv 1) pa_nil))) ⟨_, rfl, lr, its, rfl, hr1, G, hlen, fun d kvs H2 hd2 hN s2 => ?_⟩
    have hr2 := s2 _ _ hr1
    have s2 := s1.trans s2
    refine @at_cons _ _ _ _ _ _ _ (ps_set (i := 3) sc_read_rules.nd rfl (Or.inl rfl) (pe_lst pa_nil)) ⟨by show 0 ≤ sizeLine; decide, fun lm hlm => ?_⟩
    have s3 : Same H2 (upd H2 lm (.lst [])) := Same.upd hlm
    have hm3 : upd H2 lm (.lst []) lm = some (.lst []) := upd_same
    generalize upd H2 lm (.lst []) = H3 at s3 hm3
    have hlm0 : H lm = none := s2.free hlm
    have hr3 := s3 _ _ hr2
    have hd3 := s3 _ _ hd2
    have s3 := s2.trans s3
    refine @at_cons _ _ _ _ _ _ _ (ps_set (i := 4) sc_read_rules.nd rfl (Or.inl rfl) (pe_lst pa_nil)) ⟨by show 0 ≤ sizeLine; decide, fun nw hnw => ?_⟩
    have s4 : Same H3 (upd H3 nw (.lst [])) := Same.upd hnw
    have hw4 : upd H3 nw (.lst []) nw = some (.lst []) := upd_same
    generalize upd H3 nw (.lst []) = H4 at s4 hw4
    have hr4 := s4 _ _ hr3
    have hd4 := s4 _ _ hd3
    have hm4 := s4 _ _ hm3
    have nmw : lm ≠ nw := ne_of_none hm3 hnw
    have s4 := s3.trans s4
    have nlr : lr ≠ lm := ne_of_none hr2 hlm
    have nlrw : lr ≠ nw := ne_of_none hr3 hnw
    refine @at_consR _ _ _ _ _ _ _ (fun σ' H' => ∃ x5 x6 x7 x8 as ls, σ' = [some (.str (Str.join ⟨#[10]⟩ (rowsOf its))), some (.ref lr), some (.ref d), some (.ref lm), some (.ref nw), x5, x6, x7, x8] ∧ H' lm = some (.lst (as.map V.ref)) ∧ H' nw = some (.lst []) ∧ ModesAt t H' as ls (foldI its) ∧ Same H H') (ps_forA PassesOwn.never rfl (pi_enum rfl T.z_enumerate (pa_cons (pv 1) pa_nil)) (pg_tup rfl (pgs_cons (pg_name (i := 5) sc_read_rules.nd rfl (Or.inl rfl)) (pgs_cons (pg_name (i := 6) sc_read_rules.nd rfl (Or.inl rfl)) pgs_nil))) pss_at) ?_ ?_
    · refine ⟨_, rfl, lr, _, rfl, SqL.of hr4, forW_enum (xs := (rowsOf its).map V.str) (fun i σ' H' => ∃ x5 x6 x7 x8 as ls, σ' = [some (.str (Str.join ⟨#[10]⟩ (rowsOf its))), some (.ref lr), some (.ref d), some (.ref lm), some (.ref nw), x5, x6, x7, x8] ∧ H' lm = some (.lst (as.map V.ref)) ∧ H' nw = some (.lst []) ∧ H' lr = some (.lst ((rowsOf its).map V.str)) ∧ H' d = some (.dK kvs) ∧ ModesAt t H' as ls (foldI (its.take i)) ∧ lm ∉ ls ∧ nw ∉ ls ∧ lr ∉ ls ∧ (∀ l ∈ ls, H l = none) ∧ Same H H') ?_ ?_ ?_ ?_⟩
      · exact ⟨_, _, _, _, [], [], rfl, hm4, hw4, hr4, hd4, ⟨rfl, rfl, List.nodup_nil, fun i a l m h => by simp at h⟩, by simp, by simp, by simp, by simp, s4⟩
      · rintro i σ' H' _ ⟨x5, x6, x7, x8, as, ls, rfl, h1, h2, h3, _⟩
        exact SqL.of h3
      · rintro i xv pt σ' H5 hx hpt ⟨x5, x6, x7, x8, as, ls, rfl, hm5, hw5, hr5, hd5, hM, nl1', nl2', nl3', hfr, s5⟩
        rw [List.getElem?_map] at hx
        obtain ⟨row, hrow, rfl⟩ := Option.map_eq_some_iff.mp hx
        obtain ⟨it, hit, rfl⟩ := rows_at hrow
        obtain ⟨g1, g2, g3⟩ := row_good G hit
        obtain ⟨w1, w2, w3⟩ := item_words G hit
        have s6 : Same H5 (upd H5 pt (.tup [.int i, .str (rowOf (namesOf its) it)])) := Same.upd hpt
        refine ⟨pt, [.int i, .str (rowOf (namesOf its) it)], rfl, SqT.of upd_same, rfl, _, _, rfl, _, _, rfl, rfl, ?_⟩
        generalize upd H5 pt (.tup [.int i, .str (rowOf (namesOf its) it)]) = H6 at s6
        refine @at_cons _ _ _ _ _ _ _ (ps_set (i := 7) sc_read_rules.nd rfl (Or.inl rfl) (pe_make T.mk_Cursor (ok_Cursor___init__ T) (hr.mono (by decide)) rfl T.mgc_Cursor (bd_Cursor___init__ T) .nil pass0 (pa_cons (pv 5) (pa_cons (pv 6) pa_nil)))) ⟨_, rfl, _, rfl, fun p dx np ndx ne => ⟨p, dx, i, _, rfl, upd_same, by omega, by rw [g3]; omega, fun lw H7 hlw C7 a7 => ⟨rfl, ?_⟩⟩⟩
        rw [g3] at C7
        have s7 : Same H5 H7 := fun b o hb => a7 b o (by rw [upd_ne (ne_of_none (s6 _ _ hb) np), upd_ne (ne_of_none (s6 _ _ hb) ndx)]; exact s6 _ _ hb) (ne_of_none (s6 _ _ hb) np)
        have hp5 : H5 p = none := s6.free np
        have hm7 := s7 _ _ hm5
        have hM7 := hM.same s7
        have hml : as.length = (foldI (its.take i)).length := hM.la
        cases it with
        | mode n c =>
          obtain ⟨m1, m2, m3, m4⟩ := G.mode i n c hit
          refine @at_one _ _ _ _ _ _ (ps_if (PW.pt (pw_or (pt_not (pt_truth (pv 3) (fun _ => rfl))) (pw_or1 (pt_cmpR op_eq (pe_meth0 (pv 7) T.cl_Cursor T.m_Cursor_peek (ok_Cursor_peek T) (hr.mono (by decide)) (bd_Cursor_peek T) .nil pass0) pe_str (nomark _))))) pss_at pss_at) ⟨_, rfl, _, .inl ⟨_, SqL.of hm7, rfl⟩, ?_⟩
          refine (fun hb => ifb (fun _ => iteT hb) (fun _ => ⟨_, rfl, p, dx, _, rfl, C7.ob, rfl, p, dx, lw, i, _, 0, rfl, C7, rfl, _, rfl, ifd (fun _ => hb) (fun h => absurd rfl h)⟩)) ?_
          refine @at_one _ _ _ _ _ _ (ps_expr (pe_bm PySem.F.plainAttrs_list PySem.F.slot_list_append PySem.F.type_list_append mt_append (pv 3) (pa_cons (pe_call (ok_read_mode T) (hr.mono (by decide)) rfl T.mg_read_mode T.F_read_mode.kp (bd_read_mode T) .nil pass0 (pa_cons (pv 7) (pa_cons (pv 3) pa_nil))) pa_nil))) ⟨_, rfl, .inl ⟨rfl, _, SqL.of hm7⟩, _, rfl, _, rfl, p, dx, lw, lm, i, n, c, as, ls, _, rfl, C7, m1, m2, hm7, hM7, by rw [foldI_len]; exact m3, by rw [names_fold]; exact m4, fun m l2 dm H8 e1 e2 e3 a8 => ?_⟩
          have s8 : Same H5 H8 := Adv.fresh s7 hp5 a8
          have hm8 := s8 _ _ hm5
          have n1 : lm ≠ l2 := ne_of_none hm7 e3
          have hn2 : l2 ∉ ls := fun z => by
            obtain ⟨xs, hx⟩ := hM7.alive z
            rw [hx] at e3; cases e3
          refine ⟨lm, _, _, rfl, rfl, hm8, sl_lt (by rw [List.length_map, hml, foldI_len]; omega), ?_⟩
          refine ⟨_, _, _, _, as ++ [m], ls ++ [l2], rfl, by rw [upd_same, List.map_append]; rfl, ?_, ?_, ?_, ?_, ?_, ?_, ?_, ?_, ?_⟩
          · rw [upd_ne (Ne.symm nmw)]; exact s8 _ _ hw5
          · rw [upd_ne nlr]; exact s8 _ _ hr5
          · rw [upd_ne (ne_of hd5 hm5 (by intro z; cases z))]; exact s8 _ _ hd5
          · rw [take_snoc hit, foldI_snoc]
            exact ModesAt.addM ((hM.same s8).updL hm8 nl1') (by rw [upd_ne (ne_of e1 hm8 (by intro z; cases z))]; exact e1) (by rw [upd_ne (Ne.symm n1)]; exact e2) hn2
          · intro z
            rcases List.mem_append.mp z with z | z
            · exact nl1' z
            · exact n1 (List.mem_singleton.mp z)
          · intro z
            rcases List.mem_append.mp z with z | z
            · exact nl2' z
            · exact ne_of_none (s7 _ _ hw5) e3 (List.mem_singleton.mp z)
          · intro z
            rcases List.mem_append.mp z with z | z
            · exact nl3' z
            · exact ne_of_none (s7 _ _ hr5) e3 (List.mem_singleton.mp z)
          · intro l hl
            rcases List.mem_append.mp hl with z | z
            · exact hfr l z
            · rw [List.mem_singleton.mp z]; exact (s5.trans s7).free e3
          · intro b o hb
            rw [upd_ne (ne_of_none hb hlm0)]
            exact s8 _ _ (s5 _ _ hb)
        | rule R =>
          obtain ⟨r1, ms, m, hms, hm12⟩ := G.rule i R hit
          obtain ⟨fw, fr, f1, f2⟩ := first_word r1
          rw [hms] at hM hM7 hml
          have hk : as.length = ms.length + 1 := by rw [hml]; simp
          obtain ⟨a, ha⟩ : ∃ a, as[ms.length]? = some a := ⟨as[ms.length]'(by omega), List.getElem?_eq_getElem _⟩
          obtain ⟨l, hl⟩ : ∃ l, ls[ms.length]? = some l := ⟨ls[ms.length]'(by rw [hM.ll]; simp), List.getElem?_eq_getElem _⟩
          obtain ⟨dm, rs, o1, o2, o3⟩ := hM.ob ms.length a l m ha hl (by simp)
          have o1' := s7 _ _ o1
          have o2' := s7 _ _ o2
          have hrl : rs.length < 12 := by rw [o3.1]; exact hm12
          have hl0 : H l = none := hfr l (List.mem_of_getElem? hl)
          have hnl : l ∈ ls := List.mem_of_getElem? hl
          refine @at_one _ _ _ _ _ _ (ps_if (PW.pt (pw_or (pt_not (pt_truth (pv 3) (fun _ => rfl))) (pw_or1 (pt_cmpR op_eq (pe_meth0 (pv 7) T.cl_Cursor T.m_Cursor_peek (ok_Cursor_peek T) (hr.mono (by decide)) (bd_Cursor_peek T) .nil pass0) pe_str (nomark _))))) pss_at pss_at) ⟨_, rfl, _, .inl ⟨_, SqL.of hm7, rfl⟩, ifb (fun h => ?_) (fun _ => ?_)⟩
          · exfalso
            have : as ≠ [] := fun z => by rw [z] at hk; simp at hk
            cases as with
            | nil => exact this rfl
            | cons _ _ => simp at h
          refine ⟨_, rfl, p, dx, _, rfl, C7.ob, rfl, p, dx, lw, i, _, 0, rfl, C7, rfl, _, rfl, ifd (fun h => ?_) (fun _ => ?_)⟩
          · exfalso
            refine f2 ?_
            have h := V.str.inj h
            simp only [Item.words, f1] at h
            exact h
          refine @at_cons _ _ _ _ _ _ _ (ps_set (i := 8) sc_read_rules.nd rfl (Or.inl rfl) (pe_fld (pe_ix ix_list (pv 3) (pe_un un_neg pe_int) (fun _ _ => rfl)) rfl)) ⟨_, rfl, _, rfl, _, _, _, _, rfl, rfl, SqL.of hm7, atI_lastM hk ha, a, t.c_Mode, dm, _, _, rfl, o1', T.cl_Mode, T.n_Mode_rules, rfl, ?_⟩
          refine @at_cons _ _ _ _ _ _ _ (ps_expr (pe_meth (pv 7) T.cl_Cursor T.m_Cursor_ask (ok_Cursor_ask T) (hr.mono (by decide)) (bd_Cursor_ask T) .nil pass0 (pa_cons (pe_cmpR op_lt (pe_callB call_len_seq (by rfl) T.z_len (by decide +kernel) (pa_cons (pv 8) pa_nil)) (pe_globE rfl T.mgv_MOST_RULES) (nomark _)) pa_nil))) ⟨_, rfl, p, dx, _, rfl, C7.ob, rfl, _, rfl, _, _, rfl, .inl (SqL.of o2'), _, _, rfl, rfl, ?_⟩
          dsimp only
          rw [decide_eq_true (by rw [List.length_map]; omega)]
          refine ⟨_, rfl, ?_⟩
          refine @at_one _ _ _ _ _ _ (ps_expr (pe_bm PySem.F.plainAttrs_list PySem.F.slot_list_append PySem.F.type_list_append mt_append (pv 8) (pa_cons (pe_call (ok_read_rule T) (hr.mono (by decide)) rfl T.mg_read_rule T.F_read_rule.kp (bd_read_rule T) .nil pass0 (pa_cons (pv 7) (pa_cons (pv 2) (pa_cons (pv 4) pa_nil)))) pa_nil))) ⟨_, rfl, .inl ⟨rfl, _, SqL.of o2'⟩, _, rfl, _, rfl, _, rfl, p, dx, lw, d, _, i, _, kvs, namesOf its, R, rfl, C7, rfl, s7 _ _ hd5, hN.has, good_names G, r1, fun r H8 hr8 a8 => ?_⟩
          have s8 : Same H5 H8 := Adv.fresh s7 hp5 a8
          have o2'' := s8 _ _ o2
          refine ⟨l, _, _, rfl, rfl, o2'', sl_lt (by rw [List.length_map]; omega), ?_⟩
          refine ⟨_, _, _, _, as, ls, rfl, ?_, ?_, ?_, ?_, ?_, nl1', nl2', nl3', hfr, ?_⟩
          · rw [upd_ne (show lm ≠ l from fun z => nl1' (z ▸ hnl))]; exact s8 _ _ hm5
          · rw [upd_ne (show nw ≠ l from fun z => nl2' (z ▸ hnl))]; exact s8 _ _ hw5
          · rw [upd_ne (show lr ≠ l from fun z => nl3' (z ▸ hnl))]; exact s8 _ _ hr5
          · rw [upd_ne (ne_of hd5 o2 (by intro z; cases z))]; exact s8 _ _ hd5
          · rw [take_snoc hit, foldI_snoc, hms]
            show ModesAt _ _ _ _ (addRule R (ms ++ [m]))
            rw [addRule_snoc]
            exact (hM.same s8).addR hl o2'' (o3.mono fun _ _ r => r.same s8) hr8
          · intro b o hb
            rw [upd_ne (ne_of_none hb hl0)]
            exact s8 _ _ (s5 _ _ hb)
      · rintro σ' H' ⟨x5, x6, x7, x8, as, ls, rfl, h1, h2, h3, h4, h5, _, _, _, _, h6⟩
        rw [List.length_map, rowsOf, List.length_map, List.take_length] at h5
        exact ⟨_, _, _, _, as, ls, rfl, h1, h2, h5, h6⟩
    rintro σ' H' ⟨x5, x6, x7, x8, as, ls, rfl, h1, h2, h5, h6⟩
    refine @at_cons _ _ _ _ _ _ _ (ps_if (pt_truth (pv 4) (fun _ => rfl)) pss_at pss_at) ⟨_, rfl, _, .inl ⟨_, SqL.of h2, rfl⟩, iteF (at_nil ?_)⟩
    refine @at_one _ _ _ _ _ _ (ps_ret (pe_make T.mk_Rules (ok_Rules___init__ T) (hr.mono (by decide)) rfl T.mgc_Rules (bd_Rules___init__ T) .nil pass0 (pa_cons (pv 3) pa_nil))) ⟨_, rfl, fun x dx nx ndx ne => ⟨x, dx, lm, _, rfl, upd_same, by rw [upd_ne (ne_of_none h1 nx), upd_ne (ne_of_none h1 ndx)]; exact h1, fun l2 H8 e1 e2 e3 e4 => ⟨rfl, ?_⟩⟩⟩
    have s8 : Same H' H8 := fun b o hb => e4 b o (by rw [upd_ne (ne_of_none hb nx), upd_ne (ne_of_none hb ndx)]; exact hb) (ne_of_none hb nx)
    exact q x H8 ⟨dx, l2, as, ls, e2, e3, h5.same s8⟩ (h6.trans s8)
end
section
variable {P : Program} {w : World} {K : PySem.W.Frag} {mg : Str → Option Value} {base : Heap} {t : Adr}
def fitsB (R : RuleM) (row : Str) (i : Nat) : Bool := decide (dueV R.sort R.signs row i ≠ .non)
def firstF (row : Str) (i : Nat) : Nat → List RuleM → Option Nat
  | _, [] => none
  | k, R :: r => if fitsB R row i = true then some k else firstF row i (k + 1) r
def firstM (rs : List RuleM) (row : Str) (i : Nat) : Option Nat := firstF row i 0 rs
def GoodR (R : RuleM) : Prop := R.sort ∈ sorts ∧ R.signs.length ≤ 200
def RulesOk (rs : List RuleM) : Prop := rs.length ≤ 200 ∧ ∀ R ∈ rs, GoodR R
theorem drop_at {α : Type} {l : List α} {i : Nat} {x : α} (h : l[i]? = some x) : l.drop i = x :: l.drop (i + 1) := by
  rw [List.drop_eq_getElem?_toList_append, h]; rfl
theorem firstF_at {row : Str} {i k : Nat} {rs : List RuleM} {R : RuleM} {n : Nat} (h : rs[n]? = some R) : firstF row i k (rs.drop n) = if fitsB R row i = true then some k else firstF row i (k + 1) (rs.drop (n + 1)) := by
  rw [drop_at h]; rfl
/-- a mode of rules: its object, its list, its rules -/
theorem IsRules.mode {H : Hp} {a : Addr} {ms : List ModeM} (h : IsRules t H a ms) {k : Nat} {m : ModeM} (hm : ms[k]? = some m) :
    ∃ (dx lm : Addr) (as : List Addr) (b lr dm : Addr) (rs : List Addr), H a = some (.ins t.c_Rules dx [("modes", .ref lm)]) ∧ H lm = some (.lst (as.map V.ref)) ∧ as.length = ms.length ∧ as[k]? = some b ∧ H b = some (.ins t.c_Mode dm (mf m lr)) ∧ H lr = some (.lst (rs.map V.ref)) ∧ All2 (IsRule t H) rs m.rules := by
  obtain ⟨dx, lm, as, ls, ha, hlm, hM⟩ := h
  have hk := (List.getElem?_eq_some_iff.mp hm).1
  obtain ⟨b, hb⟩ : ∃ b, as[k]? = some b := ⟨as[k]'(by rw [hM.la]; exact hk), List.getElem?_eq_getElem _⟩
  obtain ⟨lr, hlr⟩ : ∃ b, ls[k]? = some b := ⟨ls[k]'(by rw [hM.ll]; exact hk), List.getElem?_eq_getElem _⟩
  obtain ⟨dm, rs, o1, o2, o3⟩ := hM.ob k b lr m hb hlr hm
  exact ⟨dx, lm, as, b, lr, dm, rs, ha, hlm, hM.la, hb, o1, o2, o3⟩
theorem at_ref {as : List Addr} {k : Nat} {b : Addr} (h : as[k]? = some b) : atI (as.map V.ref) ((k : Nat) : Int) = some (.ref b) := atI_nat (by rw [List.getElem?_map, h]; rfl)
def spFirst (t : Adr) : Sp := fun vs H Q _ => ∃ (a : Addr) (ms : List ModeM) (m : ModeM) (k i : Nat) (row : Str), vs = [.ref a, .int k, .str row, .int i] ∧ IsRules t H a ms ∧ ms[k]? = some m ∧ RulesOk m.rules ∧ row.length ≤ 1000 ∧ i ≤ row.length ∧
  ∀ H', Same H H' → Q (goalV (firstM m.rules row i)) H'
theorem ok_first_rule (T : Txt K mg t) : FnOk P w K mg base CX0 2 t.f_first_rule t.d_first_rule ["rules", "mode", "row", "at"] (spFirst t) := by
  refine T.F_first_rule.ok sc_first_rule (fun vs H Q E h => ?_) (fun cdv A outer s H vs Q E hr h => at_body ?_)
  · obtain ⟨a, ms, m, k, i, row, rfl, _⟩ := h
    rfl
  · obtain ⟨a, ms, m, k, i, row, rfl, hR, hm, hok, hrow, hi, q⟩ := h
    obtain ⟨dx, lm, as, b, lr, dm, rs, ha, hlm, hal, hb, hmo, hlr, hA⟩ := hR.mode hm
    refine @at_consR _ _ _ _ _ _ _ (fun σ' H' => (∃ x y, σ' = [some (.ref a), some (.int k), some (.str row), some (.int i), x, y]) ∧ Same H H' ∧ firstM m.rules row i = none) (ps_forA PassesOwn.never rfl (pi_enum rfl T.z_enumerate (pa_cons (pe_fld (pe_ix ix_list (pe_fld (pv 0) rfl) (pv 1) (fun _ _ => rfl)) rfl) pa_nil)) (pg_tup rfl (pgs_cons (pg_name (i := 4) sc_first_rule.nd rfl (Or.inl rfl)) (pgs_cons (pg_name (i := 5) sc_first_rule.nd rfl (Or.inl rfl)) pgs_nil))) pss_at) ?_ ?_
    · refine ⟨_, rfl, _, _, _, _, _, rfl, ha, T.cl_Rules, T.n_Rules_modes, rfl, ⟨_, rfl, _, _, _, _, rfl, rfl, SqL.of hlm, at_ref hb, b, t.c_Mode, dm, _, _, rfl, hmo, T.cl_Mode, T.n_Mode_rules, rfl, lr, _, rfl, SqL.of hlr, forW_enum (xs := rs.map V.ref) (fun n σ' H' => (∃ x y, σ' = [some (.ref a), some (.int k), some (.str row), some (.int i), x, y]) ∧ Same H H' ∧ firstM m.rules row i = firstF row i n (m.rules.drop n)) ⟨⟨_, _, rfl⟩, Same.refl H, rfl⟩ ?_ ?_ ?_⟩⟩
      · rintro n σ' H' _ ⟨_, s1, _⟩
        exact SqL.of (s1 _ _ hlr)
      · rintro n xv pt σ' H1 hx hpt ⟨⟨x, y, rfl⟩, s1, hf⟩
        rw [List.getElem?_map] at hx
        obtain ⟨r, hr0, rfl⟩ := Option.map_eq_some_iff.mp hx
        obtain ⟨R, hR1⟩ : ∃ R, m.rules[n]? = some R := ⟨m.rules[n]'(by rw [← hA.1]; exact (List.getElem?_eq_some_iff.mp hr0).1), List.getElem?_eq_getElem _⟩
        obtain ⟨dr, pa, hr1, dp, hp1⟩ := hA.2 n r R hr0 hR1
        obtain ⟨g1, g2⟩ := hok.2 R (List.mem_of_getElem? hR1)
        obtain ⟨fe, fs, de, ds, PK⟩ := patK (P := P) (w := w) (base := base) T g1
        have s2 : Same H (upd H1 pt (.tup [.int n, .ref r])) := s1.trans (Same.upd hpt)
        refine ⟨pt, [.int n, .ref r], rfl, SqT.of upd_same, rfl, _, _, rfl, _, _, rfl, rfl, ?_⟩
        rw [firstF_at hR1] at hf
        generalize upd H1 pt (.tup [.int n, .ref r]) = H2 at s2
        refine @at_one _ _ _ _ _ _ (ps_if (pt_cmpR op_notN (pe_meth (pe_fld (pv 5) rfl) PK.cl PK.me PK.ge (hr.mono (by decide)) PK.be .nil pass0 (pa_cons (pv 2) (pa_cons (pv 3) pa_nil))) pe_non (nomark _)) pss_at pss_at) (⟨_, rfl, _, _, _, _, _, rfl, (s2 _ _ hr1), T.cl_Rule, T.n_Rule_pattern, rfl, ⟨pa, dp, _, rfl, s2 _ _ hp1, PK.ne _, _, rfl, _, rfl, pa, dp, R.signs, row, i, rfl, s2 _ _ hp1, by omega, hrow, hi, rfl, _, rfl, ifnd (fun h => ?_) (fun h => at_nil ⟨⟨_, _, rfl⟩, s2, ?_⟩)⟩⟩)
        · refine @at_one _ _ _ _ _ _ (ps_ret (pv 4)) ⟨_, rfl, ?_⟩
          rw [if_pos (show fitsB R row i = true from decide_eq_true h)] at hf
          have := q H2 s2
          rw [hf] at this
          exact this
        · rw [if_neg (by rw [fitsB, decide_eq_false (fun z => z h)]; decide)] at hf
          exact hf
      · rintro σ' H' ⟨h1, h2, h3⟩
        rw [List.length_map, hA.1, List.drop_length] at h3
        exact ⟨h1, h2, h3⟩
    rintro σ' H' ⟨⟨x, y, rfl⟩, s1, hn⟩
    refine @at_one _ _ _ _ _ _ (ps_ret pe_non) ?_
    have := q H' s1
    rw [hn] at this
    exact this
def natV (n : Nat) : V := .int (n : Int)
def deedM (on : List Nat) (d : Str) (g : Option Nat) : List Nat :=
  if d = "push" then on ++ [g.getD 0] else if d = "into" then on.dropLast ++ [g.getD 0] else if d = "pop" then (if on.length = 1 then [0] else on.dropLast) else on
def GoodD (R : RuleM) : Prop := going R.deed → ∃ g, R.goal = some g
theorem set_last {α : Type} : ∀ (l : List α) (x : α), l ≠ [] → l.set (l.length - 1) x = l.dropLast ++ [x]
  | [], _, h => absurd rfl h
  | [a], x, _ => rfl
  | a :: b :: r, x, _ => by
    have := set_last (b :: r) x (by simp)
    show a :: (b :: r).set ((b :: r).length - 1) x = a :: ((b :: r).dropLast ++ [x])
    rw [this]
theorem ix_last {n : Nat} (h : 0 < n) : ixN n (-1) = some (n - 1) := by
  unfold ixN
  first
    | (rw [if_neg (by omega), if_pos (by omega)]; congr 1; omega)
    | (rw [if_pos (by omega)]; congr 1; omega)
def spDeed (t : Adr) : Sp := fun vs H Q _ => ∃ (lo r : Addr) (on : List Nat) (R : RuleM), vs = [.ref lo, .ref r] ∧ H lo = some (.lst (on.map natV)) ∧ IsRule t H r R ∧ on ≠ [] ∧ on.length ≤ 100000 ∧ GoodD R ∧ Q .non (upd H lo (.lst ((deedM on R.deed R.goal).map natV)))
theorem upd_id {H : Hp} {a : Addr} {o : HO} (h : H a = some o) : upd H a o = H := by
  funext b
  by_cases e : b = a
  · rw [e, upd_same, h]
  · rw [upd_ne e]
theorem ok_do_deed (T : Txt K mg t) : FnOk P w K mg base CX0 1 t.f_do_deed t.d_do_deed ["modes", "rule"] (spDeed t) := by
  refine T.F_do_deed.ok sc_do_deed (fun vs H Q E h => ?_) (fun cdv A outer s H vs Q E hr h => at_body ?_)
  · obtain ⟨lo, r, on, R, rfl, _⟩ := h
    rfl
  · obtain ⟨lo, r, on, R, rfl, hlo, ⟨dr, pa, hr1, hp1⟩, hne, hlen, hg, q⟩ := h
    have nlr : r ≠ lo := ne_of hr1 hlo (by intro z; cases z)
    have hpos : 0 < on.length := by cases on with | nil => exact absurd rfl hne | cons _ _ => simp
    refine @at_one _ _ _ _ _ _ (ps_if (pt_cmpR op_eq (pe_fld (pv 1) rfl) pe_str (nomark _)) pss_at pss_at) (⟨_, rfl, _, _, _, _, _, rfl, hr1, T.cl_Rule, T.n_Rule_deed, rfl, ⟨rfl, _, rfl, ifd (fun h => ?_) (fun h1 => ?_)⟩⟩)
    · have h := V.str.inj h
      obtain ⟨g, eg⟩ := hg (.inl h)
      refine @at_one _ _ _ _ _ _ (ps_expr (pe_bm PySem.F.plainAttrs_list PySem.F.slot_list_append PySem.F.type_list_append mt_append (pv 0) (pa_cons (pe_fld (pv 1) rfl) pa_nil))) ⟨_, rfl, .inl ⟨rfl, _, SqL.of hlo⟩, ⟨_, rfl, _, _, _, _, _, rfl, hr1, T.cl_Rule, T.n_Rule_goal, rfl, ⟨lo, _, _, rfl, rfl, hlo, sl_lt (by rw [List.length_map]; omega), ?_⟩⟩⟩
      rw [deedM, if_pos h, eg, List.map_append] at q
      rw [eg]
      exact q
    · have h1 : R.deed ≠ "push" := fun z => h1 (by rw [z])
      refine @at_one _ _ _ _ _ _ (ps_if (pt_cmpR op_eq (pe_fld (pv 1) rfl) pe_str (nomark _)) pss_at pss_at) (⟨_, rfl, _, _, _, _, _, rfl, hr1, T.cl_Rule, T.n_Rule_deed, rfl, ⟨rfl, _, rfl, ifd (fun h => ?_) (fun h2 => ?_)⟩⟩)
      · have h := V.str.inj h
        obtain ⟨g, eg⟩ := hg (.inr h)
        refine @at_one _ _ _ _ _ _ (ps_asg (pe_fld (pv 1) rfl) (pg_sub (pv 0) (pe_un un_neg pe_int) set_list)) (⟨_, rfl, _, _, _, _, _, rfl, hr1, T.cl_Rule, T.n_Rule_goal, rfl, ⟨_, rfl, _, rfl, lo, _, _, _, rfl, rfl, hlo, ix_last (by rw [List.length_map]; exact hpos), ?_⟩⟩)
        rw [deedM, if_neg h1, if_pos h, eg, List.map_append] at q
        rw [set_last _ _ (by simpa using hne), eg, ← List.map_dropLast]
        exact q
      · have h2 : R.deed ≠ "into" := fun z => h2 (by rw [z])
        refine @at_one _ _ _ _ _ _ (ps_if (pt_cmpR op_eq (pe_fld (pv 1) rfl) pe_str (nomark _)) pss_at pss_at) (⟨_, rfl, _, _, _, _, _, rfl, hr1, T.cl_Rule, T.n_Rule_deed, rfl, ⟨rfl, _, rfl, ifd (fun h => ?_) (fun h3 => at_nil ?_)⟩⟩)
        · have h := V.str.inj h
          rw [deedM, if_neg h1, if_neg h2, if_pos h] at q
          obtain ⟨y, hy⟩ : ∃ y, (on.map natV)[(on.map natV).length - 1]? = some y := ⟨_, List.getElem?_eq_getElem (by rw [List.length_map]; omega)⟩
          refine @at_cons _ _ _ _ _ _ _ (ps_expr (pe_bm0 PySem.F.plainAttrs_list PySem.F.slot_list_pop PySem.F.type_list_pop mt_pop (pv 0))) ⟨_, rfl, .inl ⟨rfl, _, SqL.of hlo⟩, lo, _, y, rfl, rfl, hlo, hy, ?_⟩
          refine @at_one _ _ _ _ _ _ (ps_if (pt_not (pt_truth (pv 0) (fun _ => rfl))) pss_at pss_at) ⟨_, rfl, _, .inl ⟨_, SqL.of upd_same, rfl⟩, ?_⟩
          rw [← List.map_dropLast]
          by_cases h1l : on.length = 1
          · rw [if_pos h1l] at q
            have e : on.dropLast = [] := List.eq_nil_of_length_eq_zero (by rw [List.length_dropLast, h1l])
            rw [e]
            refine iteT (@at_one _ _ _ _ _ _ (ps_expr (pe_bm PySem.F.plainAttrs_list PySem.F.slot_list_append PySem.F.type_list_append mt_append (pv 0) (pa_cons (pe_globE rfl T.mgv_START) pa_nil))) ⟨_, rfl, .inl ⟨rfl, _, SqL.of upd_same⟩, lo, _, _, rfl, rfl, upd_same, by decide, ?_⟩)
            rw [upd_upd]
            exact q
          · rw [if_neg h1l] at q
            have e : on.dropLast ≠ [] := fun z => by
              have := congrArg List.length z
              rw [List.length_dropLast] at this
              simp at this
              omega
            cases hd : on.dropLast with
            | nil => exact absurd hd e
            | cons x r =>
              rw [hd] at q
              exact iteF (at_nil q)
        · have h3 : R.deed ≠ "pop" := fun z => h3 (by rw [z])
          rw [deedM, if_neg h1, if_neg h2, if_neg h3, upd_id hlo] at q
          exact q
theorem deed_ne {on : List Nat} {d : Str} {g : Option Nat} (h : on ≠ []) : deedM on d g ≠ [] := by
  unfold deedM
  split
  · simp
  · split
    · simp
    · split
      · split
        · simp
        · intro z
          have := congrArg List.length z
          rw [List.length_dropLast] at this
          cases on with
          | nil => exact h rfl
          | cons x r =>
            cases r with
            | nil => rename_i h1 _ ; simp at *
            | cons y r => simp at this
      · exact h
theorem at_natlast {on : List Nat} {k : Nat} (h : on.getLast? = some k) : atI (on.map natV) (-1) = some (natV k) := by
  obtain ⟨pre, rfl⟩ : ∃ pre, on = pre ++ [k] := by
    rcases List.eq_nil_or_concat on with rfl | ⟨p, x, rfl⟩
    · simp at h
    · simp at h
      exact ⟨p, by rw [h, List.concat_eq_append]⟩
  exact atI_lastM (k := pre.length) (by simp) (by simp)
end
section
variable {P : Program} {w : World} {K : PySem.W.Frag} {mg : Str → Option Value} {base : Heap} {t : Adr}
structure GoodMs (ms : List ModeM) : Prop where
  pos : 0 < ms.length
  len : ms.length ≤ 200
  ok : ∀ m ∈ ms, RulesOk m.rules
  deed : ∀ m ∈ ms, ∀ R ∈ m.rules, R.deed ∈ deeds
  goal : ∀ m ∈ ms, ∀ R ∈ m.rules, going R.deed → ∃ g, R.goal = some g ∧ g < ms.length
theorem GoodMs.gd {ms : List ModeM} (G : GoodMs ms) {m : ModeM} {R : RuleM} (h : m ∈ ms) (h2 : R ∈ m.rules) : GoodD R := fun z => let ⟨g, e, _⟩ := G.goal m h R h2 z; ⟨g, e⟩
/-- the modes that are on are modes -/
def OnOk (ms : List ModeM) (on : List Nat) : Prop := on ≠ [] ∧ ∀ x ∈ on, x < ms.length
theorem OnOk.deed {ms : List ModeM} (G : GoodMs ms) {on : List Nat} (h : OnOk ms on) {m : ModeM} {R : RuleM} (h1 : m ∈ ms) (h2 : R ∈ m.rules) : OnOk ms (deedM on R.deed R.goal) := by
  refine ⟨deed_ne h.1, fun x hx => ?_⟩
  unfold deedM at hx
  split at hx
  · rename_i e
    obtain ⟨g, eg, hg⟩ := G.goal m h1 R h2 (.inl e)
    rcases List.mem_append.mp hx with hx | hx
    · exact h.2 x hx
    · rw [List.mem_singleton.mp hx, eg]; exact hg
  · split at hx
    · rename_i e
      obtain ⟨g, eg, hg⟩ := G.goal m h1 R h2 (.inr e)
      rcases List.mem_append.mp hx with hx | hx
      · exact h.2 x (List.dropLast_subset _ hx)
      · rw [List.mem_singleton.mp hx, eg]; exact hg
    · split at hx
      · split at hx
        · rw [List.mem_singleton.mp hx]; exact G.pos
        · exact h.2 x (List.dropLast_subset _ hx)
      · exact h.2 x hx
def topN (on : List Nat) : Nat := on.getLastD 0
theorem top_last {on : List Nat} (h : on ≠ []) : on.getLast? = some (topN on) := by
  unfold topN
  rw [List.getLastD_eq_getLast?, List.getLast?_eq_some_getLast h]
  rfl
theorem top_mem {on : List Nat} (h : on ≠ []) : topN on ∈ on := List.mem_of_getLast? (top_last h)
theorem OnOk.mode {ms : List ModeM} {on : List Nat} (h : OnOk ms on) : ∃ m, ms[topN on]? = some m := ⟨ms[topN on]'(h.2 _ (top_mem h.1)), List.getElem?_eq_getElem _⟩
def ruleM (rs : List RuleM) (row : Str) (i : Nat) : Option RuleM := (firstM rs row i).bind (rs[·]?)
def idleM (rs : List RuleM) (row : Str) : Option RuleM := (ruleM rs row 0).bind fun R => if eatsB R.sort = true then none else some R
theorem firstF_some {row : Str} {i : Nat} : ∀ {rs : List RuleM} {k n : Nat}, firstF row i k rs = some n → k ≤ n ∧ ∃ R, rs[n - k]? = some R ∧ fitsB R row i = true ∧ ∀ j, j < n - k → ∀ R', rs[j]? = some R' → fitsB R' row i = false
  | [], k, n, h => by cases h
  | R :: r, k, n, h => by
    rw [firstF] at h
    split at h
    · rename_i hf
      cases h
      refine ⟨Nat.le_refl _, R, by rw [Nat.sub_self]; rfl, hf, fun j hj => ?_⟩
      omega
    · rename_i hf
      obtain ⟨h1, R', h2, h3, h4⟩ := firstF_some h
      have e : n - k = (n - (k + 1)) + 1 := by omega
      refine ⟨by omega, R', by rw [e, List.getElem?_cons_succ]; exact h2, h3, fun j hj R'' hR => ?_⟩
      cases j with
      | zero =>
        rw [List.getElem?_cons_zero] at hR
        cases hR
        simpa using hf
      | succ j => exact h4 j (by omega) R'' (by rw [List.getElem?_cons_succ] at hR; exact hR)
theorem first_at {rs : List RuleM} {row : Str} {i n : Nat} (h : firstM rs row i = some n) : ∃ R, rs[n]? = some R ∧ ruleM rs row i = some R ∧ fitsB R row i = true := by
  obtain ⟨_, R, h2, h3, _⟩ := firstF_some h
  rw [Nat.sub_zero] at h2
  exact ⟨R, h2, by rw [ruleM, h]; exact h2, h3⟩
def spIdle (t : Adr) : Sp := fun vs H Q _ => ∃ (a : Addr) (ms : List ModeM) (m : ModeM) (k : Nat) (row : Str), vs = [.ref a, .int k, .str row] ∧ IsRules t H a ms ∧ ms[k]? = some m ∧ RulesOk m.rules ∧ row.length ≤ 1000 ∧
  ∀ H', Same H H' → (idleM m.rules row = none → Q .non H') ∧ ∀ R r, idleM m.rules row = some R → IsRule t H r R → Q (.ref r) H'
theorem ok_idle_rule (T : Txt K mg t) : FnOk P w K mg base CX0 3 t.f_idle_rule t.d_idle_rule ["rules", "mode", "row"] (spIdle t) := by
  refine T.F_idle_rule.ok sc_idle_rule (fun vs H Q E h => ?_) (fun cdv A outer s H vs Q E hr h => at_body ?_)
  · obtain ⟨a, ms, m, k, row, rfl, _⟩ := h
    rfl
  · obtain ⟨a, ms, m, k, row, rfl, hR, hm, hok, hrow, q⟩ := h
    refine @at_cons _ _ _ _ _ _ _ (ps_set (i := 3) sc_idle_rule.nd rfl (Or.inl rfl) (pe_call (ok_first_rule T) (hr.mono (by decide)) rfl T.mg_first_rule T.F_first_rule.kp (bd_first_rule T) .nil pass0 (pa_cons (pv 0) (pa_cons (pv 1) (pa_cons (pv 2) (pa_cons pe_int pa_nil)))))) ⟨_, rfl, _, rfl, _, rfl, a, ms, m, k, 0, row, rfl, hR, hm, hok, hrow, by omega, fun H1 s1 => ?_⟩
    obtain ⟨dx, lm, as, b, lr, dm, rs, ha, hlm, hal, hb, hmo, hlr, hA⟩ := hR.mode hm
    cases hf : firstM m.rules row 0 with
    | none =>
      have e : idleM m.rules row = none := by rw [idleM, ruleM, hf]; rfl
      exact @at_cons _ _ _ _ _ _ _ (ps_if (pt_cmpR op_isN (pv 3) pe_non (nomark _)) pss_at pss_at) ⟨_, rfl, rfl, _, rfl, ifd (fun _ => @at_one _ _ _ _ _ _ (ps_ret pe_non) ((q H1 s1).1 e)) (fun h => absurd rfl h)⟩
    | some n =>
      obtain ⟨R, hn, hru, _⟩ := first_at hf
      obtain ⟨r, hr0, hr1⟩ := hA.at hn
      obtain ⟨g1, g2⟩ := hok.2 R (List.mem_of_getElem? hn)
      obtain ⟨fe, fs, de, ds, PK⟩ := patK (P := P) (w := w) (base := base) T g1
      refine @at_cons _ _ _ _ _ _ _ (ps_if (pt_cmpR op_isN (pv 3) pe_non (nomark _)) pss_at pss_at) ⟨_, rfl, rfl, _, rfl, ifd (fun h => by cases h) (fun _ => at_nil ?_)⟩
      refine @at_cons _ _ _ _ _ _ _ (ps_set (i := 4) sc_idle_rule.nd rfl (Or.inl rfl) (pe_ix ix_list (pe_fld (pe_ix ix_list (pe_fld (pv 0) rfl) (pv 1) (fun _ _ => rfl)) rfl) (pv 3) (fun _ _ => rfl))) (⟨_, rfl, _, _, _, _, _, rfl, (s1 _ _ ha), T.cl_Rules, T.n_Rules_modes, rfl, ⟨_, rfl, _, _, _, _, rfl, rfl, SqL.of (s1 _ _ hlm), at_ref hb, b, t.c_Mode, dm, _, _, rfl, s1 _ _ hmo, T.cl_Mode, T.n_Mode_rules, rfl, _, rfl, _, _, _, _, rfl, rfl, SqL.of (s1 _ _ hlr), at_ref hr0, ?_⟩⟩)
      obtain ⟨dr, pa, o1, dp, o2⟩ := id hr1
      have e : idleM m.rules row = if eatsB R.sort = true then none else some R := by rw [idleM, hru]; rfl
      refine @at_one _ _ _ _ _ _ (ps_ret (pe_ifExp (pt_val (pe_meth0 (pe_fld (pv 4) rfl) PK.cl PK.ms PK.gs (hr.mono (by decide)) PK.bs .nil pass0)) pe_non (pv 4))) (⟨_, rfl, _, _, _, _, _, rfl, (s1 _ _ o1), T.cl_Rule, T.n_Rule_pattern, rfl, ⟨pa, dp, _, rfl, s1 _ _ o2, PK.ns _, _, rfl, _, rfl, ifb (fun h => ?_) (fun h => ⟨_, rfl, ?_⟩)⟩⟩)
      · rw [if_pos h] at e
        exact (q H1 s1).1 e
      · rw [if_neg (by rw [h]; decide)] at e
        exact (q H1 s1).2 R r e hr1
def idleAt (ms : List ModeM) (k : Nat) (row : Str) : Option RuleM := (ms[k]?).bind fun m => idleM m.rules row
def ringF (ms : List ModeM) (row : Str) (first : Nat) : Nat → List Nat → List Nat → Option (List Nat)
  | 0, _, _ => none
  | f + 1, on, ring => match idleAt ms (topN on) row with
    | none => none
    | some R => if R.deed = "pop" ∧ on.length = 1 ∧ first ≠ 0 then none else if topN (deedM on R.deed R.goal) = first then some (ring ++ [topN on]) else ringF ms row first f (deedM on R.deed R.goal) (ring ++ [topN on])
def ringFrom (ms : List ModeM) (first : Nat) (row : Str) : Option (List Nat) := ringF ms row first ms.length [first] []
theorem deed_len {on : List Nat} {d : Str} {g : Option Nat} : (deedM on d g).length ≤ on.length + 1 := by
  unfold deedM
  split
  · simp
  · split
    · simp
    · split
      · split
        · simp
        · simp; omega
      · omega
theorem idle_mem {rs : List RuleM} {row : Str} {R : RuleM} (h : idleM rs row = some R) : R ∈ rs := by
  unfold idleM at h
  cases e : ruleM rs row 0 with
  | none => rw [e] at h; cases h
  | some R' =>
    rw [e] at h
    have : (if eatsB R'.sort = true then none else some R') = some R := h
    split at this
    · cases this
    · cases this
      unfold ruleM at e
      cases e2 : firstM rs row 0 with
      | none => rw [e2] at e; cases e
      | some n => rw [e2] at e; exact List.mem_of_getElem? e
def spRingFrom (t : Adr) : Sp := fun vs H Q _ => ∃ (a : Addr) (ms : List ModeM) (first : Nat) (row : Str), vs = [.ref a, .int first, .str row] ∧ IsRules t H a ms ∧ GoodMs ms ∧ first < ms.length ∧ row.length ≤ 1000 ∧
  ∀ H', Same H H' → (ringFrom ms first row = none → Q .non H') ∧ ∀ ring l, ringFrom ms first row = some ring → H' l = some (.lst (ring.map natV)) → H l = none → Q (.ref l) H'
theorem ok_ring_from (T : Txt K mg t) : FnOk P w K mg base CX0 4 t.f_ring_from t.d_ring_from ["rules", "first", "row"] (spRingFrom t) := by
  refine T.F_ring_from.ok sc_ring_from (fun vs H Q E h => ?_) (fun cdv A outer s H vs Q E hr h => at_body ?_)
  · obtain ⟨a, ms, first, row, rfl, _⟩ := h
    rfl
  · obtain ⟨a, ms, first, row, rfl, hR, G, hfirst, hrow, q⟩ := h
    refine @at_cons _ _ _ _ _ _ _ (ps_set (i := 3) sc_ring_from.nd rfl (Or.inl rfl) (pe_lst pa_nil)) ⟨by show 0 ≤ sizeLine; decide, fun lg hlg => ?_⟩
    have s1 : Same H (upd H lg (.lst [])) := Same.upd hlg
    have hg1 : upd H lg (.lst []) lg = some (.lst []) := upd_same
    generalize upd H lg (.lst []) = H1 at s1 hg1
    refine @at_cons _ _ _ _ _ _ _ (ps_set (i := 4) sc_ring_from.nd rfl (Or.inl rfl) (pe_lst (pa_cons (pv 1) pa_nil))) ⟨_, rfl, by show 1 ≤ sizeLine; decide, fun lo hlo => ?_⟩
    have s2 : Same H1 (upd H1 lo (.lst [.int first])) := Same.upd hlo
    have ho2 : upd H1 lo (.lst [.int first]) lo = some (.lst ([first].map natV)) := upd_same
    have hg2 := s2 _ _ hg1
    have ngo : lg ≠ lo := ne_of_none hg1 hlo
    have hlo0 : H lo = none := s1.free hlo
    generalize upd H1 lo (.lst [.int first]) = H2 at s2 ho2 hg2
    have s2 := s1.trans s2
    show At _ _ _ [some (.ref a), some (.int first), some (.str row), some (.ref lg), some (.ref lo), none] H2
    obtain ⟨dx, lm, as, ls, ha, hlm, hM⟩ := id hR
    refine @at_consR _ _ _ _ _ _ _ (fun σ' H' => (∃ x, σ' = [some (.ref a), some (.int first), some (.str row), some (.ref lg), some (.ref lo), x]) ∧ Same H H' ∧ ringFrom ms first row = none) (ps_while PassesOwn.never (pt_cmpR op_lt (pe_callB call_len_seq (by rfl) T.z_len (by decide +kernel) (pa_cons (pv 3) pa_nil)) (pe_callB call_len_seq (by rfl) T.z_len (by decide +kernel) (pa_cons (pe_fld (pv 0) rfl) pa_nil)) (nomark _)) pss_at) ?_ ?_
    · refine ⟨fun f σ' H' => ∃ (on ring : List Nat), (∃ x, σ' = [some (.ref a), some (.int first), some (.str row), some (.ref lg), some (.ref lo), x]) ∧ H' lg = some (.lst (ring.map natV)) ∧ H' lo = some (.lst (on.map natV)) ∧ Same H H' ∧ f + ring.length = ms.length ∧ OnOk ms on ∧ on.length ≤ ring.length + 1 ∧ ringFrom ms first row = ringF ms row first f on ring, ⟨ms.length, [first], [], ⟨_, rfl⟩, hg2, ho2, s2, by simp, ⟨by simp, by simpa using hfirst⟩, by simp, rfl⟩, ?_⟩
      rintro f σ' H3 ⟨on, ring, ⟨x, rfl⟩, hg3, ho3, s3, hfl, hon, honl, hrec⟩
      have hlen := G.len
      refine ⟨_, rfl, _, _, rfl, .inl (SqL.of hg3), ⟨_, rfl, _, _, _, _, _, rfl, (s3 _ _ ha), T.cl_Rules, T.n_Rules_modes, rfl, ⟨_, _, rfl, .inl (SqL.of (s3 _ _ hlm)), _, _, rfl, rfl, _, rfl, ifd (fun h => ?_) (fun h => ?_)⟩⟩⟩
      · rw [List.length_map, List.length_map, hM.la] at h
        obtain ⟨f', rfl⟩ : ∃ f', f = f' + 1 := ⟨f - 1, by omega⟩
        obtain ⟨m, hm⟩ := hon.mode
        have hmm := List.mem_of_getElem? hm
        have hid : idleAt ms (topN on) row = idleM m.rules row := by rw [idleAt, hm]; rfl
        rw [ringF, hid] at hrec
        refine ⟨_, fun σ' H' z => z, ?_⟩
        obtain ⟨dx', lm', as', b, lr, dm, rs, ha', hlm', hal', hb, hmo, hlr, hA⟩ := (hR.same s3).mode hm
        cases hi0 : idleM m.rules row with
        | none =>
          rw [hi0] at hrec
          refine @at_cons _ _ _ _ _ _ _ (ps_set (i := 5) sc_ring_from.nd rfl (Or.inl rfl) (pe_call (ok_idle_rule T) (hr.mono (by decide)) rfl T.mg_idle_rule T.F_idle_rule.kp (bd_idle_rule T) .nil pass0 (pa_cons (pv 0) (pa_cons (pe_ix ix_list (pv 4) (pe_un un_neg pe_int) (fun _ _ => rfl)) (pa_cons (pv 2) pa_nil))))) ⟨_, rfl, _, rfl, _, rfl, _, _, _, _, rfl, rfl, SqL.of ho3, at_natlast (top_last hon.1), _, rfl, a, ms, m, topN on, row, rfl, hR.same s3, hm, G.ok m hmm, hrow, fun H4 s4 => ⟨fun _ => ?_, (fun R r e => by rw [hi0] at e; cases e)⟩⟩
          exact @at_cons _ _ _ _ _ _ _ (ps_if (pt_cmpR op_isN (pv 5) pe_non (nomark _)) pss_at pss_at) ⟨_, rfl, rfl, _, rfl, ifd (fun _ => @at_one _ _ _ _ _ _ (ps_ret pe_non) ((q H4 (s3.trans s4)).1 hrec)) (fun h => absurd rfl h)⟩
        | some R =>
          rw [hi0] at hrec
          have hRm := idle_mem hi0
          refine @at_cons _ _ _ _ _ _ _ (ps_set (i := 5) sc_ring_from.nd rfl (Or.inl rfl) (pe_call (ok_idle_rule T) (hr.mono (by decide)) rfl T.mg_idle_rule T.F_idle_rule.kp (bd_idle_rule T) .nil pass0 (pa_cons (pv 0) (pa_cons (pe_ix ix_list (pv 4) (pe_un un_neg pe_int) (fun _ _ => rfl)) (pa_cons (pv 2) pa_nil))))) ⟨_, rfl, _, rfl, _, rfl, _, _, _, _, rfl, rfl, SqL.of ho3, at_natlast (top_last hon.1), _, rfl, a, ms, m, topN on, row, rfl, hR.same s3, hm, G.ok m hmm, hrow, fun H4 s4 => ⟨(fun e => by rw [hi0] at e; cases e), fun R' r e hr1 => ?_⟩⟩
          rw [hi0] at e
          cases e
          refine @at_cons _ _ _ _ _ _ _ (ps_if (pt_cmpR op_isN (pv 5) pe_non (nomark _)) pss_at pss_at) ⟨_, rfl, rfl, _, rfl, ifd (fun h => by cases h) (fun _ => at_nil ?_)⟩
          have hr4 := hr1.same s4
          have hg4 := s4 _ _ hg3
          have ho4 := s4 _ _ ho3
          obtain ⟨dr, pa, o1, hpat⟩ := id hr4
          refine @at_consR _ _ _ _ _ _ _ (fun σ' H' => σ' = [some (.ref a), some (.int first), some (.str row), some (.ref lg), some (.ref lo), some (.ref r)] ∧ H' = H4 ∧ ¬ (R.deed = "pop" ∧ on.length = 1 ∧ first ≠ 0)) (ps_if (PW.pt (pw_and (pt_cmpR op_eq (pe_fld (pv 5) rfl) pe_str (nomark _)) (pw_and (pt_cmpR op_eq (pe_callB call_len_seq (by rfl) T.z_len (by decide +kernel) (pa_cons (pv 4) pa_nil)) pe_int (nomark _)) (pw_and1 (pt_cmpR op_ne (pv 1) (pe_globE rfl T.mgv_START) (nomark _)))))) pss_at pss_at) ?_ ?_
          · refine ⟨_, rfl, _, _, _, _, _, rfl, o1, T.cl_Rule, T.n_Rule_deed, rfl, ⟨rfl, _, rfl, ifd (fun h1 => ?_) (fun h1 => at_nil ⟨rfl, rfl, fun z => h1 (by rw [z.1])⟩)⟩⟩
            refine ⟨_, rfl, _, _, rfl, .inl (SqL.of ho4), rfl, _, rfl, ifd (fun h2 => ?_) (fun h2 => at_nil ⟨rfl, rfl, fun z => h2 (by rw [List.length_map, z.2.1]; rfl)⟩)⟩
            refine ⟨_, rfl, rfl, _, rfl, ifnd (fun h3 => ?_) (fun h3 => at_nil ⟨rfl, rfl, fun z => z.2.2 (by have := V.int.inj h3; omega)⟩)⟩
            have h2 := V.int.inj h2
            rw [List.length_map] at h2
            have hc : R.deed = "pop" ∧ on.length = 1 ∧ first ≠ 0 := ⟨V.str.inj h1, by omega, fun z => h3 (by rw [z]; rfl)⟩
            simp only [if_pos hc] at hrec
            exact @at_one _ _ _ _ _ _ (ps_ret pe_non) ((q H4 (s3.trans s4)).1 hrec)
          rintro σ' H' ⟨rfl, e, hnc⟩
          rw [e]
          clear e H'
          simp only [if_neg hnc] at hrec
          refine @at_cons _ _ _ _ _ _ _ (ps_expr (pe_bm PySem.F.plainAttrs_list PySem.F.slot_list_append PySem.F.type_list_append mt_append (pv 3) (pa_cons (pe_ix ix_list (pv 4) (pe_un un_neg pe_int) (fun _ _ => rfl)) pa_nil))) ⟨_, rfl, .inl ⟨rfl, _, SqL.of hg4⟩, _, rfl, _, rfl, _, _, _, _, rfl, rfl, SqL.of ho4, at_natlast (top_last hon.1), lg, _, _, rfl, rfl, hg4, sl_lt (by rw [List.length_map]; omega), ?_⟩
          have hg5 : upd H4 lg (.lst (ring.map natV ++ [natV (topN on)])) lg = some (.lst ((ring ++ [topN on]).map natV)) := by rw [upd_same, List.map_append]; rfl
          have ho5 : upd H4 lg (.lst (ring.map natV ++ [natV (topN on)])) lo = some (.lst (on.map natV)) := by rw [upd_ne (Ne.symm ngo)]; exact ho4
          have hr5 : IsRule t (upd H4 lg (.lst (ring.map natV ++ [natV (topN on)]))) r R := hr4.updL hg4
          have s5 : Same H (upd H4 lg (.lst (ring.map natV ++ [natV (topN on)]))) := fun b o hb => by rw [upd_ne (ne_of_none hb hlg)]; exact s4 _ _ (s3 _ _ hb)
          generalize upd H4 lg (.lst (ring.map natV ++ [natV (topN on)])) = H5 at hg5 ho5 hr5 s5
          refine @at_cons _ _ _ _ _ _ _ (ps_expr (pe_call (ok_do_deed T) (hr.mono (by decide)) rfl T.mg_do_deed T.F_do_deed.kp (bd_do_deed T) .nil pass0 (pa_cons (pv 4) (pa_cons (pv 5) pa_nil)))) ⟨_, rfl, _, rfl, lo, r, on, R, rfl, ho5, hr5, hon.1, by omega, G.gd hmm hRm, ?_⟩
          have hon6 := hon.deed G hmm hRm
          have hol6 : (deedM on R.deed R.goal).length ≤ on.length + 1 := deed_len
          have hg6 : upd H5 lo (.lst ((deedM on R.deed R.goal).map natV)) lg = some (.lst ((ring ++ [topN on]).map natV)) := by rw [upd_ne ngo]; exact hg5
          have s6 : Same H (upd H5 lo (.lst ((deedM on R.deed R.goal).map natV))) := fun b o hb => by rw [upd_ne (ne_of_none hb hlo0)]; exact s5 _ _ hb
          refine @at_one _ _ _ _ _ _ (ps_if (pt_cmpR op_eq (pe_ix ix_list (pv 4) (pe_un un_neg pe_int) (fun _ _ => rfl)) (pv 1) (nomark _)) pss_at pss_at) ⟨_, rfl, _, rfl, _, _, _, _, rfl, rfl, SqL.of upd_same, at_natlast (top_last hon6.1), _, rfl, rfl, _, rfl, ifd (fun h => ?_) (fun h => at_nil ?_)⟩
          · have h : topN (deedM on R.deed R.goal) = first := by have := V.int.inj h; omega
            rw [if_pos h] at hrec
            exact @at_one _ _ _ _ _ _ (ps_ret (pv 3)) ⟨_, rfl, (q _ s6).2 _ lg hrec hg6 hlg⟩
          · have h : ¬ topN (deedM on R.deed R.goal) = first := fun z => h (by rw [← z]; rfl)
            rw [if_neg h] at hrec
            refine ⟨f', by omega, _, _, ⟨_, rfl⟩, hg6, upd_same, s6, ?_, hon6, ?_, hrec⟩
            · simp only [List.length_append, List.length_cons, List.length_nil]; omega
            · simp only [List.length_append, List.length_cons, List.length_nil]; omega
      · rw [List.length_map, List.length_map, hM.la] at h
        have : f = 0 := by omega
        subst this
        exact ⟨⟨_, rfl⟩, s3, hrec⟩
    rintro σ' H' ⟨⟨x, rfl⟩, s3, hn⟩
    exact @at_one _ _ _ _ _ _ (ps_ret pe_non) ((q H' s3).1 hn)
abbrev signs94 : Str := " !\"#$&'()*+,-./0123456789:;<=>?@ABCDEFGHIJKLMNOPQRSTUVWXYZ[\\]^_`abcdefghijklmnopqrstuvwxyz{|}~"
def shortRows : List Str := "" :: signs94.cps.toList.map fun c => (⟨#[c]⟩ : Str)
def spShort : Sp := fun vs H Q _ => vs = [] ∧ ∀ l H', H' l = some (.lst (shortRows.map V.str)) → H l = none → Same H H' → Q (.ref l) H'
theorem ok_short_rows (T : Txt K mg t) : FnOk P w K mg base CX0 1 t.f_short_rows t.d_short_rows [] spShort := by
  refine T.F_short_rows.ok sc_short_rows (fun vs H Q E h => ?_) (fun cdv A outer s H vs Q E hr h => at_body ?_)
  · obtain ⟨rfl, _⟩ := h
    rfl
  · obtain ⟨rfl, q⟩ := h
    refine @at_one _ _ _ _ _ _ (ps_ret (pe_op op_cat (pe_lst (pa_cons pe_str pa_nil)) (pe_callTy (call_listS rfl) (by rfl) T.z_list (by decide +kernel) (pa_cons (pe_globE rfl T.mgv_SIGNS) pa_nil)))) ⟨by show 1 ≤ sizeLine; decide, fun l1 hl1 => ⟨_, rfl, by decide +kernel, fun l2 hl2 => ?_⟩⟩
    refine ⟨l1, l2, _, _, rfl, rfl, Same.upd hl2 _ _ upd_same, upd_same, sl_le (by simp only [signsV, List.length_map, List.length_cons, List.length_nil]; decide +kernel), fun l hl => ?_⟩
    refine q l _ ?_ (((Same.upd hl1).to hl2).free hl) (((Same.upd hl1).to hl2).to hl)
    rw [upd_same, shortRows, List.map_cons, List.map_map]
    rfl
theorem short_len : ∀ r ∈ shortRows, r.length ≤ 1 := by
  intro r hr
  rcases List.mem_cons.mp hr with e | e
  · rw [e]; decide
  · obtain ⟨c, _, rfl⟩ := List.mem_map.mp e
    exact Nat.le_refl 1
def ringRow (ms : List ModeM) (row : Str) : Nat → Nat → Option (List Nat)
  | 0, _ => none
  | n + 1, k => match ringFrom ms k row with
    | some r => some r
    | none => ringRow ms row n (k + 1)
def ringRows (ms : List ModeM) : List Str → Option (List Nat × Str)
  | [] => none
  | row :: r => match ringRow ms row ms.length 0 with
    | some ring => some (ring, row)
    | none => ringRows ms r
def ringM (ms : List ModeM) : Option (List Nat × Str) := ringRows ms shortRows
theorem ringRow_none {ms : List ModeM} {row : Str} : ∀ {n k : Nat}, ringRow ms row n k = none → ∀ j, k ≤ j → j < k + n → ringFrom ms j row = none
  | 0, k, _, j, h1, h2 => by omega
  | n + 1, k, h, j, h1, h2 => by
    rw [ringRow] at h
    cases e : ringFrom ms k row with
    | some r => rw [e] at h; cases h
    | none =>
      rw [e] at h
      by_cases z : j = k
      · rw [z]; exact e
      · exact ringRow_none h j (by omega) (by omega)
theorem ringRows_none {ms : List ModeM} : ∀ {rows : List Str}, ringRows ms rows = none → ∀ row ∈ rows, ∀ j, j < ms.length → ringFrom ms j row = none
  | [], _, row, h, _, _ => by cases h
  | r :: rs, h, row, hr, j, hj => by
    rw [ringRows] at h
    cases e : ringRow ms r ms.length 0 with
    | some r => rw [e] at h; cases h
    | none =>
      rw [e] at h
      rcases List.mem_cons.mp hr with z | z
      · rw [z]; exact ringRow_none e j (Nat.zero_le _) (by omega)
      · exact ringRows_none h row z j hj
theorem ringM_none {ms : List ModeM} (h : ringM ms = none) : ∀ row ∈ shortRows, ∀ j, j < ms.length → ringFrom ms j row = none := ringRows_none h
def nameAt (ms : List ModeM) (k : Nat) : Str := match ms[k]? with
  | some m => m.name
  | none => ""
def rowV (row : Str) : V := if row = "" then .non else .str row
def spRing (t : Adr) : Sp := fun vs H Q _ => ∃ (a : Addr) (ms : List ModeM), vs = [.ref a] ∧ IsRules t H a ms ∧ GoodMs ms ∧
  ∀ H', Same H H' → (ringM ms = none → Q .non H') ∧ ∀ ring row p l, ringM ms = some (ring, row) → H' p = some (.tup [.ref l, rowV row]) → H' l = some (.lst ((ring.map (nameAt ms)).map V.str)) → Q (.ref p) H'
theorem ringF_lt {ms : List ModeM} (G : GoodMs ms) {row : Str} {first : Nat} : ∀ {f : Nat} {on ring r : List Nat}, OnOk ms on → (∀ x ∈ ring, x < ms.length) → ringF ms row first f on ring = some r → ∀ x ∈ r, x < ms.length
  | 0, on, ring, r, _, _, h => by cases h
  | f + 1, on, ring, r, ho, hr, h => by
    rw [ringF] at h
    obtain ⟨m, hm⟩ := ho.mode
    have hid : idleAt ms (topN on) row = idleM m.rules row := by rw [idleAt, hm]; rfl
    rw [hid] at h
    have h2 : ∀ x ∈ ring ++ [topN on], x < ms.length := fun x hx => by
      rcases List.mem_append.mp hx with hx | hx
      · exact hr x hx
      · rw [List.mem_singleton.mp hx]; exact ho.2 _ (top_mem ho.1)
    cases e : idleM m.rules row with
    | none => rw [e] at h; cases h
    | some R =>
      rw [e] at h
      have h : (if R.deed = "pop" ∧ on.length = 1 ∧ first ≠ 0 then none else if topN (deedM on R.deed R.goal) = first then some (ring ++ [topN on]) else ringF ms row first f (deedM on R.deed R.goal) (ring ++ [topN on])) = some r := h
      split at h
      · cases h
      · split at h
        · cases h; exact h2
        · exact ringF_lt G (ho.deed G (List.mem_of_getElem? hm) (idle_mem e)) h2 h
theorem ringF_len {ms : List ModeM} {row : Str} {first : Nat} : ∀ {f : Nat} {on ring r : List Nat}, ringF ms row first f on ring = some r → r.length ≤ ring.length + f
  | 0, on, ring, r, h => by cases h
  | f + 1, on, ring, r, h => by
    rw [ringF] at h
    cases e : idleAt ms (topN on) row with
    | none => rw [e] at h; cases h
    | some R =>
      rw [e] at h
      have h : (if R.deed = "pop" ∧ on.length = 1 ∧ first ≠ 0 then none else if topN (deedM on R.deed R.goal) = first then some (ring ++ [topN on]) else ringF ms row first f (deedM on R.deed R.goal) (ring ++ [topN on])) = some r := h
      split at h
      · cases h
      · split at h
        · cases h; simp
        · have := ringF_len h
          rw [List.length_append, List.length_cons, List.length_nil] at this
          omega
theorem ok_ring_of (T : Txt K mg t) : FnOk P w K mg base CX0 5 t.f_ring_of t.d_ring_of ["rules"] (spRing t) := by
  refine T.F_ring_of.ok sc_ring_of (fun vs H Q E h => ?_) (fun cdv A outer s H vs Q E hr h => at_body ?_)
  · obtain ⟨a, ms, rfl, _⟩ := h
    rfl
  · obtain ⟨a, ms, rfl, hR, G, q⟩ := h
    have hlen := G.len
    refine @at_consR _ _ _ _ _ _ _ (fun σ' H' => (∃ x y z, σ' = [some (.ref a), x, y, z]) ∧ Same H H' ∧ ringM ms = none) (ps_forA PassesOwn.never rfl (pi_list (pe_call0 (ok_short_rows T) (hr.mono (by decide)) rfl T.mg_short_rows T.F_short_rows.kp (bd_short_rows T) .nil pass0)) (pg_name (i := 1) sc_ring_of.nd rfl (Or.inl rfl)) pss_at) ?_ ?_
    · refine ⟨rfl, fun l H1 hl1 hl0 s1 => ⟨l, rfl, ⟨_, SqL.of hl1⟩, forW_list (xs := shortRows.map V.str) (fun i σ' H' => (∃ x y z, σ' = [some (.ref a), x, y, z]) ∧ H' l = some (.lst (shortRows.map V.str)) ∧ Same H H' ∧ ringM ms = ringRows ms (shortRows.drop i)) ⟨⟨_, _, _, rfl⟩, hl1, s1, rfl⟩ ?_ ?_ ?_⟩⟩
      · rintro i σ' H' _ ⟨_, h, _⟩
        exact SqL.of h
      · rintro i xv σ' H2 hx ⟨⟨x, y, z, rfl⟩, hl2, s2, hrec⟩
        rw [List.getElem?_map] at hx
        obtain ⟨row, hrow, rfl⟩ := Option.map_eq_some_iff.mp hx
        have hrl := short_len row (List.mem_of_getElem? hrow)
        rw [drop_at hrow, ringRows] at hrec
        obtain ⟨dx, lm, as, ls, ha, hlm, hM⟩ := id hR
        refine @at_one _ _ _ _ _ _ (ps_forA PassesOwn.never rfl (pi_range1 rfl T.z_range (pa_cons (pe_callB call_len_seq (by rfl) T.z_len (by decide +kernel) (pa_cons (pe_fld (pv 0) rfl) pa_nil)) pa_nil)) (pg_name (i := 2) sc_ring_of.nd rfl (Or.inl rfl)) pss_at) (⟨_, rfl, _, _, _, _, _, rfl, (s2 _ _ ha), T.cl_Rules, T.n_Rules_modes, rfl, ⟨_, _, rfl, .inl (SqL.of (s2 _ _ hlm)), (ms.length : Int), by rw [List.length_map, hM.la], by omega, by omega, forW_range (n := ((ms.length : Nat) : Int).toNat) (fun k σ' H' => (∃ y z, σ' = [some (.ref a), some (.str row), y, z]) ∧ H' l = some (.lst (shortRows.map V.str)) ∧ Same H H' ∧ ringRow ms row ms.length 0 = ringRow ms row (ms.length - k) k) ⟨⟨_, _, rfl⟩, hl2, s2, rfl⟩ ?_ ?_⟩⟩)
        · rintro k σ' H3 hk ⟨⟨y, z, rfl⟩, hl3, s3, hrow3⟩
          have hk' : k < ms.length := by omega
          rw [show ms.length - k = (ms.length - (k + 1)) + 1 by omega, ringRow] at hrow3
          cases hf : ringFrom ms k row with
          | none =>
            rw [hf] at hrow3
            refine @at_cons _ _ _ _ _ _ _ (ps_set (i := 3) sc_ring_of.nd rfl (Or.inl rfl) (pe_call (ok_ring_from T) (hr.mono (by decide)) rfl T.mg_ring_from T.F_ring_from.kp (bd_ring_from T) .nil pass0 (pa_cons (pv 0) (pa_cons (pv 2) (pa_cons (pv 1) pa_nil))))) ⟨_, rfl, _, rfl, _, rfl, a, ms, k, row, (by rw [Int.zero_add]; rfl), hR.same s3, G, hk', by omega, fun H4 s4 => ⟨fun _ => ?_, (fun ring lg e => by rw [hf] at e; cases e)⟩⟩
            exact @at_one _ _ _ _ _ _ (ps_if (pt_cmpR op_notN (pv 3) pe_non (nomark _)) pss_at pss_at) ⟨_, rfl, rfl, _, rfl, ifnd (fun h => absurd rfl h) (fun _ => at_nil ⟨⟨_, _, rfl⟩, s4 _ _ hl3, s3.trans s4, hrow3⟩)⟩
          | some ring =>
            rw [hf] at hrow3
            have hrec : ringM ms = some (ring, row) := by rw [hrec, hrow3]
            refine @at_cons _ _ _ _ _ _ _ (ps_set (i := 3) sc_ring_of.nd rfl (Or.inl rfl) (pe_call (ok_ring_from T) (hr.mono (by decide)) rfl T.mg_ring_from T.F_ring_from.kp (bd_ring_from T) .nil pass0 (pa_cons (pv 0) (pa_cons (pv 2) (pa_cons (pv 1) pa_nil))))) ⟨_, rfl, _, rfl, _, rfl, a, ms, k, row, (by rw [Int.zero_add]; rfl), hR.same s3, G, hk', by omega, fun H4 s4 => ⟨(fun e => by rw [hf] at e; cases e), fun ring' lg e hlg hlg0 => ?_⟩⟩
            rw [hf] at e
            cases e
            have s4' := s3.trans s4
            have hlt : ∀ x ∈ ring, x < ms.length := ringF_lt G ⟨by simp, by simpa using hk'⟩ (by simp) hf
            have hrl2 : ring.length < 1000000 := by
              have := ringF_len hf
              simp only [List.length_nil] at this
              omega
            refine @at_one _ _ _ _ _ _ (ps_if (pt_cmpR op_notN (pv 3) pe_non (nomark _)) pss_at pss_at) ⟨_, rfl, rfl, _, rfl, ifnd (fun _ => ?_) (fun h => by cases h)⟩
            refine @at_one _ _ _ _ _ _ (@ps_ret _ _ _ _ (@pe_tup _ _ _ _ _ (@pa_cons _ _ _ _ _ (@pe_comp _ (defScope s_ring_of) _ ["rules", "row", "first", "ring"] _ _ ("mode") _ _ [("rules", 0)] _ _ (by walk_at "ck") (@pi_list _ _ _ _ (pv 3)) (fun _ _ _ _ => by exact (@pe_fldK _ K _ _ _ _ (@pe_ix _ _ _ _ _ _ _ (ix_listK (K := K) rfl) (@pe_fldK _ K _ _ _ _ (pv 0) rfl (by walk_at "u")) (pv 1) (fun _ _ => rfl)) rfl (by walk_at "u"))) (by walk_at "u") (by walk_at "u") (by walk_at "u") (by walk_at "u")) (@pa_cons _ _ _ _ _ (@pe_ifExp _ _ _ _ _ _ _ _ (@pt_truth _ _ _ (pv 1) (fun _ => rfl)) (pv 1) pe_non) pa_nil (by walk_at "u")) (by walk_at "u")))) ⟨_, rfl, lg, rfl, ⟨_, SqL.of hlg⟩, comp_list (xs := ring.map natV) (fun i ys H5 => ys = ((ring.take i).map (nameAt ms)).map V.str ∧ Same H4 H5) ⟨rfl, Same.refl H4⟩ (by rw [List.length_map]; exact Nat.lt_trans hrl2 (by decide)) ?_ ?_ ?_⟩
            · rintro i ys H5 _ ⟨_, s5⟩
              exact SqL.of (s5 _ _ hlg)
            · rintro i xv ys H5 hx hyl ⟨rfl, s5⟩
              rw [List.getElem?_map] at hx
              obtain ⟨n, hn, rfl⟩ := Option.map_eq_some_iff.mp hx
              obtain ⟨m, hm⟩ : ∃ m, ms[n]? = some m := ⟨ms[n]'(hlt n (List.mem_of_getElem? hn)), List.getElem?_eq_getElem _⟩
              obtain ⟨dx, lm, as, b, lr, dm, rs, ha, hlm, hal, hb, hmo, hlr, hA⟩ := (hR.same (s4'.trans s5)).mode hm
              refine ⟨_, rfl, _, _, _, _, _, rfl, ha, T.cl_Rules, T.n_Rules_modes, rfl, ⟨_, rfl, _, _, _, _, rfl, rfl, SqL.of hlm, at_ref hb, b, t.c_Mode, dm, _, _, rfl, hmo, T.cl_Mode, T.n_Mode_name, rfl, ?_⟩⟩
              have hi := (List.getElem?_eq_some_iff.mp hn).1
              refine comp_turn (by rw [List.length_map]; exact hi) hyl ⟨?_, s5⟩
              rw [take_snoc hn, List.map_append, List.map_append]
              show _ = _ ++ [V.str (nameAt ms n)]
              rw [nameAt, hm]
            · rintro ys H5 hyl ⟨rfl, s5⟩ D hD
              have e5 : ring.take (ring.map natV).length = ring := by rw [List.length_map, List.take_length]
              rw [e5]
              have s6 : Same H (upd H5 D (.lst ((ring.map (nameAt ms)).map V.str))) := (s4'.trans s5).to hD
              have hD6 : upd H5 D (.lst ((ring.map (nameAt ms)).map V.str)) D = some (.lst ((ring.map (nameAt ms)).map V.str)) := upd_same
              generalize upd H5 D (.lst ((ring.map (nameAt ms)).map V.str)) = H6 at s6 hD6
              by_cases h0 : row = ""
              · refine ⟨_, rfl, false, ⟨sl_le (by omega), (by rw [h0]; rfl)⟩, iteF ⟨by show 2 ≤ sizeLine; decide, fun tp htp => ?_⟩⟩
                exact (q _ (s6.to htp)).2 ring row tp D hrec (by rw [upd_same, rowV, if_pos h0]) (Same.upd htp _ _ hD6)
              · have hrl1 : row.length ≠ 0 := fun z => h0 (str_ext (by rw [show (Str.ofString "").cps.toList = [] from by decide +kernel]; exact List.eq_nil_of_length_eq_zero (by rw [len_cps]; exact z)))
                refine ⟨_, rfl, true, ⟨sl_le (by omega), ?_⟩, iteT ⟨_, rfl, by show 2 ≤ sizeLine; decide, fun tp htp => ?_⟩⟩
                · have : (row.length : Int) ≠ 0 := by omega
                  simpa using this
                · exact (q _ (s6.to htp)).2 ring row tp D hrec (by rw [upd_same, rowV, if_neg h0]) (Same.upd htp _ _ hD6)
        · rintro σ' H3 ⟨⟨y, z, rfl⟩, hl3, s3, hrow3⟩
          rw [Int.toNat_natCast, Nat.sub_self] at hrow3
          refine ⟨⟨_, _, _, rfl⟩, hl3, s3, ?_⟩
          rw [hrec, hrow3]
          rfl
      · rintro σ' H' ⟨h1, _, h2, h3⟩
        rw [List.length_map, List.drop_length] at h3
        exact ⟨h1, h2, h3⟩
    rintro σ' H' ⟨⟨x, y, z, rfl⟩, s1, hn⟩
    exact @at_one _ _ _ _ _ _ (ps_ret pe_non) ((q H' s1).1 hn)
end
section
variable {P : Program} {w : World} {K : PySem.W.Frag} {mg : Str → Option Value} {base : Heap} {t : Adr}
def itemsM (m : ModeM) : List Item := .mode m.name m.colour :: m.rules.map .rule
def itemsOf (ms : List ModeM) : List Item := ms.flatMap itemsM
theorem itemsOf_app (a b : List ModeM) : itemsOf (a ++ b) = itemsOf a ++ itemsOf b := by unfold itemsOf; rw [List.flatMap_append]
theorem itemsOf_one (m : ModeM) : itemsOf [m] = itemsM m := by unfold itemsOf; simp
theorem names_rules (rs : List RuleM) : namesOf (rs.map Item.rule) = [] := by
  induction rs with
  | nil => rfl
  | cons r t ih => show nameI (.rule r) ++ namesOf (t.map Item.rule) = []; rw [ih]; rfl
theorem names_M (m : ModeM) : namesOf (itemsM m) = [m.name] := by
  show nameI (.mode m.name m.colour) ++ namesOf (m.rules.map Item.rule) = _
  rw [names_rules]; rfl
theorem names_items (ms : List ModeM) : namesOf (itemsOf ms) = ms.map (·.name) := by
  induction ms with
  | nil => rfl
  | cons m r ih =>
    rw [show m :: r = [m] ++ r from rfl, itemsOf_app, namesOf_app, itemsOf_one, names_M, ih]
    rfl
theorem fold_rules_step (rs : List RuleM) : ∀ (ms : List ModeM) (m : ModeM), (rs.map Item.rule).foldl stepI (ms ++ [m]) = ms ++ [{ m with rules := m.rules ++ rs }] := by
  induction rs with
  | nil => intro ms m; simp
  | cons r t ih =>
    intro ms m
    rw [List.map_cons, List.foldl_cons, show stepI (ms ++ [m]) (Item.rule r) = addRule r (ms ++ [m]) from rfl, addRule_snoc, ih]
    simp
theorem fold_M (ms : List ModeM) (m : ModeM) : (itemsM m).foldl stepI ms = ms ++ [m] := by
  rw [itemsM, List.foldl_cons]
  show (m.rules.map Item.rule).foldl stepI (ms ++ [⟨m.name, m.colour, []⟩]) = _
  rw [fold_rules_step]
  simp
theorem fold_itemsOf (ms : List ModeM) : ∀ acc : List ModeM, (itemsOf ms).foldl stepI acc = acc ++ ms := by
  induction ms with
  | nil => intro acc; simp [itemsOf]
  | cons m r ih =>
    intro acc
    rw [show m :: r = [m] ++ r from rfl, itemsOf_app, List.foldl_append, itemsOf_one, fold_M, ih]
    simp
theorem fold_items (ms : List ModeM) : foldI (itemsOf ms) = ms := by
  have := fold_itemsOf ms []
  simpa [foldI] using this
/-- modes whose text is read -/
structure Fit (ms : List ModeM) : Prop where
  pos : 0 < ms.length
  twelve : ms.length ≤ 12
  nd : (ms.map (·.name)).Nodup
  nm : ∀ m ∈ ms, isName m.name = true ∧ isName m.colour = true
  six : ∀ m ∈ ms, m.rules.length ≤ 12
  rule : ∀ m ∈ ms, ∀ R ∈ m.rules, GoodRule (ms.map (·.name)) R
/-- rules of modes of the law make good items -/
theorem good_upto {ms : List ModeM} (B : Fit ms) : ∀ n, n ≤ ms.length → ∀ (i : Nat) it, (itemsOf (ms.take n))[i]? = some it →
    (∀ nm c, it = .mode nm c → isName nm = true ∧ isName c = true ∧ (namesOf ((itemsOf (ms.take n)).take i)).length < 12 ∧ nm ∉ namesOf ((itemsOf (ms.take n)).take i)) ∧
    (∀ R, it = .rule R → GoodRule (ms.map (·.name)) R ∧ ∃ ms' m, foldI ((itemsOf (ms.take n)).take i) = ms' ++ [m] ∧ m.rules.length < 12)
  | 0, _, i, it, h => by simp [itemsOf] at h
  | n + 1, hn, i, it, h => by
    have hm : ms[n]? = some ms[n] := List.getElem?_eq_getElem hn
    have e : itemsOf (ms.take (n + 1)) = itemsOf (ms.take n) ++ itemsM ms[n] := by rw [take_snoc hm, itemsOf_app, itemsOf_one]
    rw [e] at h ⊢
    have hmm := List.getElem_mem hn
    have r6 := B.six _ hmm
    have h4 := B.twelve
    by_cases hi : i < (itemsOf (ms.take n)).length
    · rw [List.getElem?_append_left hi] at h
      rw [List.take_append_of_le_length (by omega)]
      exact good_upto B n (by omega) i it h
    · rw [List.getElem?_append_right (by omega)] at h
      rw [show (itemsOf (ms.take n) ++ itemsM ms[n]).take i = itemsOf (ms.take n) ++ (itemsM ms[n]).take (i - (itemsOf (ms.take n)).length) by
        rw [List.take_append, List.take_of_length_le (by omega)]]
      generalize i - (itemsOf (ms.take n)).length = j at h
      cases j with
      | zero =>
        have h : Item.mode ms[n].name ms[n].colour = it := by simpa [itemsM] using h
        subst h
        refine ⟨fun nm c e => ?_, (fun R e => by cases e)⟩
        cases e
        obtain ⟨n1, n2⟩ := B.nm _ hmm
        rw [List.take_zero, List.append_nil, names_items]
        refine ⟨n1, n2, by rw [List.length_map, List.length_take]; omega, fun hmem => ?_⟩
        rw [List.map_take] at hmem
        have hnd := B.nd
        obtain ⟨j, hj⟩ := List.mem_iff_getElem?.mp hmem
        have hjn : j < n := by
          have := (List.getElem?_eq_some_iff.mp hj).1
          rw [List.length_take] at this
          omega
        rw [List.getElem?_take_of_lt hjn] at hj
        have hk : (ms.map (·.name))[n]? = some ms[n].name := by rw [List.getElem?_map, hm]; rfl
        obtain ⟨j1, e1⟩ := List.getElem?_eq_some_iff.mp hj
        obtain ⟨k1, e2⟩ := List.getElem?_eq_some_iff.mp hk
        have := (List.getElem_inj hnd).mp (e1.trans e2.symm)
        omega
      | succ j =>
        have h : (ms[n].rules.map Item.rule)[j]? = some it := by simpa [itemsM] using h
        rw [List.getElem?_map] at h
        obtain ⟨R0, hR0, rfl⟩ := Option.map_eq_some_iff.mp h
        refine ⟨(fun nm c e => by cases e), fun R e => ?_⟩
        cases e
        refine ⟨B.rule _ hmm _ (List.mem_of_getElem? hR0), ms.take n, ⟨ms[n].name, ms[n].colour, ms[n].rules.take j⟩, ?_, ?_⟩
        · unfold foldI
          rw [List.foldl_append, fold_itemsOf, List.nil_append]
          have := fold_M (ms.take n) ⟨ms[n].name, ms[n].colour, ms[n].rules.take j⟩
          rw [← this]
          congr 1
          rw [itemsM, itemsM, List.take_succ_cons, List.map_take]
        · show (ms[n].rules.take j).length < 12
          have hj0 := (List.getElem?_eq_some_iff.mp hR0).1
          rw [List.length_take]
          omega
theorem Fit.items {ms : List ModeM} (B : Fit ms) : GoodItems (itemsOf ms) := by
  have h := good_upto B ms.length (Nat.le_refl _)
  rw [List.take_length] at h
  refine ⟨?_, fun i n c e => (h i _ e).1 n c rfl, fun i R e => ?_⟩
  · intro z
    have := names_items ms
    rw [z] at this
    have hl := congrArg List.length this
    rw [List.length_map] at hl
    have := B.pos
    simp [namesOf] at hl
    omega
  · rw [names_items]
    exact (h i _ e).2 R rfl
theorem Fit.len {ms : List ModeM} (B : Fit ms) : ∀ n, n ≤ ms.length → (itemsOf (ms.take n)).length ≤ n * 13
  | 0, _ => by simp [itemsOf]
  | n + 1, hn => by
    have hm : ms[n]? = some ms[n] := List.getElem?_eq_getElem hn
    have ih := B.len n (by omega)
    have h6 := B.six _ (List.getElem_mem hn)
    rw [take_snoc hm, itemsOf_app, itemsOf_one, List.length_append, itemsM, List.length_cons, List.length_map]
    omega
theorem Fit.len200 {ms : List ModeM} (B : Fit ms) : (itemsOf ms).length ≤ 200 := by
  have := B.len ms.length (Nat.le_refl _)
  rw [List.take_length] at this
  have := B.twelve
  omega
theorem Fit.good {ms : List ModeM} (B : Fit ms) : GoodMs ms := by
  have h12 := B.twelve
  refine ⟨B.pos, by omega, fun m hm => ⟨by have := B.six m hm; omega, fun R hR => ?_⟩, fun m hm R hR => (B.rule m hm R hR).deed, fun m hm R hR hg => ?_⟩
  · have g := (B.rule m hm R hR).pat
    refine ⟨g.sort, ?_⟩
    by_cases hb : bare R.sort
    · rw [g.nosg hb]; decide +kernel
    · exact (g.sg hb).2.1
  · obtain ⟨g, e, h⟩ := (B.rule m hm R hR).goal hg
    exact ⟨g, e, by rw [List.length_map] at h; exact h⟩
end
section
variable {P : Program} {w : World} {K : PySem.W.Frag} {mg : Str → Option Value} {base : Heap} {t : Adr}
abbrev fwd (d : Str) : Prop := d = "push" ∨ d = "into"
theorem fwd_deed {on : List Nat} {d : Str} {g : Nat} (hd : fwd d) : topN (deedM on d (some g)) = g := by
  unfold deedM topN
  rcases hd with rfl | rfl
  · rw [if_pos rfl, List.getLastD_eq_getLast?]; simp
  · rw [if_neg (by decide), if_pos rfl, List.getLastD_eq_getLast?]; simp
theorem top_snoc (us : List Nat) (k : Nat) : topN (us ++ [k]) = k := by unfold topN; rw [List.getLastD_eq_getLast?]; simp
theorem nodup_len : ∀ (n : Nat) (l : List Nat), l.Nodup → (∀ x ∈ l, x < n) → l.length ≤ n
  | 0, l, _, h => by
    cases l with
    | nil => exact Nat.le_refl _
    | cons x r => exact absurd (h x (by simp)) (by omega)
  | n + 1, l, hd, h => by
    have h1 := nodup_len n (l.erase n) (hd.erase n) fun x hx => by
      obtain ⟨h2, h3⟩ := hd.mem_erase_iff.mp hx
      have := h x h3
      omega
    rw [List.length_erase] at h1
    split at h1 <;> omega
section
variable {ms : List ModeM} {row : Str}
def fwdTo (ms : List ModeM) (row : Str) (a b : Nat) : Prop := ∃ R, idleAt ms a row = some R ∧ fwd R.deed ∧ R.goal = some b
def Pth (ms : List ModeM) (row : Str) : List Nat → Prop
  | [] => True
  | [_] => True
  | a :: b :: r => fwdTo ms row a b ∧ Pth ms row (b :: r)
theorem Pth.tail {a : Nat} {r : List Nat} (h : Pth ms row (a :: r)) : Pth ms row r := by
  cases r with
  | nil => trivial
  | cons b r => exact h.2
theorem Pth.suffix : ∀ {A B : List Nat}, Pth ms row (A ++ B) → Pth ms row B
  | [], B, h => h
  | a :: A, B, h => Pth.suffix (A := A) (Pth.tail h)
theorem Pth.snoc : ∀ {l : List Nat} {z g : Nat}, Pth ms row (l ++ [z]) → fwdTo ms row z g → Pth ms row (l ++ [z] ++ [g])
  | [], z, g, _, h => ⟨h, trivial⟩
  | [a], z, g, h, h2 => ⟨h.1, h2, trivial⟩
  | a :: b :: l, z, g, h, h2 => ⟨h.1, Pth.snoc (l := b :: l) h.2 h2⟩
theorem ring_fwd {first : Nat} {R : RuleM} {on ring : List Nat} {g fuel : Nat} (hR : idleAt ms (topN on) row = some R) (hd : fwd R.deed) (hg : R.goal = some g) (hx : g = first ∨ ringF ms row first fuel (deedM on R.deed R.goal) (ring ++ [topN on]) ≠ none) : ringF ms row first (fuel + 1) on ring ≠ none := by
  have hdp : R.deed ≠ "pop" := by rcases hd with z | z <;> rw [z] <;> decide
  rw [ringF, hR]
  show (if R.deed = "pop" ∧ on.length = 1 ∧ first ≠ 0 then none else if topN (deedM on R.deed R.goal) = first then some (ring ++ [topN on]) else ringF ms row first fuel (deedM on R.deed R.goal) (ring ++ [topN on])) ≠ none
  have ht : topN (deedM on R.deed R.goal) = g := by rw [hg]; exact fwd_deed hd
  rw [if_neg (fun z => hdp z.1), ht]
  by_cases z : g = first
  · rw [if_pos z]; intro w; cases w
  · rw [if_neg z]; exact hx.resolve_left z
/-- a path that comes back to where it begins is a ring -/
theorem ring_path {first : Nat} : ∀ (r : List Nat) (x z : Nat) (fuel : Nat) (on ring : List Nat), Pth ms row (x :: r) → (x :: r).getLast? = some z → fwdTo ms row z first → topN on = x → (x :: r).length ≤ fuel → ringF ms row first fuel on ring ≠ none
  | [], x, z, fuel, on, ring, _, hl, hz, ht, hf => by
    cases hl
    obtain ⟨R, h1, h2, h3⟩ := hz
    obtain ⟨f, rfl⟩ : ∃ f, fuel = f + 1 := ⟨fuel - 1, by rw [List.length_singleton] at hf; omega⟩
    exact ring_fwd (by rw [ht]; exact h1) h2 h3 (.inl rfl)
  | y :: r, x, z, fuel, on, ring, hp, hl, hz, ht, hf => by
    obtain ⟨⟨R, h1, h2, h3⟩, hp2⟩ := hp
    rw [List.length_cons] at hf
    obtain ⟨f, rfl⟩ : ∃ f, fuel = f + 1 := ⟨fuel - 1, by omega⟩
    refine ring_fwd (by rw [ht]; exact h1) h2 h3 (.inr ?_)
    exact ring_path r y z f _ _ hp2 (by rw [List.getLast?_cons_cons] at hl; exact hl) hz (by rw [h3]; exact fwd_deed h2) (by omega)
/-- steps on and then none; steps into others and then a pop -/
def EndN (ms : List ModeM) (row : Str) : Nat → Nat → Prop
  | 0, k => idleAt ms k row = none
  | m + 1, k => ∃ g, fwdTo ms row k g ∧ EndN ms row m g
def EndP (ms : List ModeM) (row : Str) : Nat → Nat → Prop
  | 0, k => ∃ R, idleAt ms k row = some R ∧ R.deed = "pop"
  | m + 1, k => ∃ g R, idleAt ms k row = some R ∧ R.deed = "into" ∧ R.goal = some g ∧ EndP ms row m g
theorem into_deed {us : List Nat} {q g : Nat} : deedM (us ++ [q]) "into" (some g) = us ++ [g] := by
  rw [deedM, if_neg (by decide), if_pos rfl, List.dropLast_concat]; rfl
theorem pop_deed (us : List Nat) (k : Nat) (g : Option Nat) : deedM (us ++ [k]) "pop" g = if us = [] then [0] else us := by
  rw [deedM, if_neg (by decide), if_neg (by decide), if_pos rfl, List.dropLast_concat]
  by_cases z : us = []
  · rw [if_pos z, if_pos (by rw [z]; rfl)]
  · rw [if_neg z, if_neg]
    have := List.length_pos_iff.mpr z
    rw [List.length_append, List.length_singleton]; omega
theorem stay_deed (on : List Nat) (g : Option Nat) : deedM on "stay" g = on := by rw [deedM, if_neg (by decide), if_neg (by decide), if_neg (by decide)]
theorem last_app {A B : List Nat} {g k : Nat} {vis : List Nat} (h : vis ++ [k] = A ++ g :: B) : (g :: B).getLast? = some k := by
  have e := congrArg List.getLast? h
  rw [List.getLast?_append] at e
  cases h2 : (g :: B).getLast? with
  | none => rw [List.getLast?_eq_none_iff] at h2; cases h2
  | some z => rw [List.getLast?_append, h2] at e; simpa using e.symm
theorem ring_pop {first : Nat} : ∀ (m q fuel : Nat) (us ring : List Nat), EndP ms row m q → us ≠ [] → topN us = first → m + 1 ≤ fuel → ringF ms row first fuel (us ++ [q]) ring ≠ none
  | 0, q, fuel, us, ring, ⟨R, h1, h2⟩, hne, ht, hf => by
    obtain ⟨f, rfl⟩ : ∃ f, fuel = f + 1 := ⟨fuel - 1, by omega⟩
    have hl : (us ++ [q]).length ≠ 1 := by
      have := List.length_pos_iff.mpr hne
      rw [List.length_append, List.length_singleton]; omega
    rw [ringF, top_snoc, h1]
    show (if R.deed = "pop" ∧ (us ++ [q]).length = 1 ∧ first ≠ 0 then none else if topN (deedM (us ++ [q]) R.deed R.goal) = first then some _ else ringF ms row first f (deedM (us ++ [q]) R.deed R.goal) _) ≠ none
    rw [if_neg (fun z => hl z.2.1), h2, pop_deed, if_neg hne, if_pos ht]
    intro w; cases w
  | m + 1, q, fuel, us, ring, ⟨g, R, h1, h2, h3, h4⟩, hne, ht, hf => by
    obtain ⟨f, rfl⟩ : ∃ f, fuel = f + 1 := ⟨fuel - 1, by omega⟩
    refine ring_fwd (by rw [top_snoc]; exact h1) (.inr h2) h3 (.inr ?_)
    rw [h2, h3, into_deed]
    exact ring_pop m g f us _ h4 hne ht (by omega)
theorem ring_start : ∀ (m q fuel : Nat) (ring : List Nat), EndP ms row m q → m + 1 ≤ fuel → ringF ms row 0 fuel [q] ring ≠ none
  | 0, q, fuel, ring, ⟨R, h1, h2⟩, hf => by
    obtain ⟨f, rfl⟩ : ∃ f, fuel = f + 1 := ⟨fuel - 1, by omega⟩
    rw [ringF, show topN [q] = q from rfl, h1]
    show (if R.deed = "pop" ∧ [q].length = 1 ∧ (0 : Nat) ≠ 0 then none else if topN (deedM [q] R.deed R.goal) = 0 then some _ else ringF ms row 0 f (deedM [q] R.deed R.goal) _) ≠ none
    rw [if_neg (fun z => z.2.2 rfl), h2, show deedM [q] "pop" R.goal = [0] from pop_deed [] q R.goal, if_pos (show topN [0] = 0 from rfl)]
    intro w; cases w
  | m + 1, q, fuel, ring, ⟨g, R, h1, h2, h3, h4⟩, hf => by
    obtain ⟨f, rfl⟩ : ∃ f, fuel = f + 1 := ⟨fuel - 1, by omega⟩
    refine ring_fwd (on := [q]) h1 (.inr h2) h3 (.inr ?_)
    have : deedM [q] R.deed R.goal = [g] := by rw [h2, h3]; exact into_deed (us := [])
    rw [this]
    exact ring_start m g f _ h4 (by omega)
/-- what comes of a mode where there is no ring -/
theorem ends (G : GoodMs ms) (hn : ∀ j, j < ms.length → ringFrom ms j row = none) : ∀ (f : Nat) (vis : List Nat) (k : Nat), Pth ms row (vis ++ [k]) → (vis ++ [k]).Nodup → (∀ x ∈ vis ++ [k], x < ms.length) → ms.length ≤ vis.length + 1 + f → f + 1 ≤ ms.length → ∃ m, m ≤ f ∧ (EndN ms row m k ∨ EndP ms row m k) := by
  intro f
  induction f with
  | zero =>
    intro vis k hp hd hlt hf hf2
    have hk := hlt k (by simp)
    cases hR : idleAt ms k row with
    | none => exact ⟨0, Nat.le_refl _, .inl hR⟩
    | some R =>
      refine ⟨0, Nat.le_refl _, .inr ⟨R, hR, ?_⟩⟩
      obtain ⟨hdd, hgo⟩ : R.deed ∈ deeds ∧ (going R.deed → ∃ g, R.goal = some g ∧ g < ms.length) := by
        obtain ⟨m, hm⟩ : ∃ m, ms[k]? = some m := ⟨ms[k], List.getElem?_eq_getElem hk⟩
        have hid : idleAt ms k row = idleM m.rules row := by rw [idleAt, hm]; rfl
        rw [hid] at hR
        exact ⟨G.deed m (List.mem_of_getElem? hm) R (idle_mem hR), G.goal m (List.mem_of_getElem? hm) R (idle_mem hR)⟩
      have hdd : R.deed = "stay" ∨ R.deed = "push" ∨ R.deed = "pop" ∨ R.deed = "into" := by simpa using hdd
      have nofw : ¬ fwd R.deed := fun hfw => by
        obtain ⟨g, hg, hgl⟩ := hgo hfw
        have hfg : fwdTo ms row k g := ⟨R, hR, hfw, hg⟩
        by_cases hmem : g ∈ vis ++ [k]
        · obtain ⟨A, B, hAB⟩ := List.append_of_mem hmem
          rw [hAB] at hp hd
          have hlast := last_app hAB
          have hB : (g :: B).length ≤ ms.length := nodup_len _ _ (List.nodup_append.mp hd).2.1 fun x hx => hlt x (by rw [hAB]; exact List.mem_append_right _ hx)
          exact ring_path B g k ms.length [g] [] (Pth.suffix hp) hlast hfg rfl hB (hn g hgl)
        · have := nodup_len ms.length (vis ++ [k] ++ [g]) (List.nodup_append.mpr ⟨hd, by simp, fun x hx y hy e => hmem (by rw [List.mem_singleton.mp hy] at e; rw [← e]; exact hx)⟩) fun x hx => by
            rcases List.mem_append.mp hx with z | z
            · exact hlt x z
            · rw [List.mem_singleton.mp z]; exact hgl
          rw [List.length_append, List.length_append, List.length_singleton, List.length_singleton] at this
          omega
      rcases hdd with z | z | z | z
      · exfalso
        have := hn k hk
        rw [ringFrom] at this
        obtain ⟨n', hn'⟩ : ∃ n', ms.length = n' + 1 := ⟨ms.length - 1, by omega⟩
        rw [hn', ringF, show topN [k] = k from rfl, hR] at this
        have this : (if R.deed = "pop" ∧ [k].length = 1 ∧ k ≠ 0 then none else if topN (deedM [k] R.deed R.goal) = k then some ([] ++ [k]) else ringF ms row k n' (deedM [k] R.deed R.goal) ([] ++ [k])) = none := this
        rw [if_neg (fun w => by rw [z] at w; exact absurd w.1 (by decide)), z, stay_deed, if_pos (show topN [k] = k from rfl)] at this
        cases this
      · exact absurd (.inl z) nofw
      · exact z
      · exact absurd (.inr z) nofw
  | succ f ih =>
    intro vis k hp hd hlt hf hf2
    have hk := hlt k (by simp)
    cases hR : idleAt ms k row with
    | none => exact ⟨0, Nat.zero_le _, .inl hR⟩
    | some R =>
      obtain ⟨hdd, hgo⟩ : R.deed ∈ deeds ∧ (going R.deed → ∃ g, R.goal = some g ∧ g < ms.length) := by
        obtain ⟨m, hm⟩ : ∃ m, ms[k]? = some m := ⟨ms[k], List.getElem?_eq_getElem hk⟩
        have hid : idleAt ms k row = idleM m.rules row := by rw [idleAt, hm]; rfl
        rw [hid] at hR
        exact ⟨G.deed m (List.mem_of_getElem? hm) R (idle_mem hR), G.goal m (List.mem_of_getElem? hm) R (idle_mem hR)⟩
      have hdd : R.deed = "stay" ∨ R.deed = "push" ∨ R.deed = "pop" ∨ R.deed = "into" := by simpa using hdd
      have go : fwd R.deed → ∃ g m, R.goal = some g ∧ m ≤ f ∧ (EndN ms row m g ∨ EndP ms row m g) := fun hfw => by
        obtain ⟨g, hg, hgl⟩ := hgo hfw
        have hfg : fwdTo ms row k g := ⟨R, hR, hfw, hg⟩
        by_cases hmem : g ∈ vis ++ [k]
        · exfalso
          obtain ⟨A, B, hAB⟩ := List.append_of_mem hmem
          rw [hAB] at hp hd
          have hlast := last_app hAB
          have hB : (g :: B).length ≤ ms.length := nodup_len _ _ (List.nodup_append.mp hd).2.1 fun x hx => hlt x (by rw [hAB]; exact List.mem_append_right _ hx)
          exact ring_path B g k ms.length [g] [] (Pth.suffix hp) hlast hfg rfl hB (hn g hgl)
        · obtain ⟨m, h1, h2⟩ := ih (vis ++ [k]) g (Pth.snoc hp hfg) (List.nodup_append.mpr ⟨hd, by simp, fun x hx y hy e => hmem (by rw [List.mem_singleton.mp hy] at e; rw [← e]; exact hx)⟩) (fun x hx => by
            rcases List.mem_append.mp hx with z | z
            · exact hlt x z
            · rw [List.mem_singleton.mp z]; exact hgl) (by rw [List.length_append, List.length_singleton]; omega) (by omega)
          exact ⟨g, m, hg, h1, h2⟩
      rcases hdd with z | z | z | z
      · exfalso
        have := hn k hk
        rw [ringFrom] at this
        obtain ⟨n', hn'⟩ : ∃ n', ms.length = n' + 1 := ⟨ms.length - 1, by omega⟩
        rw [hn', ringF, show topN [k] = k from rfl, hR] at this
        have this : (if R.deed = "pop" ∧ [k].length = 1 ∧ k ≠ 0 then none else if topN (deedM [k] R.deed R.goal) = k then some ([] ++ [k]) else ringF ms row k n' (deedM [k] R.deed R.goal) ([] ++ [k])) = none := this
        rw [if_neg (fun w => by rw [z] at w; exact absurd w.1 (by decide)), z, stay_deed, if_pos (show topN [k] = k from rfl)] at this
        cases this
      · obtain ⟨g, m, hg, hm, h | h⟩ := go (.inl z)
        · exact ⟨m + 1, by omega, .inl ⟨g, ⟨R, hR, .inl z, hg⟩, h⟩⟩
        · exfalso
          obtain ⟨n', hn'⟩ : ∃ n', ms.length = n' + 1 := ⟨ms.length - 1, by omega⟩
          have h0 := hn k hk
          rw [ringFrom, hn'] at h0
          refine ring_fwd (on := [k]) hR (.inl z) hg (.inr ?_) h0
          have : deedM [k] R.deed R.goal = [k] ++ [g] := by rw [z, hg, deedM, if_pos rfl]; rfl
          rw [this]
          exact ring_pop m g n' [k] _ h (by simp) rfl (by omega)
      · exact ⟨0, Nat.zero_le _, .inr ⟨R, hR, z⟩⟩
      · obtain ⟨g, m, hg, hm, h | h⟩ := go (.inr z)
        · exact ⟨m + 1, by omega, .inl ⟨g, ⟨R, hR, .inr z, hg⟩, h⟩⟩
        · exact ⟨m + 1, by omega, .inr ⟨g, R, hR, z, hg, h⟩⟩
def calmN (ms : List ModeM) (row : Str) : Nat → List Nat → Bool
  | 0, _ => false
  | f + 1, on => match idleAt ms (topN on) row with
    | none => true
    | some R => calmN ms row f (deedM on R.deed R.goal)
theorem calm_mono : ∀ (f : Nat) (on : List Nat) (f' : Nat), calmN ms row f on = true → f ≤ f' → calmN ms row f' on = true
  | 0, on, f', h, _ => by cases h
  | f + 1, on, f', h, hf => by
    obtain ⟨f2, rfl⟩ : ∃ f2, f' = f2 + 1 := ⟨f' - 1, by omega⟩
    rw [calmN] at h ⊢
    cases e : idleAt ms (topN on) row with
    | none => rfl
    | some R =>
      rw [e] at h
      exact calm_mono f _ f2 h (by omega)
theorem calm_endN : ∀ (m k : Nat) (on : List Nat), EndN ms row m k → topN on = k → calmN ms row (m + 1) on = true
  | 0, k, on, h, ht => by
    have h : idleAt ms k row = none := h
    rw [calmN, ht, h]
  | m + 1, k, on, ⟨g, ⟨R, h1, h2, h3⟩, h4⟩, ht => by
    rw [calmN, ht, h1]
    exact calm_endN m g _ h4 (by rw [h3]; exact fwd_deed h2)
theorem calm_endP : ∀ (m k f : Nat) (us : List Nat), EndP ms row m k → calmN ms row f (if us = [] then [0] else us) = true → calmN ms row (m + 1 + f) (us ++ [k]) = true
  | 0, k, f, us, ⟨R, h1, h2⟩, h => by
    rw [show 0 + 1 + f = f + 1 by omega, calmN, top_snoc, h1]
    show calmN ms row f (deedM (us ++ [k]) R.deed R.goal) = true
    rw [h2, pop_deed]; exact h
  | m + 1, k, f, us, ⟨g, R, h1, h2, h3, h4⟩, h => by
    rw [show m + 1 + 1 + f = (m + 1 + f) + 1 by omega, calmN, top_snoc, h1]
    show calmN ms row (m + 1 + f) (deedM (us ++ [k]) R.deed R.goal) = true
    rw [h2, h3, into_deed]
    exact calm_endP m g f us h4 h
theorem calm_all (G : GoodMs ms) (hn : ∀ j, j < ms.length → ringFrom ms j row = none) : ∀ (l : Nat) (on : List Nat), on.length = l → OnOk ms on → calmN ms row (ms.length * (l + 1)) on = true := by
  have hpos := G.pos
  have one : ∀ k, k < ms.length → ∃ m, m ≤ ms.length - 1 ∧ (EndN ms row m k ∨ EndP ms row m k) := fun k hk => ends G hn (ms.length - 1) [] k trivial (by simp) (by simpa using hk) (by rw [List.length_nil]; omega) (by omega)
  intro l
  induction l with
  | zero => intro on h1 h2; exact absurd (List.length_eq_zero_iff.mp h1) h2.1
  | succ l ih =>
    intro on h1 h2
    obtain ⟨us, k, rfl⟩ : ∃ us k, on = us ++ [k] := ⟨on.dropLast, on.getLast h2.1, (List.dropLast_concat_getLast h2.1).symm⟩
    have hk := h2.2 k (by simp)
    rw [List.length_append, List.length_singleton] at h1
    have e1 : ms.length * (l + 1 + 1) = ms.length * (l + 1) + ms.length := Nat.mul_succ _ _
    obtain ⟨m, hm, h | h⟩ := one k hk
    · exact calm_mono (m + 1) _ _ (calm_endN m k _ h (top_snoc us k)) (by rw [e1]; omega)
    · refine calm_mono (m + 1 + ms.length * (l + 1)) _ _ (calm_endP m k _ us h ?_) (by rw [e1]; omega)
      by_cases z : us = []
      · rw [if_pos z]
        obtain ⟨m0, hm0, h0 | h0⟩ := one 0 hpos
        · refine calm_mono (m0 + 1) _ _ (calm_endN m0 0 _ h0 rfl) ?_
          have : ms.length * 1 ≤ ms.length * (l + 1) := Nat.mul_le_mul_left _ (by omega)
          omega
        · exact absurd (hn 0 hpos) (ring_start m0 0 _ _ h0 (by omega))
      · rw [if_neg z]
        exact ih us (by omega) ⟨z, fun x hx => h2.2 x (List.mem_append_left _ hx)⟩
/-- where rules only go on there is no ring -/
theorem only_on {first : Nat} (hup : ∀ k R, idleAt ms k row = some R → ∃ g, fwd R.deed ∧ R.goal = some g ∧ k < g) : ∀ (fuel : Nat) (on ring : List Nat), first ≤ topN on → ringF ms row first fuel on ring = none
  | 0, _, _, _ => rfl
  | f + 1, on, ring, h => by
    rw [ringF]
    cases e : idleAt ms (topN on) row with
    | none => rfl
    | some R =>
      obtain ⟨g, hd, hg, hlt⟩ := hup _ R e
      have hdp : R.deed ≠ "pop" := by rcases hd with z | z <;> rw [z] <;> decide
      have ht : topN (deedM on R.deed R.goal) = g := by rw [hg]; exact fwd_deed hd
      show (if R.deed = "pop" ∧ on.length = 1 ∧ first ≠ 0 then none else if topN (deedM on R.deed R.goal) = first then some (ring ++ [topN on]) else ringF ms row first f (deedM on R.deed R.goal) (ring ++ [topN on])) = none
      rw [if_neg (fun z => hdp z.1), if_neg (by rw [ht]; omega)]
      exact only_on hup f _ _ (by rw [ht]; omega)
end
end
section
variable {P : Program} {w : World} {K : PySem.W.Frag} {mg : Str → Option Value} {base : Heap} {t : Adr}
theorem join_eq (sep : Str) (ys : List Str) : PySem.Txt.join sep ys = Str.join sep ys := eq_of_beq (PyProof.Rows.join_plain_closes sep ys)
theorem pick {xs : List Str} {d : Int} (h0 : 0 ≤ d) (h1 : d < xs.length) : ∃ x ∈ xs, atI (xs.map V.str) d = some (.str x) := by
  obtain ⟨v, e1, e2⟩ := atI_in (xs.map V.str) h0 (by rw [List.length_map]; exact h1)
  rw [List.getElem?_map] at e1
  obtain ⟨x, e3, rfl⟩ := Option.map_eq_some_iff.mp e1
  exact ⟨x, List.mem_of_getElem? e3, e2⟩
theorem ifeq {b c : Bool} {A B : Prop} (h : b = c) (k : if c = true then A else B) : if b = true then A else B := by rw [h]; exact k
def spDraw (K : PySem.W.Frag) : Sp := fun vs H Q _ => ∃ (a : Addr) (ns : List Int) (k m : Int), vs = [.ref a, .int k, .int m] ∧ SqL K H a (ns.map V.int) ∧ 0 ≤ k ∧ k ≤ 100000 ∧ 0 < m ∧ m ≤ 1000000 ∧ ns.length ≤ 63 ∧
  ∀ d H', 0 ≤ d → d < m → Same H H' → Q (.int d) H'
theorem ok__law_draw (T : Txt K mg t) : FnOk P w K mg base CX0 1 t.f__law_draw t.d__law_draw ["_law_script", "_law_k", "_law_many"] (spDraw K) := by
  refine T.F__law_draw.ok sc__law_draw (fun vs H Q E h => ?_) (fun cdv A outer s H vs Q E hr h => at_body ?_)
  · obtain ⟨a, ns, k, m, rfl, _⟩ := h
    rfl
  · obtain ⟨a, ns, k, m, rfl, hS, hk0, hk1, hm, hm1, hl, q⟩ := h
    refine @at_consR _ _ _ _ _ _ _ (fun σ' H' => ∃ c : Int, σ' = [some (.ref a), some (.int k), some (.int m), some (.int c), none, none] ∧ (ns = [] → c = 0) ∧ H' = H) (@ps_set _ _ 3 _ _ _ _ sc__law_draw.nd rfl (Or.inl rfl) (@pe_ifExp _ _ _ _ _ _ _ _ (@pt_cmpR _ _ _ _ _ _ _ _ op_gt (@pe_callB _ _ _ _ _ _ _ _ _ call_len_seq (by rfl) T.z_len (by decide +kernel) (@pa_cons _ _ _ _ _ (pv 0) pa_nil (by walk_at "u")) (by walk_at "u") (by walk_at "u") (by walk_at "u") (by walk_at "u")) pe_int (nomark _)) (@pe_ix _ _ _ _ _ _ _ ix_list (pv 0) (@pe_op _ _ _ _ _ _ _ _ op_mod (pv 1) (@pe_callB _ _ _ _ _ _ _ _ _ call_len_seq (by rfl) T.z_len (by decide +kernel) (@pa_cons _ _ _ _ _ (pv 0) pa_nil (by walk_at "u")) (by walk_at "u") (by walk_at "u") (by walk_at "u") (by walk_at "u"))) (fun _ _ => rfl)) pe_int) (by walk_at "u") (by walk_at "u")) ?_ ?_
    · refine ⟨_, rfl, _, _, rfl, .inl hS, _, _, rfl, rfl, _, rfl, ifd (fun h => ?_) (fun h => ⟨0, rfl, fun _ => rfl, rfl⟩)⟩
      refine ⟨_, rfl, _, rfl, _, rfl, _, _, rfl, .inl hS, _, _, rfl, rfl, h, ?_⟩
      obtain ⟨h1, h2⟩ := emod_rng k h
      obtain ⟨v, e1, e2⟩ := atI_in (ns.map V.int) h1 h2
      rw [List.getElem?_map] at e1
      obtain ⟨c, e3, rfl⟩ := Option.map_eq_some_iff.mp e1
      exact ⟨_, _, _, _, rfl, rfl, hS, e2, c, rfl, (fun z => by rw [z] at h; simp at h), rfl⟩
    rintro σ' H' ⟨c, rfl, hc0, e⟩
    rw [e]
    clear e H'
    refine @at_consR _ _ _ _ _ _ _ (fun σ' H' => ∃ x : Int, σ' = [some (.ref a), some (.int k), some (.int m), some (.int c), some (.int x), none] ∧ (ns = [] → x = 0) ∧ H' = H) (@ps_set _ _ 4 _ _ _ _ sc__law_draw.nd rfl (Or.inl rfl) (@pe_op _ _ _ _ _ _ _ _ op_shr (pv 3) (@pe_op _ _ _ _ _ _ _ _ op_add (@pe_op _ _ _ _ _ _ _ _ op_mul pe_int (@pe_op _ _ _ _ _ _ _ _ op_fdiv (pv 1) (@pe_callB _ _ _ _ _ _ _ _ _ (call_max2 rfl) (by rfl) T.z_max (by decide +kernel) (@pa_cons _ _ _ _ _ pe_int (@pa_cons _ _ _ _ _ (@pe_callB _ _ _ _ _ _ _ _ _ call_len_seq (by rfl) T.z_len (by decide +kernel) (@pa_cons _ _ _ _ _ (pv 0) pa_nil (by walk_at "u")) (by walk_at "u") (by walk_at "u") (by walk_at "u") (by walk_at "u")) pa_nil (by walk_at "u")) (by walk_at "u")) (by walk_at "u") (by walk_at "u") (by walk_at "u") (by walk_at "u")))) pe_int)) (by walk_at "u") (by walk_at "u")) ?_ ?_
    · refine ⟨_, rfl, _, rfl, _, rfl, _, _, rfl, .inl hS, _, _, rfl, _, _, rfl, rfl, ?_⟩
      have hmx : (1 : Int) ≤ (if ((ns.map V.int).length : Int) > 1 then ((ns.map V.int).length : Int) else 1) ∧ (if ((ns.map V.int).length : Int) > 1 then ((ns.map V.int).length : Int) else 1) < 1073741824 := by
        rw [List.length_map]; split <;> omega
      refine ⟨⟨by omega, hmx.2⟩, _, _, rfl, rfl, .inl ⟨by decide, by decide⟩, _, _, rfl, rfl, _, _, rfl, rfl, ?_, _, rfl, fun z => ?_, rfl⟩
      · have : 0 ≤ k / (if ((ns.map V.int).length : Int) > 1 then ((ns.map V.int).length : Int) else 1) := Int.ediv_nonneg hk0 (by omega)
        omega
      · rw [hc0 z, Int.zero_ediv]
    rintro σ' H' ⟨x, rfl, hx0, e⟩
    rw [e]
    clear e H'
    refine @at_consR _ _ _ _ _ _ _ (fun σ' H' => (σ' = [some (.ref a), some (.int k), some (.int m), some (.int c), some (.int x), none]) ∧ Same H H') (@ps_if _ _ _ _ _ _ _ _ (@PW.pt _ _ _ (@pw_and _ _ _ _ _ _ _ (@pt_cmpR _ _ _ _ _ _ _ _ op_notIn_seq (pv 4) (@pe_tup _ _ _ _ _ (@pa_cons _ _ _ _ _ pe_int (@pa_cons _ _ _ _ _ (@pe_un _ _ _ _ _ _ un_neg pe_int) pa_nil (by walk_at "u")) (by walk_at "u"))) rfl) (@pw_and1 _ _ _ _ (@pt_cmpR _ _ _ _ _ _ _ _ op_eq (@pe_op _ _ _ _ _ _ _ _ op_mod (@pe_ix _ _ _ _ _ _ _ ix_list (pv 0) pe_int (fun _ _ => rfl)) pe_int) pe_int (nomark _))))) pss_at pss_at) ?_ ?_
    · refine ⟨_, rfl, _, rfl, by show 2 ≤ sizeLine; decide, fun p hp => ⟨p, _, rfl, .inr (SqT.of upd_same), rfl, rfl, _, rfl, ?_⟩⟩
      have s1 : Same H (upd H p (.tup [.int 0, .int (-1)])) := Same.upd hp
      by_cases hin : inV (V.int x) [.int 0, .int (-1)] = true
      · refine ifeq (c := false) (by show (!inV (V.int x) [.int 0, .int (-1)]) = false; rw [hin]; rfl) ?_
        exact at_nil ⟨rfl, s1⟩
      · refine ifeq (c := true) (by show (!inV (V.int x) [.int 0, .int (-1)]) = true; rw [Bool.not_eq_true] at hin; rw [hin]; rfl) ?_
        obtain ⟨n0, r0, rfl⟩ : ∃ n0 r0, ns = n0 :: r0 := by
          cases ns with
          | nil => rw [hx0 rfl] at hin; exact absurd (by decide) hin
          | cons x r => exact ⟨x, r, rfl⟩
        have hS1 := hS.same s1
        refine ⟨_, rfl, _, _, _, _, rfl, rfl, hS1, atI_nat (j := 0) rfl, _, _, rfl, rfl, (by show (0 : Int) < 2; decide), rfl, _, rfl, ifd (fun h2 => ?_) (fun h2 => at_nil ⟨rfl, s1⟩)⟩
        have hd := emod_rng (x % 1048576) hm
        exact @at_one _ _ _ _ _ _ (@ps_ret _ _ _ _ (@pe_op _ _ _ _ _ _ _ _ op_mod (@pe_op _ _ _ _ _ _ _ _ op_mod (pv 4) pe_int) (pv 2))) ⟨_, rfl, _, _, rfl, rfl, (by show (0 : Int) < 1048576; decide), _, rfl, _, _, rfl, rfl, hm, q _ _ hd.1 hd.2 s1⟩
    rintro σ' H' ⟨rfl, s1⟩
    refine @at_cons _ _ _ _ _ _ _ (@ps_set _ _ 5 _ _ _ _ sc__law_draw.nd rfl (Or.inl rfl) (@pe_op _ _ _ _ _ _ _ _ op_add (@pe_op _ _ _ _ _ _ _ _ op_add (@pe_op _ _ _ _ _ _ _ _ op_mod (pv 3) pe_int) (@pe_op _ _ _ _ _ _ _ _ op_mul (@pe_op _ _ _ _ _ _ _ _ op_mul pe_int (pv 1)) (pv 1))) pe_int) (by walk_at "u") (by walk_at "u")) ?_
    walk_at "rd"
    refine ⟨by decide, .inl ⟨by decide, by decide⟩, .inr ⟨by omega, by omega⟩, ?_⟩
    refine @at_one _ _ _ _ _ _ (@ps_ret _ _ _ _ (@pe_op _ _ _ _ _ _ _ _ op_mod (@pe_op _ _ _ _ _ _ _ _ op_mod (@pe_op _ _ _ _ _ _ _ _ op_mul (@pe_op _ _ _ _ _ _ _ _ op_mod (@pe_op _ _ _ _ _ _ _ _ op_mul (pv 5) pe_int) pe_int) pe_int) pe_int) (pv 2))) ?_
    walk_at "rd"
    have hd := emod_rng ((c % 1000003 + 31 * k * k + 1) * 48271 % 999983 * 7919 % 524287) hm
    exact ⟨.inr ⟨by decide, by decide⟩, by decide, .inr ⟨by decide, by decide⟩, by decide, hm, q _ _ hd.1 hd.2 s1⟩
end
section
variable {P : Program} {w : World} {K : PySem.W.Frag} {mg : Str → Option Value} {base : Heap} {t : Adr}
structure Wds (H0 H : Hp) (l : Addr) (ws : List Str) : Prop where
  at_ : H l = some (.lst (ws.map V.str))
  new : H0 l = none
  same : Same H0 H
theorem Wds.add {H0 H : Hp} {l : Addr} {ws : List Str} {x : Str} (W : Wds H0 H l ws) : Wds H0 (upd H l (.lst (ws.map V.str ++ [.str x]))) l (ws ++ [x]) :=
  ⟨by rw [upd_same, List.map_append]; rfl, W.new, fun b o hb => by rw [upd_ne (ne_of_none hb W.new)]; exact W.same _ _ hb⟩
theorem Wds.to {H0 H H' : Hp} {l : Addr} {ws : List Str} (W : Wds H0 H l ws) (s : Same H H') : Wds H0 H' l ws := ⟨s _ _ W.at_, W.new, W.same.trans s⟩
theorem sum_le {m : Nat} : ∀ (ys : List Str), (∀ y ∈ ys, y.length ≤ m) → (ys.map (·.length)).sum ≤ ys.length * m
  | [], _ => by simp
  | x :: r, h => by
    have h1 := h x (by simp)
    have h2 := sum_le r (fun z hz => h z (List.mem_cons_of_mem _ hz))
    rw [List.map_cons, List.sum_cons, List.length_cons, Nat.succ_mul]
    omega
theorem repl_len (z : Str) : (PySem.Txt.replace z " " "_").length = z.length := by
  have := congrArg List.length (replace_cps z 32 95)
  rw [len_cps, subL, List.length_map, len_cps] at this
  rw [show ((" " : Str)) = ⟨#[32]⟩ from by decide +kernel, show (("_" : Str)) = ⟨#[95]⟩ from by decide +kernel]
  exact this
theorem name_len {x : Str} (h : isName x = true) : x.length ≤ 8 ∧ x ≠ "" := by
  unfold isName at h
  simp only [Bool.and_eq_true, decide_eq_true_eq] at h
  refine ⟨h.1.2, fun z => ?_⟩
  rw [z] at h
  exact absurd h.1.1 (by decide)
/-- texts of one sign each, put together -/
theorem join_signs : ∀ (cs : List Nat), (Str.join "" (cs.map fun c => (⟨#[c]⟩ : Str))).cps.toList = cs
  | [] => by decide +kernel
  | [c] => rfl
  | c :: d :: r => by
    have ih := join_signs (d :: r)
    show ((⟨#[c]⟩ : Str) ++ "" ++ Str.join "" ((d :: r).map fun c => (⟨#[c]⟩ : Str))).cps.toList = _
    rw [cps_app, cps_app, ih, show (Str.ofString "").cps.toList = [] from by decide +kernel]
    rfl
theorem signs_sum : ∀ (cs : List Nat), ((cs.map fun c => (⟨#[c]⟩ : Str)).map (·.length)).sum = cs.length
  | [] => rfl
  | c :: r => by
    rw [List.map_cons, List.map_cons, List.sum_cons, signs_sum r, List.length_cons]
    show 1 + _ = _
    omega
theorem mode_blue {names : List Str} {n : Str} : (Str.ofString "mode " ++ n ++ Str.ofString " blue" : Str) = rowOf names (.mode n "blue") := by
  refine str_ext ?_
  unfold rowOf
  rw [join_cps, cps_app, cps_app]
  show _ = (Str.ofString "mode").cps.toList ++ 32 :: (n.cps.toList ++ 32 :: (Str.ofString "blue").cps.toList)
  have e1 : (Str.ofString "mode ").cps.toList = (Str.ofString "mode").cps.toList ++ [32] := by decide +kernel
  have e2 : (Str.ofString " blue").cps.toList = 32 :: (Str.ofString "blue").cps.toList := by decide +kernel
  rw [e1, e2]
  simp
abbrev allA : Str := " abcdefghijklmnopqrstuvwxyz0123456789ABCDEFGHIJKLMNOPQRSTUVWXYZ"
abbrev allB : Str := "!\"#$&'()*+,-./:;<=>?\x40[\\]^`{|}~"
abbrev allS : Str := allA ++ allB
theorem all_len : allS.length = 93 := by decide +kernel
theorem all_ok : ∀ c ∈ allS.cps.toList, c ∈ signs94.cps.toList ∧ c ≠ 95 ∧ c ≠ 10 := by decide +kernel
def spAll : Sp := fun vs H Q _ => vs = [] ∧ Q (.str allS) H
theorem ok__law_all (T : Txt K mg t) : FnOk P w K mg base CX0 1 t.f__law_all t.d__law_all [] spAll := by
  refine T.F__law_all.ok sc__law_all (fun vs H Q E h => ?_) (fun cdv A outer s H vs Q E hr h => at_body ?_)
  · obtain ⟨rfl, _⟩ := h
    rfl
  · obtain ⟨rfl, q⟩ := h
    refine @at_cons _ _ _ _ _ _ _ (@ps_set _ _ 0 _ _ _ _ sc__law_all.nd rfl (Or.inl rfl) pe_str (by walk_at "u") (by walk_at "u")) ?_
    exact @at_one _ _ _ _ _ _ (@ps_ret _ _ _ _ (@pe_op _ _ _ _ _ _ _ _ op_add_str (pv 0) pe_str)) ⟨_, rfl, _, _, rfl, rfl, sl_le (by decide +kernel), q⟩
/-- signs of the law: at least one, all of the ninety-three -/
structure Sg (z : Str) : Prop where
  pos : 1 ≤ z.length
  le : z.length ≤ 100
  all : ∀ c ∈ z.cps.toList, c ∈ allS.cps.toList
theorem sg_fixed : Sg (PySem.Txt.slice allS (some 1) (some 27)) ∧ Sg (PySem.Txt.slice allS (some 27) (some 37)) ∧ Sg (PySem.Txt.slice allS (some 1) (some 37)) :=
  ⟨⟨by decide +kernel, by decide +kernel, by decide +kernel⟩, ⟨by decide +kernel, by decide +kernel, by decide +kernel⟩, ⟨by decide +kernel, by decide +kernel, by decide +kernel⟩⟩
theorem slice_cps (x : Str) (n : Nat) : (PySem.Txt.slice x none (some (n : Int))).cps.toList = x.cps.toList.take n := by
  by_cases h : n ≤ x.length
  · have := eq_of_beq (PyProof.Rows.slice_closes_toL (x := x) (j := (n : Int)) (by omega) (by omega))
    rw [this]
    simp
  · have e : PySem.Txt.slice x none (some (n : Int)) = PySem.Txt.slice x none (some (x.length : Int)) := by
      have e2 : PySem.Builtin.Str.strSliceIndices none (some (n : Int)) 1 x.length = PySem.Builtin.Str.strSliceIndices none (some (x.length : Int)) 1 x.length := by
        have h0 : ¬ ((n : Int) < 0) := by omega
        have h1 : ¬ ((x.length : Int) < 0) := by omega
        have h2 : (1 : Int) > 0 := by decide
        have h3 : (x.length : Int) ≤ (n : Int) := by omega
        simp only [PySem.Builtin.Str.strSliceIndices, h0, h1, h2, if_false, if_true, Int.min_eq_right h3, Int.min_self]
      unfold PySem.Txt.slice
      rw [e2]
    have := eq_of_beq (PyProof.Rows.slice_closes_toL (x := x) (j := (x.length : Int)) (by omega) (by omega))
    rw [List.take_of_length_le (l := x.cps.toList) (i := n) (by rw [len_cps]; omega), e, this]
    show ((x.cps.toList.drop (0 : Int).toNat).take ((x.length : Int) - 0).toNat) = _
    exact List.take_of_length_le (by show x.cps.toList.length ≤ _; rw [len_cps]; omega)
theorem slice_from (x : Str) (i : Nat) (hi : i ≤ x.length) : (PySem.Txt.slice x (some (i : Int)) none).cps.toList = x.cps.toList.drop i := by
  have := eq_of_beq (PyProof.Rows.slice_closes_fromL (x := x) (i := (i : Int)) (b := (x.length : Int)) (by omega) (by omega) rfl)
  rw [this]
  show (x.cps.toList.drop (i : Int).toNat).take ((x.length : Int) - (i : Int)).toNat = _
  rw [Int.toNat_natCast, List.take_of_length_le (by rw [List.length_drop, len_cps]; omega)]
theorem sg_but (k : Nat) (hk : k < 93) : (1 ≤ (PySem.Txt.slice allS none (some (k : Int)) ++ PySem.Txt.slice allS (some ((k : Int) + 1)) none).length ∧ (PySem.Txt.slice allS none (some (k : Int)) ++ PySem.Txt.slice allS (some ((k : Int) + 1)) none).length ≤ 100 ∧ (PySem.Txt.slice allS none (some (k : Int))).length ≤ 93 ∧ (PySem.Txt.slice allS (some ((k : Int) + 1)) none).length ≤ 93) ∧ ∀ c ∈ (PySem.Txt.slice allS none (some (k : Int)) ++ PySem.Txt.slice allS (some ((k : Int) + 1)) none).cps.toList, c ∈ allS.cps.toList := by
  have aL := all_len
  have e1 := slice_cps allS k
  have e2 := slice_from allS (k + 1) (by omega)
  rw [show (((k + 1 : Nat) : Int)) = (k : Int) + 1 by omega] at e2
  have l1 := congrArg List.length e1
  have l2 := congrArg List.length e2
  rw [len_cps, List.length_take, len_cps] at l1
  rw [len_cps, List.length_drop, len_cps] at l2
  refine ⟨⟨by rw [Str.length_append]; omega, by rw [Str.length_append]; omega, by omega, by omega⟩, fun c hc => ?_⟩
  rw [cps_app, e1, e2] at hc
  rcases List.mem_append.mp hc with hc | hc
  · exact List.mem_of_mem_take hc
  · exact List.mem_of_mem_drop hc
theorem sg_join {cs : List Nat} (h1 : 1 ≤ cs.length) (h2 : cs.length ≤ 100) (h : ∀ c ∈ cs, c ∈ allS.cps.toList) : Sg (Str.join "" (cs.map fun c => (⟨#[c]⟩ : Str))) := by
  have e := join_signs cs
  refine ⟨?_, ?_, fun c hc => ?_⟩
  · rw [← len_cps, e]; exact h1
  · rw [← len_cps, e]; exact h2
  · rw [e] at hc; exact h c hc
def spLSigns (K : PySem.W.Frag) : Sp := fun vs H Q _ => ∃ (a : Addr) (ns : List Int) (b : Int), vs = [.ref a, .int b] ∧ SqL K H a (ns.map V.int) ∧ ns.length ≤ 63 ∧ 0 ≤ b ∧ b ≤ 50000 ∧ ∀ z H', Sg z → Same H H' → Q (.str z) H'
theorem ok__law_signs (T : Txt K mg t) : FnOk P w K mg base CX0 2 t.f__law_signs t.d__law_signs ["_law_script", "_law_base"] (spLSigns K) := by
  refine T.F__law_signs.ok sc__law_signs (fun vs H Q E h => ?_) (fun cdv A outer s H vs Q E hr h => at_body ?_)
  · obtain ⟨a, ns, b, rfl, _⟩ := h
    rfl
  · obtain ⟨a, ns, b, rfl, hS, hl, hb0, hb1, q⟩ := h
    have aL := all_len
    have sz := sizeLine_eq
    refine @at_cons _ _ _ _ _ _ _ (@ps_set _ _ 2 _ _ _ _ sc__law_signs.nd rfl (Or.inr rfl) (@pe_call0 _ _ _ _ _ _ _ _ _ _ _ _ _ (ok__law_all T) (hr.mono (by decide)) rfl T.mg__law_all T.F__law_all.kp (bd__law_all T) .nil pass0 (by walk_at "u")) (by walk_at "u") (by walk_at "u")) ⟨rfl, ?_⟩
    refine @at_cons _ _ _ _ _ _ _ (@ps_set _ _ 3 _ _ _ _ sc__law_signs.nd rfl (Or.inl rfl) (@pe_call _ _ _ _ _ _ _ _ _ _ _ _ _ _ _ _ (ok__law_draw T) (hr.mono (by decide)) rfl T.mg__law_draw T.F__law_draw.kp (bd__law_draw T) .nil pass0 (@pa_cons _ _ _ _ _ (pv 0) (@pa_cons _ _ _ _ _ (@pe_op _ _ _ _ _ _ _ _ op_add (pv 1) pe_int) (@pa_cons _ _ _ _ _ pe_int pa_nil (by walk_at "u")) (by walk_at "u")) (by walk_at "u")) (by walk_at "u") (by walk_at "u") (by walk_at "u")) (by walk_at "u") (by walk_at "u")) ⟨_, rfl, _, rfl, _, _, rfl, rfl, a, ns, _, _, rfl, hS, (by omega), (by omega), (by decide), (by decide), hl, fun d H1 h0 h1 s1 => ?_⟩
    refine @at_cons _ _ _ _ _ _ _ (@ps_if _ _ _ _ _ _ _ _ (@pt_cmpR _ _ _ _ _ _ _ _ op_lt (pv 3) pe_int (nomark _)) pss_at pss_at) ⟨_, rfl, _, _, rfl, rfl, _, rfl, ifd (fun h => ?_) (fun h3 => at_nil ?_)⟩
    · obtain ⟨dn, rfl⟩ : ∃ dn : Nat, d = dn := ⟨d.toNat, by omega⟩
      obtain ⟨z, hz, hat⟩ : ∃ z, Sg z ∧ atI [V.str (PySem.Txt.slice allS (some 1) (some 27)), V.str (PySem.Txt.slice allS (some 27) (some 37)), V.str (PySem.Txt.slice allS (some 1) (some 37))] (dn : Int) = some (.str z) := by
        have : dn < 3 := by omega
        rcases dn with _ | _ | _ | dn
        · exact ⟨_, sg_fixed.1, rfl⟩
        · exact ⟨_, sg_fixed.2.1, rfl⟩
        · exact ⟨_, sg_fixed.2.2, rfl⟩
        · omega
      refine @at_one _ _ _ _ _ _ (@ps_ret _ _ _ _ (@pe_ix _ _ _ _ _ _ _ ix_list (@pe_lst _ _ _ _ (@pa_cons _ _ _ _ _ (@pe_slice _ _ _ _ _ _ _ _ _ _ sl_str (pv 2) (@po_some _ _ _ pe_int) (@po_some _ _ _ pe_int)) (@pa_cons _ _ _ _ _ (@pe_slice _ _ _ _ _ _ _ _ _ _ sl_str (pv 2) (@po_some _ _ _ pe_int) (@po_some _ _ _ pe_int)) (@pa_cons _ _ _ _ _ (@pe_slice _ _ _ _ _ _ _ _ _ _ sl_str (pv 2) (@po_some _ _ _ pe_int) (@po_some _ _ _ pe_int)) pa_nil (by walk_at "u")) (by walk_at "u")) (by walk_at "u"))) (pv 3) (fun _ _ => rfl))) ⟨_, rfl, 1, rfl, 27, rfl, _, rfl, sl_le (by omega), _, rfl, 27, rfl, 37, rfl, _, rfl, sl_le (by omega), _, rfl, 1, rfl, 37, rfl, _, rfl, sl_le (by omega), by show 3 ≤ sizeLine; decide, fun l0 hl0 => ⟨_, rfl, _, _, _, _, rfl, rfl, SqL.of upd_same, hat, q z _ hz (s1.to hl0)⟩⟩
    refine @at_cons _ _ _ _ _ _ _ (@ps_if _ _ _ _ _ _ _ _ (@pt_cmpR _ _ _ _ _ _ _ _ op_eq (pv 3) pe_int (nomark _)) pss_at pss_at) ⟨_, rfl, rfl, _, rfl, ifd (fun h => ?_) (fun h4 => at_nil ?_)⟩
    · refine @at_cons _ _ _ _ _ _ _ (@ps_set _ _ 4 _ _ _ _ sc__law_signs.nd rfl (Or.inl rfl) (@pe_call _ _ _ _ _ _ _ _ _ _ _ _ _ _ _ _ (ok__law_draw T) (hr.mono (by decide)) rfl T.mg__law_draw T.F__law_draw.kp (bd__law_draw T) .nil pass0 (@pa_cons _ _ _ _ _ (pv 0) (@pa_cons _ _ _ _ _ (@pe_op _ _ _ _ _ _ _ _ op_add (pv 1) pe_int) (@pa_cons _ _ _ _ _ (@pe_callB _ _ _ _ _ _ _ _ _ call_len_str (by rfl) T.z_len (by decide +kernel) (@pa_cons _ _ _ _ _ (pv 2) pa_nil (by walk_at "u")) (by walk_at "u") (by walk_at "u") (by walk_at "u") (by walk_at "u")) pa_nil (by walk_at "u")) (by walk_at "u")) (by walk_at "u")) (by walk_at "u") (by walk_at "u") (by walk_at "u")) (by walk_at "u") (by walk_at "u")) ⟨_, rfl, _, rfl, _, _, rfl, rfl, _, rfl, _, rfl, sl_le (by omega), a, ns, _, _, rfl, hS.same s1, (by omega), (by omega), (by omega), (by omega), hl, fun d2 H2 h5 h6 s2 => ?_⟩
      obtain ⟨dn, rfl⟩ : ∃ dn : Nat, d2 = dn := ⟨d2.toNat, by omega⟩
      obtain ⟨⟨p1, p2, p3, p4⟩, p5⟩ := sg_but dn (by omega)
      exact @at_one _ _ _ _ _ _ (@ps_ret _ _ _ _ (@pe_op _ _ _ _ _ _ _ _ op_add_str (@pe_slice _ _ _ _ _ _ _ _ _ _ sl_str (pv 2) po_none (@po_some _ _ _ (pv 4))) (@pe_slice _ _ _ _ _ _ _ _ _ _ sl_str (pv 2) (@po_some _ _ _ (@pe_op _ _ _ _ _ _ _ _ op_add (pv 4) pe_int)) po_none))) ⟨_, rfl, _, rfl, _, rfl, _, rfl, sl_le (by omega), _, rfl, _, rfl, _, _, rfl, rfl, _, rfl, _, rfl, sl_le (by omega), _, _, rfl, rfl, sl_le (by omega), q _ _ ⟨p1, p2, p5⟩ (s1.trans s2)⟩
    refine @at_cons _ _ _ _ _ _ _ (@ps_set _ _ 5 _ _ _ _ sc__law_signs.nd rfl (Or.inr rfl) (@pe_call _ _ _ _ _ _ _ _ _ _ _ _ _ _ _ _ (ok__law_draw T) (hr.mono (by decide)) rfl T.mg__law_draw T.F__law_draw.kp (bd__law_draw T) .nil pass0 (@pa_cons _ _ _ _ _ (pv 0) (@pa_cons _ _ _ _ _ pe_int (@pa_cons _ _ _ _ _ (@pe_op _ _ _ _ _ _ _ _ op_sub (@pe_callB _ _ _ _ _ _ _ _ _ call_len_str (by rfl) T.z_len (by decide +kernel) (@pa_cons _ _ _ _ _ (pv 2) pa_nil (by walk_at "u")) (by walk_at "u") (by walk_at "u") (by walk_at "u") (by walk_at "u")) pe_int) pa_nil (by walk_at "u")) (by walk_at "u")) (by walk_at "u")) (by walk_at "u") (by walk_at "u") (by walk_at "u")) (by walk_at "u") (by walk_at "u")) ⟨_, rfl, _, rfl, _, rfl, sl_le (by omega), _, _, rfl, rfl, a, ns, _, _, rfl, hS.same s1, by decide, by decide, (by omega), (by omega), hl, fun f H2 h5 h6 s2 => ?_⟩
    have s2 := s1.trans s2
    refine @at_cons _ _ _ _ _ _ _ (@ps_set _ _ 6 _ _ _ _ sc__law_signs.nd rfl (Or.inl rfl) (@pe_op _ _ _ _ _ _ _ _ op_add pe_int (@pe_call _ _ _ _ _ _ _ _ _ _ _ _ _ _ _ _ (ok__law_draw T) (hr.mono (by decide)) rfl T.mg__law_draw T.F__law_draw.kp (bd__law_draw T) .nil pass0 (@pa_cons _ _ _ _ _ (pv 0) (@pa_cons _ _ _ _ _ (@pe_op _ _ _ _ _ _ _ _ op_add (pv 1) pe_int) (@pa_cons _ _ _ _ _ pe_int pa_nil (by walk_at "u")) (by walk_at "u")) (by walk_at "u")) (by walk_at "u") (by walk_at "u") (by walk_at "u"))) (by walk_at "u") (by walk_at "u")) ⟨_, rfl, _, rfl, _, _, rfl, rfl, a, ns, _, 2, rfl, hS.same s2, (by omega), (by omega), by decide, by decide, hl, fun d3 H3 h7 h8 s3 => ⟨_, _, rfl, rfl, ?_⟩⟩
    have s3 := s2.trans s3
    refine @at_one _ _ _ _ _ _ (@ps_ret _ _ _ _ (@pe_bm _ _ _ _ _ _ _ _ _ _ _ _ PySem.F.plainAttrs_str PySem.F.slot_str_join PySem.F.type_str_join mt_join pe_str (@pa_cons _ _ _ _ _ (@pe_comp _ (defScope s__law_signs) _ ["_law_script", "_law_base", "_law_every", "_law_way", "_law_at", "_law_first_here", "_law_size"] _ _ ("_law_j") _ _ [("_law_every", 2), ("_law_first_here", 5), ("_law_script", 0), ("_law_base", 1)] _ _ (by walk_at "ck") (@pi_range1 _ _ _ _ _ _ rfl T.z_range (@pa_cons _ _ _ _ _ (pv 6) pa_nil (by walk_at "u")) (by walk_at "u")) (fun _ _ _ _ => by exact (@pe_ix _ _ _ _ _ _ _ ix_str (pv 0) (@pe_op _ _ _ _ _ _ _ _ op_add (pv 1) (@pe_call _ _ _ _ _ _ _ _ _ _ _ _ _ _ _ _ (ok__law_draw T) (hr.mono (by decide)) rfl T.mg__law_draw T.F__law_draw.kp (bd__law_draw T) .nil pass0 (@pa_cons _ _ _ _ _ (pv 2) (@pa_cons _ _ _ _ _ (@pe_op _ _ _ _ _ _ _ _ op_add (@pe_op _ _ _ _ _ _ _ _ op_add (pv 3) pe_int) (pv 4)) (@pa_cons _ _ _ _ _ pe_int pa_nil (by walk_at "u")) (by walk_at "u")) (by walk_at "u")) (by walk_at "u") (by walk_at "u") (by walk_at "u"))) (fun _ _ => rfl))) (by walk_at "u") (by walk_at "u") (by walk_at "u") (by walk_at "u")) pa_nil (by walk_at "u")) (by walk_at "u") (by walk_at "u") (by walk_at "u") (by walk_at "u") (by walk_at "u"))) ⟨rfl, _, rfl, 1 + d3, rfl, by omega, by omega, comp_range (n := (1 + d3).toNat) (fun j ys H4 => ∃ cs : List Nat, ys = (cs.map fun c => (⟨#[c]⟩ : Str)).map V.str ∧ (∀ c ∈ cs, c ∈ allS.cps.toList) ∧ Same H H4) ⟨[], rfl, by simp, s3⟩ (sl_lt (by omega)) ?_ ?_⟩
    · rintro j ys H4 hj hyl ⟨cs, rfl, hcs, s4⟩
      refine ⟨_, rfl, _, rfl, _, rfl, _, rfl, _, _, rfl, rfl, _, rfl, _, _, rfl, rfl, a, ns, _, 3, rfl, hS.same s4, (by omega), (by omega), by decide, by decide, hl, fun d5 H5 h9 h10 s5 => ?_⟩
      obtain ⟨c, e1, e2⟩ := strAt (row := allS) (i := f + d5) (by omega) (by omega)
      refine ⟨_, _, rfl, rfl, _, _, c, rfl, rfl, sl_le (by omega), e2, ?_⟩
      refine comp_turn hj hyl ⟨cs ++ [c], by rw [List.map_append, List.map_append]; rfl, fun x hx => ?_, s4.trans s5⟩
      rcases List.mem_append.mp hx with z | z
      · exact hcs x z
      · rw [List.mem_singleton.mp z]; exact List.mem_of_getElem? e1
    · rintro ys H4 hyl ⟨cs, rfl, hcs, s4⟩ D hD
      rw [List.length_map, List.length_map] at hyl
      refine ⟨_, D, _, rfl, rfl, SqL.of upd_same, ?_, ?_⟩
      · rw [signs_sum, List.length_map, show ("" : Str).length = 0 from by decide +kernel]; omega
      · rw [join_eq]
        exact q _ _ (sg_join (by omega) (by omega) hcs) (s4.to hD)
end
section
variable {P : Program} {w : World} {K : PySem.W.Frag} {mg : Str → Option Value} {base : Heap} {t : Adr}
structure LR5 where
  sort : Str
  z : Str
  deed : Str
  g : Nat
def r5 (x : LR5) : RuleM := ⟨x.sort, if bare x.sort then "" else x.z, if eatsB x.sort = true then "red" else "", x.deed, if going x.deed then some x.g else none, ""⟩
structure Ok5 (n : Nat) (x : LR5) : Prop where
  sort : x.sort ∈ sorts
  z1 : 1 ≤ x.z.length
  z2 : x.z.length ≤ 100
  zs : 95 ∉ x.z.cps.toList ∧ 10 ∉ x.z.cps.toList
  deed : x.deed ∈ deeds
  g : x.g < n
def ms5 (names : List Str) (C : List (List LR5)) : List ModeM := List.zipWith (fun n rs => ⟨n, "blue", rs.map r5⟩) names C
theorem ms5_at {names : List Str} {C : List (List LR5)} {i : Nat} {n : Str} {rs : List LR5} (h1 : names[i]? = some n) (h2 : C[i]? = some rs) : (ms5 names C)[i]? = some ⟨n, "blue", rs.map r5⟩ := by
  unfold ms5
  rw [List.getElem?_zipWith, h1, h2]
theorem ms5_len {names : List Str} {C : List (List LR5)} (h : names.length = C.length) : (ms5 names C).length = C.length := by
  unfold ms5
  rw [List.length_zipWith, h, Nat.min_self]
theorem ms5_names : ∀ {names : List Str} {C : List (List LR5)}, names.length = C.length → (ms5 names C).map (·.name) = names
  | [], [], _ => rfl
  | n :: ns, p :: pm, h => by
    show n :: (ms5 ns pm).map (·.name) = _
    rw [ms5_names (by simpa using h)]
  | [], _ :: _, h => by simp at h
  | _ :: _, [], h => by simp at h
abbrev names4 : List Str := ["a", "ab", "abc", "x"]
structure Law5 (names : List Str) (C : List (List LR5)) : Prop where
  len : names.length = C.length
  pos : 0 < C.length
  four : C.length ≤ 4
  nm : ∃ n, names = names4.take n
  ten : ∀ rs ∈ C, rs.length ≤ 10
  ok : ∀ rs ∈ C, ∀ x ∈ rs, Ok5 C.length x
theorem Law5.names {names : List Str} {C : List (List LR5)} (L : Law5 names C) : names.Nodup ∧ ∀ n ∈ names, isName n = true := by
  obtain ⟨n, e⟩ := L.nm
  have hn : (names4.take n) = names4.take (min n 4) := by
    rcases Nat.le_total n 4 with h | h
    · rw [Nat.min_eq_left h]
    · rw [Nat.min_eq_right h, List.take_of_length_le (by show 4 ≤ n; exact h)]; rfl
  have h4 : min n 4 ≤ 4 := Nat.min_le_right _ _
  rw [e, hn]
  generalize min n 4 = m at h4
  have : m = 0 ∨ m = 1 ∨ m = 2 ∨ m = 3 ∨ m = 4 := by omega
  rcases this with rfl | rfl | rfl | rfl | rfl <;> exact ⟨by decide +kernel, by decide +kernel⟩
theorem Ok5.rule {names : List Str} {n : Nat} {x : LR5} (h : Ok5 n x) (hn : names.length = n) : GoodRule names (r5 x) := by
  refine ⟨⟨h.sort, fun hb => if_pos hb, fun hb => ?_⟩, fun he => ?_, fun he => ?_, h.deed, fun hg => ?_, fun hg => ?_, .inl rfl⟩
  · have hb : ¬ bare x.sort := hb
    rw [show (r5 x).signs = x.z from if_neg hb]
    exact ⟨h.z1, by have := h.z2; omega, h.zs.1, h.zs.2⟩
  · have he : eatsB x.sort = true := he
    show isName (if eatsB x.sort = true then ("red" : Str) else "") = true
    rw [if_pos he]; decide +kernel
  · show (if eatsB x.sort = true then ("red" : Str) else "") = ""
    rw [if_neg (by rw [show eatsB x.sort = false from he]; exact Bool.false_ne_true)]
  · exact ⟨x.g, if_pos hg, by rw [hn]; exact h.g⟩
  · exact if_neg hg
theorem Law5.look {names : List Str} {C : List (List LR5)} (L : Law5 names C) {k : Nat} {m : ModeM} (hm : (ms5 names C)[k]? = some m) : ∃ n rs, names[k]? = some n ∧ C[k]? = some rs ∧ m = ⟨n, "blue", rs.map r5⟩ := by
  have hk := (List.getElem?_eq_some_iff.mp hm).1
  rw [ms5_len L.len] at hk
  have h1 : names[k]? = some (names[k]'(by rw [L.len]; exact hk)) := List.getElem?_eq_getElem _
  have h2 : C[k]? = some C[k] := List.getElem?_eq_getElem hk
  rw [ms5_at h1 h2] at hm
  exact ⟨_, _, h1, h2, (Option.some.inj hm).symm⟩
theorem Law5.fit {names : List Str} {C : List (List LR5)} (L : Law5 names C) : Fit (ms5 names C) := by
  have hl := ms5_len L.len
  have hn := ms5_names L.len
  have h4 := L.four
  have hnm := L.names
  refine ⟨by rw [hl]; exact L.pos, by rw [hl]; omega, by rw [hn]; exact hnm.1, fun m hm => ?_, fun m hm => ?_, fun m hm R hR => ?_⟩
  · obtain ⟨k, hk⟩ := List.mem_iff_getElem?.mp hm
    obtain ⟨n, rs, h1, h2, rfl⟩ := L.look hk
    exact ⟨hnm.2 n (List.mem_of_getElem? h1), by show isName "blue" = true; decide +kernel⟩
  · obtain ⟨k, hk⟩ := List.mem_iff_getElem?.mp hm
    obtain ⟨n, rs, h1, h2, rfl⟩ := L.look hk
    show (rs.map r5).length ≤ 12
    rw [List.length_map]
    have := L.ten rs (List.mem_of_getElem? h2)
    omega
  · obtain ⟨k, hk⟩ := List.mem_iff_getElem?.mp hm
    obtain ⟨n, rs, h1, h2, rfl⟩ := L.look hk
    have hR : R ∈ rs.map r5 := hR
    obtain ⟨x, hx, rfl⟩ := List.mem_map.mp hR
    rw [hn]
    exact (L.ok rs (List.mem_of_getElem? h2) x hx).rule L.len
def L5 (H : Hp) (p : Addr) (x : LR5) : Prop := H p = some (.tup [.str x.sort, .str x.z, .str x.deed, .int x.g])
def M5 (H : Hp) (l : Addr) (rs : List LR5) : Prop := ∃ ps : List Addr, H l = some (.lst (ps.map V.ref)) ∧ All2 (L5 H) ps rs
def Ms5 (H : Hp) (l : Addr) (C : List (List LR5)) : Prop := ∃ us : List Addr, H l = some (.lst (us.map V.ref)) ∧ All2 (M5 H) us C
theorem M5.same {H H' : Hp} {l : Addr} {rs : List LR5} (h : M5 H l rs) (s : Same H H') : M5 H' l rs := let ⟨ps, a, b⟩ := h; ⟨ps, s _ _ a, b.mono fun _ _ z => s _ _ z⟩
theorem Ms5.same {H H' : Hp} {l : Addr} {C : List (List LR5)} (h : Ms5 H l C) (s : Same H H') : Ms5 H' l C := let ⟨ps, a, b⟩ := h; ⟨ps, s _ _ a, b.mono fun _ _ z => z.same s⟩
theorem words5 {names : List Str} {x : LR5} : ruleWords names (r5 x) = patWords x.sort (if bare x.sort then "" else x.z) ++ (if eatsB x.sort = true then [("red" : Str)] else []) ++ [x.deed] ++ (if going x.deed then [names.getD x.g ""] else []) := by
  unfold ruleWords
  show patWords x.sort (if bare x.sort then "" else x.z) ++ ((if eatsB x.sort = true then [if eatsB x.sort = true then ("red" : Str) else ""] else []) ++ ([x.deed] ++ (goalW names (if going x.deed then some x.g else none) ++ if ("" : Str) = "" then [] else [("" : Str)]))) = _
  rw [if_pos (show ("" : Str) = "" from rfl), List.append_nil]
  have e1 : (if eatsB x.sort = true then [if eatsB x.sort = true then ("red" : Str) else ""] else []) = (if eatsB x.sort = true then [("red" : Str)] else []) := by
    by_cases h : eatsB x.sort = true
    · rw [if_pos h, if_pos h, if_pos h]
    · rw [if_neg h, if_neg h]
  have e2 : goalW names (if going x.deed then some x.g else none) = (if going x.deed then [names.getD x.g ""] else []) := by
    by_cases h : going x.deed
    · rw [if_pos h, if_pos h]; rfl
    · rw [if_neg h, if_neg h]; rfl
  rw [e1, e2, List.append_assoc, List.append_assoc]
def spText5 : Sp := fun vs H Q _ => ∃ (ln lm : Addr) (names : List Str) (C : List (List LR5)), vs = [.ref ln, .ref lm] ∧ H ln = some (.lst (names.map V.str)) ∧ Ms5 H lm C ∧ Law5 names C ∧ ∀ H', Same H H' → Q (.str (Str.join ⟨#[10]⟩ (rowsOf (itemsOf (ms5 names C))))) H'
theorem ok__law_text (T : Txt K mg t) : FnOk P w K mg base CX0 1 t.f__law_text t.d__law_text ["_law_names", "_law_modes"] spText5 := by
  refine T.F__law_text.ok sc__law_text (fun vs H Q E h => ?_) (fun cdv A outer s H vs Q E hr h => at_body ?_)
  · obtain ⟨ln, lm, names, pm, rfl, _⟩ := h
    rfl
  · obtain ⟨ln, lm, names, pm, rfl, hln, ⟨us, hlm, hA⟩, L, q⟩ := h
    have B := L.fit
    have sz := sizeLine_eq
    have hn := ms5_names L.len
    have hml := ms5_len L.len
    have hitems := B.len200
    have h3 := L.four
    have hnm := L.names.2
    refine @at_cons _ _ _ _ _ _ _ (@ps_set _ _ 2 _ _ _ _ sc__law_text.nd rfl (Or.inl rfl) (@pe_lst _ _ _ _ pa_nil) (by walk_at "u") (by walk_at "u")) ⟨by show 0 ≤ sizeLine; decide, fun lr hlr => ?_⟩
    have W0 : Wds H (upd H lr (.lst [])) lr [] := ⟨upd_same, hlr, Same.upd hlr⟩
    generalize upd H lr (.lst []) = H0 at W0
    show At _ _ _ [some (.ref ln), some (.ref lm), some (.ref lr), none, none, none, none, none, none] H0
    refine @at_consR _ _ _ _ _ _ _ (fun σ' H' => (∃ x3 x4 x5 x6 x7 x8, σ' = [some (.ref ln), some (.ref lm), some (.ref lr), x3, x4, x5, x6, x7, x8]) ∧ Wds H H' lr ((itemsOf (ms5 names pm)).map (rowOf names))) (@ps_forA _ _ _ _ _ _ _ _ PassesOwn.never rfl (@pi_range1 _ _ _ _ _ _ rfl T.z_range (@pa_cons _ _ _ _ _ (@pe_callB _ _ _ _ _ _ _ _ _ call_len_seq (by rfl) T.z_len (by decide +kernel) (@pa_cons _ _ _ _ _ (pv 0) pa_nil (by walk_at "u")) (by walk_at "u") (by walk_at "u") (by walk_at "u") (by walk_at "u")) pa_nil (by walk_at "u")) (by walk_at "u")) (@pg_name _ _ 3 _ sc__law_text.nd rfl (Or.inl rfl) (by walk_at "u")) pss_at (by walk_at "u")) ?_ ?_
    · refine ⟨_, rfl, _, _, rfl, .inl (SqL.of (W0.same _ _ hln)), _, rfl, by rw [List.length_map, L.len]; omega, by rw [List.length_map, L.len]; omega, ?_⟩
      rw [show (((names.map V.str).length : Nat) : Int).toNat = pm.length by rw [List.length_map, L.len]; omega]
      refine forW_range (n := pm.length) (fun i σ' H' => (∃ x3 x4 x5 x6 x7 x8, σ' = [some (.ref ln), some (.ref lm), some (.ref lr), x3, x4, x5, x6, x7, x8]) ∧ Wds H H' lr ((itemsOf ((ms5 names pm).take i)).map (rowOf names))) ⟨⟨_, _, _, _, _, _, rfl⟩, W0⟩ ?_ ?_
      · rintro i σ' H1 hi ⟨⟨x3, x4, x5, x6, x7, x8, rfl⟩, W1⟩
        obtain ⟨nm, h1⟩ : ∃ n, names[i]? = some n := ⟨names[i]'(by rw [L.len]; exact hi), List.getElem?_eq_getElem _⟩
        obtain ⟨ps, h2⟩ : ∃ n, pm[i]? = some n := ⟨pm[i], List.getElem?_eq_getElem hi⟩
        have hm := ms5_at h1 h2
        obtain ⟨u, hu, ts, t2, t3⟩ := hA.at h2
        have n1 := hnm nm (List.mem_of_getElem? h1)
        have hpsm := List.mem_of_getElem? h2
        have l1 := (name_len n1).1
        have r12 := L.ten ps hpsm
        have hil := B.len i (by omega)
        have hat : atI (names.map V.str) ((0 : Int) + (i : Int)) = some (.str nm) := by
          rw [Int.zero_add]
          refine atI_nat ?_
          rw [List.getElem?_map, h1]
          rfl
        have e5 : (Str.ofString "mode ").length = 5 := by decide +kernel
        have e1 : (Str.ofString " blue").length = 5 := by decide +kernel
        refine @at_cons _ _ _ _ _ _ _ (@ps_expr _ _ _ _ (@pe_bm _ _ _ _ _ _ _ _ _ _ _ _ PySem.F.plainAttrs_list PySem.F.slot_list_append PySem.F.type_list_append mt_append (pv 2) (@pa_cons _ _ _ _ _ (@pe_op _ _ _ _ _ _ _ _ op_add_str (@pe_op _ _ _ _ _ _ _ _ op_add_str pe_str (@pe_ix _ _ _ _ _ _ _ ix_list (pv 0) (pv 3) (fun _ _ => rfl))) pe_str) pa_nil (by walk_at "u")) (by walk_at "u") (by walk_at "u") (by walk_at "u") (by walk_at "u") (by walk_at "u")) (by walk_at "u")) ⟨_, rfl, .inl ⟨rfl, _, SqL.of W1.at_⟩, _, rfl, _, rfl, _, _, _, _, rfl, rfl, SqL.of (W1.same _ _ hln), hat, _, _, rfl, rfl, sl_le (by show (Str.ofString "mode ").length + _ ≤ _; omega), _, _, rfl, rfl, sl_le (by rw [Str.length_append]; show (Str.ofString "mode ").length + _ + (Str.ofString " blue").length ≤ _; omega), lr, _, _, rfl, rfl, W1.at_, sl_lt (by rw [List.length_map, List.length_map]; omega), ?_⟩
        rw [show (Str.ofString "mode " ++ nm ++ Str.ofString " blue" : Str) = rowOf names (.mode nm "blue") from mode_blue]
        have W2 := W1.add (x := rowOf names (.mode nm "blue"))
        generalize upd H1 lr _ = H2 at W2
        have hatu : atI (us.map V.ref) ((0 : Int) + (i : Int)) = some (.ref u) := by rw [Int.zero_add]; exact at_ref hu
        refine @at_one _ _ _ _ _ _ (@ps_forA _ _ _ _ _ _ _ _ PassesOwn.never rfl (@pi_list _ _ _ _ (@pe_ix _ _ _ _ _ _ _ ix_list (pv 1) (pv 3) (fun _ _ => rfl))) (@pg_tup _ _ _ _ _ _ rfl (@pgs_cons _ _ _ _ _ (@pg_name _ _ 4 _ sc__law_text.nd rfl (Or.inl rfl) (by walk_at "u")) (@pgs_cons _ _ _ _ _ (@pg_name _ _ 5 _ sc__law_text.nd rfl (Or.inl rfl) (by walk_at "u")) (@pgs_cons _ _ _ _ _ (@pg_name _ _ 6 _ sc__law_text.nd rfl (Or.inl rfl) (by walk_at "u")) (@pgs_cons _ _ _ _ _ (@pg_name _ _ 7 _ sc__law_text.nd rfl (Or.inl rfl) (by walk_at "u")) pgs_nil (by walk_at "u")) (by walk_at "u")) (by walk_at "u")) (by walk_at "u")) (by walk_at "u") (by walk_at "u")) pss_at (by walk_at "u")) ⟨_, rfl, _, rfl, _, _, _, _, rfl, rfl, SqL.of (W2.same _ _ hlm), hatu, u, rfl, ⟨_, SqL.of (W2.same _ _ t2)⟩, forW_list (xs := ts.map V.ref) (fun j σ' H' => (∃ x4 x5 x6 x7 x8, σ' = [some (.ref ln), some (.ref lm), some (.ref lr), some (.int (0 + (i : Int))), x4, x5, x6, x7, x8]) ∧ Wds H H' lr ((itemsOf ((ms5 names pm).take i)).map (rowOf names) ++ [rowOf names (.mode nm "blue")] ++ (((ps.map r5)).take j).map fun R => rowOf names (.rule R))) ⟨⟨_, _, _, _, _, rfl⟩, by rw [List.take_zero, List.map_nil, List.append_nil]; exact W2⟩ ?_ ?_ ?_⟩
        · rintro j σ' H' _ ⟨_, W⟩
          exact SqL.of (W.same _ _ t2)
        · rintro j xv σ' H3 hx ⟨⟨y4, y5, y6, y7, y8, rfl⟩, W3⟩
          rw [List.getElem?_map] at hx
          obtain ⟨tr, htr, rfl⟩ := Option.map_eq_some_iff.mp hx
          have hj : j < ps.length := by rw [← t3.1]; exact (List.getElem?_eq_some_iff.mp htr).1
          obtain ⟨pr, hpj⟩ : ∃ n, ps[j]? = some n := ⟨ps[j], List.getElem?_eq_getElem hj⟩
          obtain ⟨st, z, dd, g⟩ := pr
          have u1 := t3.2 j tr _ htr hpj
          have hpm := List.mem_of_getElem? hpj
          have GP := L.ok ps hpsm _ hpm
          have GR : GoodRule names (r5 ⟨st, z, dd, g⟩) := GP.rule L.len
          have hs : st ∈ sorts := GP.sort
          have hzl : z.length ≤ 100 := GP.z2
          have hd : dd ∈ deeds := GP.deed
          have hgl : g < names.length := by rw [L.len]; exact GP.g
          have hRj : (ps.map r5)[j]? = some (r5 ⟨st, z, dd, g⟩) := by rw [List.getElem?_map, hpj]; rfl
          refine ⟨tr, [.str st, .str z, .str dd, .int g], rfl, SqT.of (W3.same _ _ u1), rfl, _, _, rfl, _, _, rfl, _, _, rfl, _, _, rfl, rfl, ?_⟩
          show At _ _ _ [some (.ref ln), some (.ref lm), some (.ref lr), some (.int (0 + (i : Int))), some (.str st), some (.str z), some (.str dd), some (.int (g : Int)), y8] H3
          refine @at_cons _ _ _ _ _ _ _ (@ps_set _ _ 8 _ _ _ _ sc__law_text.nd rfl (Or.inl rfl) (@pe_lst _ _ _ _ (@pa_cons _ _ _ _ _ (pv 4) pa_nil (by walk_at "u"))) (by walk_at "u") (by walk_at "u")) ⟨_, rfl, by show 1 ≤ sizeLine; decide, fun l hl0 => ?_⟩
          have V0 : Wds H3 (upd H3 l (.lst [.str st])) l [st] := ⟨upd_same, hl0, Same.upd hl0⟩
          show At _ _ _ [some (.ref ln), some (.ref lm), some (.ref lr), some (.int (0 + (i : Int))), some (.str st), some (.str z), some (.str dd), some (.int (g : Int)), some (.ref l)] _
          generalize upd H3 l (.lst [.str st]) = H4 at V0
          refine @at_consR _ _ _ _ _ _ _ (fun σ' H' => σ' = [some (.ref ln), some (.ref lm), some (.ref lr), some (.int (0 + (i : Int))), some (.str st), some (.str z), some (.str dd), some (.int (g : Int)), some (.ref l)] ∧ Wds H3 H' l (patWords st (if bare st then "" else z))) (@ps_if _ _ _ _ _ _ _ _ (@pt_cmpR _ _ _ _ _ _ _ _ op_in_seq (pv 4) (@pe_tup _ _ _ _ _ (@pa_strs _ _ ["word", "one", "none", "many"] rfl)) rfl) pss_at pss_at) ?_ ?_
          · refine ⟨_, rfl, by show 4 ≤ sizeLine; decide, fun pt hpt => ⟨pt, _, rfl, .inr (SqT.of upd_same), rfl, rfl, _, rfl, ?_⟩⟩
            have V1 : Wds H3 (upd H4 pt (.tup ((["word", "one", "none", "many"] : List Str).map V.str))) l [st] := V0.to (Same.upd hpt)
            generalize upd H4 pt (.tup ((["word", "one", "none", "many"] : List Str).map V.str)) = H5 at V1
            have hin : inV (.str st) [.str "word", .str "one", .str "none", .str "many"] = decide (¬ bare st) := by
              rw [show ([.str "word", .str "one", .str "none", .str "many"] : List V) = (["word", "one", "none", "many"] : List Str).map V.str from rfl, inV_strs]
              rcases sorts_cases hs with rfl | rfl | rfl | rfl | rfl | rfl | rfl <;> decide +kernel
            refine ifeq hin (ifd (fun h => ?_) (fun h => at_nil ⟨rfl, ?_⟩))
            · refine @at_one _ _ _ _ _ _ (@ps_expr _ _ _ _ (@pe_bm _ _ _ _ _ _ _ _ _ _ _ _ PySem.F.plainAttrs_list PySem.F.slot_list_append PySem.F.type_list_append mt_append (pv 8) (@pa_cons _ _ _ _ _ (@pe_add_repl _ _ _ _ _ _ _ _ _ _ _ _ _ _ _ (by decide +kernel) (pv 5) (by walk_at "u") (by walk_at "u")) pa_nil (by walk_at "u")) (by walk_at "u") (by walk_at "u") (by walk_at "u") (by walk_at "u") (by walk_at "u")) (by walk_at "u")) ⟨_, rfl, .inl ⟨rfl, _, SqL.of V1.at_⟩, _, rfl, z, rfl, ?_, _, rfl, ?_, ?_⟩
              · rw [show ("_" : Str).length = 1 from by decide +kernel]
                omega
              · rw [repl_len, show ("'" : Str).length = 1 from by decide +kernel]
                exact sl_le (by omega)
              · refine ⟨l, _, _, rfl, rfl, V1.at_, by show 1 < sizeLine; decide, rfl, ?_⟩
                rw [patWords, if_neg h, if_neg h]
                exact V1.add (x := wSigns z)
            · rw [patWords, if_pos (Decidable.not_not.mp h)]
              exact V1
          rintro σ' H5 ⟨rfl, V5⟩
          have plen := pat_len (s := st) (z := if bare st then "" else z)
          refine @at_consR _ _ _ _ _ _ _ (fun σ' H' => σ' = [some (.ref ln), some (.ref lm), some (.ref lr), some (.int (0 + (i : Int))), some (.str st), some (.str z), some (.str dd), some (.int (g : Int)), some (.ref l)] ∧ Wds H3 H' l (patWords st (if bare st then "" else z) ++ (if eatsB st = true then [("red" : Str)] else []))) (@ps_if _ _ _ _ _ _ _ _ (@pt_cmpR _ _ _ _ _ _ _ _ op_notIn_seq (pv 4) (@pe_tup _ _ _ _ _ (@pa_cons _ _ _ _ _ pe_str (@pa_cons _ _ _ _ _ pe_str pa_nil (by walk_at "u")) (by walk_at "u"))) rfl) pss_at pss_at) ?_ ?_
          · refine ⟨_, rfl, by show 2 ≤ sizeLine; decide, fun pt hpt => ⟨pt, _, rfl, .inr (SqT.of upd_same), rfl, rfl, _, rfl, ?_⟩⟩
            have V6 : Wds H3 (upd H5 pt (.tup [.str "still", .str "end"])) l (patWords st (if bare st then "" else z)) := V5.to (Same.upd hpt)
            generalize upd H5 pt (.tup [.str "still", .str "end"]) = H6 at V6
            have hin : (!inV (.str st) [.str "still", .str "end"]) = eatsB st := by
              rw [show ([.str "still", .str "end"] : List V) = (["still", "end"] : List Str).map V.str from rfl, inV_strs]
              rcases sorts_cases hs with rfl | rfl | rfl | rfl | rfl | rfl | rfl <;> decide +kernel
            by_cases he : eatsB st = true
            · refine ifeq (c := true) (by show (!inV (.str st) [.str "still", .str "end"]) = true; rw [hin, he]) ?_
              refine @at_one _ _ _ _ _ _ (@ps_expr _ _ _ _ (@pe_bm _ _ _ _ _ _ _ _ _ _ _ _ PySem.F.plainAttrs_list PySem.F.slot_list_append PySem.F.type_list_append mt_append (pv 8) (@pa_cons _ _ _ _ _ pe_str pa_nil (by walk_at "u")) (by walk_at "u") (by walk_at "u") (by walk_at "u") (by walk_at "u") (by walk_at "u")) (by walk_at "u")) ⟨_, rfl, .inl ⟨rfl, _, SqL.of V6.at_⟩, l, _, _, rfl, rfl, V6.at_, sl_lt (by rw [List.length_map]; omega), rfl, ?_⟩
              rw [if_pos he]
              exact V6.add
            · refine ifeq (c := false) (by show (!inV (.str st) [.str "still", .str "end"]) = false; rw [hin]; exact Bool.eq_false_iff.mpr he) ?_
              refine at_nil ⟨rfl, ?_⟩
              rw [if_neg he, List.append_nil]
              exact V6
          rintro σ' H6 ⟨rfl, V6⟩
          have l4 : (if eatsB st = true then [("red" : Str)] else []).length ≤ 1 := by split <;> simp
          refine @at_cons _ _ _ _ _ _ _ (@ps_expr _ _ _ _ (@pe_bm _ _ _ _ _ _ _ _ _ _ _ _ PySem.F.plainAttrs_list PySem.F.slot_list_append PySem.F.type_list_append mt_append (pv 8) (@pa_cons _ _ _ _ _ (pv 6) pa_nil (by walk_at "u")) (by walk_at "u") (by walk_at "u") (by walk_at "u") (by walk_at "u") (by walk_at "u")) (by walk_at "u")) ⟨_, rfl, .inl ⟨rfl, _, SqL.of V6.at_⟩, _, rfl, l, _, _, rfl, rfl, V6.at_, sl_lt (by rw [List.length_map, List.length_append]; omega), ?_⟩
          have V7 := V6.add (x := dd)
          show At _ _ _ [some (.ref ln), some (.ref lm), some (.ref lr), some (.int (0 + (i : Int))), some (.str st), some (.str z), some (.str dd), some (.int (g : Int)), some (.ref l)] _
          generalize upd H6 l _ = H7 at V7
          refine @at_consR _ _ _ _ _ _ _ (fun σ' H' => σ' = [some (.ref ln), some (.ref lm), some (.ref lr), some (.int (0 + (i : Int))), some (.str st), some (.str z), some (.str dd), some (.int (g : Int)), some (.ref l)] ∧ Wds H3 H' l (ruleWords names (r5 ⟨st, z, dd, g⟩))) (@ps_if _ _ _ _ _ _ _ _ (@pt_cmpR _ _ _ _ _ _ _ _ op_in_seq (pv 6) (@pe_tup _ _ _ _ _ (@pa_cons _ _ _ _ _ pe_str (@pa_cons _ _ _ _ _ pe_str pa_nil (by walk_at "u")) (by walk_at "u"))) rfl) pss_at pss_at) ?_ ?_
          · refine ⟨_, rfl, by show 2 ≤ sizeLine; decide, fun pt hpt => ⟨pt, _, rfl, .inr (SqT.of upd_same), rfl, rfl, _, rfl, ?_⟩⟩
            have V8 := V7.to (Same.upd (o := .tup [.str "push", .str "into"]) hpt)
            generalize upd H7 pt (.tup [.str "push", .str "into"]) = H8 at V8
            have hin : inV (.str dd) [.str "push", .str "into"] = decide (going dd) := by
              rw [show ([.str "push", .str "into"] : List V) = (["push", "into"] : List Str).map V.str from rfl, inV_strs]
              have hd : dd = "stay" ∨ dd = "push" ∨ dd = "pop" ∨ dd = "into" := by simpa using hd
              rcases hd with rfl | rfl | rfl | rfl <;> decide
            refine ifeq hin (ifd (fun h => ?_) (fun h => at_nil ⟨rfl, ?_⟩))
            · have hatg : atI (names.map V.str) (g : Int) = some (.str (names.getD g "")) := atI_nat (by rw [List.getElem?_map, List.getD_eq_getElem?_getD, List.getElem?_eq_getElem hgl]; rfl)
              have hln8 := V8.same _ _ (W3.same _ _ hln)
              refine @at_one _ _ _ _ _ _ (@ps_expr _ _ _ _ (@pe_bm _ _ _ _ _ _ _ _ _ _ _ _ PySem.F.plainAttrs_list PySem.F.slot_list_append PySem.F.type_list_append mt_append (pv 8) (@pa_cons _ _ _ _ _ (@pe_ix _ _ _ _ _ _ _ ix_list (pv 0) (pv 7) (fun _ _ => rfl)) pa_nil (by walk_at "u")) (by walk_at "u") (by walk_at "u") (by walk_at "u") (by walk_at "u") (by walk_at "u")) (by walk_at "u")) ⟨_, rfl, .inl ⟨rfl, _, SqL.of V8.at_⟩, _, rfl, _, rfl, _, _, _, _, rfl, rfl, SqL.of hln8, hatg, l, _, _, rfl, rfl, V8.at_, sl_lt (by rw [List.length_map, List.length_append, List.length_append, List.length_singleton]; omega), rfl, ?_⟩
              rw [words5]
              show Wds H3 _ l (_ ++ (if going dd then [names.getD g ""] else []))
              rw [if_pos h]
              exact V8.add (x := names.getD g "")
            · rw [words5]
              show Wds H3 _ l (_ ++ (if going dd then [names.getD g ""] else []))
              rw [if_neg h, List.append_nil]
              exact V8
          rintro σ' H8 ⟨rfl, V8⟩
          have W8 := W3.to V8.same
          have rl := rule_len (names := names) (R := r5 ⟨st, z, dd, g⟩)
          refine @at_one _ _ _ _ _ _ (@ps_expr _ _ _ _ (@pe_bm _ _ _ _ _ _ _ _ _ _ _ _ PySem.F.plainAttrs_list PySem.F.slot_list_append PySem.F.type_list_append mt_append (pv 2) (@pa_cons _ _ _ _ _ (@pe_bm _ _ _ _ _ _ _ _ _ _ _ _ PySem.F.plainAttrs_str PySem.F.slot_str_join PySem.F.type_str_join mt_join pe_str (@pa_cons _ _ _ _ _ (pv 8) pa_nil (by walk_at "u")) (by walk_at "u") (by walk_at "u") (by walk_at "u") (by walk_at "u") (by walk_at "u")) pa_nil (by walk_at "u")) (by walk_at "u") (by walk_at "u") (by walk_at "u") (by walk_at "u") (by walk_at "u")) (by walk_at "u")) ⟨_, rfl, .inl ⟨rfl, _, SqL.of W8.at_⟩, rfl, _, rfl, _, l, _, rfl, rfl, SqL.of V8.at_, ?_, ?_⟩
          · have h5 := sum_le (m := 202) (ruleWords names (r5 ⟨st, z, dd, g⟩)) (fun y hy => (rule_words L.names.2 GR y hy).l)
            have h6 : (ruleWords names (r5 ⟨st, z, dd, g⟩)).length * 202 ≤ 7 * 202 := Nat.mul_le_mul_right _ rl.2
            rw [show (" " : Str).length = 1 from by decide +kernel]
            omega
          · rw [join_eq, show ((" " : Str)) = ⟨#[32]⟩ from by decide +kernel]
            refine ⟨lr, _, _, rfl, rfl, W8.at_, sl_lt (by simp only [List.length_map, List.length_append, List.length_cons, List.length_nil, List.length_take]; omega), ⟨_, _, _, _, _, rfl⟩, ?_⟩
            have e : ((ps.map r5).take (j + 1)).map (fun R => rowOf names (.rule R)) = ((ps.map r5).take j).map (fun R => rowOf names (.rule R)) ++ [rowOf names (.rule (r5 ⟨st, z, dd, g⟩))] := by rw [take_snoc hRj, List.map_append]; rfl
            rw [e, ← List.append_assoc]
            exact W8.add (x := rowOf names (.rule (r5 ⟨st, z, dd, g⟩)))
        · rintro σ' H3 ⟨⟨y4, y5, y6, y7, y8, rfl⟩, W3⟩
          refine ⟨⟨_, _, _, _, _, _, rfl⟩, ?_⟩
          have e9 : ((ps.map r5)).take (ts.map V.ref).length = (ps.map r5) := List.take_of_length_le (by rw [List.length_map, List.length_map, t3.1]; exact Nat.le_refl _)
          rw [e9] at W3
          rw [take_snoc hm, itemsOf_app, itemsOf_one, List.map_append, itemsM, List.map_cons, List.map_map]
          rw [List.append_assoc] at W3
          exact W3
      · rintro σ' H1 ⟨hσ, W1⟩
        rw [List.take_of_length_le (by rw [hml]; exact Nat.le_refl _)] at W1
        exact ⟨hσ, W1⟩
    rintro σ' H1 ⟨⟨x3, x4, x5, x6, x7, x8, rfl⟩, W1⟩
    have hGI := B.items
    have hrows : rowsOf (itemsOf (ms5 names pm)) = (itemsOf (ms5 names pm)).map (rowOf names) := by rw [rowsOf, names_items, hn]
    refine @at_one _ _ _ _ _ _ (@ps_ret _ _ _ _ (@pe_bm _ _ _ _ _ _ _ _ _ _ _ _ PySem.F.plainAttrs_str PySem.F.slot_str_join PySem.F.type_str_join mt_join pe_str (@pa_cons _ _ _ _ _ (pv 2) pa_nil (by walk_at "u")) (by walk_at "u") (by walk_at "u") (by walk_at "u") (by walk_at "u") (by walk_at "u"))) ⟨rfl, _, rfl, _, lr, _, rfl, rfl, SqL.of W1.at_, ?_, ?_⟩
    · have h5 := sum_le (m := 1421) ((itemsOf (ms5 names pm)).map (rowOf names)) (fun y hy => by
        obtain ⟨it, hi, rfl⟩ := List.mem_map.mp hy
        obtain ⟨i, e⟩ := List.mem_iff_getElem?.mp hi
        have := (row_good hGI e).2.1
        rw [names_items, hn] at this
        exact this)
      rw [show ("\n" : Str).length = 1 from by decide +kernel]
      rw [List.length_map] at h5 ⊢
      have h6 : (itemsOf (ms5 names pm)).length * 1421 ≤ 200 * 1421 := Nat.mul_le_mul_right _ hitems
      omega
    · rw [join_eq, show ((("\n" : Str))) = ⟨#[10]⟩ from by decide +kernel, ← hrows]
      exact q _ W1.same
end
section
variable {P : Program} {w : World} {K : PySem.W.Frag} {mg : Str → Option Value} {base : Heap} {t : Adr}
theorem due_word {z row : Str} : dueV "word" z row 0 = if (PySem.Txt.slice row none (some (z.length : Int))) = z then .int z.length else .non := by
  rw [dueV, if_neg (by decide), if_pos rfl, List.drop_zero]
  have : (row.cps.toList.take z.length = z.cps.toList) ↔ PySem.Txt.slice row none (some (z.length : Int)) = z := by
    rw [← slice_cps]
    exact ⟨str_ext, fun h => by rw [h]⟩
  by_cases h : PySem.Txt.slice row none (some (z.length : Int)) = z
  · rw [if_pos h, if_pos (this.mpr h)]
  · rw [if_neg h, if_neg (fun y => h (this.mp y))]
def headIn (z row : Str) : Bool := match row.cps.toList[0]? with
  | some c => decide (c ∈ z.cps.toList)
  | none => false
def goodL (st z row : Str) : Bool :=
  if row ≠ "" ∧ (st = "one" ∨ st = "none" ∨ st = "many") then (headIn z row != decide (st = "none"))
  else if row ≠ "" ∧ st = "word" then decide (PySem.Txt.slice row none (some (z.length : Int)) = z)
  else if row = "" then decide (st = "end") else decide (st = "any" ∨ st = "still")
theorem no_sign {row : Str} (h : row = "") : row.cps.toList = [] := by rw [h]; decide +kernel
theorem goodL_eq {st z row : Str} (hs : st ∈ sorts) (hz : 1 ≤ z.length) : goodL st z row = decide (dueV st z row 0 ≠ .non) := by
  unfold goodL
  by_cases hr : row = ""
  · have h0 := no_sign hr
    have hl : row.length = 0 := by rw [← len_cps, h0]; rfl
    rw [if_neg (fun z => z.1 hr), if_neg (fun z => z.1 hr), if_pos hr]
    by_cases h1 : st = "end"
    · rw [dueV, if_pos h1, if_pos hl.symm, decide_eq_true h1]; rfl
    · rw [decide_eq_false h1]
      refine (decide_eq_false ?_).symm
      rw [Decidable.not_not]
      by_cases h2 : st = "word"
      · rw [dueV, if_neg h1, if_pos h2, h0, if_neg]
        intro e
        have := congrArg List.length e
        rw [List.drop_nil, List.take_nil, len_cps] at this
        simp at this
        omega
      · exact dueV_out h1 h2 (by omega)
  · obtain ⟨c, y, hcy⟩ : ∃ c y, row.cps.toList = c :: y := by
      cases e : row.cps.toList with
      | nil => exact absurd (str_ext (by rw [e]; decide +kernel)) hr
      | cons c y => exact ⟨c, y, rfl⟩
    have hc : row.cps.toList[0]? = some c := by rw [hcy]; rfl
    have hh : headIn z row = decide (c ∈ z.cps.toList) := by unfold headIn; rw [hc]
    have key : ∀ (b : Bool) (p : Prop) [Decidable p], (b = true ↔ p) → b = decide p := fun b p _ h => by rw [Bool.eq_iff_iff, decide_eq_true_eq]; exact h
    rcases sorts_cases hs with rfl | rfl | rfl | rfl | rfl | rfl | rfl
    · rw [if_neg (by rintro ⟨_, h | h | h⟩ <;> exact absurd h (by decide)), if_pos ⟨hr, rfl⟩, due_word]
      refine key _ _ ?_
      rw [decide_eq_true_eq]
      constructor
      · intro e; rw [if_pos e]; intro z; cases z
      · intro e; exact Decidable.byContradiction fun z => e (if_neg z)
    · rw [if_pos ⟨hr, .inl rfl⟩, hh, dueV_at (by decide) (by decide) hc, if_neg (by decide), if_neg (by decide)]
      by_cases hm : c ∈ z.cps.toList
      · rw [if_pos hm, decide_eq_true hm]; rfl
      · rw [if_neg hm, decide_eq_false hm]; rfl
    · rw [if_pos ⟨hr, .inr (.inl rfl)⟩, hh, dueV_at (by decide) (by decide) hc, if_neg (by decide), if_pos rfl]
      by_cases hm : c ∈ z.cps.toList
      · rw [if_pos hm, decide_eq_true hm]; rfl
      · rw [if_neg hm, decide_eq_false hm]; rfl
    · rw [if_pos ⟨hr, .inr (.inr rfl)⟩, hh, dueV_at (by decide) (by decide) hc, if_neg (by decide), if_neg (by decide)]
      by_cases hm : c ∈ z.cps.toList
      · rw [if_pos hm, decide_eq_true hm]
        exact (show (true != decide (("many" : Str) = "none")) = true by decide).trans (decide_eq_true (by intro z; cases z)).symm
      · rw [if_neg hm, decide_eq_false hm]; rfl
    · rw [if_neg (by rintro ⟨_, h | h | h⟩ <;> exact absurd h (by decide)), if_neg (by rintro ⟨_, h⟩; exact absurd h (by decide)), if_neg hr, dueV_at (by decide) (by decide) hc, if_pos (by decide)]
      rfl
    · rw [if_neg (by rintro ⟨_, h | h | h⟩ <;> exact absurd h (by decide)), if_neg (by rintro ⟨_, h⟩; exact absurd h (by decide)), if_neg hr, dueV_at (by decide) (by decide) hc, if_pos (by decide)]
      rfl
    · rw [if_neg (by rintro ⟨_, h | h | h⟩ <;> exact absurd h (by decide)), if_neg (by rintro ⟨_, h⟩; exact absurd h (by decide)), if_neg hr, dueV, if_pos rfl, if_neg (by
        intro z
        have := congrArg List.length hcy
        rw [len_cps, ← z] at this
        cases this)]
      rfl
theorem dec_str (a b : Str) : decide (V.str a = V.str b) = decide (a = b) := by
  rw [Bool.eq_iff_iff, decide_eq_true_eq, decide_eq_true_eq]
  exact ⟨V.str.inj, fun z => by rw [z]⟩
theorem due_bare {s z z' row : Str} {i : Nat} (h : bare s) : dueV s z row i = dueV s z' row i := by
  have key : ∀ s : Str, s ≠ "end" → s ≠ "word" → (s = "any" ∨ s = "still") → dueV s z row i = dueV s z' row i := by
    intro s h1 h2 h3
    cases e : row.cps.toList[i]? with
    | none =>
      have : row.length ≤ i := by
        have := List.getElem?_eq_none_iff.mp e
        rw [len_cps] at this
        exact this
      rw [dueV_out h1 h2 this, dueV_out h1 h2 this]
    | some c => rw [dueV_at h1 h2 e, dueV_at h1 h2 e, if_pos h3, if_pos h3]
  rcases h with h | h | h
  · exact key s (by rw [h]; decide) (by rw [h]; decide) (.inl h)
  · exact key s (by rw [h]; decide) (by rw [h]; decide) (.inr h)
  · unfold dueV; simp only [if_pos h]
theorem cut_last {xs : List V} (h : xs ≠ []) : cutV xs none (some ((xs.length : Int) - 1)) = xs.dropLast := by
  have : 0 < xs.length := List.length_pos_iff.mpr h
  rw [show (xs.length : Int) - 1 = ((xs.length - 1 : Nat) : Int) by omega, cutV, HT.sIx_nat, HT.sIx_none, Nat.min_eq_left (by omega), List.drop_zero, Nat.sub_zero, List.dropLast_eq_take]
theorem Same.up {G H : Hp} {x : Addr} {o : HO} (s : Same G H) (h : G x = none) : Same G (L2.upd H x o) := fun b u e => by rw [upd_ne (ne_of_none e h)]; exact s b u e
def fit5 (row : Str) (x : LR5) : Bool := goodL x.sort x.z row
theorem fit5_eq {n : Nat} {x : LR5} (h : Ok5 n x) (row : Str) : fitsB (r5 x) row 0 = fit5 row x := by
  unfold fit5
  rw [goodL_eq h.sort h.z1]
  show decide (dueV x.sort (if bare x.sort then "" else x.z) row 0 ≠ .non) = _
  by_cases hb : bare x.sort
  · rw [due_bare (z' := x.z) hb]
  · rw [if_neg hb]
theorem firstF_find {row : Str} {i : Nat} : ∀ (rs : List RuleM) (k : Nat), (firstF row i k rs).bind (fun n => if k ≤ n then rs[n - k]? else none) = rs.find? (fun R => fitsB R row i)
  | [], k => rfl
  | R :: r, k => by
    rw [firstF, List.find?_cons]
    cases h : fitsB R row i with
    | true => rw [if_pos rfl]; simp
    | false =>
      rw [if_neg (by decide)]
      simp only []
      rw [← firstF_find r (k + 1)]
      cases e : firstF row i (k + 1) r with
      | none => rfl
      | some n =>
        have hn := (firstF_some e).1
        show (if k ≤ n then (R :: r)[n - k]? else none) = (if k + 1 ≤ n then r[n - (k + 1)]? else none)
        rw [if_pos (by omega), if_pos hn, show n - k = (n - (k + 1)) + 1 by omega, List.getElem?_cons_succ]
theorem ruleM_find (rs : List RuleM) (row : Str) (i : Nat) : ruleM rs row i = rs.find? (fun R => fitsB R row i) := by
  rw [← firstF_find rs 0, ruleM, firstM]
  cases firstF row i 0 rs with
  | none => rfl
  | some n => rfl
theorem find_ok {n : Nat} (row : Str) : ∀ (rs : List LR5), (∀ x ∈ rs, Ok5 n x) → (rs.map r5).find? (fun R => fitsB R row 0) = (rs.find? (fit5 row)).map r5
  | [], _ => rfl
  | x :: rs, h => by
    rw [List.map_cons, List.find?_cons, List.find?_cons, fit5_eq (h x (by simp)) row]
    cases fit5 row x with
    | true => rfl
    | false => exact find_ok row rs fun y hy => h y (List.mem_cons_of_mem _ hy)
def idle5 (x : LR5) : Option RuleM := if eatsB x.sort = true then none else some (r5 x)
theorem idleM5 {n : Nat} (row : Str) (rs : List LR5) (h : ∀ x ∈ rs, Ok5 n x) : idleM (rs.map r5) row = (rs.find? (fit5 row)).bind idle5 := by
  rw [idleM, ruleM_find, find_ok row rs h]
  cases rs.find? (fit5 row) with
  | none => rfl
  | some x => rfl
theorem idleAt5 {names : List Str} {C : List (List LR5)} (L : Law5 names C) {k : Nat} {rs : List LR5} (h : C[k]? = some rs) (row : Str) : idleAt (ms5 names C) k row = (rs.find? (fit5 row)).bind idle5 := by
  have hk := (List.getElem?_eq_some_iff.mp h).1
  obtain ⟨n, hn⟩ : ∃ n, names[k]? = some n := ⟨names[k]'(by rw [L.len]; exact hk), List.getElem?_eq_getElem _⟩
  rw [idleAt, ms5_at hn h]
  exact idleM5 row rs (L.ok rs (List.mem_of_getElem? h))
theorem deed5 (on : List Nat) (x : LR5) : deedM on (r5 x).deed (r5 x).goal = deedM on x.deed (some x.g) := by
  show deedM on x.deed (if going x.deed then some x.g else none) = _
  by_cases h : going x.deed
  · rw [if_pos h]
  · rw [if_neg h]
    unfold deedM
    rw [if_neg (fun z => h (.inl z)), if_neg (fun z => h (.inr z)), if_neg (fun z => h (.inl z)), if_neg (fun z => h (.inr z))]
theorem eats_sorts {s : Str} (h : s ∈ sorts) : (eatsB s = false) ↔ s ∈ (["still", "end"] : List Str) := by
  rcases sorts_cases h with rfl | rfl | rfl | rfl | rfl | rfl | rfl <;> decide +kernel
def Told5 (H : Hp) (p : Addr) : Option LR5 → Prop
  | none => H p = some (.tup [.str "", .str "", .str "", .int 0])
  | some x => L5 H p x
def spFirst5 : Sp := fun vs H Q _ => ∃ (u : Addr) (rs : List LR5) (n : Nat) (row : Str), vs = [.ref u, .str row] ∧ M5 H u rs ∧ rs.length ≤ 200 ∧ (∀ x ∈ rs, Ok5 n x) ∧ row.length ≤ 1000 ∧ ∀ p H', Told5 H' p (rs.find? (fit5 row)) → Same H H' → Q (.ref p) H'
theorem ok__law_first (T : Txt K mg t) : FnOk P w K mg base CX0 1 t.f__law_first t.d__law_first ["_law_rules", "_law_row"] spFirst5 := by
  refine T.F__law_first.ok sc__law_first (fun vs H Q E h => ?_) (fun cdv A outer s H vs Q E hr h => at_body ?_)
  · obtain ⟨u, rs, n, row, rfl, _⟩ := h
    rfl
  · obtain ⟨u, rs, n, row, rfl, ⟨ps, hu, hA⟩, hpl, hok, hrow, q⟩ := h
    refine @at_consR _ _ _ _ _ _ _ (fun σ' H' => (∃ x2 x3 x4, σ' = [some (.ref u), some (.str row), x2, x3, x4]) ∧ Same H H' ∧ rs.find? (fit5 row) = none) (@ps_forA _ _ _ _ _ _ _ _ PassesOwn.never rfl (@pi_list _ _ _ _ (pv 0)) (@pg_name _ _ 2 _ sc__law_first.nd rfl (Or.inl rfl) (by walk_at "u")) pss_at (by walk_at "u")) ?_ ?_
    · refine ⟨_, rfl, u, rfl, ⟨_, SqL.of hu⟩, forW_list (xs := ps.map V.ref) (fun i σ' H' => (∃ x2 x3 x4, σ' = [some (.ref u), some (.str row), x2, x3, x4]) ∧ Same H H' ∧ rs.find? (fit5 row) = (rs.drop i).find? (fit5 row)) ⟨⟨_, _, _, rfl⟩, Same.refl _, rfl⟩ ?_ ?_ ?_⟩
      · rintro i σ' H' _ ⟨_, s1, _⟩
        exact SqL.of (s1 _ _ hu)
      · rintro i xv σ' H1 hx ⟨⟨x2, x3, x4, rfl⟩, s1, hf⟩
        rw [List.getElem?_map] at hx
        obtain ⟨tr, htr, rfl⟩ := Option.map_eq_some_iff.mp hx
        have hi := (List.getElem?_eq_some_iff.mp htr).1
        have hal := hA.1
        obtain ⟨x, hxi⟩ : ∃ p, rs[i]? = some p := ⟨rs[i]'(by omega), List.getElem?_eq_getElem _⟩
        have htup0 : H tr = some (.tup [.str x.sort, .str x.z, .str x.deed, .int x.g]) := hA.2 i tr x htr hxi
        have htup := s1 _ _ htup0
        have O := hok x (List.mem_of_getElem? hxi)
        have hs := O.sort
        have hz1 := O.z1
        have hz2 := O.z2
        rw [drop_at hxi, List.find?_cons] at hf
        refine @at_cons _ _ _ _ _ _ _ (@ps_set _ _ 3 _ _ _ _ sc__law_first.nd rfl (Or.inl rfl) (@pe_ix _ _ _ _ _ _ _ ix_tup (pv 2) pe_int (fun _ _ => rfl)) (by walk_at "u") (by walk_at "u")) ⟨_, rfl, _, _, _, _, rfl, rfl, SqT.of htup, atI_nat (j := 0) rfl, ?_⟩
        show At _ _ _ [some (.ref u), some (.str row), some (.ref tr), some (.str x.sort), x4] H1
        refine @at_consR _ _ _ _ _ _ _ (fun σ' H' => σ' = [some (.ref u), some (.str row), some (.ref tr), some (.str x.sort), some (.bl (if row = "" then decide (x.sort = "end") else decide (x.sort = "any" ∨ x.sort = "still")))] ∧ Same H1 H') (@ps_set _ _ 4 _ _ _ _ sc__law_first.nd rfl (Or.inl rfl) (@pe_ifExp _ _ _ _ _ _ _ _ (@pt_cmpR _ _ _ _ _ _ _ _ op_eq (pv 1) pe_str (nomark _)) (@pe_cmpR _ _ _ _ _ _ _ _ op_eq (pv 3) pe_str (nomark _)) (@pe_cmpR _ _ _ _ _ _ _ _ op_in_seq (pv 3) (@pe_tup _ _ _ _ _ (@pa_cons _ _ _ _ _ pe_str (@pa_cons _ _ _ _ _ pe_str pa_nil (by walk_at "u")) (by walk_at "u"))) rfl)) (by walk_at "u") (by walk_at "u")) ?_ ?_
        · refine ⟨_, rfl, rfl, _, rfl, ifd (fun h => ?_) (fun h => ?_)⟩
          · refine ⟨_, rfl, rfl, ?_, Same.refl _⟩
            rw [if_pos (show row = "" from V.str.inj h), dec_str]
            rfl
          · refine ⟨_, rfl, by show 2 ≤ sizeLine; decide, fun pt hpt => ⟨pt, _, rfl, .inr (SqT.of upd_same), rfl, rfl, ?_, Same.upd hpt⟩⟩
            rw [if_neg (show ¬ row = "" from fun z => h (by rw [z]))]
            have hin : inV (.str x.sort) [.str "any", .str "still"] = decide (x.sort = "any" ∨ x.sort = "still") := by
              rw [show ([.str "any", .str "still"] : List V) = (["any", "still"] : List Str).map V.str from rfl, inV_strs]
              simp only [List.mem_cons, List.not_mem_nil, or_false]
            show [_, _, _, _, some (V.bl (inV (.str x.sort) [.str "any", .str "still"]))] = _
            rw [hin]
        rintro σ' H2 ⟨rfl, s2⟩
        have htup2 := s2 _ _ htup
        have s2 := s1.trans s2
        refine @at_consR _ _ _ _ _ _ _ (fun σ' H' => σ' = [some (.ref u), some (.str row), some (.ref tr), some (.str x.sort), some (.bl (if row ≠ "" ∧ x.sort = "word" then decide (PySem.Txt.slice row none (some (x.z.length : Int)) = x.z) else if row = "" then decide (x.sort = "end") else decide (x.sort = "any" ∨ x.sort = "still")))] ∧ H2 = H') (@ps_if _ _ _ _ _ _ _ _ (@PW.pt _ _ _ (@pw_and _ _ _ _ _ _ _ (@pt_cmpR _ _ _ _ _ _ _ _ op_ne (pv 1) pe_str (nomark _)) (@pw_and1 _ _ _ _ (@pt_cmpR _ _ _ _ _ _ _ _ op_eq (pv 3) pe_str (nomark _))))) pss_at pss_at) ?_ ?_
        · refine ⟨_, rfl, rfl, _, rfl, ifnd (fun h => ?_) (fun h => at_nil ⟨?_, rfl⟩)⟩
          · have h : row ≠ "" := fun z => h (by rw [z])
            refine ⟨_, rfl, rfl, _, rfl, ifd (fun h2 => ?_) (fun h2 => at_nil ⟨?_, rfl⟩)⟩
            · have h2 : x.sort = "word" := V.str.inj h2
              refine @at_one _ _ _ _ _ _ (@ps_set _ _ 4 _ _ _ _ sc__law_first.nd rfl (Or.inl rfl) (@pe_cmpR _ _ _ _ _ _ _ _ op_eq (@pe_slice _ _ _ _ _ _ _ _ _ _ sl_str (pv 1) po_none (@po_some _ _ _ (@pe_callB _ _ _ _ _ _ _ _ _ call_len_str (by rfl) T.z_len (by decide +kernel) (@pa_cons _ _ _ _ _ (@pe_ix _ _ _ _ _ _ _ ix_tup (pv 2) pe_int (fun _ _ => rfl)) pa_nil (by walk_at "u")) (by walk_at "u") (by walk_at "u") (by walk_at "u") (by walk_at "u")))) (@pe_ix _ _ _ _ _ _ _ ix_tup (pv 2) pe_int (fun _ _ => rfl)) (nomark _)) (by walk_at "u") (by walk_at "u")) ⟨_, rfl, _, rfl, _, _, _, _, rfl, rfl, SqT.of htup2, atI_nat (j := 1) rfl, _, rfl, sl_le (by omega), _, rfl, _, rfl, sl_le (by omega), _, rfl, _, _, _, _, rfl, rfl, SqT.of htup2, atI_nat (j := 1) rfl, rfl, ?_, rfl⟩
              rw [if_pos (show row ≠ "" ∧ x.sort = "word" from ⟨h, h2⟩), dec_str]
              rfl
            · rw [if_neg (show ¬ (row ≠ "" ∧ x.sort = "word") from fun z => h2 (by rw [z.2]))]
          · rw [if_neg (show ¬ (row ≠ "" ∧ x.sort = "word") from fun z => z.1 (V.str.inj h))]
        rintro σ' H' ⟨rfl, rfl⟩
        refine @at_consR _ _ _ _ _ _ _ (fun σ' H' => σ' = [some (.ref u), some (.str row), some (.ref tr), some (.str x.sort), some (.bl (fit5 row x))] ∧ Same H2 H') (@ps_if _ _ _ _ _ _ _ _ (@PW.pt _ _ _ (@pw_and _ _ _ _ _ _ _ (@pt_cmpR _ _ _ _ _ _ _ _ op_ne (pv 1) pe_str (nomark _)) (@pw_and1 _ _ _ _ (@pt_cmpR _ _ _ _ _ _ _ _ op_in_seq (pv 3) (@pe_tup _ _ _ _ _ (@pa_strs _ _ ["one", "none", "many"] rfl)) rfl)))) pss_at pss_at) ?_ ?_
        · refine ⟨_, rfl, rfl, _, rfl, ifnd (fun h => ?_) (fun h => at_nil ⟨?_, Same.refl _⟩)⟩
          · have h : row ≠ "" := fun z => h (by rw [z])
            refine ⟨_, rfl, by show 3 ≤ sizeLine; decide, fun pt hpt => ⟨pt, _, rfl, .inr (SqT.of upd_same), rfl, rfl, _, rfl, ?_⟩⟩
            have s4 : Same H2 (upd H2 pt (.tup ((["one", "none", "many"] : List Str).map V.str))) := Same.upd hpt
            generalize upd H2 pt (.tup ((["one", "none", "many"] : List Str).map V.str)) = H4 at s4
            have hin : inV (.str x.sort) [.str "one", .str "none", .str "many"] = decide (x.sort = "one" ∨ x.sort = "none" ∨ x.sort = "many") := by
              rw [show ([.str "one", .str "none", .str "many"] : List V) = (["one", "none", "many"] : List Str).map V.str from rfl, inV_strs]
              simp only [List.mem_cons, List.not_mem_nil, or_false]
            refine ifeq hin (ifd (fun h2 => ?_) (fun h2 => at_nil ⟨?_, s4⟩))
            · have hrl : 0 < row.length := by
                rw [← len_cps]
                cases e : row.cps.toList with
                | nil => exact absurd (str_ext (by rw [e]; decide +kernel)) h
                | cons c y => simp
              obtain ⟨c, e1, e2⟩ := strAt (row := row) (i := 0) (by omega) (by omega)
              refine @at_one _ _ _ _ _ _ (@ps_set _ _ 4 _ _ _ _ sc__law_first.nd rfl (Or.inl rfl) (@pe_cmpR _ _ _ _ _ _ _ _ op_ne (@pe_cmpR _ _ _ _ _ _ _ _ op_in_str (@pe_ix _ _ _ _ _ _ _ ix_str (pv 1) pe_int (fun _ _ => rfl)) (@pe_ix _ _ _ _ _ _ _ ix_tup (pv 2) pe_int (fun _ _ => rfl)) rfl) (@pe_cmpR _ _ _ _ _ _ _ _ op_eq (pv 3) pe_str (nomark _)) (nomark _)) (by walk_at "u") (by walk_at "u")) ⟨_, rfl, _, _, c, rfl, rfl, sl_le (by omega), e2, _, rfl, _, _, _, _, rfl, rfl, SqT.of (s4 _ _ htup2), atI_nat (j := 1) rfl, _, _, rfl, rfl, _, rfl, rfl, rfl, ?_, s4⟩
              unfold fit5 goodL
              rw [if_pos (show row ≠ "" ∧ (x.sort = "one" ∨ x.sort = "none" ∨ x.sort = "many") from ⟨h, h2⟩), PySem.StrLaws.found_one, dec_str]
              have e1' : row.cps.toList[0]? = some c := e1
              have hh : headIn x.z row = decide (c ∈ x.z.cps.toList) := by unfold headIn; rw [e1']
              rw [hh]
              by_cases hm : c ∈ x.z.cps.toList
              · by_cases hn : x.sort = "none"
                · rw [decide_eq_true hm, decide_eq_true hn]; rfl
                · rw [decide_eq_true hm, decide_eq_false hn]; rfl
              · by_cases hn : x.sort = "none"
                · rw [decide_eq_false hm, decide_eq_true hn]; rfl
                · rw [decide_eq_false hm, decide_eq_false hn]; rfl
            · unfold fit5 goodL
              rw [if_neg (show ¬ (row ≠ "" ∧ (x.sort = "one" ∨ x.sort = "none" ∨ x.sort = "many")) from fun z => h2 z.2)]
          · unfold fit5 goodL
            rw [if_neg (show ¬ (row ≠ "" ∧ (x.sort = "one" ∨ x.sort = "none" ∨ x.sort = "many")) from fun z => z.1 (V.str.inj h))]
        rintro σ' H4 ⟨rfl, s4⟩
        refine @at_one _ _ _ _ _ _ (@ps_if _ _ _ _ _ _ _ _ (@pt_val _ _ _ (pv 4) (by walk_at "u")) pss_at pss_at) ⟨_, rfl, _, rfl, ?_⟩
        cases hgd : fit5 row x with
        | true =>
          rw [hgd] at hf
          exact iteT (@at_one _ _ _ _ _ _ (@ps_ret _ _ _ _ (pv 2)) ⟨_, rfl, q tr H4 (by rw [hf]; exact s4 _ _ htup2) (s2.trans s4)⟩)
        | false =>
          rw [hgd] at hf
          exact iteF (at_nil ⟨⟨_, _, _, rfl⟩, s2.trans s4, hf⟩)
      · rintro σ' H1 ⟨hσ, s1, hf⟩
        rw [List.drop_eq_nil_of_le (by rw [List.length_map, hA.1]; exact Nat.le_refl _)] at hf
        exact ⟨hσ, s1, hf⟩
    rintro σ' H1 ⟨⟨x2, x3, x4, rfl⟩, s1, hf⟩
    exact @at_one _ _ _ _ _ _ (@ps_ret _ _ _ _ (@pe_tup _ _ _ _ _ (@pa_cons _ _ _ _ _ pe_str (@pa_cons _ _ _ _ _ pe_str (@pa_cons _ _ _ _ _ pe_str (@pa_cons _ _ _ _ _ pe_int pa_nil (by walk_at "u")) (by walk_at "u")) (by walk_at "u")) (by walk_at "u")))) ⟨by show 4 ≤ sizeLine; decide, fun p ep => q p _ (by rw [hf]; exact upd_same) (s1.trans (Same.upd ep))⟩
def spAfter5 : Sp := fun vs H Q _ => ∃ (lo p : Addr) (on : List Nat) (x : LR5), vs = [.ref lo, .ref p] ∧ H lo = some (.lst (on.map natV)) ∧ L5 H p x ∧ on ≠ [] ∧ on.length ≤ 1000 ∧ ∀ l H', H' l = some (.lst ((deedM on x.deed (some x.g)).map natV)) → Same H H' → Q (.ref l) H'
theorem ok__law_after (T : Txt K mg t) : FnOk P w K mg base CX0 1 t.f__law_after t.d__law_after ["_law_modes", "_law_rule_here"] spAfter5 := by
  refine T.F__law_after.ok sc__law_after (fun vs H Q E h => ?_) (fun cdv A outer s H vs Q E hr h => at_body ?_)
  · obtain ⟨lo, p, on, x, rfl, _⟩ := h
    rfl
  · obtain ⟨lo, p, on, x, rfl, hlo, hp, hne, hol, q⟩ := h
    have hp : H p = some (.tup [.str x.sort, .str x.z, .str x.deed, .int x.g]) := hp
    have hne' : on.map natV ≠ [] := fun z => hne (List.map_eq_nil_iff.mp z)
    refine @at_cons _ _ _ _ _ _ _ (@ps_if _ _ _ _ _ _ _ _ (@pt_cmpR _ _ _ _ _ _ _ _ op_eq (@pe_ix _ _ _ _ _ _ _ ix_tup (pv 1) pe_int (fun _ _ => rfl)) pe_str (nomark _)) pss_at pss_at) ⟨_, rfl, _, _, _, _, rfl, rfl, SqT.of hp, atI_nat (j := 2) rfl, rfl, _, rfl, ifd (fun h => ?_) (fun h1 => at_nil ?_)⟩
    · have h : x.deed = "push" := V.str.inj h
      refine @at_one _ _ _ _ _ _ (@ps_ret _ _ _ _ (@pe_op _ _ _ _ _ _ _ _ op_cat (pv 0) (@pe_lst _ _ _ _ (@pa_cons _ _ _ _ _ (@pe_ix _ _ _ _ _ _ _ ix_tup (pv 1) pe_int (fun _ _ => rfl)) pa_nil (by walk_at "u"))))) ⟨_, rfl, _, rfl, _, _, _, _, rfl, rfl, SqT.of hp, atI_nat (j := 3) rfl, by show 1 ≤ sizeLine; decide, fun l1 e1 => ⟨lo, l1, _, _, rfl, rfl, Same.upd e1 _ _ hlo, upd_same, sl_le (by rw [List.length_map]; show _ + 1 ≤ 1000000; omega), fun l2 e2 => q l2 _ ?_ ((Same.upd e1).trans (Same.upd e2))⟩⟩
      rw [upd_same, h, deedM, if_pos rfl, List.map_append]; rfl
    have h1 : x.deed ≠ "push" := fun z => h1 (by rw [z])
    refine @at_cons _ _ _ _ _ _ _ (@ps_if _ _ _ _ _ _ _ _ (@pt_cmpR _ _ _ _ _ _ _ _ op_eq (@pe_ix _ _ _ _ _ _ _ ix_tup (pv 1) pe_int (fun _ _ => rfl)) pe_str (nomark _)) pss_at pss_at) ⟨_, rfl, _, _, _, _, rfl, rfl, SqT.of hp, atI_nat (j := 2) rfl, rfl, _, rfl, ifd (fun h => ?_) (fun h2 => at_nil ?_)⟩
    · have h : x.deed = "into" := V.str.inj h
      refine @at_one _ _ _ _ _ _ (@ps_ret _ _ _ _ (@pe_op _ _ _ _ _ _ _ _ op_cat (@pe_slice _ _ _ _ _ _ _ _ _ _ sl_list (pv 0) po_none (@po_some _ _ _ (@pe_op _ _ _ _ _ _ _ _ op_sub (@pe_callB _ _ _ _ _ _ _ _ _ call_len_seq (by rfl) T.z_len (by decide +kernel) (@pa_cons _ _ _ _ _ (pv 0) pa_nil (by walk_at "u")) (by walk_at "u") (by walk_at "u") (by walk_at "u") (by walk_at "u")) pe_int))) (@pe_lst _ _ _ _ (@pa_cons _ _ _ _ _ (@pe_ix _ _ _ _ _ _ _ ix_tup (pv 1) pe_int (fun _ _ => rfl)) pa_nil (by walk_at "u"))))) ⟨_, rfl, _, rfl, _, _, rfl, .inl (SqL.of hlo), _, _, rfl, rfl, _, rfl, lo, _, rfl, SqL.of hlo, fun l0 e0 => ?_⟩
      rw [cut_last hne']
      refine ⟨_, rfl, _, _, _, _, rfl, rfl, SqT.of (Same.upd e0 _ _ hp), atI_nat (j := 3) rfl, by show 1 ≤ sizeLine; decide, fun l1 e1 => ⟨l0, l1, _, _, rfl, rfl, Same.upd e1 _ _ upd_same, upd_same, sl_le (by rw [List.length_dropLast, List.length_map]; show _ + 1 ≤ 1000000; omega), fun l2 e2 => q l2 _ ?_ (((Same.upd e0).trans (Same.upd e1)).trans (Same.upd e2))⟩⟩
      rw [upd_same, h, deedM, if_neg (by decide), if_pos rfl, List.map_append, List.map_dropLast]; rfl
    have h2 : x.deed ≠ "into" := fun z => h2 (by rw [z])
    refine @at_consR _ _ _ _ _ _ _ (fun σ' H' => σ' = [some (.ref lo), some (.ref p)] ∧ H = H' ∧ ¬ (x.deed = "pop" ∧ on.length > 1)) (@ps_if _ _ _ _ _ _ _ _ (@PW.pt _ _ _ (@pw_and _ _ _ _ _ _ _ (@pt_cmpR _ _ _ _ _ _ _ _ op_eq (@pe_ix _ _ _ _ _ _ _ ix_tup (pv 1) pe_int (fun _ _ => rfl)) pe_str (nomark _)) (@pw_and1 _ _ _ _ (@pt_cmpR _ _ _ _ _ _ _ _ op_gt (@pe_callB _ _ _ _ _ _ _ _ _ call_len_seq (by rfl) T.z_len (by decide +kernel) (@pa_cons _ _ _ _ _ (pv 0) pa_nil (by walk_at "u")) (by walk_at "u") (by walk_at "u") (by walk_at "u") (by walk_at "u")) pe_int (nomark _))))) pss_at pss_at) ?_ ?_
    · refine ⟨_, rfl, _, _, _, _, rfl, rfl, SqT.of hp, atI_nat (j := 2) rfl, rfl, _, rfl, ifd (fun h => ?_) (fun h => at_nil ⟨rfl, rfl, fun z => h (by rw [z.1])⟩)⟩
      have h : x.deed = "pop" := V.str.inj h
      refine ⟨_, rfl, _, _, rfl, .inl (SqL.of hlo), _, _, rfl, rfl, _, rfl, ifd (fun h3 => ?_) (fun h3 => at_nil ⟨rfl, rfl, fun z => h3 (by rw [List.length_map]; omega)⟩)⟩
      have h3 : on.length > 1 := by rw [List.length_map] at h3; omega
      refine @at_one _ _ _ _ _ _ (@ps_ret _ _ _ _ (@pe_slice _ _ _ _ _ _ _ _ _ _ sl_list (pv 0) po_none (@po_some _ _ _ (@pe_op _ _ _ _ _ _ _ _ op_sub (@pe_callB _ _ _ _ _ _ _ _ _ call_len_seq (by rfl) T.z_len (by decide +kernel) (@pa_cons _ _ _ _ _ (pv 0) pa_nil (by walk_at "u")) (by walk_at "u") (by walk_at "u") (by walk_at "u") (by walk_at "u")) pe_int)))) ⟨_, rfl, _, rfl, _, _, rfl, .inl (SqL.of hlo), _, _, rfl, rfl, _, rfl, lo, _, rfl, SqL.of hlo, fun l0 e0 => ?_⟩
      rw [cut_last hne']
      refine q l0 _ ?_ (Same.upd e0)
      rw [upd_same, h, deedM, if_neg (by decide), if_neg (by decide), if_pos rfl, if_neg (by omega), List.map_dropLast]
    rintro σ' H' ⟨rfl, rfl, hn⟩
    refine @at_cons _ _ _ _ _ _ _ (@ps_if _ _ _ _ _ _ _ _ (@pt_cmpR _ _ _ _ _ _ _ _ op_eq (@pe_ix _ _ _ _ _ _ _ ix_tup (pv 1) pe_int (fun _ _ => rfl)) pe_str (nomark _)) pss_at pss_at) ⟨_, rfl, _, _, _, _, rfl, rfl, SqT.of hp, atI_nat (j := 2) rfl, rfl, _, rfl, ifd (fun h => ?_) (fun h3 => at_nil ?_)⟩
    · have h : x.deed = "pop" := V.str.inj h
      have hl1 : on.length = 1 := by
        have := List.length_pos_iff.mpr hne
        rcases Nat.lt_or_ge 1 on.length with z | z
        · exact absurd ⟨h, z⟩ hn
        · omega
      refine @at_one _ _ _ _ _ _ (@ps_ret _ _ _ _ (@pe_lst _ _ _ _ (@pa_cons _ _ _ _ _ pe_int pa_nil (by walk_at "u")))) ⟨by show 1 ≤ sizeLine; decide, fun l1 e1 => q l1 _ ?_ (Same.upd e1)⟩
      rw [upd_same, h, deedM, if_neg (by decide), if_neg (by decide), if_pos rfl, if_pos hl1]; rfl
    · have h3 : x.deed ≠ "pop" := fun z => h3 (by rw [z])
      refine @at_one _ _ _ _ _ _ (@ps_ret _ _ _ _ (pv 0)) ⟨_, rfl, q lo _ ?_ (Same.refl _)⟩
      rw [hlo, deedM, if_neg h1, if_neg h2, if_neg h3]
theorem last_at {on : List Nat} (h : on ≠ []) : on[on.length - 1]? = some (topN on) := by
  rw [← List.getLast?_eq_getElem?, top_last h]
theorem at_top {on : List Nat} (h : on ≠ []) : atI (on.map natV) (((on.map natV).length : Int) - 1) = some (natV (topN on)) := by
  have := List.length_pos_iff.mpr h
  rw [List.length_map, show ((on.length : Int) - 1) = ((on.length - 1 : Nat) : Int) by omega]
  exact atI_nat (by rw [List.getElem?_map, last_at h]; rfl)
def spCalm5 : Sp := fun vs H Q _ => ∃ (lm lo : Addr) (row : Str) (names : List Str) (C : List (List LR5)) (on : List Nat), vs = [.ref lm, .ref lo, .str row] ∧ Ms5 H lm C ∧ Law5 names C ∧ H lo = some (.lst (on.map natV)) ∧ OnOk (ms5 names C) on ∧ on.length ≤ 10 ∧ row.length ≤ 1000 ∧ calmN (ms5 names C) row 60 on = true ∧ ∀ H', Same H H' → Q (.bl true) H'
theorem ok__law_calm (T : Txt K mg t) : FnOk P w K mg base CX0 2 t.f__law_calm t.d__law_calm ["_law_modes", "_law_stack", "_law_row"] spCalm5 := by
  refine T.F__law_calm.ok sc__law_calm (fun vs H Q E h => ?_) (fun cdv A outer s H vs Q E hr h => at_body ?_)
  · obtain ⟨lm, lo, row, names, C, on, rfl, _⟩ := h
    rfl
  · obtain ⟨lm, lo, row, names, C, on, rfl, hM, L, hlo, hon, hol, hrow, hcalm, q⟩ := h
    obtain ⟨us, hlm, hA⟩ := hM
    have hml := ms5_len L.len
    refine @at_consR _ _ _ _ _ _ _ (fun _ _ => False) (@ps_forA _ _ _ _ _ _ _ _ PassesOwn.never rfl (@pi_range1 _ _ _ _ _ _ rfl T.z_range (@pa_cons _ _ _ _ _ pe_int pa_nil (by walk_at "u")) (by walk_at "u")) (@pg_name _ _ 3 _ sc__law_calm.nd rfl (Or.inl rfl) (by walk_at "u")) pss_at (by walk_at "u")) ?_ (fun σ' H' z => z.elim)
    refine ⟨60, rfl, by decide, by decide, forW_range (n := (60 : Int).toNat) (fun i σ' H' => ∃ x3 x4 lo on, σ' = [some (.ref lm), some (.ref lo), some (.str row), x3, x4] ∧ H' lo = some (.lst (on.map natV)) ∧ OnOk (ms5 names C) on ∧ on.length ≤ 10 + i ∧ calmN (ms5 names C) row (60 - i) on = true ∧ Same H H') ⟨_, _, lo, on, rfl, hlo, hon, by omega, hcalm, Same.refl _⟩ ?_ ?_⟩
    · rintro i σ' H1 hi ⟨x3, x4, lo, on, rfl, hlo1, hon1, hol1, hc1, s1⟩
      have hi : i < 60 := hi
      have ht := hon1.2 _ (top_mem hon1.1)
      rw [hml] at ht
      obtain ⟨rs, hrs⟩ : ∃ rs, C[topN on]? = some rs := ⟨C[topN on], List.getElem?_eq_getElem ht⟩
      obtain ⟨u, hu, hu2⟩ := hA.at hrs
      have hrm := List.mem_of_getElem? hrs
      have h10 := L.ten rs hrm
      have hid := idleAt5 L hrs row
      rw [show 60 - i = (60 - (i + 1)) + 1 by omega, calmN, hid] at hc1
      refine @at_cons _ _ _ _ _ _ _ (@ps_set _ _ 4 _ _ _ _ sc__law_calm.nd rfl (Or.inl rfl) (@pe_call _ _ _ _ _ _ _ _ _ _ _ _ _ _ _ _ (ok__law_first T) (hr.mono (by decide)) rfl T.mg__law_first T.F__law_first.kp (bd__law_first T) .nil pass0 (@pa_cons _ _ _ _ _ (@pe_ix _ _ _ _ _ _ _ ix_list (pv 0) (@pe_ix _ _ _ _ _ _ _ ix_list (pv 1) (@pe_op _ _ _ _ _ _ _ _ op_sub (@pe_callB _ _ _ _ _ _ _ _ _ call_len_seq (by rfl) T.z_len (by decide +kernel) (@pa_cons _ _ _ _ _ (pv 1) pa_nil (by walk_at "u")) (by walk_at "u") (by walk_at "u") (by walk_at "u") (by walk_at "u")) pe_int) (fun _ _ => rfl)) (fun _ _ => rfl)) (@pa_cons _ _ _ _ _ (pv 2) pa_nil (by walk_at "u")) (by walk_at "u")) (by walk_at "u") (by walk_at "u") (by walk_at "u")) (by walk_at "u") (by walk_at "u")) ⟨_, rfl, _, rfl, _, rfl, _, _, rfl, .inl (SqL.of hlo1), _, _, rfl, rfl, _, _, _, _, rfl, rfl, SqL.of hlo1, at_top hon1.1, _, _, _, _, rfl, rfl, SqL.of (s1 _ _ hlm), at_ref hu, _, rfl, u, rs, _, row, rfl, hu2.same s1, by omega, L.ok rs hrm, hrow, fun p H2 hp s2 => ?_⟩
      have hlo2 := s2 _ _ hlo1
      cases hfd : rs.find? (fit5 row) with
      | none =>
        rw [hfd] at hp
        have hp : H2 p = some (.tup [.str "", .str "", .str "", .int 0]) := hp
        refine @at_cons _ _ _ _ _ _ _ (@ps_if _ _ _ _ _ _ _ _ (@pt_cmpR _ _ _ _ _ _ _ _ op_notIn_seq (@pe_ix _ _ _ _ _ _ _ ix_tup (pv 4) pe_int (fun _ _ => rfl)) (@pe_tup _ _ _ _ _ (@pa_cons _ _ _ _ _ pe_str (@pa_cons _ _ _ _ _ pe_str pa_nil (by walk_at "u")) (by walk_at "u"))) rfl) pss_at pss_at) ⟨_, rfl, _, _, _, _, rfl, rfl, SqT.of hp, atI_nat (j := 0) rfl, by show 2 ≤ sizeLine; decide, fun pt ept => ⟨_, _, rfl, .inr (SqT.of upd_same), rfl, rfl, _, rfl, ifeq (c := true) (by decide) ?_⟩⟩
        exact @at_one _ _ _ _ _ _ (@ps_ret _ _ _ _ pe_bl) (q _ ((s1.trans s2).trans (Same.upd ept)))
      | some x =>
        rw [hfd] at hp hc1
        have hp : H2 p = some (.tup [.str x.sort, .str x.z, .str x.deed, .int x.g]) := hp
        have hxm := List.mem_of_find?_eq_some hfd
        have O := L.ok rs hrm x hxm
        refine @at_cons _ _ _ _ _ _ _ (@ps_if _ _ _ _ _ _ _ _ (@pt_cmpR _ _ _ _ _ _ _ _ op_notIn_seq (@pe_ix _ _ _ _ _ _ _ ix_tup (pv 4) pe_int (fun _ _ => rfl)) (@pe_tup _ _ _ _ _ (@pa_cons _ _ _ _ _ pe_str (@pa_cons _ _ _ _ _ pe_str pa_nil (by walk_at "u")) (by walk_at "u"))) rfl) pss_at pss_at) ⟨_, rfl, _, _, _, _, rfl, rfl, SqT.of hp, atI_nat (j := 0) rfl, by show 2 ≤ sizeLine; decide, fun pt ept => ⟨_, _, rfl, .inr (SqT.of upd_same), rfl, rfl, _, rfl, ?_⟩⟩
        have hin : (!inV (.str x.sort) [.str "still", .str "end"]) = eatsB x.sort := by
          rw [show ([.str "still", .str "end"] : List V) = (["still", "end"] : List Str).map V.str from rfl, inV_strs]
          rcases sorts_cases O.sort with z | z | z | z | z | z | z <;> rw [z] <;> decide +kernel
        cases he : eatsB x.sort with
        | true =>
          refine ifeq (c := true) (by show (!inV (.str x.sort) [.str "still", .str "end"]) = true; rw [hin, he]) ?_
          exact @at_one _ _ _ _ _ _ (@ps_ret _ _ _ _ pe_bl) (q _ ((s1.trans s2).trans (Same.upd ept)))
        | false =>
          refine ifeq (c := false) (by show (!inV (.str x.sort) [.str "still", .str "end"]) = false; rw [hin, he]) (at_nil ?_)
          have hid5 : (some x).bind idle5 = some (r5 x) := by show idle5 x = _; rw [idle5, if_neg (by rw [he]; decide)]
          rw [hid5] at hc1
          have hc1 : calmN (ms5 names C) row (60 - (i + 1)) (deedM on (r5 x).deed (r5 x).goal) = true := hc1
          have hon2 : OnOk (ms5 names C) (deedM on (r5 x).deed (r5 x).goal) := by
            obtain ⟨m, hm⟩ := hon1.mode
            have hR : idleAt (ms5 names C) (topN on) row = some (r5 x) := by rw [hid, hfd]; exact hid5
            have hid2 : idleAt (ms5 names C) (topN on) row = idleM m.rules row := by rw [idleAt, hm]; rfl
            rw [hid2] at hR
            exact hon1.deed L.fit.good (List.mem_of_getElem? hm) (idle_mem hR)
          rw [deed5] at hc1 hon2
          have hdl : (deedM on x.deed (some x.g)).length ≤ on.length + 1 := deed_len
          have s3 := Same.upd (o := .tup [.str "still", .str "end"]) ept
          exact @at_one _ _ _ _ _ _ (@ps_set _ _ 1 _ _ _ _ sc__law_calm.nd rfl (Or.inl rfl) (@pe_call _ _ _ _ _ _ _ _ _ _ _ _ _ _ _ _ (ok__law_after T) (hr.mono (by decide)) rfl T.mg__law_after T.F__law_after.kp (bd__law_after T) .nil pass0 (@pa_cons _ _ _ _ _ (pv 1) (@pa_cons _ _ _ _ _ (pv 4) pa_nil (by walk_at "u")) (by walk_at "u")) (by walk_at "u") (by walk_at "u") (by walk_at "u")) (by walk_at "u") (by walk_at "u")) ⟨_, rfl, _, rfl, lo, p, on, x, rfl, s3 _ _ hlo2, s3 _ _ hp, hon1.1, by omega, fun l H4 hl4 s4 => ⟨_, _, l, _, rfl, hl4, hon2, by omega, hc1, ((s1.trans s2).trans s3).trans s4⟩⟩
    · rintro σ' H1 ⟨x3, x4, lo, on, rfl, _, _, _, hc1, _⟩
      cases hc1
end
section
variable {P : Program} {w : World} {K : PySem.W.Frag} {mg : Str → Option Value} {base : Heap} {t : Adr}
def spRG (t : Adr) : Sp := fun vs H Q _ => ∃ e l xs y, vs = [.ref e, .ref l, y] ∧ H e = some (xnew e t.c_Rings none) ∧ H l = some (.lst xs) ∧
  ∀ tp l2 dx H1, H1 = upd (upd H tp (.tup xs)) l2 (.lst xs) → H tp = none → H l2 = none → l2 ≠ tp → H1 dx = none → Q .non (upd (upd (upd H1 dx (.xd [("ring", .ref l2)])) e (xnew e t.c_Rings (some dx))) dx (.xd [("sign", y), ("ring", .ref l2)]))
theorem ok_Rings___init__ (T : Txt K mg t) : FnOk P w K mg base CX0 1 t.f_Rings___init__ t.d_Rings___init__ ["self", "ring", "sign"] (spRG t) := by
  refine T.F_Rings___init__.ok sc_Rings___init__ (fun vs H Q E h => ?_) (fun cdv A outer s H vs Q E hr h => at_body ?_)
  · obtain ⟨e, l, xs, y, rfl, _⟩ := h
    rfl
  · obtain ⟨e, l, xs, y, rfl, he, hl, q⟩ := h
    have nel : l ≠ e := fun z => by rw [z, he] at hl; cases hl
    refine @at_cons _ _ _ _ _ _ _ (ps_expr (pe_super rfl T.mgc_TintError T.su_TintError.1 T.su_TintError.2.1 T.su_TintError.2.2 (pa_cons (pv 0) (pa_cons (pe_callTy call_tuple_of rfl T.z_tuple rfl (pa_cons (pv 1) pa_nil)) (pa_cons (pv 2) pa_nil))))) ?_
    refine ⟨_, rfl, _, rfl, l, xs, rfl, .inl ⟨SqL.of hl, fun tp ftp => ⟨_, rfl, e, t.c_Rings, none, _, rfl, ?_, T.x_Rings.toExcC, by show 2 ≤ sizeLine; decide, ?_⟩⟩⟩
    · rw [upd_ne (fun z => by rw [← z, he] at ftp; cases ftp)]; exact he
    have hl1 : upd H tp (.tup xs) l = some (.lst xs) := by rw [upd_ne (fun z => by rw [← z, hl] at ftp; cases ftp)]; exact hl
    have he1 : upd H tp (.tup xs) e = some (xnew e t.c_Rings none) := by rw [upd_ne (fun z => by rw [← z, he] at ftp; cases ftp)]; exact he
    refine @at_cons _ _ _ _ _ _ _ (ps_fldX (pv 0) (pe_callTy call_list_of rfl T.z_list rfl (pa_cons (pv 1) pa_nil)) rfl) ⟨_, rfl, l, xs, rfl, .inl (SqL.of hl1), fun l2 f2 => ?_⟩
    have n2 : l2 ≠ tp := fun z => by rw [z, upd_same] at f2; cases f2
    have f2' : H l2 = none := by rw [upd_ne n2] at f2; exact f2
    have he2 : upd (upd H tp (.tup xs)) l2 (.lst xs) e = some (xnew e t.c_Rings none) := by rw [upd_ne (fun z => by rw [← z, he1] at f2; cases f2)]; exact he1
    refine ⟨_, rfl, e, _, rfl, T.x_Rings.toExcC, T.n_Rings_ring, .inl ⟨he2, fun dx fr => ?_⟩⟩
    have ne : dx ≠ e := fun z => by rw [z, he2] at fr; cases fr
    exact @at_one _ _ _ _ _ _ (ps_fldX (pv 0) (pv 2) rfl) ⟨_, rfl, _, rfl, e, _, rfl, T.x_Rings.toExcC, T.n_Rings_sign, .inr ⟨dx, _, upd_same, by rw [upd_ne ne, upd_same], by show 1 < 1000; decide, q tp l2 dx _ rfl ftp f2' n2 fr⟩⟩
/-- what is asked of a refusal for a ring -/
def Rg (t : Adr) (E : XK) (H : Hp) (xs : List V) (y : V) : Prop := ∀ e dx l2 H', H' e = some (xobj e t.c_Rings (some dx)) → H' dx = some (.xd [("sign", y), ("ring", .ref l2)]) → H' l2 = some (.lst xs) → Same H H' → E (.ref t.c_Rings) (some e) H'
theorem Rg.go {E : XK} {H : Hp} {xs : List V} {y : V} {l e : Addr} (h : Rg t E H xs y) (hl : H l = some (.lst xs)) (he : H e = none) : spRG t [.ref e, .ref l, y] (upd H e (xnew e t.c_Rings none)) (fun v H3 => v = .non ∧ ∃ d, H3 e = some (xnew e t.c_Rings d) ∧ E (.ref t.c_Rings) (some e) (upd H3 e (xobj e t.c_Rings d))) E0 := by
  have nl : l ≠ e := ne_of_none hl he
  refine ⟨e, l, xs, y, rfl, upd_same, by rw [upd_ne nl]; exact hl, fun tp l2 dx H1 hH1 ftp f2 n2 fd => ⟨rfl, some dx, ?_, ?_⟩⟩
  · subst hH1
    have e1 : e ≠ tp := fun z => by rw [← z, upd_same] at ftp; cases ftp
    have e2 : e ≠ l2 := fun z => by rw [← z, upd_same] at f2; cases f2
    have ed : e ≠ dx := fun z => by rw [← z, upd_ne e2, upd_ne e1, upd_same] at fd; cases fd
    rw [upd_ne ed, upd_same]
  · subst hH1
    have e1 : e ≠ tp := fun z => by rw [← z, upd_same] at ftp; cases ftp
    have e2 : e ≠ l2 := fun z => by rw [← z, upd_same] at f2; cases f2
    have ed : e ≠ dx := fun z => by rw [← z, upd_ne e2, upd_ne e1, upd_same] at fd; cases fd
    have d2 : l2 ≠ dx := fun z => by rw [← z, upd_same] at fd; cases fd
    have d1 : dx ≠ tp := fun z => by rw [upd_ne (Ne.symm d2), z, upd_same] at fd; cases fd
    have ftp' : H tp = none := by rw [upd_ne (Ne.symm e1)] at ftp; exact ftp
    have f2' : H l2 = none := by rw [upd_ne (Ne.symm e2)] at f2; exact f2
    have fd' : H dx = none := by rw [upd_ne (Ne.symm d2), upd_ne d1, upd_ne (Ne.symm ed)] at fd; exact fd
    refine h e dx l2 _ upd_same (by rw [upd_ne (Ne.symm ed), upd_same]) ?_ fun b o hb => ?_
    · rw [upd_ne (Ne.symm e2), upd_ne d2, upd_ne (Ne.symm e2), upd_ne d2, upd_same]
    · have n1 := ne_of_none hb he
      have n3 := ne_of_none hb ftp'
      have n4 := ne_of_none hb f2'
      have n5 := ne_of_none hb fd'
      rw [upd_ne n1, upd_ne n5, upd_ne n1, upd_ne n5, upd_ne n4, upd_ne n3, upd_ne n1]; exact hb
def spAskR (t : Adr) : Sp := fun vs H Q E => ∃ (a : Addr) (ms : List ModeM), vs = [.ref a] ∧ IsRules t H a ms ∧ GoodMs ms ∧ (ringM ms = none → ∀ H', Same H H' → Q .non H') ∧ ∀ ring row, ringM ms = some (ring, row) → Rg t E H ((ring.map (nameAt ms)).map V.str) (rowV row)
theorem ok_ask_rings (T : Txt K mg t) : FnOk P w K mg base (CXE P w) 6 t.f_ask_rings t.d_ask_rings ["rules"] (spAskR t) := by
  refine T.F_ask_rings.okE sc_ask_rings (fun vs H Q E h => ?_) (fun cdv A outer s H vs Q E hr h => ?_)
  · obtain ⟨a, ms, rfl, _⟩ := h
    rfl
  · obtain ⟨a, ms, rfl, hR, G, q1, q2⟩ := h
    refine @at_cons _ _ _ _ _ _ _ (@ps_set _ _ 1 _ _ _ _ sc_ask_rings.nd rfl (Or.inl rfl) (@pe_call _ _ _ _ _ _ _ _ _ _ _ _ _ _ _ _ (ok_ring_of T) (hr.mono (by decide)) rfl T.mg_ring_of T.F_ring_of.kp (bd_ring_of T) .nil pass0 (@pa_cons _ _ _ _ _ (pv 0) pa_nil (by walk_at "u")) (by walk_at "u") (by walk_at "u") (by walk_at "u")) (by walk_at "u") (by walk_at "u")) ⟨_, rfl, a, ms, rfl, hR, G, fun H1 s1 => ⟨fun hn => ?_, fun ring row p l hm hp hl => ?_⟩⟩
    · exact @at_one _ _ _ _ _ _ (@ps_if _ _ _ _ _ _ _ _ (@pt_cmpR _ _ _ _ _ _ _ _ op_notN (pv 1) pe_non (nomark _)) pss_at pss_at) ⟨_, rfl, rfl, _, rfl, ifnd (fun h => absurd rfl h) (fun _ => at_nil (q1 hn H1 s1))⟩
    · refine @at_one _ _ _ _ _ _ (@ps_if _ _ _ _ _ _ _ _ (@pt_cmpR _ _ _ _ _ _ _ _ op_notN (pv 1) pe_non (nomark _)) pss_at pss_at) ⟨_, rfl, rfl, _, rfl, ifnd (fun _ => ?_) (fun h => by cases h)⟩
      have g : Rg t E H1 ((ring.map (nameAt ms)).map V.str) (rowV row) := fun e dx l2 H' h1 h2 h3 h4 => q2 ring row hm e dx l2 H' h1 h2 h3 (s1.trans h4)
      exact @at_one _ _ _ _ _ _ (ps_raise1 T.x_Rings.toExcC T.xi_Rings.1 T.xi_Rings.2.1 T.xi_Rings.2.2 (ok_Rings___init__ T) (bd_Rings___init__ T) (hr.mono (by decide)) rfl T.mgc_Rings (pa_cons (pe_ix ix_tup (pv 1) pe_int (fun _ _ => rfl)) (pa_cons (pe_ix ix_tup (pv 1) pe_int (fun _ _ => rfl)) pa_nil))) ⟨_, rfl, _, _, _, _, rfl, rfl, SqT.of hp, atI_nat (j := 0) rfl, _, rfl, _, _, _, _, rfl, rfl, SqT.of hp, atI_nat (j := 1) rfl, by show 2 ≤ sizeLine; decide, fun e he => g.go hl he⟩
end
section
variable {P : Program} {w : World} {K : PySem.W.Frag} {mg : Str → Option Value} {base : Heap} {t : Adr}
theorem short_cases {row : Str} (h : row ∈ shortRows) : row = "" ∨ ∃ c, row = (⟨#[c]⟩ : Str) := by
  rcases List.mem_cons.mp h with e | e
  · exact .inl e
  · obtain ⟨c, _, rfl⟩ := List.mem_map.mp e
    exact .inr ⟨c, rfl⟩
theorem one_no {c : Nat} : (⟨#[c]⟩ : Str) ≠ "" := fun h => by
  have := congrArg (fun s : Str => s.cps.size) h
  have e : (Str.ofString "").cps.size = 0 := by decide +kernel
  rw [show ((⟨#[c]⟩ : Str).cps.size) = 1 from rfl] at this
  have h2 : (1 : Nat) = (Str.ofString "").cps.size := this
  rw [e] at h2; cases h2
def runs (ms : List ModeM) (row : Str) (first : Nat) : List Nat → List Nat → Prop
  | on, [] => topN on = first
  | on, r :: rest => r = topN on ∧ ∃ R, idleAt ms (topN on) row = some R ∧ ¬ (R.deed = "pop" ∧ on.length = 1 ∧ first ≠ 0) ∧ runs ms row first (deedM on R.deed R.goal) rest
theorem ringF_runs {ms : List ModeM} {row : Str} {first : Nat} : ∀ (fuel : Nat) (on ring r : List Nat), ringF ms row first fuel on ring = some r → ∃ rest, r = ring ++ rest ∧ rest ≠ [] ∧ runs ms row first on rest
  | 0, _, _, _, h => by cases h
  | f + 1, on, ring, r, h => by
    rw [ringF] at h
    cases e : idleAt ms (topN on) row with
    | none => rw [e] at h; cases h
    | some R =>
      rw [e] at h
      have h : (if R.deed = "pop" ∧ on.length = 1 ∧ first ≠ 0 then none else if topN (deedM on R.deed R.goal) = first then some (ring ++ [topN on]) else ringF ms row first f (deedM on R.deed R.goal) (ring ++ [topN on])) = some r := h
      split at h
      · cases h
      · rename_i hn
        split at h
        · rename_i ht
          cases h
          exact ⟨[topN on], rfl, by simp, rfl, R, e, hn, ht⟩
        · obtain ⟨rest, h1, _, h3⟩ := ringF_runs f _ _ _ h
          exact ⟨topN on :: rest, by rw [h1, List.append_assoc]; rfl, by simp, rfl, R, e, hn, h3⟩
theorem ringRow_some {ms : List ModeM} {row : Str} {r : List Nat} : ∀ (n k : Nat), ringRow ms row n k = some r → ∃ j, k ≤ j ∧ j < k + n ∧ ringFrom ms j row = some r
  | 0, _, h => by cases h
  | n + 1, k, h => by
    rw [ringRow] at h
    cases e : ringFrom ms k row with
    | some r' => rw [e] at h; cases h; exact ⟨k, Nat.le_refl _, by omega, e⟩
    | none =>
      rw [e] at h
      obtain ⟨j, h1, h2, h3⟩ := ringRow_some n (k + 1) h
      exact ⟨j, by omega, by omega, h3⟩
theorem ringRows_some {ms : List ModeM} {row : Str} {r : List Nat} : ∀ (rows : List Str), ringRows ms rows = some (r, row) → row ∈ rows ∧ ∃ j, j < ms.length ∧ ringFrom ms j row = some r
  | [], h => by cases h
  | x :: rows, h => by
    rw [ringRows] at h
    cases e : ringRow ms x ms.length 0 with
    | some r' =>
      rw [e] at h
      cases h
      obtain ⟨j, _, h2, h3⟩ := ringRow_some _ _ e
      exact ⟨by simp, j, by omega, h3⟩
    | none =>
      rw [e] at h
      obtain ⟨h1, h2⟩ := ringRows_some rows h
      exact ⟨List.mem_cons_of_mem _ h1, h2⟩
def SgV (row : Str) (v : V) : Prop := (row = "" ∧ v = .non) ∨ ∃ c, row = (⟨#[c]⟩ : Str) ∧ v = .str row
theorem sgV_of {row : Str} (h : row ∈ shortRows) : SgV row (rowV row) := by
  rcases short_cases h with rfl | ⟨c, rfl⟩
  · exact .inl ⟨rfl, if_pos rfl⟩
  · exact .inr ⟨c, rfl, if_neg one_no⟩
theorem ringF_cap {ms : List ModeM} {row : Str} {first : Nat} : ∀ (f : Nat) (on ring r : List Nat), ringF ms row first f on ring = some r → r.length ≤ ring.length + f
  | 0, _, _, _, h => by cases h
  | f + 1, on, ring, r, h => by
    rw [ringF] at h
    cases e : idleAt ms (topN on) row with
    | none => rw [e] at h; cases h
    | some R =>
      rw [e] at h
      have h : (if R.deed = "pop" ∧ on.length = 1 ∧ first ≠ 0 then none else if topN (deedM on R.deed R.goal) = first then some (ring ++ [topN on]) else ringF ms row first f (deedM on R.deed R.goal) (ring ++ [topN on])) = some r := h
      split at h
      · cases h
      · split at h
        · cases h
          rw [List.length_append, List.length_singleton]; omega
        · have := ringF_cap f _ _ _ h
          rw [List.length_append, List.length_singleton] at this
          omega
theorem nameAt5 {names : List Str} {C : List (List LR5)} (L : Law5 names C) {k : Nat} (h : k < C.length) : names[k]? = some (nameAt (ms5 names C) k) := by
  obtain ⟨n, hn⟩ : ∃ n, names[k]? = some n := ⟨names[k]'(by rw [L.len]; exact h), List.getElem?_eq_getElem _⟩
  rw [hn, nameAt, ms5_at hn (List.getElem?_eq_getElem h)]
theorem all_un : ∀ c ∈ signs94.cps.toList, c ∈ (allS ++ "_" : Str).cps.toList := by decide +kernel
def spIsRing : Sp := fun vs H Q _ => ∃ (lm ln lg : Addr) (v3 : V) (row : Str) (first : Nat) (names : List Str) (C : List (List LR5)) (ring : List Nat), vs = [.ref lm, .ref ln, .ref lg, v3] ∧ Ms5 H lm C ∧ Law5 names C ∧ H ln = some (.lst (names.map V.str)) ∧ H lg = some (.lst ((ring.map (nameAt (ms5 names C))).map V.str)) ∧ row ∈ shortRows ∧ SgV row v3 ∧ first < C.length ∧ runs (ms5 names C) row first [first] ring ∧ ring ≠ [] ∧ ring.length ≤ 100 ∧ ∀ H', Same H H' → Q (.bl true) H'
theorem ok__law_is_ring (T : Txt K mg t) : FnOk P w K mg base CX0 2 t.f__law_is_ring t.d__law_is_ring ["_law_modes", "_law_names", "_law_ring", "_law_sign"] spIsRing := by
  refine T.F__law_is_ring.ok sc__law_is_ring (fun vs H Q E h => ?_) (fun cdv A outer s H vs Q E hr h => at_body ?_)
  · obtain ⟨lm, ln, lg, v3, row, first, names, C, ring, rfl, _⟩ := h
    rfl
  · obtain ⟨lm, ln, lg, v3, row, first, names, C, ring, rfl, hM, L, hln, hlg, hrow, hv, hfirst, hruns, hne, hrl, q⟩ := h
    obtain ⟨us, hlm, hA⟩ := hM
    have hml := ms5_len L.len
    have h4 := L.four
    have hnd := L.names.1
    have hrpos : 0 < ring.length := List.length_pos_iff.mpr hne
    have aL := all_len
    refine @at_consR _ _ _ _ _ _ _ (fun σ' H' => σ' = [some (.ref lm), some (.ref ln), some (.ref lg), some v3, none, none, none, none] ∧ H = H') (@ps_if _ _ _ _ _ _ _ _ (@PW.pt _ _ _ (@pw_or _ _ _ _ _ _ _ (@pt_not _ _ _ _ (@pt_val _ _ _ (@pe_callB _ _ _ _ _ _ _ _ _ call_isi (by rfl) T.z_isinstance (by decide +kernel) (@pa_cons _ _ _ _ _ (pv 2) (@pa_cons _ _ _ _ _ (@pe_bltn _ _ (V.ty "list") (Value.type "list") _ rfl T.z_list (by decide +kernel) rfl (by walk_at "u") (by walk_at "u")) pa_nil (by walk_at "u")) (by walk_at "u")) (by walk_at "u") (by walk_at "u") (by walk_at "u") (by walk_at "u")) (by walk_at "u"))) (@pw_or1 _ _ _ _ (@pt_cmpR _ _ _ _ _ _ _ _ op_eq (@pe_callB _ _ _ _ _ _ _ _ _ call_len_seq (by rfl) T.z_len (by decide +kernel) (@pa_cons _ _ _ _ _ (pv 2) pa_nil (by walk_at "u")) (by walk_at "u") (by walk_at "u") (by walk_at "u") (by walk_at "u")) pe_int (nomark _))))) pss_at pss_at) ?_ ?_
    · refine ⟨_, rfl, _, _, _, _, true, rfl, .inl rfl, .lst hlg, T.kb_list_list, true, rfl, iteF ?_⟩
      refine ⟨_, rfl, _, _, rfl, .inl (SqL.of hlg), rfl, _, rfl, ifd (fun z => ?_) (fun _ => at_nil ⟨rfl, rfl⟩)⟩
      exfalso
      have := V.int.inj z
      rw [List.length_map, List.length_map] at this
      omega
    rintro σ' H' ⟨rfl, rfl⟩
    refine @at_consR _ _ _ _ _ _ _ (fun σ' H' => σ' = [some (.ref lm), some (.ref ln), some (.ref lg), some v3, none, none, none, none] ∧ H = H') (@ps_if _ _ _ _ _ _ _ _ (@PW.pt _ _ _ (@pw_and _ _ _ _ _ _ _ (@pt_cmpR _ _ _ _ _ _ _ _ op_notN (pv 3) pe_non (nomark _)) (@pw_and1 _ _ _ _ (@PW.pt _ _ _ (@pw_or _ _ _ _ _ _ _ (@pt_not _ _ _ _ (@pt_val _ _ _ (@pe_callB _ _ _ _ _ _ _ _ _ call_isi (by rfl) T.z_isinstance (by decide +kernel) (@pa_cons _ _ _ _ _ (pv 3) (@pa_cons _ _ _ _ _ (@pe_bltn _ _ (V.ty "str") (Value.type "str") _ rfl T.z_str (by decide +kernel) rfl (by walk_at "u") (by walk_at "u")) pa_nil (by walk_at "u")) (by walk_at "u")) (by walk_at "u") (by walk_at "u") (by walk_at "u") (by walk_at "u")) (by walk_at "u"))) (@pw_or _ _ _ _ _ _ _ (@pt_cmpR _ _ _ _ _ _ _ _ op_ne (@pe_callB _ _ _ _ _ _ _ _ _ call_len_str (by rfl) T.z_len (by decide +kernel) (@pa_cons _ _ _ _ _ (pv 3) pa_nil (by walk_at "u")) (by walk_at "u") (by walk_at "u") (by walk_at "u") (by walk_at "u")) pe_int (nomark _)) (@pw_or1 _ _ _ _ (@pt_cmpR _ _ _ _ _ _ _ _ op_notin_str (pv 3) (@pe_op _ _ _ _ _ _ _ _ op_add_str (@pe_call0 _ _ _ _ _ _ _ _ _ _ _ _ _ (ok__law_all T) (hr.mono (by decide)) rfl T.mg__law_all T.F__law_all.kp (bd__law_all T) .nil pass0 (by walk_at "u")) pe_str) rfl)))))))) pss_at pss_at) ?_ ?_
    · rcases hv with ⟨rfl, rfl⟩ | ⟨c, rfl, rfl⟩
      · exact ⟨_, rfl, rfl, _, rfl, ifnd (fun z => absurd rfl z) (fun _ => at_nil ⟨rfl, rfl⟩)⟩
      · have hc : c ∈ signs94.cps.toList := by
          rcases List.mem_cons.mp hrow with z | z
          · exact absurd z one_no
          · obtain ⟨d, hd, e⟩ := List.mem_map.mp z
            have : d = c := by
              injection e with e
              have := congrArg Array.toList e
              simpa using this
            rw [← this]; exact hd
        refine ⟨_, rfl, rfl, _, rfl, ifnd (fun _ => ?_) (fun z => by cases z)⟩
        refine ⟨_, rfl, _, _, _, _, true, rfl, .inl rfl, .str _, T.kb_str_str, true, rfl, iteF ?_⟩
        refine ⟨_, rfl, _, rfl, sl_le (by show 1 ≤ 1000000; decide), rfl, _, rfl, ifnd (fun z => absurd rfl z) (fun _ => ?_)⟩
        refine ⟨_, rfl, rfl, _, _, rfl, rfl, sl_le (by rw [aL, show ("_" : Str).length = 1 by decide +kernel]; decide), _, _, rfl, rfl, _, rfl, ifeq (c := false) ?_ (at_nil ⟨rfl, rfl⟩)⟩
        have h1 := PySem.StrLaws.found_one (allS ++ "_" : Str) c
        rw [decide_eq_true (all_un c hc)] at h1
        simpa using h1
    rintro σ' H' ⟨rfl, rfl⟩
    refine @at_consR _ _ _ _ _ _ _ (fun σ' H' => σ' = [some (.ref lm), some (.ref ln), some (.ref lg), some v3, some (.str row), none, none, none] ∧ H = H') (@ps_set _ _ 4 _ _ _ _ sc__law_is_ring.nd rfl (Or.inl rfl) (@pe_ifExp _ _ _ _ _ _ _ _ (@pt_cmpR _ _ _ _ _ _ _ _ op_isN (pv 3) pe_non (nomark _)) pe_str (pv 3)) (by walk_at "u") (by walk_at "u")) ?_ ?_
    · rcases hv with ⟨rfl, rfl⟩ | ⟨c, rfl, rfl⟩
      · exact ⟨_, rfl, rfl, _, rfl, ifd (fun _ => ⟨rfl, rfl⟩) (fun z => absurd rfl z)⟩
      · exact ⟨_, rfl, rfl, _, rfl, ifd (fun z => by cases z) (fun _ => ⟨_, rfl, rfl, rfl⟩)⟩
    rintro σ' H' ⟨rfl, rfl⟩
    obtain ⟨r0, hr0⟩ : ∃ x, ring[0]? = some x := ⟨ring[0], List.getElem?_eq_getElem hrpos⟩
    have hr0f : r0 = first := by
      cases ring with
      | nil => exact absurd rfl hne
      | cons x rest =>
        cases hr0
        exact hruns.1
    subst hr0f
    have hg0 : ((ring.map (nameAt (ms5 names C))).map V.str)[0]? = some (.str (nameAt (ms5 names C) r0)) := by rw [List.getElem?_map, List.getElem?_map, hr0]; rfl
    have hni := nameAt5 L hfirst
    have hrow1 : row.length ≤ 1 := short_len row hrow
    refine @at_cons _ _ _ _ _ _ _ (@ps_set _ _ 5 _ _ _ _ sc__law_is_ring.nd rfl (Or.inl rfl) (@pe_lst _ _ _ _ (@pa_cons _ _ _ _ _ (@pe_bm _ _ _ _ _ _ _ _ _ _ _ _ PySem.F.plainAttrs_list PySem.F.slot_list_index PySem.F.type_list_index mt_index (pv 1) (@pa_cons _ _ _ _ _ (@pe_ix _ _ _ _ _ _ _ ix_list (pv 2) pe_int (fun _ _ => rfl)) pa_nil (by walk_at "u")) (by walk_at "u") (by walk_at "u") (by walk_at "u") (by walk_at "u") (by walk_at "u")) pa_nil (by walk_at "u"))) (by walk_at "u") (by walk_at "u")) ⟨_, rfl, .inl ⟨rfl, _, SqL.of hln⟩, _, rfl, _, _, _, _, rfl, rfl, SqL.of hlg, atI_nat (j := 0) hg0, ln, names, _, r0, rfl, rfl, hln, hni, fun m hm e => ?_, by rw [L.len]; omega, by show 1 ≤ sizeLine; decide, fun l5 e5 => ?_⟩
    · obtain ⟨x1, y1⟩ := List.getElem?_eq_some_iff.mp e
      obtain ⟨x2, y2⟩ := List.getElem?_eq_some_iff.mp hni
      have := (List.getElem_inj hnd).mp (y1.trans y2.symm)
      omega
    have t5 := Same.upd (o := .lst ([r0].map natV)) e5
    have g5 : upd H l5 (.lst ([r0].map natV)) l5 = some (.lst ([r0].map natV)) := upd_same
    show At _ _ _ [some (.ref lm), some (.ref ln), some (.ref lg), some v3, some (.str row), some (.ref l5), none, none] (upd H l5 (.lst ([r0].map natV)))
    generalize upd H l5 (.lst ([r0].map natV)) = H2 at t5 g5 ⊢
    refine @at_consR _ _ _ _ _ _ _ (fun σ' H' => ∃ lo on x6 x7, σ' = [some (.ref lm), some (.ref ln), some (.ref lg), some v3, some (.str row), some (.ref lo), x6, x7] ∧ H' lo = some (.lst (on.map natV)) ∧ on ≠ [] ∧ topN on = r0 ∧ Same H H') (@ps_forA _ _ _ _ _ _ _ _ PassesOwn.never rfl (@pi_list _ _ _ _ (pv 2)) (@pg_name _ _ 6 _ sc__law_is_ring.nd rfl (Or.inl rfl) (by walk_at "u")) pss_at (by walk_at "u")) ?_ ?_
    · refine ⟨_, rfl, lg, rfl, ⟨_, SqL.of (t5 _ _ hlg)⟩, forW_list (xs := (ring.map (nameAt (ms5 names C))).map V.str) (fun i σ' H' => ∃ lo on x6 x7, σ' = [some (.ref lm), some (.ref ln), some (.ref lg), some v3, some (.str row), some (.ref lo), x6, x7] ∧ H' lo = some (.lst (on.map natV)) ∧ OnOk (ms5 names C) on ∧ runs (ms5 names C) row r0 on (ring.drop i) ∧ on.length ≤ i + 1 ∧ Same H H') ⟨l5, [r0], _, _, rfl, g5, ⟨by simp, by simpa [hml] using hfirst⟩, hruns, by simp, t5⟩ ?_ ?_ ?_⟩
      · rintro i σ' H' _ ⟨lo, on, _, _, _, _, _, _, _, s3⟩
        exact SqL.of (s3 _ _ hlg)
      · rintro i xv σ' H3 hx ⟨lo, on, x6, x7, rfl, hlo, hon, hru, honl, s3⟩
        rw [List.getElem?_map, List.getElem?_map] at hx
        obtain ⟨nx, hnx, rfl⟩ := Option.map_eq_some_iff.mp hx
        obtain ⟨ri, hri, rfl⟩ := Option.map_eq_some_iff.mp hnx
        have hi := (List.getElem?_eq_some_iff.mp hri).1
        have hdr : ring.drop i = ri :: ring.drop (i + 1) := drop_at hri
        rw [hdr] at hru
        obtain ⟨rfl, R, hR, hnp, hru2⟩ := hru
        have ht := hon.2 _ (top_mem hon.1)
        rw [hml] at ht
        have hnk := nameAt5 L ht
        obtain ⟨rs, hrs⟩ : ∃ rs, C[topN on]? = some rs := ⟨C[topN on], List.getElem?_eq_getElem ht⟩
        obtain ⟨u, hu, hu2⟩ := hA.at hrs
        have hrm := List.mem_of_getElem? hrs
        have h10 := L.ten rs hrm
        have hid := idleAt5 L hrs row
        have hon2 : OnOk (ms5 names C) (deedM on R.deed R.goal) := by
          obtain ⟨m, hm⟩ := hon.mode
          have hid2 : idleAt (ms5 names C) (topN on) row = idleM m.rules row := by rw [idleAt, hm]; rfl
          have hR' := hR
          rw [hid2] at hR'
          exact hon.deed L.fit.good (List.mem_of_getElem? hm) (idle_mem hR')
        rw [hid] at hR
        refine @at_consR _ _ _ _ _ _ _ (fun σ' H' => σ' = [some (.ref lm), some (.ref ln), some (.ref lg), some v3, some (.str row), some (.ref lo), some (.str (nameAt (ms5 names C) (topN on))), x7] ∧ H3 = H') (@ps_if _ _ _ _ _ _ _ _ (@pt_cmpR _ _ _ _ _ _ _ _ op_ne (@pe_ix _ _ _ _ _ _ _ ix_list (pv 1) (@pe_ix _ _ _ _ _ _ _ ix_list (pv 5) (@pe_op _ _ _ _ _ _ _ _ op_sub (@pe_callB _ _ _ _ _ _ _ _ _ call_len_seq (by rfl) T.z_len (by decide +kernel) (@pa_cons _ _ _ _ _ (pv 5) pa_nil (by walk_at "u")) (by walk_at "u") (by walk_at "u") (by walk_at "u") (by walk_at "u")) pe_int) (fun _ _ => rfl)) (fun _ _ => rfl)) (pv 6) (nomark _)) pss_at pss_at) ?_ ?_
        · exact ⟨_, rfl, _, rfl, _, rfl, _, _, rfl, .inl (SqL.of hlo), _, _, rfl, rfl, _, _, _, _, rfl, rfl, SqL.of hlo, at_top hon.1, _, _, _, _, rfl, rfl, SqL.of (s3 _ _ hln), atI_nat (j := topN on) (by rw [List.getElem?_map, hnk]; rfl), _, rfl, rfl, _, rfl, ifnd (fun z => absurd rfl z) (fun _ => at_nil ⟨rfl, rfl⟩)⟩
        rintro σ' H' ⟨rfl, rfl⟩
        refine @at_cons _ _ _ _ _ _ _ (@ps_set _ _ 7 _ _ _ _ sc__law_is_ring.nd rfl (Or.inl rfl) (@pe_call _ _ _ _ _ _ _ _ _ _ _ _ _ _ _ _ (ok__law_first T) (hr.mono (by decide)) rfl T.mg__law_first T.F__law_first.kp (bd__law_first T) .nil pass0 (@pa_cons _ _ _ _ _ (@pe_ix _ _ _ _ _ _ _ ix_list (pv 0) (@pe_ix _ _ _ _ _ _ _ ix_list (pv 5) (@pe_op _ _ _ _ _ _ _ _ op_sub (@pe_callB _ _ _ _ _ _ _ _ _ call_len_seq (by rfl) T.z_len (by decide +kernel) (@pa_cons _ _ _ _ _ (pv 5) pa_nil (by walk_at "u")) (by walk_at "u") (by walk_at "u") (by walk_at "u") (by walk_at "u")) pe_int) (fun _ _ => rfl)) (fun _ _ => rfl)) (@pa_cons _ _ _ _ _ (pv 4) pa_nil (by walk_at "u")) (by walk_at "u")) (by walk_at "u") (by walk_at "u") (by walk_at "u")) (by walk_at "u") (by walk_at "u")) ⟨_, rfl, _, rfl, _, rfl, _, _, rfl, .inl (SqL.of hlo), _, _, rfl, rfl, _, _, _, _, rfl, rfl, SqL.of hlo, at_top hon.1, _, _, _, _, rfl, rfl, SqL.of (s3 _ _ hlm), at_ref hu, _, rfl, u, rs, _, row, rfl, hu2.same s3, by omega, L.ok rs hrm, by omega, fun p H4 hp s4 => ?_⟩
        cases hfd : rs.find? (fit5 row) with
        | none => rw [hfd] at hR; cases hR
        | some x =>
          rw [hfd] at hp hR
          have hp : H4 p = some (.tup [.str x.sort, .str x.z, .str x.deed, .int x.g]) := hp
          have O := L.ok rs hrm x (List.mem_of_find?_eq_some hfd)
          have hR : idle5 x = some R := hR
          unfold idle5 at hR
          split at hR
          · cases hR
          · rename_i he
            have hR := Option.some.inj hR
            subst hR
            have he : eatsB x.sort = false := by cases e : eatsB x.sort with | true => exact absurd e he | false => rfl
            have hlo4 := s4 _ _ hlo
            have s34 := s3.trans s4
            refine @at_consR _ _ _ _ _ _ _ (fun σ' H' => σ' = [some (.ref lm), some (.ref ln), some (.ref lg), some v3, some (.str row), some (.ref lo), some (.str (nameAt (ms5 names C) (topN on))), some (.ref p)] ∧ Same H4 H') (@ps_if _ _ _ _ _ _ _ _ (@PW.pt _ _ _ (@pw_or _ _ _ _ _ _ _ (@pt_cmpR _ _ _ _ _ _ _ _ op_notIn_seq (@pe_ix _ _ _ _ _ _ _ ix_tup (pv 7) pe_int (fun _ _ => rfl)) (@pe_tup _ _ _ _ _ (@pa_cons _ _ _ _ _ pe_str (@pa_cons _ _ _ _ _ pe_str pa_nil (by walk_at "u")) (by walk_at "u"))) rfl) (@pw_or1 _ _ _ _ (@PW.pt _ _ _ (@pw_and _ _ _ _ _ _ _ (@pt_cmpR _ _ _ _ _ _ _ _ op_eq (@pe_ix _ _ _ _ _ _ _ ix_tup (pv 7) pe_int (fun _ _ => rfl)) pe_str (nomark _)) (@pw_and _ _ _ _ _ _ _ (@pt_cmpR _ _ _ _ _ _ _ _ op_eq (@pe_callB _ _ _ _ _ _ _ _ _ call_len_seq (by rfl) T.z_len (by decide +kernel) (@pa_cons _ _ _ _ _ (pv 5) pa_nil (by walk_at "u")) (by walk_at "u") (by walk_at "u") (by walk_at "u") (by walk_at "u")) pe_int (nomark _)) (@pw_and1 _ _ _ _ (@pt_cmpR _ _ _ _ _ _ _ _ op_ne (@pe_ix _ _ _ _ _ _ _ ix_list (pv 1) pe_int (fun _ _ => rfl)) (@pe_ix _ _ _ _ _ _ _ ix_list (pv 2) pe_int (fun _ _ => rfl)) (nomark _))))))))) pss_at pss_at) ?_ ?_
            · refine ⟨_, rfl, _, _, _, _, rfl, rfl, SqT.of hp, atI_nat (j := 0) rfl, by show 2 ≤ sizeLine; decide, fun pt ept => ⟨_, _, rfl, .inr (SqT.of upd_same), rfl, rfl, _, rfl, ifeq (c := false) ?_ ?_⟩⟩
              · show (!inV (V.str x.sort) ((["still", "end"] : List Str).map V.str)) = false
                rw [inV_strs, decide_eq_true ((eats_sorts O.sort).mp he)]; rfl
              · have sq := Same.upd (o := .tup [.str "still", .str "end"]) ept
                refine ⟨_, rfl, _, _, _, _, rfl, rfl, SqT.of (sq _ _ hp), atI_nat (j := 2) rfl, rfl, _, rfl, ifd (fun z1 => ?_) (fun _ => at_nil ⟨rfl, sq⟩)⟩
                refine ⟨_, rfl, _, _, rfl, .inl (SqL.of (sq _ _ hlo4)), rfl, _, rfl, ifd (fun z2 => ?_) (fun _ => at_nil ⟨rfl, sq⟩)⟩
                have hn0 := nameAt5 L (k := 0) L.pos
                refine ⟨_, rfl, _, _, _, _, rfl, rfl, SqL.of (sq _ _ (s34 _ _ hln)), atI_nat (j := 0) (by rw [List.getElem?_map, hn0]; rfl), _, rfl, _, _, _, _, rfl, rfl, SqL.of (sq _ _ (s34 _ _ hlg)), atI_nat (j := 0) hg0, rfl, _, rfl, ifnd (fun z3 => ?_) (fun _ => at_nil ⟨rfl, sq⟩)⟩
                exfalso
                have z2 := V.int.inj z2
                rw [List.length_map] at z2
                exact hnp ⟨V.str.inj z1, by omega, fun z => z3 (by rw [z])⟩
            rintro σ' H5 ⟨rfl, s5⟩
            rw [deed5] at hru2 hon2
            have hdl : (deedM on x.deed (some x.g)).length ≤ on.length + 1 := deed_len
            exact @at_one _ _ _ _ _ _ (@ps_set _ _ 5 _ _ _ _ sc__law_is_ring.nd rfl (Or.inl rfl) (@pe_call _ _ _ _ _ _ _ _ _ _ _ _ _ _ _ _ (ok__law_after T) (hr.mono (by decide)) rfl T.mg__law_after T.F__law_after.kp (bd__law_after T) .nil pass0 (@pa_cons _ _ _ _ _ (pv 5) (@pa_cons _ _ _ _ _ (pv 7) pa_nil (by walk_at "u")) (by walk_at "u")) (by walk_at "u") (by walk_at "u") (by walk_at "u")) (by walk_at "u") (by walk_at "u")) ⟨_, rfl, _, rfl, lo, p, on, x, rfl, s5 _ _ hlo4, s5 _ _ hp, hon.1, by omega, fun l H6 hl6 s6 => ⟨l, _, _, _, rfl, hl6, hon2, hru2, by omega, (s34.trans s5).trans s6⟩⟩
      · rintro σ' H3 ⟨lo, on, x6, x7, rfl, hlo, hon, hru, honl, s3⟩
        rw [List.length_map, List.length_map, List.drop_length] at hru
        exact ⟨lo, on, _, _, rfl, hlo, hon.1, hru, s3⟩
    rintro σ' H3 ⟨lo, on, x6, x7, rfl, hlo, hon, htop, s3⟩
    refine @at_one _ _ _ _ _ _ (@ps_ret _ _ _ _ (@pe_cmpR _ _ _ _ _ _ _ _ op_eq (@pe_ix _ _ _ _ _ _ _ ix_list (pv 1) (@pe_ix _ _ _ _ _ _ _ ix_list (pv 5) (@pe_op _ _ _ _ _ _ _ _ op_sub (@pe_callB _ _ _ _ _ _ _ _ _ call_len_seq (by rfl) T.z_len (by decide +kernel) (@pa_cons _ _ _ _ _ (pv 5) pa_nil (by walk_at "u")) (by walk_at "u") (by walk_at "u") (by walk_at "u") (by walk_at "u")) pe_int) (fun _ _ => rfl)) (fun _ _ => rfl)) (@pe_ix _ _ _ _ _ _ _ ix_list (pv 2) pe_int (fun _ _ => rfl)) (nomark _))) ⟨_, rfl, _, rfl, _, rfl, _, _, rfl, .inl (SqL.of hlo), _, _, rfl, rfl, _, _, _, _, rfl, rfl, SqL.of hlo, at_top hon, _, _, _, _, rfl, rfl, SqL.of (s3 _ _ hln), atI_nat (j := topN on) (by rw [List.getElem?_map, htop, hni]; rfl), _, rfl, _, _, _, _, rfl, rfl, SqL.of (s3 _ _ hlg), atI_nat (j := 0) hg0, rfl, ?_⟩
    have : decide (V.str (nameAt (ms5 names C) r0) = V.str (nameAt (ms5 names C) r0)) = true := by simp
    rw [this]
    exact q H3 s3
def spRefused (t : Adr) : Sp := fun vs H Q _ => ∃ (a : Addr) (ms : List ModeM), vs = [.ref a] ∧ IsRules t H a ms ∧ GoodMs ms ∧ (ringM ms = none → ∀ p H', H' p = some (.tup [.str "none", .int 0, .int 0]) → Same H H' → Q (.ref p) H') ∧ ∀ ring row p l H', ringM ms = some (ring, row) → H' p = some (.tup [.str "rings", .ref l, rowV row]) → H' l = some (.lst ((ring.map (nameAt ms)).map V.str)) → Same H H' → Q (.ref p) H'
theorem ok__law_refused (T : Txt K mg t) : FnOk P w K mg base CX0 7 t.f__law_refused t.d__law_refused ["_law_rules"] (spRefused t) := by
  refine T.F__law_refused.ok sc__law_refused (fun vs H Q E h => ?_) (fun cdv A outer s H vs Q E hr h => at_body ?_)
  · obtain ⟨a, ms, rfl, _⟩ := h
    rfl
  · obtain ⟨a, ms, rfl, hR, G, q1, q2⟩ := h
    refine @at_cons _ _ _ _ _ _ _ (@ps_set _ _ 1 _ _ _ _ sc__law_refused.nd rfl (Or.inl rfl) (@pe_tup _ _ _ _ _ (@pa_cons _ _ _ _ _ pe_str (@pa_cons _ _ _ _ _ pe_int (@pa_cons _ _ _ _ _ pe_int pa_nil (by walk_at "u")) (by walk_at "u")) (by walk_at "u"))) (by walk_at "u") (by walk_at "u")) ⟨by show 3 ≤ sizeLine; decide, fun p0 e0 => ?_⟩
    have t0 := Same.upd (o := .tup [.str "none", .int 0, .int 0]) e0
    have g0 : upd H p0 (.tup [.str "none", .int 0, .int 0]) p0 = some (.tup [.str "none", .int 0, .int 0]) := upd_same
    show At _ _ _ [some (.ref a), some (.ref p0), none] (upd H p0 (.tup [.str "none", .int 0, .int 0]))
    generalize upd H p0 (.tup [.str "none", .int 0, .int 0]) = H0 at t0 g0 ⊢
    refine @at_consR _ _ _ _ _ _ _ (fun σ' H' => Same H H' ∧ ∃ p y, σ' = [some (.ref a), some (.ref p), y] ∧ ((ringM ms = none ∧ H' p = some (.tup [.str "none", .int 0, .int 0])) ∨ ∃ ring row l, ringM ms = some (ring, row) ∧ H' p = some (.tup [.str "rings", .ref l, rowV row]) ∧ H' l = some (.lst ((ring.map (nameAt ms)).map V.str)))) (ps_tryK (i := 2) rfl rfl sc__law_refused.nd rfl rfl rfl T.mgc_TintError (by decide) T.x_TintError.at_) ?_ ?_
    · refine ⟨fun σ' C e H' => σ' = [some (.ref a), some (.ref p0), none] ∧ C = t.c_Rings ∧ Same H H' ∧ ∃ ring row dx l2, ringM ms = some (ring, row) ∧ H' e = some (xobj e t.c_Rings (some dx)) ∧ H' dx = some (.xd [("sign", rowV row), ("ring", .ref l2)]) ∧ H' l2 = some (.lst ((ring.map (nameAt ms)).map V.str)), fun pins => ?_, ?_⟩
      · refine @at_one _ _ _ _ _ _ (@ps_if _ _ _ _ _ _ _ _ (@pt_cmpR _ _ _ _ _ _ _ _ op_notN (@pe_callX _ _ _ _ _ _ _ _ _ _ _ _ _ _ _ (ok_ask_rings T) (hr.mono (by decide)) rfl T.mg_ask_rings T.F_ask_rings.kp (bd_ask_rings T) .nil (@pa_cons _ _ _ _ _ (pv 0) pa_nil (by walk_at "u")) (by walk_at "u") (by walk_at "u") (by walk_at "u")) pe_non (nomark _)) pss_at pss_at) ⟨_, rfl, fun Cv eo H' => ∃ e, Cv = .ref t.c_Rings ∧ eo = some e ∧ Same H H' ∧ ∃ ring row dx l2, ringM ms = some (ring, row) ∧ H' e = some (xobj e t.c_Rings (some dx)) ∧ H' dx = some (.xd [("sign", rowV row), ("ring", .ref l2)]) ∧ H' l2 = some (.lst ((ring.map (nameAt ms)).map V.str)), pass_try rfl rfl (fun C e H' => ?_), a, ms, rfl, hR.same t0, G, fun hn H2 s2 => ?_, fun ring row hm e dx l2 H2 h1 h2 h3 h4 => ?_⟩
        · rintro ⟨e2, z1, z2, h3⟩
          cases z1
          cases z2
          exact ⟨rfl, rfl, h3⟩
        · exact ⟨rfl, _, rfl, ifnd (fun z => absurd rfl z) (fun _ => at_nil ⟨t0.trans s2, _, _, rfl, .inl ⟨hn, s2 _ _ g0⟩⟩)⟩
        · exact ⟨e, rfl, rfl, t0.trans h4, ring, row, dx, l2, hm, h1, h2, h3⟩
      · rintro σ' C e H3 ⟨rfl, rfl, s3, ring, row, dx, l2, hm, he, hx, hl⟩
        refine ⟨T.x_Rings.at_, T.tk_Rings_TintError, ?_⟩
        refine @at_one _ _ _ _ _ _ (@ps_if _ _ _ _ _ _ _ _ (@pt_val _ _ _ (@pe_callB _ _ _ _ _ _ _ _ _ call_isiX (by rfl) T.z_isinstance (by decide +kernel) (@pa_cons _ _ _ _ _ (pv 2) (@pa_cons _ _ _ _ _ (@pe_glob _ _ (V.ref _) _ _ rfl T.mgc_Rings rfl (by walk_at "u")) pa_nil (by walk_at "u")) (by walk_at "u")) (by walk_at "u") (by walk_at "u") (by walk_at "u") (by walk_at "u")) (by walk_at "u")) pss_at pss_at) ⟨_, rfl, e, _, some dx, _, true, rfl, he, (fun d z => by cases z; exact ⟨_, hx⟩), T.x_Rings, T.kx_Rings_Rings, true, rfl, iteT ?_⟩
        refine @at_one _ _ _ _ _ _ (@ps_set _ _ 1 _ _ _ _ sc__law_refused.nd rfl (Or.inl rfl) (@pe_tup _ _ _ _ _ (@pa_cons _ _ _ _ _ pe_str (@pa_cons _ _ _ _ _ (pe_fldX (pv 2) rfl) (@pa_cons _ _ _ _ _ (pe_fldX (pv 2) rfl) pa_nil (by walk_at "u")) (by walk_at "u")) (by walk_at "u"))) (by walk_at "u") (by walk_at "u")) ⟨_, rfl, e, _, dx, _, _, _, rfl, he, .inl rfl, hx, T.x_Rings.toExcC, T.n_Rings_ring, rfl, _, rfl, e, _, dx, _, _, _, rfl, he, .inl rfl, hx, T.x_Rings.toExcC, T.n_Rings_sign, rfl, by show 3 ≤ sizeLine; decide, fun p2 hp2 => ?_⟩
        exact ⟨s3.trans (Same.upd hp2), p2, _, rfl, .inr ⟨ring, row, l2, hm, upd_same, Same.upd hp2 _ _ hl⟩⟩
    rintro σ' H3 ⟨s3, p, y, rfl, h⟩
    refine @at_one _ _ _ _ _ _ (@ps_ret _ _ _ _ (pv 1)) ⟨_, rfl, ?_⟩
    rcases h with ⟨hn, hp⟩ | ⟨ring, row, l, hm, hp, hl⟩
    · exact q1 hn p H3 hp s3
    · exact q2 ring row p l H3 hm hp hl s3
end
section
variable {P : Program} {w : World} {K : PySem.W.Frag} {mg : Str → Option Value} {base : Heap} {t : Adr}
def spLeft (K : PySem.W.Frag) : Sp := fun vs H Q _ => ∃ (a lm : Addr) (ns : List Int) (names : List Str) (C : List (List LR5)), vs = [.ref a, .ref lm] ∧ SqL K H a (ns.map V.int) ∧ ns.length ≤ 63 ∧ Ms5 H lm C ∧ Law5 names C ∧ ringM (ms5 names C) = none ∧ ∀ H', Same H H' → Q (.bl true) H'
theorem short_one {c : Nat} (h : c ∈ signs94.cps.toList) : (⟨#[c]⟩ : Str) ∈ shortRows := List.mem_cons_of_mem _ (List.mem_map.mpr ⟨c, h, rfl⟩)
theorem rows_short : ∀ x ∈ (["", "_"] : List Str) ++ allS.cps.toList.map (fun c => (⟨#[c]⟩ : Str)), x ∈ shortRows := by
  intro x hx
  rcases List.mem_append.mp hx with hx | hx
  · have : ∀ y ∈ (["", "_"] : List Str), y ∈ shortRows := by decide +kernel
    exact this x hx
  · obtain ⟨c, hc, rfl⟩ := List.mem_map.mp hx
    exact short_one (all_ok c hc).1
theorem Law5.calm {names : List Str} {C : List (List LR5)} (L : Law5 names C) (hn : ringM (ms5 names C) = none) {row : Str} (hr : row ∈ shortRows) {on : List Nat} (hon : OnOk (ms5 names C) on) (hl : on.length ≤ 5) : calmN (ms5 names C) row 60 on = true := by
  have h4 := L.four
  have hml := ms5_len L.len
  refine calm_mono _ _ _ (calm_all L.fit.good (ringM_none hn row hr) on.length on rfl hon) ?_
  rw [hml]
  have : C.length * (on.length + 1) ≤ 4 * (5 + 1) := Nat.mul_le_mul h4 (by omega)
  omega
theorem ok__law_left (T : Txt K mg t) : FnOk P w K mg base CX0 3 t.f__law_left t.d__law_left ["_law_script", "_law_modes"] (spLeft K) := by
  refine T.F__law_left.ok sc__law_left (fun vs H Q E h => ?_) (fun cdv A outer s H vs Q E hr h => at_body ?_)
  · obtain ⟨a, lm, ns, names, C, rfl, _⟩ := h
    rfl
  · obtain ⟨a, lm, ns, names, C, rfl, hS, hns, hM, L, hring, q⟩ := h
    obtain ⟨us, hlm, hA⟩ := id hM
    have hul := hA.1
    have h4 := L.four
    have hpos := L.pos
    have hml := ms5_len L.len
    have aL := all_len
    have sz := sizeLine_eq
    refine @at_consR _ _ _ _ _ _ _ (fun σ' H' => Same H H') (@ps_forA _ _ _ _ _ _ _ _ PassesOwn.never rfl (@pi_range1 _ _ _ _ _ _ rfl T.z_range (@pa_cons _ _ _ _ _ (@pe_callB _ _ _ _ _ _ _ _ _ call_len_seq (by rfl) T.z_len (by decide +kernel) (@pa_cons _ _ _ _ _ (pv 1) pa_nil (by walk_at "u")) (by walk_at "u") (by walk_at "u") (by walk_at "u") (by walk_at "u")) pa_nil (by walk_at "u")) (by walk_at "u")) (@pg_name _ _ 2 _ sc__law_left.nd rfl (Or.inr rfl) (by walk_at "u")) pss_at (by walk_at "u")) ?_ ?_
    · refine ⟨_, rfl, _, _, rfl, .inl (SqL.of hlm), _, rfl, by rw [List.length_map]; omega, by rw [List.length_map]; omega, forW_range (n := ((us.map V.ref).length : Int).toNat) (fun k σ' H' => (∃ x2 x3 x4, σ' = [some (.ref a), some (.ref lm), x2, x3, x4]) ∧ Same H H') ⟨⟨_, _, _, rfl⟩, Same.refl _⟩ ?_ ?_⟩
      · rintro k σ' H1 hk ⟨⟨x2, x3, x4, rfl⟩, s1⟩
        have hk : k < C.length := by rw [List.length_map] at hk; omega
        refine @at_consR _ _ _ _ _ _ _ (fun σ' H' => ∃ (lu : Addr) (un : List Nat), σ' = [some (.ref a), some (.ref lm), some (.int (0 + (k : Int))), some (.ref lu), x4] ∧ H' lu = some (.lst (un.map natV)) ∧ un.length ≤ 4 ∧ (∀ x ∈ un, x < C.length) ∧ Same H H') (@ps_setC _ 3 _ (defScope s__law_left) _ ["_law_script", "_law_modes", "_law_mode", "_law_under", "_law_row"] _ _ ("_law_i") _ _ _ _ [("_law_script", 0), ("_law_modes", 1), ("_law_mode", 2)] _ _ sc__law_left.nd rfl (Or.inl rfl) (by walk_at "ck") (@pi_range1 _ _ _ _ _ _ rfl T.z_range (@pa_cons _ _ _ _ _ (@pe_call _ _ _ _ _ _ _ _ _ _ _ _ _ _ _ _ (ok__law_draw T) (hr.mono (by decide)) rfl T.mg__law_draw T.F__law_draw.kp (bd__law_draw T) .nil pass0 (@pa_cons _ _ _ _ _ (pv 0) (@pa_cons _ _ _ _ _ (@pe_op _ _ _ _ _ _ _ _ op_add pe_int (pv 2)) (@pa_cons _ _ _ _ _ pe_int pa_nil (by walk_at "u")) (by walk_at "u")) (by walk_at "u")) (by walk_at "u") (by walk_at "u") (by walk_at "u")) pa_nil (by walk_at "u")) (by walk_at "u")) (fun _ _ _ _ => by exact (@pe_call _ _ _ _ _ _ _ _ _ _ _ _ _ _ _ _ (ok__law_draw T) (hr.mono (by decide)) rfl T.mg__law_draw T.F__law_draw.kp (bd__law_draw T) .nil pass0 (@pa_cons _ _ _ _ _ (pv 0) (@pa_cons _ _ _ _ _ (@pe_op _ _ _ _ _ _ _ _ op_add (@pe_op _ _ _ _ _ _ _ _ op_add pe_int (@pe_op _ _ _ _ _ _ _ _ op_mul pe_int (pv 2))) (pv 3)) (@pa_cons _ _ _ _ _ (@pe_callB _ _ _ _ _ _ _ _ _ (call_len_seqK (K := K) rfl) (by rfl) T.z_len (by decide +kernel) (@pa_cons _ _ _ _ _ (pv 1) pa_nil (by walk_at "u")) (by walk_at "u") (by walk_at "u") (by walk_at "u") (by walk_at "u")) pa_nil (by walk_at "u")) (by walk_at "u")) (by walk_at "u")) (by walk_at "u") (by walk_at "u") (by walk_at "u"))) (by walk_at "u") (by walk_at "u") (by walk_at "u") (by walk_at "u") (by walk_at "u") (by walk_at "u")) ?_ ?_
        · refine ⟨_, rfl, _, rfl, _, _, rfl, rfl, a, ns, _, 5, rfl, hS.same s1, by omega, by omega, by decide, by decide, hns, fun d H2 h1 h2 s2 => ⟨d, rfl, by omega, by omega, comp_range (n := d.toNat) (fun j ys H' => ∃ un : List Nat, ys = un.map natV ∧ (∀ x ∈ un, x < C.length) ∧ Same H H') ⟨[], rfl, by simp, s1.trans s2⟩ (sl_lt (by omega)) ?_ ?_⟩⟩
          · rintro j ys H3 hj hyl ⟨un, rfl, hun, s3⟩
            have hj5 : j < 5 := by omega
            refine ⟨_, rfl, _, rfl, _, _, rfl, rfl, .inl ⟨by decide, by decide⟩, _, _, rfl, rfl, _, rfl, _, _, rfl, rfl, _, rfl, _, _, rfl, .inl (SqL.of (s3 _ _ hlm)), a, ns, _, _, rfl, hS.same s3, by omega, by omega, by rw [List.length_map]; omega, by rw [List.length_map]; omega, hns, fun d4 H4 h3 h5 s4 => ?_⟩
            obtain ⟨m, rfl⟩ : ∃ n : Nat, d4 = n := ⟨d4.toNat, by omega⟩
            refine comp_turn hj hyl ⟨un ++ [m], by rw [List.map_append]; rfl, fun x hx => ?_, s3.trans s4⟩
            rcases List.mem_append.mp hx with z | z
            · exact hun x z
            · rw [List.mem_singleton.mp z]; rw [List.length_map] at h5; omega
          · rintro ys H3 hyl ⟨un, rfl, hun, s3⟩ D eD
            rw [List.length_map] at hyl
            exact ⟨D, un, rfl, upd_same, by omega, hun, s3.trans (Same.upd eD)⟩
        rintro σ' H2 ⟨lu, un, rfl, hlu, hul4, hun, s2⟩
        refine @at_one _ _ _ _ _ _ (@ps_forA _ _ _ _ _ _ _ _ PassesOwn.never rfl (@pi_list _ _ _ _ (@pe_op _ _ _ _ _ _ _ _ op_cat (@pe_lst _ _ _ _ (@pa_cons _ _ _ _ _ pe_str (@pa_cons _ _ _ _ _ pe_str pa_nil (by walk_at "u")) (by walk_at "u"))) (@pe_callTy _ _ _ _ _ _ _ _ _ (call_listS rfl) (by rfl) T.z_list (by decide +kernel) (@pa_cons _ _ _ _ _ (@pe_call0 _ _ _ _ _ _ _ _ _ _ _ _ _ (ok__law_all T) (hr.mono (by decide)) rfl T.mg__law_all T.F__law_all.kp (bd__law_all T) .nil pass0 (by walk_at "u")) pa_nil (by walk_at "u")) (by walk_at "u") (by walk_at "u") (by walk_at "u") (by walk_at "u")))) (@pg_name _ _ 4 _ sc__law_left.nd rfl (Or.inl rfl) (by walk_at "u")) pss_at (by walk_at "u")) ⟨by show 2 ≤ sizeLine; decide, fun l1 e1 => ⟨rfl, allS, rfl, by omega, fun l2 e2 => ?_⟩⟩
        refine ⟨l1, l2, _, _, rfl, rfl, Same.upd e2 _ _ upd_same, upd_same, sl_le (by simp only [signsV, List.length_map, List.length_cons, List.length_nil]; rw [len_cps]; omega), fun l3 e3 => ?_⟩
        have t3 := ((Same.upd (o := .lst [.str "", .str "_"]) e1).to e2 (o := .lst (signsV allS))).to e3 (o := .lst ([.str "", .str "_"] ++ signsV allS))
        have g3 : upd (upd (upd H2 l1 (.lst [.str "", .str "_"])) l2 (.lst (signsV allS))) l3 (.lst ([.str "", .str "_"] ++ signsV allS)) l3 = some (.lst (((["", "_"] : List Str) ++ allS.cps.toList.map (fun c => (⟨#[c]⟩ : Str))).map V.str)) := by
          rw [upd_same, List.map_append, List.map_map]; rfl
        have on1 : OnOk (ms5 names C) (un ++ [k]) := ⟨by simp, fun x hx => by
          rw [hml]
          rcases List.mem_append.mp hx with z | z
          · exact hun x z
          · rw [List.mem_singleton.mp z]; exact hk⟩
        have on2 : OnOk (ms5 names C) [k] := ⟨by simp, fun x hx => by rw [hml, List.mem_singleton.mp hx]; exact hk⟩
        refine ⟨l3, rfl, ⟨_, SqL.of g3⟩, forW_list (xs := ((["", "_"] : List Str) ++ allS.cps.toList.map (fun c => (⟨#[c]⟩ : Str))).map V.str) (fun j σ' H' => (∃ x4, σ' = [some (.ref a), some (.ref lm), some (.int (0 + (k : Int))), some (.ref lu), x4]) ∧ H' l3 = some (.lst (((["", "_"] : List Str) ++ allS.cps.toList.map (fun c => (⟨#[c]⟩ : Str))).map V.str)) ∧ H' lu = some (.lst (un.map natV)) ∧ Same H H') ⟨⟨_, rfl⟩, g3, t3 _ _ hlu, s2.trans t3⟩ ?_ ?_ ?_⟩
        · rintro j σ' H' _ ⟨_, g, _⟩
          exact SqL.of g
        · rintro j xv σ' H4 hx ⟨⟨x4, rfl⟩, g4, hlu4, s4⟩
          rw [List.getElem?_map] at hx
          obtain ⟨row, hrow0, rfl⟩ := Option.map_eq_some_iff.mp hx
          have hrow := rows_short row (List.mem_of_getElem? hrow0)
          have hrl := short_len row hrow
          refine @at_cons _ _ _ _ _ _ _ (@ps_if _ _ _ _ _ _ _ _ (@pt_not _ _ _ _ (@pt_val _ _ _ (@pe_call _ _ _ _ _ _ _ _ _ _ _ _ _ _ _ _ (ok__law_calm T) (hr.mono (by decide)) rfl T.mg__law_calm T.F__law_calm.kp (bd__law_calm T) .nil pass0 (@pa_cons _ _ _ _ _ (pv 1) (@pa_cons _ _ _ _ _ (@pe_op _ _ _ _ _ _ _ _ op_cat (pv 3) (@pe_lst _ _ _ _ (@pa_cons _ _ _ _ _ (pv 2) pa_nil (by walk_at "u")))) (@pa_cons _ _ _ _ _ (pv 4) pa_nil (by walk_at "u")) (by walk_at "u")) (by walk_at "u")) (by walk_at "u") (by walk_at "u") (by walk_at "u")) (by walk_at "u"))) pss_at pss_at) ⟨_, rfl, _, rfl, _, rfl, by show 1 ≤ sizeLine; decide, fun l5 e5 => ⟨lu, l5, _, _, rfl, rfl, Same.upd e5 _ _ hlu4, upd_same, sl_le (by rw [List.length_map]; show _ + 1 ≤ 1000000; omega), fun l6 e6 => ?_⟩⟩
          have t6 := (Same.upd (o := .lst [.int (0 + (k : Int))]) e5).trans (Same.upd (o := .lst (un.map natV ++ [.int (0 + (k : Int))])) e6)
          refine ⟨_, rfl, lm, l6, row, names, C, un ++ [k], rfl, hM.same (s4.trans t6), L, by rw [upd_same, List.map_append, Int.zero_add]; rfl, on1, by rw [List.length_append]; show _ + 1 ≤ 10; omega, by omega, L.calm hring hrow on1 (by rw [List.length_append]; show _ + 1 ≤ 5; omega), fun H7 s7 => ⟨true, rfl, iteF (at_nil ?_)⟩⟩
          have t7 := t6.trans s7
          have hlu7 := t7 _ _ hlu4
          refine @at_one _ _ _ _ _ _ (@ps_if _ _ _ _ _ _ _ _ (@PW.pt _ _ _ (@pw_and _ _ _ _ _ _ _ (@pt_cmpR _ _ _ _ _ _ _ _ (op_neLs (Nat.lt_of_succ_lt (hu_of hr))) (pv 3) (@pe_lst _ _ _ _ pa_nil) (nomark _)) (@pw_and1 _ _ _ _ (@pt_not _ _ _ _ (@pt_val _ _ _ (@pe_call _ _ _ _ _ _ _ _ _ _ _ _ _ _ _ _ (ok__law_calm T) (hr.mono (by decide)) rfl T.mg__law_calm T.F__law_calm.kp (bd__law_calm T) .nil pass0 (@pa_cons _ _ _ _ _ (pv 1) (@pa_cons _ _ _ _ _ (@pe_lst _ _ _ _ (@pa_cons _ _ _ _ _ (pv 2) pa_nil (by walk_at "u"))) (@pa_cons _ _ _ _ _ (pv 4) pa_nil (by walk_at "u")) (by walk_at "u")) (by walk_at "u")) (by walk_at "u") (by walk_at "u") (by walk_at "u")) (by walk_at "u")))))) pss_at pss_at) ⟨_, rfl, by show 0 ≤ sizeLine; decide, fun l8 e8 => ⟨lu, l8, _, _, rfl, rfl, SqL.of (Same.upd e8 _ _ hlu7), SqL.of upd_same, (fun x _ y hy => by cases hy), _, rfl, ifnd (fun _ => ?_) (fun _ => at_nil ⟨⟨_, rfl⟩, Same.upd e8 _ _ (t7 _ _ g4), Same.upd e8 _ _ hlu7, (s4.trans t7).trans (Same.upd e8)⟩)⟩⟩
          have t8 := t7.trans (Same.upd (o := .lst []) e8)
          refine ⟨_, rfl, _, rfl, by show 1 ≤ sizeLine; decide, fun l9 e9 => ⟨_, rfl, lm, l9, row, names, C, [k], rfl, hM.same ((s4.trans t8).trans (Same.upd e9)), L, by rw [upd_same, Int.zero_add]; rfl, on2, by show 1 ≤ 10; decide, by omega, L.calm hring hrow on2 (by show 1 ≤ 5; decide), fun H10 s10 => ⟨true, rfl, iteF (at_nil ?_)⟩⟩⟩
          have t10 := (t8.trans (Same.upd (o := .lst [.int (0 + (k : Int))]) e9)).trans s10
          exact ⟨⟨_, rfl⟩, t10 _ _ g4, t10 _ _ hlu4, s4.trans t10⟩
        · rintro σ' H4 ⟨⟨x4, rfl⟩, _, _, s4⟩
          exact ⟨⟨_, _, _, rfl⟩, s4⟩
      · rintro σ' H1 ⟨_, s1⟩
        exact s1
    rintro σ' H1 s1
    exact @at_one _ _ _ _ _ _ (@ps_ret _ _ _ _ pe_bl) (q H1 s1)
def spRule5 (K : PySem.W.Frag) : Sp := fun vs H Q _ => ∃ (a ln : Addr) (ns : List Int) (b : Int) (k : Nat) (names : List Str) (cm : Bool), vs = [.ref a, .int b, .int k, .ref ln, .bl cm] ∧ SqL K H a (ns.map V.int) ∧ ns.length ≤ 63 ∧ 0 ≤ b ∧ b ≤ 40000 ∧ H ln = some (.lst (names.map V.str)) ∧ 0 < names.length ∧ names.length ≤ 4 ∧ k < names.length ∧
  ∀ p x H', L5 H' p x → Ok5 names.length x → (cm = true → x.sort ∈ (["still", "end"] : List Str) → fwd x.deed ∧ k < x.g) → Same H H' → Q (.ref p) H'
theorem ok__law_rule (T : Txt K mg t) : FnOk P w K mg base CX0 3 t.f__law_rule t.d__law_rule ["_law_script", "_law_base", "_law_mode", "_law_names", "_law_calm_here"] (spRule5 K) := by
  refine T.F__law_rule.ok sc__law_rule (fun vs H Q E h => ?_) (fun cdv A outer s H vs Q E hr h => at_body ?_)
  · obtain ⟨a, ln, ns, b, k, names, cm, rfl, _⟩ := h
    rfl
  · obtain ⟨a, ln, ns, b, k, names, cm, rfl, hS, hns, hb0, hb1, hln, hn0, hn4, hk, q⟩ := h
    refine @at_cons _ _ _ _ _ _ _ (@ps_set _ _ 5 _ _ _ _ sc__law_rule.nd rfl (Or.inl rfl) (@pe_ix _ _ _ _ _ _ _ ix_list (@pe_lst _ _ _ _ (@pa_strs _ _ ["word", "one", "none", "many", "still", "still", "end", "any"] rfl)) (@pe_call _ _ _ _ _ _ _ _ _ _ _ _ _ _ _ _ (ok__law_draw T) (hr.mono (by decide)) rfl T.mg__law_draw T.F__law_draw.kp (bd__law_draw T) .nil pass0 (@pa_cons _ _ _ _ _ (pv 0) (@pa_cons _ _ _ _ _ (pv 1) (@pa_cons _ _ _ _ _ pe_int pa_nil (by walk_at "u")) (by walk_at "u")) (by walk_at "u")) (by walk_at "u") (by walk_at "u") (by walk_at "u")) (fun _ _ => rfl)) (by walk_at "u") (by walk_at "u")) ⟨by show 8 ≤ sizeLine; decide, fun l0 e0 => ⟨_, rfl, _, rfl, a, ns, b, 8, rfl, hS.same (Same.upd e0), hb0, by omega, by decide, by decide, hns, fun d1 H1 h1 h2 s1 => ?_⟩⟩
    obtain ⟨srt, hsrt, ed⟩ := pick (xs := ["word", "one", "none", "many", "still", "still", "end", "any"]) h1 h2
    have hsrt : srt ∈ sorts := by
      have : ∀ x ∈ (["word", "one", "none", "many", "still", "still", "end", "any"] : List Str), x ∈ sorts := by decide
      exact this srt hsrt
    refine ⟨_, _, _, _, rfl, rfl, SqL.of (s1 _ _ upd_same), ed, ?_⟩
    have s1 := (Same.upd (o := .lst ((["word", "one", "none", "many", "still", "still", "end", "any"] : List Str).map V.str)) e0).trans s1
    refine @at_cons _ _ _ _ _ _ _ (@ps_set _ _ 6 _ _ _ _ sc__law_rule.nd rfl (Or.inl rfl) (@pe_call _ _ _ _ _ _ _ _ _ _ _ _ _ _ _ _ (ok__law_signs T) (hr.mono (by decide)) rfl T.mg__law_signs T.F__law_signs.kp (bd__law_signs T) .nil pass0 (@pa_cons _ _ _ _ _ (pv 0) (@pa_cons _ _ _ _ _ (pv 1) pa_nil (by walk_at "u")) (by walk_at "u")) (by walk_at "u") (by walk_at "u") (by walk_at "u")) (by walk_at "u") (by walk_at "u")) ⟨_, rfl, _, rfl, a, ns, b, rfl, hS.same s1, hns, hb0, by omega, fun z H2 hz s2 => ?_⟩
    have s2 := s1.trans s2
    refine @at_cons _ _ _ _ _ _ _ (@ps_set _ _ 7 _ _ _ _ sc__law_rule.nd rfl (Or.inl rfl) (@pe_ix _ _ _ _ _ _ _ ix_list (@pe_lst _ _ _ _ (@pa_strs _ _ ["stay", "push", "pop", "into"] rfl)) (@pe_call _ _ _ _ _ _ _ _ _ _ _ _ _ _ _ _ (ok__law_draw T) (hr.mono (by decide)) rfl T.mg__law_draw T.F__law_draw.kp (bd__law_draw T) .nil pass0 (@pa_cons _ _ _ _ _ (pv 0) (@pa_cons _ _ _ _ _ (@pe_op _ _ _ _ _ _ _ _ op_add (pv 1) pe_int) (@pa_cons _ _ _ _ _ pe_int pa_nil (by walk_at "u")) (by walk_at "u")) (by walk_at "u")) (by walk_at "u") (by walk_at "u") (by walk_at "u")) (fun _ _ => rfl)) (by walk_at "u") (by walk_at "u")) ⟨by show 4 ≤ sizeLine; decide, fun l3 e3 => ⟨_, rfl, _, rfl, _, _, rfl, rfl, a, ns, _, 4, rfl, hS.same (s2.trans (Same.upd e3)), by omega, by omega, by decide, by decide, hns, fun d3 H3 h3 h4 s3 => ?_⟩⟩
    obtain ⟨dd, hdd, ed3⟩ := pick (xs := ["stay", "push", "pop", "into"]) h3 h4
    have hdd : dd ∈ deeds := by
      have : ∀ x ∈ (["stay", "push", "pop", "into"] : List Str), x ∈ deeds := by decide
      exact this dd hdd
    refine ⟨_, _, _, _, rfl, rfl, SqL.of (s3 _ _ upd_same), ed3, ?_⟩
    have s3 := (s2.trans (Same.upd (o := .lst ((["stay", "push", "pop", "into"] : List Str).map V.str)) e3)).trans s3
    refine @at_cons _ _ _ _ _ _ _ (@ps_set _ _ 8 _ _ _ _ sc__law_rule.nd rfl (Or.inl rfl) (@pe_call _ _ _ _ _ _ _ _ _ _ _ _ _ _ _ _ (ok__law_draw T) (hr.mono (by decide)) rfl T.mg__law_draw T.F__law_draw.kp (bd__law_draw T) .nil pass0 (@pa_cons _ _ _ _ _ (pv 0) (@pa_cons _ _ _ _ _ (@pe_op _ _ _ _ _ _ _ _ op_add (pv 1) pe_int) (@pa_cons _ _ _ _ _ (@pe_callB _ _ _ _ _ _ _ _ _ call_len_seq (by rfl) T.z_len (by decide +kernel) (@pa_cons _ _ _ _ _ (pv 3) pa_nil (by walk_at "u")) (by walk_at "u") (by walk_at "u") (by walk_at "u") (by walk_at "u")) pa_nil (by walk_at "u")) (by walk_at "u")) (by walk_at "u")) (by walk_at "u") (by walk_at "u") (by walk_at "u")) (by walk_at "u") (by walk_at "u")) ⟨_, rfl, _, rfl, _, _, rfl, rfl, _, rfl, _, _, rfl, .inl (SqL.of (s3 _ _ hln)), a, ns, _, _, rfl, hS.same s3, by omega, by omega, by rw [List.length_map]; omega, by rw [List.length_map]; omega, hns, fun d4 H4 h5 h6 s4 => ?_⟩
    obtain ⟨g, rfl⟩ : ∃ n : Nat, d4 = n := ⟨d4.toNat, by omega⟩
    have hg : g < names.length := by rw [List.length_map] at h6; omega
    have s4 := s3.trans s4
    show At _ _ _ [some (.ref a), some (.int b), some (.int k), some (.ref ln), some (.bl cm), some (.str srt), some (.str z), some (.str dd), some (.int (g : Int))] H4
    refine @at_consR _ _ _ _ _ _ _ (fun σ' H' => ∃ x : LR5, σ' = [some (.ref a), some (.int b), some (.int k), some (.ref ln), some (.bl cm), some (.str x.sort), some (.str x.z), some (.str x.deed), some (.int (x.g : Int))] ∧ Ok5 names.length x ∧ (cm = true → x.sort ∈ (["still", "end"] : List Str) → fwd x.deed ∧ k < x.g) ∧ Same H H') (@ps_if _ _ _ _ _ _ _ _ (@PW.pt _ _ _ (@pw_and _ _ _ _ _ _ _ (@pt_val _ _ _ (pv 4) (by walk_at "u")) (@pw_and1 _ _ _ _ (@pt_cmpR _ _ _ _ _ _ _ _ op_in_seq (pv 5) (@pe_tup _ _ _ _ _ (@pa_cons _ _ _ _ _ pe_str (@pa_cons _ _ _ _ _ pe_str pa_nil (by walk_at "u")) (by walk_at "u"))) rfl)))) pss_at pss_at) ?_ ?_
    · have zs : 95 ∉ z.cps.toList ∧ 10 ∉ z.cps.toList := ⟨fun w => (all_ok _ (hz.all _ w)).2.1 rfl, fun w => (all_ok _ (hz.all _ w)).2.2 rfl⟩
      have ok0 : Ok5 names.length ⟨srt, z, dd, g⟩ := ⟨hsrt, hz.pos, hz.le, zs, hdd, hg⟩
      refine ⟨_, rfl, cm, rfl, ifb (fun hcm => ?_) (fun hcm => at_nil ⟨⟨srt, z, dd, g⟩, rfl, ok0, (fun w => by rw [hcm] at w; cases w), s4⟩)⟩
      refine ⟨_, rfl, by show 2 ≤ sizeLine; decide, fun pt ept => ⟨_, _, rfl, .inr (SqT.of upd_same), rfl, rfl, _, rfl, ?_⟩⟩
      have s5 := s4.trans (Same.upd (o := .tup [.str "still", .str "end"]) ept)
      rw [show ([.str "still", .str "end"] : List V) = (["still", "end"] : List Str).map V.str from rfl]
      refine ifeq (c := decide (srt ∈ (["still", "end"] : List Str))) inV_strs (ifd (fun hin => ?_) (fun hin => at_nil ⟨⟨srt, z, dd, g⟩, rfl, ok0, fun _ w => absurd w hin, s5⟩))
      refine @at_cons _ _ _ _ _ _ _ (@ps_set _ _ 7 _ _ _ _ sc__law_rule.nd rfl (Or.inl rfl) (@pe_ix _ _ _ _ _ _ _ ix_list (@pe_lst _ _ _ _ (@pa_cons _ _ _ _ _ pe_str (@pa_cons _ _ _ _ _ pe_str pa_nil (by walk_at "u")) (by walk_at "u"))) (@pe_call _ _ _ _ _ _ _ _ _ _ _ _ _ _ _ _ (ok__law_draw T) (hr.mono (by decide)) rfl T.mg__law_draw T.F__law_draw.kp (bd__law_draw T) .nil pass0 (@pa_cons _ _ _ _ _ (pv 0) (@pa_cons _ _ _ _ _ (@pe_op _ _ _ _ _ _ _ _ op_add (pv 1) pe_int) (@pa_cons _ _ _ _ _ pe_int pa_nil (by walk_at "u")) (by walk_at "u")) (by walk_at "u")) (by walk_at "u") (by walk_at "u") (by walk_at "u")) (fun _ _ => rfl)) (by walk_at "u") (by walk_at "u")) ⟨by show 2 ≤ sizeLine; decide, fun l6 e6 => ⟨_, rfl, _, rfl, _, _, rfl, rfl, a, ns, _, 2, rfl, hS.same (s5.trans (Same.upd e6)), by omega, by omega, by decide, by decide, hns, fun d6 H6 h7 h8 s6 => ?_⟩⟩
      obtain ⟨d2, hd2, ed6⟩ := pick (xs := ["push", "into"]) h7 h8
      have hd2 : fwd d2 := by simpa using hd2
      refine ⟨_, _, _, _, rfl, rfl, SqL.of (s6 _ _ upd_same), ed6, ?_⟩
      have s6 := (s5.trans (Same.upd (o := .lst [.str "push", .str "into"]) e6)).trans s6
      refine @at_cons _ _ _ _ _ _ _ (@ps_set _ _ 8 _ _ _ _ sc__law_rule.nd rfl (Or.inl rfl) (@pe_op _ _ _ _ _ _ _ _ op_add (@pe_op _ _ _ _ _ _ _ _ op_add (pv 2) pe_int) (pv 8)) (by walk_at "u") (by walk_at "u")) ⟨_, rfl, _, _, rfl, rfl, _, rfl, _, _, rfl, rfl, ?_⟩
      have hd2d : d2 ∈ deeds := by rcases hd2 with rfl | rfl <;> decide
      refine @at_one _ _ _ _ _ _ (@ps_if _ _ _ _ _ _ _ _ (@pt_cmpR _ _ _ _ _ _ _ _ op_ge (pv 8) (@pe_callB _ _ _ _ _ _ _ _ _ call_len_seq (by rfl) T.z_len (by decide +kernel) (@pa_cons _ _ _ _ _ (pv 3) pa_nil (by walk_at "u")) (by walk_at "u") (by walk_at "u") (by walk_at "u") (by walk_at "u")) (nomark _)) pss_at pss_at) ⟨_, rfl, _, rfl, _, _, rfl, .inl (SqL.of (s6 _ _ hln)), _, _, rfl, rfl, _, rfl, ifd (fun hge => ?_) (fun hge => at_nil ?_)⟩
      · refine @at_cons _ _ _ _ _ _ _ (@ps_set _ _ 5 _ _ _ _ sc__law_rule.nd rfl (Or.inl rfl) pe_str (by walk_at "u") (by walk_at "u")) (@at_one _ _ _ _ _ _ (@ps_set _ _ 8 _ _ _ _ sc__law_rule.nd rfl (Or.inl rfl) pe_int (by walk_at "u") (by walk_at "u")) ⟨⟨"any", z, d2, 0⟩, rfl, ⟨by show ("any" : Str) ∈ sorts; decide, hz.pos, hz.le, zs, hd2d, hn0⟩, fun _ w => absurd w (by show ("any" : Str) ∉ _; decide), s6⟩)
      · have hlt : k + 1 + g < names.length := by rw [List.length_map] at hge; omega
        refine ⟨⟨srt, z, d2, k + 1 + g⟩, ?_, ⟨hsrt, hz.pos, hz.le, zs, hd2d, hlt⟩, fun _ _ => ⟨hd2, by show k < k + 1 + g; omega⟩, s6⟩
        show _ = [_, _, _, _, _, _, _, _, some (V.int ((k + 1 + g : Nat) : Int))]
        rw [show ((k + 1 + g : Nat) : Int) = (k : Int) + 1 + (g : Int) by omega]; rfl
    rintro σ' H5 ⟨x, rfl, hx, hcx, s5⟩
    exact @at_one _ _ _ _ _ _ (@ps_ret _ _ _ _ (@pe_tup _ _ _ _ _ (@pa_cons _ _ _ _ _ (pv 5) (@pa_cons _ _ _ _ _ (pv 6) (@pa_cons _ _ _ _ _ (pv 7) (@pa_cons _ _ _ _ _ (pv 8) pa_nil (by walk_at "u")) (by walk_at "u")) (by walk_at "u")) (by walk_at "u")))) ⟨_, rfl, _, rfl, _, rfl, _, rfl, by show 4 ≤ sizeLine; decide, fun p ep => q p x _ upd_same hx hcx (s5.trans (Same.upd ep))⟩
end
section
variable {P : Program} {w : World} {K : PySem.W.Frag} {mg : Str → Option Value} {base : Heap} {t : Adr}
theorem ringM_of {ms : List ModeM} (hfr : ∀ row ∈ shortRows, ∀ j, ringFrom ms j row = none) : ringM ms = none := by
  have hrow : ∀ row ∈ shortRows, ∀ n k, ringRow ms row n k = none := by
    intro row hr n
    induction n with
    | zero => intro k; rfl
    | succ n ih => intro k; rw [ringRow, hfr row hr k]; exact ih (k + 1)
  have key : ∀ rows : List Str, (∀ row ∈ rows, row ∈ shortRows) → ringRows ms rows = none := by
    intro rows
    induction rows with
    | nil => intro _; rfl
    | cons r rs ih =>
      intro hh
      rw [ringRows, hrow r (hh r (by simp))]
      exact ih fun x hx => hh x (List.mem_cons_of_mem _ hx)
  exact key shortRows fun _ z => z
def Calm5 (C : List (List LR5)) : Prop := ∀ (i : Nat) rs, C[i]? = some rs → ∀ x ∈ rs, x.sort ∈ (["still", "end"] : List Str) → fwd x.deed ∧ i < x.g
theorem Law5.only {names : List Str} {C : List (List LR5)} (L : Law5 names C) (h : Calm5 C) : ringM (ms5 names C) = none := by
  refine ringM_of fun row hr j => ?_
  rw [ringFrom]
  refine only_on (fun k R hR => ?_) _ _ _ (Nat.le_refl _)
  by_cases hk : k < C.length
  · obtain ⟨rs, hrs⟩ : ∃ rs, C[k]? = some rs := ⟨C[k], List.getElem?_eq_getElem hk⟩
    rw [idleAt5 L hrs row] at hR
    cases hf : rs.find? (fit5 row) with
    | none => rw [hf] at hR; cases hR
    | some x =>
      rw [hf] at hR
      have hR : idle5 x = some R := hR
      unfold idle5 at hR
      split at hR
      · cases hR
      · rename_i he
        have hR := Option.some.inj hR
        subst hR
        have hxm := List.mem_of_find?_eq_some hf
        have O := L.ok rs (List.mem_of_getElem? hrs) x hxm
        have he : eatsB x.sort = false := by cases e : eatsB x.sort with | true => exact absurd e he | false => rfl
        obtain ⟨h1, h2⟩ := h k rs hrs x hxm ((eats_sorts O.sort).mp he)
        exact ⟨x.g, h1, if_pos h1, h2⟩
  · rw [idleAt, List.getElem?_eq_none (by rw [ms5_len L.len]; omega)] at hR
    cases hR
theorem signs_ok : ∀ c ∈ signs94.cps.toList, c ≠ 10 := by decide +kernel
theorem cut_to {xs : List V} {j : Nat} (hj : j ≤ xs.length) : cutV xs none (some (j : Int)) = xs.take j := by
  rw [cutV, HT.sIx_nat, HT.sIx_none, Nat.min_eq_left hj]; rfl
theorem M5.upd {H : Hp} {l l2 : Addr} {rs : List LR5} {xs : List V} {o : HO} (h : M5 H l rs) (h2 : H l2 = some (.lst xs)) (hn : l ≠ l2) : M5 (L2.upd H l2 o) l rs := by
  obtain ⟨ps, x, y⟩ := h
  refine ⟨ps, by rw [upd_ne hn]; exact x, y.mono fun p _ z => ?_⟩
  show L2.upd H l2 o p = _
  rw [upd_ne (ne_of z h2 (by intro z; cases z))]; exact z
def spLaw (K : PySem.W.Frag) : Sp := fun vs H Q _ => ∃ (a : Addr) (ns : List Int), vs = [.ref a] ∧ SqL K H a (ns.map V.int) ∧ ns.length ≤ 63 ∧ ∀ H', Q (.bl true) H'
theorem ok_law {f : Addr} {fd : FuncData} (F : Fun K "law" "law" s_law f fd) (T : Txt K mg t) : FnOk P w K mg base CX0 8 f fd ["_law_script"] (spLaw K) := by
  refine F.ok sc_law (fun vs H Q E h => ?_) (fun cdv A outer s H vs Q E hr h => at_body ?_)
  · obtain ⟨a, ns, rfl, _⟩ := h
    rfl
  · obtain ⟨a, ns, rfl, hS, hns, q⟩ := h
    refine @at_cons _ _ _ _ _ _ _ (@ps_set _ _ 1 _ _ _ _ sc_law.nd rfl (Or.inr rfl) (@pe_slice _ _ _ _ _ _ _ _ _ _ sl_list (@pe_lst _ _ _ _ (@pa_strs _ _ ["a", "ab", "abc", "x"] rfl)) po_none (@po_some _ _ _ (@pe_op _ _ _ _ _ _ _ _ op_add pe_int (@pe_call _ _ _ _ _ _ _ _ _ _ _ _ _ _ _ _ (ok__law_draw T) (hr.mono (by decide)) rfl T.mg__law_draw T.F__law_draw.kp (bd__law_draw T) .nil pass0 (@pa_cons _ _ _ _ _ (pv 0) (@pa_cons _ _ _ _ _ pe_int (@pa_cons _ _ _ _ _ pe_int pa_nil (by walk_at "u")) (by walk_at "u")) (by walk_at "u")) (by walk_at "u") (by walk_at "u") (by walk_at "u"))))) (by walk_at "u") (by walk_at "u")) ⟨by show 4 ≤ sizeLine; decide, fun l0 e0 => ⟨_, rfl, a, ns, 1, 4, rfl, hS.same (Same.upd e0), by decide, by decide, by decide, by decide, hns, fun d1 H1 h1 h2 s1 => ?_⟩⟩
    obtain ⟨n1, rfl⟩ : ∃ n : Nat, d1 = n := ⟨d1.toNat, by omega⟩
    refine ⟨_, _, rfl, rfl, 1 + (n1 : Int), rfl, l0, names4.map V.str, rfl, SqL.of (s1 _ _ upd_same), fun ln eln => ?_⟩
    have s1 := (Same.upd (o := .lst (names4.map V.str)) e0).trans s1
    rw [show (1 + (n1 : Int)) = ((1 + n1 : Nat) : Int) by omega, cut_to (by rw [List.length_map]; show 1 + n1 ≤ 4; omega), ← List.map_take]
    obtain ⟨names, hnames⟩ : ∃ ns, ns = names4.take (1 + n1) := ⟨_, rfl⟩
    have hnl : names.length = 1 + n1 := by rw [hnames, List.length_take]; show min (1 + n1) 4 = _; omega
    rw [← hnames]
    have s2 := s1.trans (Same.upd (o := .lst (names.map V.str)) eln)
    have hln : upd H1 ln (.lst (names.map V.str)) ln = some (.lst (names.map V.str)) := upd_same
    show At _ _ _ [some (.ref a), some (.ref ln), none, none, none, none, none, none, none, none] (upd H1 ln (.lst (names.map V.str)))
    generalize upd H1 ln (.lst (names.map V.str)) = H2 at s2 hln ⊢
    refine @at_cons _ _ _ _ _ _ _ (@ps_set _ _ 2 _ _ _ _ sc_law.nd rfl (Or.inr rfl) (@pe_cmpR _ _ _ _ _ _ _ _ op_eq (@pe_call _ _ _ _ _ _ _ _ _ _ _ _ _ _ _ _ (ok__law_draw T) (hr.mono (by decide)) rfl T.mg__law_draw T.F__law_draw.kp (bd__law_draw T) .nil pass0 (@pa_cons _ _ _ _ _ (pv 0) (@pa_cons _ _ _ _ _ pe_int (@pa_cons _ _ _ _ _ pe_int pa_nil (by walk_at "u")) (by walk_at "u")) (by walk_at "u")) (by walk_at "u") (by walk_at "u") (by walk_at "u")) pe_int (nomark _)) (by walk_at "u") (by walk_at "u")) ⟨_, rfl, a, ns, 2, 2, rfl, hS.same s2, by decide, by decide, by decide, by decide, hns, fun d3 H3 h3 h4 s3 => ⟨rfl, ?_⟩⟩
    obtain ⟨cm, hcm⟩ : ∃ b : Bool, b = decide (V.int d3 = V.int 1) := ⟨_, rfl⟩
    show At _ _ _ [some (.ref a), some (.ref ln), some (.bl (decide (V.int d3 = V.int 1))), none, none, none, none, none, none, none] H3
    rw [← hcm]
    have hS3 := hS.same (s2.trans s3)
    have hln3 := s3 _ _ hln
    clear s1 s2 s3 hS hln
    refine @at_cons _ _ _ _ _ _ _ (@ps_set _ _ 3 _ _ _ _ sc_law.nd rfl (Or.inl rfl) (@pe_lst _ _ _ _ pa_nil) (by walk_at "u") (by walk_at "u")) ⟨by show 0 ≤ sizeLine; decide, fun lm elm => ?_⟩
    have t0 := Same.upd (o := .lst []) elm
    have g0 : upd H3 lm (.lst []) lm = some (.lst []) := upd_same
    show At _ _ _ [some (.ref a), some (.ref ln), some (.bl cm), some (.ref lm), none, none, none, none, none, none] (upd H3 lm (.lst []))
    generalize upd H3 lm (.lst []) = H4 at t0 g0 ⊢
    refine @at_consR _ _ _ _ _ _ _ (fun σ' H' => ∃ x4 x5 C, σ' = [some (.ref a), some (.ref ln), some (.bl cm), some (.ref lm), x4, x5, none, none, none, none] ∧ Ms5 H' lm C ∧ C.length = names.length ∧ (∀ rs ∈ C, rs.length ≤ 5 ∧ ∀ x ∈ rs, Ok5 names.length x) ∧ (cm = true → Calm5 C) ∧ Same H3 H') (@ps_forA _ _ _ _ _ _ _ _ PassesOwn.never rfl (@pi_range1 _ _ _ _ _ _ rfl T.z_range (@pa_cons _ _ _ _ _ (@pe_callB _ _ _ _ _ _ _ _ _ call_len_seq (by rfl) T.z_len (by decide +kernel) (@pa_cons _ _ _ _ _ (pv 1) pa_nil (by walk_at "u")) (by walk_at "u") (by walk_at "u") (by walk_at "u") (by walk_at "u")) pa_nil (by walk_at "u")) (by walk_at "u")) (@pg_name _ _ 4 _ sc_law.nd rfl (Or.inr rfl) (by walk_at "u")) pss_at (by walk_at "u")) ?_ ?_
    · refine ⟨_, rfl, _, _, rfl, .inl (SqL.of (t0 _ _ hln3)), _, rfl, by rw [List.length_map]; omega, by rw [List.length_map]; omega, forW_range (n := ((names.map V.str).length : Int).toNat) (fun k σ' H' => ∃ x4 x5 C us, σ' = [some (.ref a), some (.ref ln), some (.bl cm), some (.ref lm), x4, x5, none, none, none, none] ∧ lm ∉ us ∧ H' lm = some (.lst (us.map V.ref)) ∧ All2 (M5 H') us C ∧ C.length = k ∧ (∀ rs ∈ C, rs.length ≤ 5 ∧ ∀ x ∈ rs, Ok5 names.length x) ∧ (cm = true → Calm5 C) ∧ Same H3 H') ⟨_, _, [], [], rfl, by simp, g0, All2.nil, rfl, by simp, fun _ i rs h => by simp at h, t0⟩ ?_ ?_⟩
      · rintro k σ' H5 hk ⟨x4, x5, C, us, rfl, hnu, hlm, hA, hCl, hC, hcalm, s5⟩
        have hk : k < names.length := by rw [List.length_map] at hk; omega
        have hul := hA.1
        refine @at_cons _ _ _ _ _ _ _ (@ps_set _ _ 5 _ _ _ _ sc_law.nd rfl (Or.inl rfl) (@pe_call _ _ _ _ _ _ _ _ _ _ _ _ _ _ _ _ (ok__law_draw T) (hr.mono (by decide)) rfl T.mg__law_draw T.F__law_draw.kp (bd__law_draw T) .nil pass0 (@pa_cons _ _ _ _ _ (pv 0) (@pa_cons _ _ _ _ _ (@pe_op _ _ _ _ _ _ _ _ op_add pe_int (pv 4)) (@pa_cons _ _ _ _ _ pe_int pa_nil (by walk_at "u")) (by walk_at "u")) (by walk_at "u")) (by walk_at "u") (by walk_at "u") (by walk_at "u")) (by walk_at "u") (by walk_at "u")) ⟨_, rfl, _, rfl, _, _, rfl, rfl, a, ns, _, 6, rfl, hS3.same s5, by omega, by omega, by decide, by decide, hns, fun d6 H6 h5 h6 s6 => ?_⟩
        have s6' := s5.trans s6
        refine @at_one _ _ _ _ _ _ (@ps_expr _ _ _ _ (@pe_bm _ _ _ _ _ _ _ _ _ _ _ _ PySem.F.plainAttrs_list PySem.F.slot_list_append PySem.F.type_list_append mt_append (pv 3) (@pa_cons _ _ _ _ _ (@pe_comp _ (defScope s_law) _ ["_law_script", "_law_names", "_law_calm_here", "_law_modes", "_law_k", "_law_size", "_law_again", "_law_rules", "_law_found", "_law_told"] _ _ ("_law_i") _ _ [("_law_script", 0), ("_law_k", 4), ("_law_names", 1), ("_law_calm_here", 2)] _ _ (by walk_at "ck") (@pi_range1 _ _ _ _ _ _ rfl T.z_range (@pa_cons _ _ _ _ _ (pv 5) pa_nil (by walk_at "u")) (by walk_at "u")) (fun _ _ _ _ => by exact (@pe_call _ _ _ _ _ _ _ _ _ _ _ _ _ _ _ _ (ok__law_rule T) (hr.mono (by decide)) rfl T.mg__law_rule T.F__law_rule.kp (bd__law_rule T) .nil pass0 (@pa_cons _ _ _ _ _ (pv 0) (@pa_cons _ _ _ _ _ (@pe_op _ _ _ _ _ _ _ _ op_add (@pe_op _ _ _ _ _ _ _ _ op_add pe_int (@pe_op _ _ _ _ _ _ _ _ op_mul pe_int (pv 1))) (@pe_op _ _ _ _ _ _ _ _ op_mul pe_int (pv 4))) (@pa_cons _ _ _ _ _ (pv 1) (@pa_cons _ _ _ _ _ (pv 2) (@pa_cons _ _ _ _ _ (pv 3) pa_nil (by walk_at "u")) (by walk_at "u")) (by walk_at "u")) (by walk_at "u")) (by walk_at "u")) (by walk_at "u") (by walk_at "u") (by walk_at "u"))) (by walk_at "u") (by walk_at "u") (by walk_at "u") (by walk_at "u")) pa_nil (by walk_at "u")) (by walk_at "u") (by walk_at "u") (by walk_at "u") (by walk_at "u") (by walk_at "u")) (by walk_at "u")) ⟨_, rfl, .inl ⟨rfl, _, SqL.of (s6 _ _ hlm)⟩, _, rfl, d6, rfl, by omega, by omega, comp_range (n := d6.toNat) (fun j ys H' => ∃ (ps : List Addr) (rs : List LR5), ys = ps.map V.ref ∧ All2 (L5 H') ps rs ∧ (∀ x ∈ rs, Ok5 names.length x ∧ (cm = true → x.sort ∈ (["still", "end"] : List Str) → fwd x.deed ∧ k < x.g)) ∧ rs.length = j ∧ Same H6 H') ⟨[], [], rfl, All2.nil, by simp, rfl, Same.refl _⟩ (sl_lt (by omega)) ?_ ?_⟩
        · rintro j ys H7 hj hyl ⟨ps, rs, rfl, hB, hrs, hrl, s7⟩
          have hj6 : j < 6 := by omega
          have s67 := s6'.trans s7
          refine ⟨_, rfl, _, rfl, _, _, rfl, rfl, .inl ⟨by decide, by decide⟩, _, _, rfl, rfl, _, rfl, _, _, rfl, rfl, .inl ⟨by decide, by decide⟩, _, _, rfl, rfl, _, rfl, _, rfl, _, rfl, a, ln, ns, 100 + 80 * (0 + (k : Int)) + 10 * (0 + (j : Int)), k, names, cm, (by rw [Int.zero_add]; rfl), hS3.same s67, hns, by omega, by omega, s67 _ _ hln3, by omega, by omega, hk, fun p x H8 hp hx hcx s8 => ?_⟩
          refine comp_turn hj hyl ⟨ps ++ [p], rs ++ [x], by rw [List.map_append]; rfl, All2.snoc (hB.mono fun _ _ z => s8 _ _ z) hp, fun y hy => ?_, by rw [List.length_append, hrl]; rfl, s7.trans s8⟩
          rcases List.mem_append.mp hy with z | z
          · exact hrs y z
          · rw [List.mem_singleton.mp z]; exact ⟨hx, hcx⟩
        · rintro ys H7 hyl ⟨ps, rs, rfl, hB, hrs, hrl, s7⟩ D eD
          have t7 := s7.trans (Same.upd (o := .lst (ps.map V.ref)) eD)
          have hlm7 := t7 _ _ (s6 _ _ hlm)
          have nD : D ≠ lm := fun z => by rw [← z] at hlm; rw [s7 _ _ (s6 _ _ hlm)] at eD; cases eD
          refine ⟨lm, _, _, rfl, rfl, hlm7, sl_lt (by rw [List.length_map]; omega), ?_⟩
          refine ⟨_, _, C ++ [rs], us ++ [D], rfl, ?_, by rw [upd_same, List.map_append]; rfl, ?_, by rw [List.length_append, hCl]; rfl, fun r hr => ?_, fun w i r hr => ?_, Same.up (s6'.trans t7) elm⟩
          · intro z
            rcases List.mem_append.mp z with z | z
            · exact hnu z
            · exact nD (List.mem_singleton.mp z).symm
          · refine All2.snoc ⟨hA.1, fun i u r hu hr => ((hA.2 i u r hu hr).same (s6.trans t7)).upd hlm7 (fun z => hnu (z ▸ List.mem_of_getElem? hu))⟩ ?_
            exact M5.upd ⟨ps, upd_same, hB.mono fun _ _ z => Same.upd eD _ _ z⟩ hlm7 nD
          · rcases List.mem_append.mp hr with z | z
            · exact hC r z
            · rw [List.mem_singleton.mp z]; exact ⟨by omega, fun x hx => (hrs x hx).1⟩
          · rcases snoc_get hr with z | ⟨z1, z2⟩
            · exact hcalm w i r z
            · rw [z2, z1, hCl]; exact fun x hx => (hrs x hx).2 w
      · rintro σ' H5 ⟨x4, x5, C, us, rfl, hnu, hlm, hA, hCl, hC, hcalm, s5⟩
        exact ⟨_, _, C, rfl, ⟨us, hlm, hA⟩, by rw [hCl, List.length_map]; rfl, hC, hcalm, s5⟩
    rintro σ' H5 ⟨x4, x5, C, rfl, hM, hCl, hC, hcalm, s5⟩
    refine @at_consR _ _ _ _ _ _ _ (fun _ _ => True) (@ps_forA _ _ _ _ _ _ _ _ PassesOwn.never rfl (@pi_range1 _ _ _ _ _ _ rfl T.z_range (@pa_cons _ _ _ _ _ pe_int pa_nil (by walk_at "u")) (by walk_at "u")) (@pg_name _ _ 6 _ sc_law.nd rfl (Or.inl rfl) (by walk_at "u")) pss_at (by walk_at "u")) ?_ (fun σ' H' _ => @at_one _ _ _ _ _ _ (@ps_ret _ _ _ _ pe_bl) (q H'))
    refine ⟨3, rfl, by decide, by decide, forW_range (n := (3 : Int).toNat) (fun r σ' H' => ∃ x6 x7 x8 x9 lm C, σ' = [some (.ref a), some (.ref ln), some (.bl cm), some (.ref lm), x4, x5, x6, x7, x8, x9] ∧ Ms5 H' lm C ∧ C.length = names.length ∧ (∀ rs ∈ C, rs.length ≤ 5 + r ∧ ∀ x ∈ rs, Ok5 names.length x) ∧ (cm = true → Calm5 C) ∧ Same H3 H') ⟨_, _, _, _, lm, C, rfl, hM, hCl, hC, hcalm, s5⟩ ?_ (fun _ _ _ => trivial)⟩
    clear hM hCl hC hcalm s5
    rintro r σ' H6 hr3 ⟨x6, x7, x8, x9, lm, C, rfl, hM, hCl, hC, hcalm, s6⟩
    have hr3 : r < 3 := hr3
    have L : Law5 names C := ⟨hCl.symm, by omega, by omega, ⟨_, hnames⟩, fun rs h => by have := (hC rs h).1; omega, fun rs h x hx => by rw [hCl]; exact (hC rs h).2 x hx⟩
    have hml := ms5_len L.len
    have G := L.fit.good
    refine @at_cons _ _ _ _ _ _ _ (@ps_set _ _ 7 _ _ _ _ sc_law.nd rfl (Or.inl rfl) (@pe_call _ _ _ _ _ _ _ _ _ _ _ _ _ _ _ _ (ok_read_rules T) (hr.mono (by decide)) rfl T.mg_read_rules T.F_read_rules.kp (bd_read_rules T) .nil pass0 (@pa_cons _ _ _ _ _ (@pe_call _ _ _ _ _ _ _ _ _ _ _ _ _ _ _ _ (ok__law_text T) (hr.mono (by decide)) rfl T.mg__law_text T.F__law_text.kp (bd__law_text T) .nil pass0 (@pa_cons _ _ _ _ _ (pv 1) (@pa_cons _ _ _ _ _ (pv 3) pa_nil (by walk_at "u")) (by walk_at "u")) (by walk_at "u") (by walk_at "u") (by walk_at "u")) pa_nil (by walk_at "u")) (by walk_at "u") (by walk_at "u") (by walk_at "u")) (by walk_at "u") (by walk_at "u")) ⟨_, rfl, _, rfl, ln, lm, names, C, rfl, s6 _ _ hln3, hM, L, fun H7 s7 => ⟨itemsOf (ms5 names C), rfl, L.fit.items, L.fit.len200, fun ra H8 hR s8 => ?_⟩⟩
    rw [fold_items] at hR
    have s68 := s7.trans s8
    refine @at_cons _ _ _ _ _ _ _ (@ps_set _ _ 8 _ _ _ _ sc_law.nd rfl (Or.inr rfl) (@pe_call _ _ _ _ _ _ _ _ _ _ _ _ _ _ _ _ (ok_ring_of T) (hr.mono (by decide)) rfl T.mg_ring_of T.F_ring_of.kp (bd_ring_of T) .nil pass0 (@pa_cons _ _ _ _ _ (pv 7) pa_nil (by walk_at "u")) (by walk_at "u") (by walk_at "u") (by walk_at "u")) (by walk_at "u") (by walk_at "u")) ⟨_, rfl, ra, ms5 names C, rfl, hR, G, fun H9 s9 => ⟨fun hn => ?_, fun ring row p l hm hp hl => ?_⟩⟩
    · refine @at_cons _ _ _ _ _ _ _ (@ps_set _ _ 9 _ _ _ _ sc_law.nd rfl (Or.inl rfl) (@pe_call _ _ _ _ _ _ _ _ _ _ _ _ _ _ _ _ (ok__law_refused T) (hr.mono (by decide)) rfl T.mg__law_refused T.F__law_refused.kp (bd__law_refused T) .nil pass0 (@pa_cons _ _ _ _ _ (pv 7) pa_nil (by walk_at "u")) (by walk_at "u") (by walk_at "u") (by walk_at "u")) (by walk_at "u") (by walk_at "u")) ⟨_, rfl, ra, ms5 names C, rfl, hR.same s9, G, fun _ p H10 hp s10 => ?_, (fun ring row p l H10 hm => by rw [hn] at hm; cases hm)⟩
      refine @at_cons _ _ _ _ _ _ _ (@ps_if _ _ _ _ _ _ _ _ (@pt_cmpR _ _ _ _ _ _ _ _ op_isN (pv 8) pe_non (nomark _)) pss_at pss_at) ⟨_, rfl, rfl, _, rfl, ifd (fun _ => ?_) (fun z => absurd rfl z)⟩
      have sX := (s68.trans s9).trans s10
      exact @at_one _ _ _ _ _ _ (@ps_ret _ _ _ _ (@pe_and _ _ _ _ _ _ _ (@pe_cmpR _ _ _ _ _ _ _ _ op_eq (@pe_ix _ _ _ _ _ _ _ ix_tup (pv 9) pe_int (fun _ _ => rfl)) pe_str (nomark _)) (@pe_one _ _ _ _ _ (@pe_call _ _ _ _ _ _ _ _ _ _ _ _ _ _ _ _ (ok__law_left T) (hr.mono (by decide)) rfl T.mg__law_left T.F__law_left.kp (bd__law_left T) .nil pass0 (@pa_cons _ _ _ _ _ (pv 0) (@pa_cons _ _ _ _ _ (pv 3) pa_nil (by walk_at "u")) (by walk_at "u")) (by walk_at "u") (by walk_at "u") (by walk_at "u"))))) ⟨_, rfl, _, _, _, _, rfl, rfl, SqT.of hp, atI_nat (j := 0) rfl, rfl, _, rfl, ifd (fun _ => ⟨_, rfl, _, rfl, a, lm, ns, names, C, rfl, hS3.same (s6.trans sX), hns, hM.same sX, L, hn, fun H11 s11 => q H11⟩) (fun z => absurd rfl z)⟩
    · have hcmf : cm = false := by
        cases e : cm with
        | false => rfl
        | true =>
          have := L.only (hcalm e)
          rw [hm] at this; cases this
      obtain ⟨hrow, first, hf, hrf⟩ := ringRows_some _ hm
      rw [hml] at hf
      obtain ⟨rest, hr1, hr2, hru⟩ := ringF_runs _ _ _ _ hrf
      rw [List.nil_append] at hr1
      subst hr1
      have hcap := ringF_cap _ _ _ _ hrf
      rw [hml, List.length_nil] at hcap
      have h4 := L.four
      refine @at_cons _ _ _ _ _ _ _ (@ps_set _ _ 9 _ _ _ _ sc_law.nd rfl (Or.inl rfl) (@pe_call _ _ _ _ _ _ _ _ _ _ _ _ _ _ _ _ (ok__law_refused T) (hr.mono (by decide)) rfl T.mg__law_refused T.F__law_refused.kp (bd__law_refused T) .nil pass0 (@pa_cons _ _ _ _ _ (pv 7) pa_nil (by walk_at "u")) (by walk_at "u") (by walk_at "u") (by walk_at "u")) (by walk_at "u") (by walk_at "u")) ⟨_, rfl, ra, ms5 names C, rfl, hR.same s9, G, (fun hn => by rw [hm] at hn; cases hn), fun ring2 row2 p2 l2 H10 hm2 hp2 hl2 s10 => ?_⟩
      rw [hm] at hm2
      have hm2 := Option.some.inj hm2
      injection hm2 with e1 e2
      subst e1 e2
      have sX := (s68.trans s9).trans s10
      have hp10 := s10 _ _ hp
      have hl10 := s10 _ _ hl
      have hM10 := hM.same sX
      have s610 := s6.trans sX
      refine @at_cons _ _ _ _ _ _ _ (@ps_if _ _ _ _ _ _ _ _ (@pt_cmpR _ _ _ _ _ _ _ _ op_isN (pv 8) pe_non (nomark _)) pss_at pss_at) ⟨_, rfl, rfl, _, rfl, ifd (fun z => by cases z) (fun _ => at_nil ?_)⟩
      refine @at_consR _ _ _ _ _ _ _ (fun σ' H' => σ' = [some (.ref a), some (.ref ln), some (.bl cm), some (.ref lm), x4, x5, some (.int (0 + (r : Int))), some (.ref ra), some (.ref p), some (.ref p2)] ∧ Same H10 H') (@ps_if _ _ _ _ _ _ _ _ (@PW.pt _ _ _ (@pw_or _ _ _ _ _ _ _ (@pt_val _ _ _ (pv 2) (by walk_at "u")) (@pw_or1 _ _ _ _ (@pt_not _ _ _ _ (@pt_val _ _ _ (@pe_call _ _ _ _ _ _ _ _ _ _ _ _ _ _ _ _ (ok__law_is_ring T) (hr.mono (by decide)) rfl T.mg__law_is_ring T.F__law_is_ring.kp (bd__law_is_ring T) .nil pass0 (@pa_cons _ _ _ _ _ (pv 3) (@pa_cons _ _ _ _ _ (pv 1) (@pa_cons _ _ _ _ _ (@pe_ix _ _ _ _ _ _ _ ix_tup (pv 8) pe_int (fun _ _ => rfl)) (@pa_cons _ _ _ _ _ (@pe_ix _ _ _ _ _ _ _ ix_tup (pv 8) pe_int (fun _ _ => rfl)) pa_nil (by walk_at "u")) (by walk_at "u")) (by walk_at "u")) (by walk_at "u")) (by walk_at "u") (by walk_at "u") (by walk_at "u")) (by walk_at "u")))))) pss_at pss_at) ?_ ?_
      · refine ⟨_, rfl, cm, rfl, ifb (fun z => by rw [hcmf] at z; cases z) (fun _ => ?_)⟩
        exact ⟨_, rfl, _, rfl, _, rfl, _, _, _, _, rfl, rfl, SqT.of hp10, atI_nat (j := 0) rfl, _, rfl, _, _, _, _, rfl, rfl, SqT.of hp10, atI_nat (j := 1) rfl, lm, ln, l, rowV row, row, first, names, C, ring, rfl, hM10, L, s610 _ _ hln3, hl10, hrow, sgV_of hrow, hf, hru, hr2, by omega, fun H11 s11 => ⟨true, rfl, iteF (at_nil ⟨rfl, s11⟩)⟩⟩
      rintro σ' H11 ⟨rfl, s11⟩
      refine @at_consR _ _ _ _ _ _ _ (fun σ' H' => σ' = [some (.ref a), some (.ref ln), some (.bl cm), some (.ref lm), x4, x5, some (.int (0 + (r : Int))), some (.ref ra), some (.ref p), some (.ref p2)] ∧ Same H11 H') (@ps_if _ _ _ _ _ _ _ _ (@PW.pt _ _ _ (@pw_or _ _ _ _ _ _ _ (@pt_cmpR _ _ _ _ _ _ _ _ op_ne (@pe_ix _ _ _ _ _ _ _ ix_tup (pv 9) pe_int (fun _ _ => rfl)) pe_str (nomark _)) (@pw_or1 _ _ _ _ (@pt_not _ _ _ _ (@pt_val _ _ _ (@pe_call _ _ _ _ _ _ _ _ _ _ _ _ _ _ _ _ (ok__law_is_ring T) (hr.mono (by decide)) rfl T.mg__law_is_ring T.F__law_is_ring.kp (bd__law_is_ring T) .nil pass0 (@pa_cons _ _ _ _ _ (pv 3) (@pa_cons _ _ _ _ _ (pv 1) (@pa_cons _ _ _ _ _ (@pe_ix _ _ _ _ _ _ _ ix_tup (pv 9) pe_int (fun _ _ => rfl)) (@pa_cons _ _ _ _ _ (@pe_ix _ _ _ _ _ _ _ ix_tup (pv 9) pe_int (fun _ _ => rfl)) pa_nil (by walk_at "u")) (by walk_at "u")) (by walk_at "u")) (by walk_at "u")) (by walk_at "u") (by walk_at "u") (by walk_at "u")) (by walk_at "u")))))) pss_at pss_at) ?_ ?_
      · have hp2' := s11 _ _ hp2
        refine ⟨_, rfl, _, _, _, _, rfl, rfl, SqT.of hp2', atI_nat (j := 0) rfl, rfl, _, rfl, ifnd (fun z => absurd rfl z) (fun _ => ?_)⟩
        exact ⟨_, rfl, _, rfl, _, rfl, _, _, _, _, rfl, rfl, SqT.of hp2', atI_nat (j := 1) rfl, _, rfl, _, _, _, _, rfl, rfl, SqT.of hp2', atI_nat (j := 2) rfl, lm, ln, l2, rowV row, row, first, names, C, ring, rfl, hM10.same s11, L, (s610.trans s11) _ _ hln3, s11 _ _ hl2, hrow, sgV_of hrow, hf, hru, hr2, by omega, fun H12 s12 => ⟨true, rfl, iteF (at_nil ⟨rfl, s12⟩)⟩⟩
      rintro σ' H12 ⟨rfl, s12⟩
      have sY := s11.trans s12
      have hp12 := sY _ _ hp10
      refine @at_consR _ _ _ _ _ _ _ (fun σ' H' => σ' = [some (.ref a), some (.ref ln), some (.bl cm), some (.ref lm), x4, x5, some (.int (0 + (r : Int))), some (.ref ra), some (.ref p), some (.ref p2)] ∧ H12 = H' ∧ ∃ c, row = (⟨#[c]⟩ : Str) ∧ c ∈ signs94.cps.toList ∧ c ≠ 95) (@ps_if _ _ _ _ _ _ _ _ (@PW.pt _ _ _ (@pw_or _ _ _ _ _ _ _ (@pt_cmpR _ _ _ _ _ _ _ _ op_isN (@pe_ix _ _ _ _ _ _ _ ix_tup (pv 8) pe_int (fun _ _ => rfl)) pe_non (nomark _)) (@pw_or1 _ _ _ _ (@pt_cmpR _ _ _ _ _ _ _ _ op_eq (@pe_ix _ _ _ _ _ _ _ ix_tup (pv 8) pe_int (fun _ _ => rfl)) pe_str (nomark _))))) pss_at pss_at) ?_ ?_
      · refine ⟨_, rfl, _, _, _, _, rfl, rfl, SqT.of hp12, atI_nat (j := 1) rfl, rfl, _, rfl, ?_⟩
        rcases sgV_of hrow with ⟨z1, z2⟩ | ⟨c, z1, z2⟩
        · rw [z2]
          exact ifd (fun _ => @at_one _ _ _ _ _ _ (@ps_ret _ _ _ _ pe_bl) (q H12)) (fun z => absurd rfl z)
        · rw [z2] at hp12 ⊢
          refine ifd (fun z => by cases z) (fun _ => ?_)
          refine ⟨_, rfl, _, _, _, _, rfl, rfl, SqT.of hp12, atI_nat (j := 1) rfl, rfl, _, rfl, ifd (fun _ => @at_one _ _ _ _ _ _ (@ps_ret _ _ _ _ pe_bl) (q H12)) (fun z => at_nil ⟨rfl, rfl, c, z1, ?_, fun w => z ?_⟩)⟩
          · rcases List.mem_cons.mp hrow with y | y
            · rw [z1] at y; exact absurd y one_no
            · obtain ⟨d, hd, e⟩ := List.mem_map.mp y
              rw [z1] at e
              have : d = c := by
                injection e with e
                have := congrArg Array.toList e
                simpa using this
              rw [← this]; exact hd
          · rw [z1, w, show (⟨#[95]⟩ : Str) = "_" from by decide +kernel]
      rintro σ' H' ⟨rfl, rfl, c, hrc, hc, hc95⟩
      have hrv : rowV row = .str row := by rw [hrc]; exact if_neg one_no
      rw [hrv] at hp12
      obtain ⟨us, hlm, hA⟩ := hM10.same sY
      have hul := hA.1
      have hnew : Ok5 names.length ⟨"one", row, "stay", 0⟩ := ⟨by show ("one" : Str) ∈ sorts; decide, by show 1 ≤ row.length; rw [hrc]; exact Nat.le_refl 1, by show row.length ≤ 100; rw [hrc]; show 1 ≤ 100; decide, ⟨fun z => by
        have z : 95 ∈ row.cps.toList := z
        rw [hrc] at z
        have : 95 = c := by simpa using z
        exact hc95 this.symm, fun z => by
        have z : 10 ∈ row.cps.toList := z
        rw [hrc] at z
        have : 10 = c := by simpa using z
        exact signs_ok c hc this.symm⟩, by show ("stay" : Str) ∈ deeds; decide, by show 0 < names.length; omega⟩
      refine @at_one _ _ _ _ _ _ (@ps_setC _ 3 _ (defScope s_law) _ ["_law_script", "_law_names", "_law_calm_here", "_law_modes", "_law_k", "_law_size", "_law_again", "_law_rules", "_law_found", "_law_told"] _ _ ("_law_rule_here") _ _ _ _ [("_law_found", 8)] _ _ sc_law.nd rfl (Or.inl rfl) (by walk_at "ck") (@pi_list _ _ _ _ (pv 3)) (fun _ _ _ _ => by exact (@pe_op _ _ _ _ _ _ _ _ op_cat (@pe_lst _ _ _ _ (@pa_cons _ _ _ _ _ (@pe_tup _ _ _ _ _ (@pa_cons _ _ _ _ _ pe_str (@pa_cons _ _ _ _ _ (@pe_ix _ _ _ _ _ _ _ (ix_tupK (K := K) rfl) (pv 0) pe_int (fun _ _ => rfl)) (@pa_cons _ _ _ _ _ pe_str (@pa_cons _ _ _ _ _ pe_int pa_nil (by walk_at "u")) (by walk_at "u")) (by walk_at "u")) (by walk_at "u"))) pa_nil (by walk_at "u"))) (pv 1))) (by walk_at "u") (by walk_at "u") (by walk_at "u") (by walk_at "u") (by walk_at "u") (by walk_at "u")) ⟨_, rfl, lm, rfl, ⟨_, SqL.of hlm⟩, comp_list (xs := us.map V.ref) (fun i ys H' => Same H12 H' ∧ ∃ vs : List Addr, ys = vs.map V.ref ∧ All2 (M5 H') vs ((C.take i).map (LR5.mk "one" row "stay" 0 :: ·))) ⟨Same.refl _, [], rfl, All2.nil⟩ (sl_lt (by rw [List.length_map]; omega)) ?_ ?_ ?_⟩
      · rintro i ys H' _ ⟨s13, _⟩
        exact SqL.of (s13 _ _ hlm)
      · rintro i xv ys H13 hx hyl ⟨s13, vs, rfl, hV⟩
        rw [List.getElem?_map] at hx
        obtain ⟨u, hu, rfl⟩ := Option.map_eq_some_iff.mp hx
        have hi := (List.getElem?_eq_some_iff.mp hu).1
        obtain ⟨rs, hrs⟩ : ∃ rs, C[i]? = some rs := ⟨C[i]'(by omega), List.getElem?_eq_getElem _⟩
        obtain ⟨qs, hq, hB⟩ := (hA.2 i u rs hu hrs).same s13
        have hql := hB.1
        have hrl := (hC rs (List.mem_of_getElem? hrs)).1
        refine ⟨_, rfl, _, _, _, _, rfl, rfl, SqT.of (s13 _ _ hp12), atI_nat (j := 1) rfl, by show 4 ≤ sizeLine; decide, fun pn epn => ⟨by show 1 ≤ sizeLine; decide, fun l1 e1 => ⟨_, rfl, l1, u, _, _, rfl, rfl, upd_same, Same.upd e1 _ _ (Same.upd epn _ _ hq), sl_le (by rw [List.length_map]; show 1 + _ ≤ 1000000; omega), fun l6 e6 => ?_⟩⟩⟩
        have u2 : Same H13 _ := ((Same.upd (o := .tup [.str "one", .str row, .str "stay", .int 0]) epn).trans (Same.upd (o := .lst [.ref pn]) e1)).trans (Same.upd (o := .lst ([.ref pn] ++ qs.map V.ref)) e6)
        refine comp_turn (by rw [List.length_map]; exact hi) hyl ⟨s13.trans u2, vs ++ [l6], by rw [List.map_append]; rfl, ?_⟩
        rw [take_snoc hrs, List.map_append]
        refine All2.snoc (hV.mono fun _ _ z => z.same u2) ⟨pn :: qs, by rw [upd_same]; rfl, ?_⟩
        have hpn : L5 (upd (upd (upd H13 pn (.tup [.str "one", .str row, .str "stay", .int 0])) l1 (.lst [.ref pn])) l6 (.lst ([.ref pn] ++ qs.map V.ref))) pn ⟨"one", row, "stay", 0⟩ := Same.upd e6 _ _ (Same.upd e1 _ _ (upd_same (a := pn)))
        refine ⟨by rw [List.length_cons, List.length_cons, hql], fun j x y h1 h2 => ?_⟩
        cases j with
        | zero => cases h1; cases h2; exact hpn
        | succ j =>
          rw [List.getElem?_cons_succ] at h1 h2
          exact u2 _ _ (hB.2 j x y h1 h2)
      · rintro ys H13 hyl ⟨s13, vs, rfl, hV⟩ D eD
        rw [List.take_of_length_le (by rw [List.length_map]; omega)] at hV
        refine ⟨_, _, _, _, D, C.map (LR5.mk "one" row "stay" 0 :: ·), rfl, ⟨vs, upd_same, hV.mono fun _ _ z => z.same (Same.upd eD)⟩, by rw [List.length_map]; exact hCl, fun rs hrs => ?_, (fun w => by rw [hcmf] at w; cases w), (s610.trans sY).trans (s13.trans (Same.upd eD))⟩
        obtain ⟨rs0, h0, rfl⟩ := List.mem_map.mp hrs
        refine ⟨by rw [List.length_cons]; have := (hC rs0 h0).1; omega, fun x hx => ?_⟩
        rcases List.mem_cons.mp hx with rfl | hx
        · exact hnew
        · exact (hC rs0 h0).2 x hx
end
theorem all_mk {l : PySem.W.OpenLaw} {w : World} {K : PySem.W.Frag} {h : Heap} {mg : Str → Option Value} {fa c_TintError c_NoRules c_Rings c_Pattern c_Word c_One c_Without c_Many c_Any c_Still c_End c_Rule c_Mode c_Rules c_Cursor f_Rings___init__ f_Pattern_eaten f_Pattern_eats f_Word___init__ f_Word_eaten f_Word_eats f_One___init__ f_One_eaten f_One_eats f_Without___init__ f_Without_eaten f_Without_eats f_Many___init__ f_Many_eaten f_Many_eats f_Any_eaten f_Any_eats f_Still_eaten f_End_eaten f_Rule___init__ f_Mode___init__ f_Rules___init__ f_Cursor___init__ f_Cursor_more f_Cursor_peek f_Cursor_ask f_Cursor_take f_Cursor_take_choice f_Cursor_take_name f_Cursor_take_signs f_is_name f_first_rule f_do_deed f_ask_rings f_ring_of f_short_rows f_ring_from f_idle_rule f_read_rules f_mode_numbers f_read_mode f_read_rule f_read_pattern f_read_goal f__law_draw f__law_all f__law_signs f__law_rule f__law_text f__law_first f__law_after f__law_is_ring f__law_calm f__law_refused f__law_left f_law g_PATTERNS g_DEEDS g_GOING g_FOLDS : Addr} {d_Rings___init__ : FuncData} {d_Pattern_eaten : FuncData} {d_Pattern_eats : FuncData} {d_Word___init__ : FuncData} {d_Word_eaten : FuncData} {d_Word_eats : FuncData} {d_One___init__ : FuncData} {d_One_eaten : FuncData} {d_One_eats : FuncData} {d_Without___init__ : FuncData} {d_Without_eaten : FuncData} {d_Without_eats : FuncData} {d_Many___init__ : FuncData} {d_Many_eaten : FuncData} {d_Many_eats : FuncData} {d_Any_eaten : FuncData} {d_Any_eats : FuncData} {d_Still_eaten : FuncData} {d_End_eaten : FuncData} {d_Rule___init__ : FuncData} {d_Mode___init__ : FuncData} {d_Rules___init__ : FuncData} {d_Cursor___init__ : FuncData} {d_Cursor_more : FuncData} {d_Cursor_peek : FuncData} {d_Cursor_ask : FuncData} {d_Cursor_take : FuncData} {d_Cursor_take_choice : FuncData} {d_Cursor_take_name : FuncData} {d_Cursor_take_signs : FuncData} {d_is_name : FuncData} {d_first_rule : FuncData} {d_do_deed : FuncData} {d_ask_rings : FuncData} {d_ring_of : FuncData} {d_short_rows : FuncData} {d_ring_from : FuncData} {d_idle_rule : FuncData} {d_read_rules : FuncData} {d_mode_numbers : FuncData} {d_read_mode : FuncData} {d_read_rule : FuncData} {d_read_pattern : FuncData} {d_read_goal : FuncData} {d__law_draw : FuncData} {d__law_all : FuncData} {d__law_signs : FuncData} {d__law_rule : FuncData} {d__law_text : FuncData} {d__law_first : FuncData} {d__law_after : FuncData} {d__law_is_ring : FuncData} {d__law_calm : FuncData} {d__law_refused : FuncData} {d__law_left : FuncData} {d_law : FuncData} {u_LETTERS : Tok} {u_LONGEST_NAME : Tok} {u_START : Tok} {u_SIGNS : Tok} {u_MOST_MODES : Tok} {u_MOST_RULES : Tok} {u0_PATTERNS u1_PATTERNS u2_PATTERNS u3_PATTERNS u4_PATTERNS u5_PATTERNS u6_PATTERNS : Tok} {od_PATTERNS : Option Addr} {n_PATTERNS : Nat} {sl_PATTERNS : Array (Option Value)} {u0_DEEDS u1_DEEDS u2_DEEDS u3_DEEDS : Tok} {od_DEEDS : Option Addr} {n_DEEDS : Nat} {sl_DEEDS : Array (Option Value)} {u0_GOING u1_GOING : Tok} {od_GOING : Option Addr} {n_GOING : Nat} {sl_GOING : Array (Option Value)} {u0_FOLDS u1_FOLDS : Tok} {od_FOLDS : Option Addr} {n_FOLDS : Nat} {sl_FOLDS : Array (Option Value)} (X : K.In h) (G : h.Ns mainGlobals mg) (hfa : mg "law" = some (.ref fa))
    (a_TintError : PySem.W.nsIn K mainGlobals "TintError" = some (some (.ref c_TintError)))
    (a_NoRules : PySem.W.nsIn K mainGlobals "NoRules" = some (some (.ref c_NoRules)))
    (a_Rings : PySem.W.nsIn K mainGlobals "Rings" = some (some (.ref c_Rings)))
    (a_Pattern : PySem.W.nsIn K mainGlobals "Pattern" = some (some (.ref c_Pattern)))
    (a_Word : PySem.W.nsIn K mainGlobals "Word" = some (some (.ref c_Word)))
    (a_One : PySem.W.nsIn K mainGlobals "One" = some (some (.ref c_One)))
    (a_Without : PySem.W.nsIn K mainGlobals "Without" = some (some (.ref c_Without)))
    (a_Many : PySem.W.nsIn K mainGlobals "Many" = some (some (.ref c_Many)))
    (a_Any : PySem.W.nsIn K mainGlobals "Any" = some (some (.ref c_Any)))
    (a_Still : PySem.W.nsIn K mainGlobals "Still" = some (some (.ref c_Still)))
    (a_End : PySem.W.nsIn K mainGlobals "End" = some (some (.ref c_End)))
    (a_Rule : PySem.W.nsIn K mainGlobals "Rule" = some (some (.ref c_Rule)))
    (a_Mode : PySem.W.nsIn K mainGlobals "Mode" = some (some (.ref c_Mode)))
    (a_Rules : PySem.W.nsIn K mainGlobals "Rules" = some (some (.ref c_Rules)))
    (a_Cursor : PySem.W.nsIn K mainGlobals "Cursor" = some (some (.ref c_Cursor)))
    (a_Rings___init__ : PySem.W.findIn K (.ref c_Rings) "__init__" = some (some (.ref f_Rings___init__)))
    (i_Rings___init__ : PySem.W.isFn K (.ref f_Rings___init__) = true)
    (F_Rings___init__ : Fun K "__init__" "Rings.__init__" s_Rings___init__ f_Rings___init__ d_Rings___init__)
    (a_Pattern_eaten : PySem.W.findIn K (.ref c_Pattern) "eaten" = some (some (.ref f_Pattern_eaten)))
    (i_Pattern_eaten : PySem.W.isFn K (.ref f_Pattern_eaten) = true)
    (F_Pattern_eaten : Fun K "eaten" "Pattern.eaten" s_Pattern_eaten f_Pattern_eaten d_Pattern_eaten)
    (a_Pattern_eats : PySem.W.findIn K (.ref c_Pattern) "eats" = some (some (.ref f_Pattern_eats)))
    (i_Pattern_eats : PySem.W.isFn K (.ref f_Pattern_eats) = true)
    (F_Pattern_eats : Fun K "eats" "Pattern.eats" s_Pattern_eats f_Pattern_eats d_Pattern_eats)
    (a_Word___init__ : PySem.W.findIn K (.ref c_Word) "__init__" = some (some (.ref f_Word___init__)))
    (i_Word___init__ : PySem.W.isFn K (.ref f_Word___init__) = true)
    (F_Word___init__ : Fun K "__init__" "Word.__init__" s_Word___init__ f_Word___init__ d_Word___init__)
    (a_Word_eaten : PySem.W.findIn K (.ref c_Word) "eaten" = some (some (.ref f_Word_eaten)))
    (i_Word_eaten : PySem.W.isFn K (.ref f_Word_eaten) = true)
    (F_Word_eaten : Fun K "eaten" "Word.eaten" s_Word_eaten f_Word_eaten d_Word_eaten)
    (a_Word_eats : PySem.W.findIn K (.ref c_Word) "eats" = some (some (.ref f_Word_eats)))
    (i_Word_eats : PySem.W.isFn K (.ref f_Word_eats) = true)
    (F_Word_eats : Fun K "eats" "Word.eats" s_Word_eats f_Word_eats d_Word_eats)
    (a_One___init__ : PySem.W.findIn K (.ref c_One) "__init__" = some (some (.ref f_One___init__)))
    (i_One___init__ : PySem.W.isFn K (.ref f_One___init__) = true)
    (F_One___init__ : Fun K "__init__" "One.__init__" s_One___init__ f_One___init__ d_One___init__)
    (a_One_eaten : PySem.W.findIn K (.ref c_One) "eaten" = some (some (.ref f_One_eaten)))
    (i_One_eaten : PySem.W.isFn K (.ref f_One_eaten) = true)
    (F_One_eaten : Fun K "eaten" "One.eaten" s_One_eaten f_One_eaten d_One_eaten)
    (a_One_eats : PySem.W.findIn K (.ref c_One) "eats" = some (some (.ref f_One_eats)))
    (i_One_eats : PySem.W.isFn K (.ref f_One_eats) = true)
    (F_One_eats : Fun K "eats" "One.eats" s_One_eats f_One_eats d_One_eats)
    (a_Without___init__ : PySem.W.findIn K (.ref c_Without) "__init__" = some (some (.ref f_Without___init__)))
    (i_Without___init__ : PySem.W.isFn K (.ref f_Without___init__) = true)
    (F_Without___init__ : Fun K "__init__" "Without.__init__" s_Without___init__ f_Without___init__ d_Without___init__)
    (a_Without_eaten : PySem.W.findIn K (.ref c_Without) "eaten" = some (some (.ref f_Without_eaten)))
    (i_Without_eaten : PySem.W.isFn K (.ref f_Without_eaten) = true)
    (F_Without_eaten : Fun K "eaten" "Without.eaten" s_Without_eaten f_Without_eaten d_Without_eaten)
    (a_Without_eats : PySem.W.findIn K (.ref c_Without) "eats" = some (some (.ref f_Without_eats)))
    (i_Without_eats : PySem.W.isFn K (.ref f_Without_eats) = true)
    (F_Without_eats : Fun K "eats" "Without.eats" s_Without_eats f_Without_eats d_Without_eats)
    (a_Many___init__ : PySem.W.findIn K (.ref c_Many) "__init__" = some (some (.ref f_Many___init__)))
    (i_Many___init__ : PySem.W.isFn K (.ref f_Many___init__) = true)
    (F_Many___init__ : Fun K "__init__" "Many.__init__" s_Many___init__ f_Many___init__ d_Many___init__)
    (a_Many_eaten : PySem.W.findIn K (.ref c_Many) "eaten" = some (some (.ref f_Many_eaten)))
    (i_Many_eaten : PySem.W.isFn K (.ref f_Many_eaten) = true)
    (F_Many_eaten : Fun K "eaten" "Many.eaten" s_Many_eaten f_Many_eaten d_Many_eaten)
    (a_Many_eats : PySem.W.findIn K (.ref c_Many) "eats" = some (some (.ref f_Many_eats)))
    (i_Many_eats : PySem.W.isFn K (.ref f_Many_eats) = true)
    (F_Many_eats : Fun K "eats" "Many.eats" s_Many_eats f_Many_eats d_Many_eats)
    (a_Any_eaten : PySem.W.findIn K (.ref c_Any) "eaten" = some (some (.ref f_Any_eaten)))
    (i_Any_eaten : PySem.W.isFn K (.ref f_Any_eaten) = true)
    (F_Any_eaten : Fun K "eaten" "Any.eaten" s_Any_eaten f_Any_eaten d_Any_eaten)
    (a_Any_eats : PySem.W.findIn K (.ref c_Any) "eats" = some (some (.ref f_Any_eats)))
    (i_Any_eats : PySem.W.isFn K (.ref f_Any_eats) = true)
    (F_Any_eats : Fun K "eats" "Any.eats" s_Any_eats f_Any_eats d_Any_eats)
    (a_Still_eaten : PySem.W.findIn K (.ref c_Still) "eaten" = some (some (.ref f_Still_eaten)))
    (i_Still_eaten : PySem.W.isFn K (.ref f_Still_eaten) = true)
    (F_Still_eaten : Fun K "eaten" "Still.eaten" s_Still_eaten f_Still_eaten d_Still_eaten)
    (a_End_eaten : PySem.W.findIn K (.ref c_End) "eaten" = some (some (.ref f_End_eaten)))
    (i_End_eaten : PySem.W.isFn K (.ref f_End_eaten) = true)
    (F_End_eaten : Fun K "eaten" "End.eaten" s_End_eaten f_End_eaten d_End_eaten)
    (a_Rule___init__ : PySem.W.findIn K (.ref c_Rule) "__init__" = some (some (.ref f_Rule___init__)))
    (i_Rule___init__ : PySem.W.isFn K (.ref f_Rule___init__) = true)
    (F_Rule___init__ : Fun K "__init__" "Rule.__init__" s_Rule___init__ f_Rule___init__ d_Rule___init__)
    (a_Mode___init__ : PySem.W.findIn K (.ref c_Mode) "__init__" = some (some (.ref f_Mode___init__)))
    (i_Mode___init__ : PySem.W.isFn K (.ref f_Mode___init__) = true)
    (F_Mode___init__ : Fun K "__init__" "Mode.__init__" s_Mode___init__ f_Mode___init__ d_Mode___init__)
    (a_Rules___init__ : PySem.W.findIn K (.ref c_Rules) "__init__" = some (some (.ref f_Rules___init__)))
    (i_Rules___init__ : PySem.W.isFn K (.ref f_Rules___init__) = true)
    (F_Rules___init__ : Fun K "__init__" "Rules.__init__" s_Rules___init__ f_Rules___init__ d_Rules___init__)
    (a_Cursor___init__ : PySem.W.findIn K (.ref c_Cursor) "__init__" = some (some (.ref f_Cursor___init__)))
    (i_Cursor___init__ : PySem.W.isFn K (.ref f_Cursor___init__) = true)
    (F_Cursor___init__ : Fun K "__init__" "Cursor.__init__" s_Cursor___init__ f_Cursor___init__ d_Cursor___init__)
    (a_Cursor_more : PySem.W.findIn K (.ref c_Cursor) "more" = some (some (.ref f_Cursor_more)))
    (i_Cursor_more : PySem.W.isFn K (.ref f_Cursor_more) = true)
    (F_Cursor_more : Fun K "more" "Cursor.more" s_Cursor_more f_Cursor_more d_Cursor_more)
    (a_Cursor_peek : PySem.W.findIn K (.ref c_Cursor) "peek" = some (some (.ref f_Cursor_peek)))
    (i_Cursor_peek : PySem.W.isFn K (.ref f_Cursor_peek) = true)
    (F_Cursor_peek : Fun K "peek" "Cursor.peek" s_Cursor_peek f_Cursor_peek d_Cursor_peek)
    (a_Cursor_ask : PySem.W.findIn K (.ref c_Cursor) "ask" = some (some (.ref f_Cursor_ask)))
    (i_Cursor_ask : PySem.W.isFn K (.ref f_Cursor_ask) = true)
    (F_Cursor_ask : Fun K "ask" "Cursor.ask" s_Cursor_ask f_Cursor_ask d_Cursor_ask)
    (a_Cursor_take : PySem.W.findIn K (.ref c_Cursor) "take" = some (some (.ref f_Cursor_take)))
    (i_Cursor_take : PySem.W.isFn K (.ref f_Cursor_take) = true)
    (F_Cursor_take : Fun K "take" "Cursor.take" s_Cursor_take f_Cursor_take d_Cursor_take)
    (a_Cursor_take_choice : PySem.W.findIn K (.ref c_Cursor) "take_choice" = some (some (.ref f_Cursor_take_choice)))
    (i_Cursor_take_choice : PySem.W.isFn K (.ref f_Cursor_take_choice) = true)
    (F_Cursor_take_choice : Fun K "take_choice" "Cursor.take_choice" s_Cursor_take_choice f_Cursor_take_choice d_Cursor_take_choice)
    (a_Cursor_take_name : PySem.W.findIn K (.ref c_Cursor) "take_name" = some (some (.ref f_Cursor_take_name)))
    (i_Cursor_take_name : PySem.W.isFn K (.ref f_Cursor_take_name) = true)
    (F_Cursor_take_name : Fun K "take_name" "Cursor.take_name" s_Cursor_take_name f_Cursor_take_name d_Cursor_take_name)
    (a_Cursor_take_signs : PySem.W.findIn K (.ref c_Cursor) "take_signs" = some (some (.ref f_Cursor_take_signs)))
    (i_Cursor_take_signs : PySem.W.isFn K (.ref f_Cursor_take_signs) = true)
    (F_Cursor_take_signs : Fun K "take_signs" "Cursor.take_signs" s_Cursor_take_signs f_Cursor_take_signs d_Cursor_take_signs)
    (a_is_name : PySem.W.nsIn K mainGlobals "is_name" = some (some (.ref f_is_name)))
    (F_is_name : Fun K "is_name" "is_name" s_is_name f_is_name d_is_name)
    (a_first_rule : PySem.W.nsIn K mainGlobals "first_rule" = some (some (.ref f_first_rule)))
    (F_first_rule : Fun K "first_rule" "first_rule" s_first_rule f_first_rule d_first_rule)
    (a_do_deed : PySem.W.nsIn K mainGlobals "do_deed" = some (some (.ref f_do_deed)))
    (F_do_deed : Fun K "do_deed" "do_deed" s_do_deed f_do_deed d_do_deed)
    (a_ask_rings : PySem.W.nsIn K mainGlobals "ask_rings" = some (some (.ref f_ask_rings)))
    (F_ask_rings : Fun K "ask_rings" "ask_rings" s_ask_rings f_ask_rings d_ask_rings)
    (a_ring_of : PySem.W.nsIn K mainGlobals "ring_of" = some (some (.ref f_ring_of)))
    (F_ring_of : Fun K "ring_of" "ring_of" s_ring_of f_ring_of d_ring_of)
    (a_short_rows : PySem.W.nsIn K mainGlobals "short_rows" = some (some (.ref f_short_rows)))
    (F_short_rows : Fun K "short_rows" "short_rows" s_short_rows f_short_rows d_short_rows)
    (a_ring_from : PySem.W.nsIn K mainGlobals "ring_from" = some (some (.ref f_ring_from)))
    (F_ring_from : Fun K "ring_from" "ring_from" s_ring_from f_ring_from d_ring_from)
    (a_idle_rule : PySem.W.nsIn K mainGlobals "idle_rule" = some (some (.ref f_idle_rule)))
    (F_idle_rule : Fun K "idle_rule" "idle_rule" s_idle_rule f_idle_rule d_idle_rule)
    (a_read_rules : PySem.W.nsIn K mainGlobals "read_rules" = some (some (.ref f_read_rules)))
    (F_read_rules : Fun K "read_rules" "read_rules" s_read_rules f_read_rules d_read_rules)
    (a_mode_numbers : PySem.W.nsIn K mainGlobals "mode_numbers" = some (some (.ref f_mode_numbers)))
    (F_mode_numbers : Fun K "mode_numbers" "mode_numbers" s_mode_numbers f_mode_numbers d_mode_numbers)
    (a_read_mode : PySem.W.nsIn K mainGlobals "read_mode" = some (some (.ref f_read_mode)))
    (F_read_mode : Fun K "read_mode" "read_mode" s_read_mode f_read_mode d_read_mode)
    (a_read_rule : PySem.W.nsIn K mainGlobals "read_rule" = some (some (.ref f_read_rule)))
    (F_read_rule : Fun K "read_rule" "read_rule" s_read_rule f_read_rule d_read_rule)
    (a_read_pattern : PySem.W.nsIn K mainGlobals "read_pattern" = some (some (.ref f_read_pattern)))
    (F_read_pattern : Fun K "read_pattern" "read_pattern" s_read_pattern f_read_pattern d_read_pattern)
    (a_read_goal : PySem.W.nsIn K mainGlobals "read_goal" = some (some (.ref f_read_goal)))
    (F_read_goal : Fun K "read_goal" "read_goal" s_read_goal f_read_goal d_read_goal)
    (a__law_draw : PySem.W.nsIn K mainGlobals "_law_draw" = some (some (.ref f__law_draw)))
    (F__law_draw : Fun K "_law_draw" "_law_draw" s__law_draw f__law_draw d__law_draw)
    (a__law_all : PySem.W.nsIn K mainGlobals "_law_all" = some (some (.ref f__law_all)))
    (F__law_all : Fun K "_law_all" "_law_all" s__law_all f__law_all d__law_all)
    (a__law_signs : PySem.W.nsIn K mainGlobals "_law_signs" = some (some (.ref f__law_signs)))
    (F__law_signs : Fun K "_law_signs" "_law_signs" s__law_signs f__law_signs d__law_signs)
    (a__law_rule : PySem.W.nsIn K mainGlobals "_law_rule" = some (some (.ref f__law_rule)))
    (F__law_rule : Fun K "_law_rule" "_law_rule" s__law_rule f__law_rule d__law_rule)
    (a__law_text : PySem.W.nsIn K mainGlobals "_law_text" = some (some (.ref f__law_text)))
    (F__law_text : Fun K "_law_text" "_law_text" s__law_text f__law_text d__law_text)
    (a__law_first : PySem.W.nsIn K mainGlobals "_law_first" = some (some (.ref f__law_first)))
    (F__law_first : Fun K "_law_first" "_law_first" s__law_first f__law_first d__law_first)
    (a__law_after : PySem.W.nsIn K mainGlobals "_law_after" = some (some (.ref f__law_after)))
    (F__law_after : Fun K "_law_after" "_law_after" s__law_after f__law_after d__law_after)
    (a__law_is_ring : PySem.W.nsIn K mainGlobals "_law_is_ring" = some (some (.ref f__law_is_ring)))
    (F__law_is_ring : Fun K "_law_is_ring" "_law_is_ring" s__law_is_ring f__law_is_ring d__law_is_ring)
    (a__law_calm : PySem.W.nsIn K mainGlobals "_law_calm" = some (some (.ref f__law_calm)))
    (F__law_calm : Fun K "_law_calm" "_law_calm" s__law_calm f__law_calm d__law_calm)
    (a__law_refused : PySem.W.nsIn K mainGlobals "_law_refused" = some (some (.ref f__law_refused)))
    (F__law_refused : Fun K "_law_refused" "_law_refused" s__law_refused f__law_refused d__law_refused)
    (a__law_left : PySem.W.nsIn K mainGlobals "_law_left" = some (some (.ref f__law_left)))
    (F__law_left : Fun K "_law_left" "_law_left" s__law_left f__law_left d__law_left)
    (a_law : PySem.W.nsIn K mainGlobals "law" = some (some (.ref f_law)))
    (F_law : Fun K "law" "law" s_law f_law d_law)
    (pg_Word : PySem.W.plainGet K c_Word Str.empty = true)
    (hd_Word : PySem.W.hasDictIn K c_Word = true)
    (po_Word : PySem.W.plainOver K c_Word = true)
    (sa_Word : PySem.W.findIn K (.ref c_Word) "__setattr__" = some (some (.builtin "object.__setattr__")))
    (mk_Word : PySem.W.makesIn K c_Word = true)
    (kc_Word : PySem.W.keepIn K (.ref c_Word) = true)
    (n_Word_wanted : PySem.W.findIn K (.ref c_Word) "wanted" = some none)
    (pg_One : PySem.W.plainGet K c_One Str.empty = true)
    (hd_One : PySem.W.hasDictIn K c_One = true)
    (po_One : PySem.W.plainOver K c_One = true)
    (sa_One : PySem.W.findIn K (.ref c_One) "__setattr__" = some (some (.builtin "object.__setattr__")))
    (mk_One : PySem.W.makesIn K c_One = true)
    (kc_One : PySem.W.keepIn K (.ref c_One) = true)
    (n_One_signs : PySem.W.findIn K (.ref c_One) "signs" = some none)
    (pg_Without : PySem.W.plainGet K c_Without Str.empty = true)
    (hd_Without : PySem.W.hasDictIn K c_Without = true)
    (po_Without : PySem.W.plainOver K c_Without = true)
    (sa_Without : PySem.W.findIn K (.ref c_Without) "__setattr__" = some (some (.builtin "object.__setattr__")))
    (mk_Without : PySem.W.makesIn K c_Without = true)
    (kc_Without : PySem.W.keepIn K (.ref c_Without) = true)
    (n_Without_signs : PySem.W.findIn K (.ref c_Without) "signs" = some none)
    (pg_Many : PySem.W.plainGet K c_Many Str.empty = true)
    (hd_Many : PySem.W.hasDictIn K c_Many = true)
    (po_Many : PySem.W.plainOver K c_Many = true)
    (sa_Many : PySem.W.findIn K (.ref c_Many) "__setattr__" = some (some (.builtin "object.__setattr__")))
    (mk_Many : PySem.W.makesIn K c_Many = true)
    (kc_Many : PySem.W.keepIn K (.ref c_Many) = true)
    (n_Many_signs : PySem.W.findIn K (.ref c_Many) "signs" = some none)
    (pg_Any : PySem.W.plainGet K c_Any Str.empty = true)
    (hd_Any : PySem.W.hasDictIn K c_Any = true)
    (po_Any : PySem.W.plainOver K c_Any = true)
    (sa_Any : PySem.W.findIn K (.ref c_Any) "__setattr__" = some (some (.builtin "object.__setattr__")))
    (mk_Any : PySem.W.makesIn K c_Any = true)
    (kc_Any : PySem.W.keepIn K (.ref c_Any) = true)
    (oi_Any : PySem.W.findIn K (.ref c_Any) "__init__" = some (some (.builtin "object.__init__")))
    (pg_Still : PySem.W.plainGet K c_Still Str.empty = true)
    (hd_Still : PySem.W.hasDictIn K c_Still = true)
    (po_Still : PySem.W.plainOver K c_Still = true)
    (sa_Still : PySem.W.findIn K (.ref c_Still) "__setattr__" = some (some (.builtin "object.__setattr__")))
    (mk_Still : PySem.W.makesIn K c_Still = true)
    (kc_Still : PySem.W.keepIn K (.ref c_Still) = true)
    (oi_Still : PySem.W.findIn K (.ref c_Still) "__init__" = some (some (.builtin "object.__init__")))
    (h_Still_eats : PySem.W.findIn K (.ref c_Still) "eats" = some (some (.ref f_Pattern_eats)))
    (pg_End : PySem.W.plainGet K c_End Str.empty = true)
    (hd_End : PySem.W.hasDictIn K c_End = true)
    (po_End : PySem.W.plainOver K c_End = true)
    (sa_End : PySem.W.findIn K (.ref c_End) "__setattr__" = some (some (.builtin "object.__setattr__")))
    (mk_End : PySem.W.makesIn K c_End = true)
    (kc_End : PySem.W.keepIn K (.ref c_End) = true)
    (oi_End : PySem.W.findIn K (.ref c_End) "__init__" = some (some (.builtin "object.__init__")))
    (h_End_eats : PySem.W.findIn K (.ref c_End) "eats" = some (some (.ref f_Pattern_eats)))
    (pg_Rule : PySem.W.plainGet K c_Rule Str.empty = true)
    (hd_Rule : PySem.W.hasDictIn K c_Rule = true)
    (po_Rule : PySem.W.plainOver K c_Rule = true)
    (sa_Rule : PySem.W.findIn K (.ref c_Rule) "__setattr__" = some (some (.builtin "object.__setattr__")))
    (mk_Rule : PySem.W.makesIn K c_Rule = true)
    (kc_Rule : PySem.W.keepIn K (.ref c_Rule) = true)
    (n_Rule_pattern : PySem.W.findIn K (.ref c_Rule) "pattern" = some none)
    (n_Rule_colour : PySem.W.findIn K (.ref c_Rule) "colour" = some none)
    (n_Rule_deed : PySem.W.findIn K (.ref c_Rule) "deed" = some none)
    (n_Rule_goal : PySem.W.findIn K (.ref c_Rule) "goal" = some none)
    (n_Rule_fold : PySem.W.findIn K (.ref c_Rule) "fold" = some none)
    (pg_Mode : PySem.W.plainGet K c_Mode Str.empty = true)
    (hd_Mode : PySem.W.hasDictIn K c_Mode = true)
    (po_Mode : PySem.W.plainOver K c_Mode = true)
    (sa_Mode : PySem.W.findIn K (.ref c_Mode) "__setattr__" = some (some (.builtin "object.__setattr__")))
    (mk_Mode : PySem.W.makesIn K c_Mode = true)
    (kc_Mode : PySem.W.keepIn K (.ref c_Mode) = true)
    (n_Mode_name : PySem.W.findIn K (.ref c_Mode) "name" = some none)
    (n_Mode_colour : PySem.W.findIn K (.ref c_Mode) "colour" = some none)
    (n_Mode_rules : PySem.W.findIn K (.ref c_Mode) "rules" = some none)
    (pg_Rules : PySem.W.plainGet K c_Rules Str.empty = true)
    (hd_Rules : PySem.W.hasDictIn K c_Rules = true)
    (po_Rules : PySem.W.plainOver K c_Rules = true)
    (sa_Rules : PySem.W.findIn K (.ref c_Rules) "__setattr__" = some (some (.builtin "object.__setattr__")))
    (mk_Rules : PySem.W.makesIn K c_Rules = true)
    (kc_Rules : PySem.W.keepIn K (.ref c_Rules) = true)
    (n_Rules_modes : PySem.W.findIn K (.ref c_Rules) "modes" = some none)
    (pg_Cursor : PySem.W.plainGet K c_Cursor Str.empty = true)
    (hd_Cursor : PySem.W.hasDictIn K c_Cursor = true)
    (po_Cursor : PySem.W.plainOver K c_Cursor = true)
    (sa_Cursor : PySem.W.findIn K (.ref c_Cursor) "__setattr__" = some (some (.builtin "object.__setattr__")))
    (mk_Cursor : PySem.W.makesIn K c_Cursor = true)
    (kc_Cursor : PySem.W.keepIn K (.ref c_Cursor) = true)
    (n_Cursor_row : PySem.W.findIn K (.ref c_Cursor) "row" = some none)
    (n_Cursor_words : PySem.W.findIn K (.ref c_Cursor) "words" = some none)
    (n_Cursor_at : PySem.W.findIn K (.ref c_Cursor) "at" = some none)
    (xcg : PySem.W.specialIn K (.builtin "object.__class__") "__get__" = some (some (.builtin "getset_descriptor.__get__")))
    (xct : PySem.W.takesIn K (.builtin "object.__class__") = some true)
    (xa_TintError : excC K c_TintError = true)
    (xg_TintError : PySem.W.findIn K (.ref c_TintError) "__getattribute__" = some (some (.builtin "BaseException.__getattribute__")))
    (xh_TintError : PySem.W.findIn K (.ref c_TintError) "__getattr__" = some none)
    (xb_TintError : PySem.W.mroIn K c_TintError (.type "BaseException") = some true)
    (xs_TintError : PySem.W.findIn K (.ref c_TintError) "__setattr__" = some (some (.builtin "object.__setattr__")))
    (xo_TintError : PySem.W.mroIn K c_TintError (.type "object") = some true)
    (xd_TintError : PySem.W.hasDictIn K c_TintError = true)
    (xc_TintError : PySem.W.findIn K (.ref c_TintError) "__class__" = some (some (.builtin "object.__class__")))
    (xn_TintError : PySem.W.excIn K c_TintError VE "ValueError.__new__" = true)
    (xa_Rings : excC K c_Rings = true)
    (xg_Rings : PySem.W.findIn K (.ref c_Rings) "__getattribute__" = some (some (.builtin "BaseException.__getattribute__")))
    (xh_Rings : PySem.W.findIn K (.ref c_Rings) "__getattr__" = some none)
    (xb_Rings : PySem.W.mroIn K c_Rings (.type "BaseException") = some true)
    (xs_Rings : PySem.W.findIn K (.ref c_Rings) "__setattr__" = some (some (.builtin "object.__setattr__")))
    (xo_Rings : PySem.W.mroIn K c_Rings (.type "object") = some true)
    (xd_Rings : PySem.W.hasDictIn K c_Rings = true)
    (xc_Rings : PySem.W.findIn K (.ref c_Rings) "__class__" = some (some (.builtin "object.__class__")))
    (xk_Rings : PySem.W.keepIn K (.ref c_Rings) = true)
    (n_Rings_ring : PySem.W.findIn K (.ref c_Rings) "ring" = some none)
    (n_Rings_sign : PySem.W.findIn K (.ref c_Rings) "sign" = some none)
    (tk_Rings_TintError : PySem.W.mroIn K c_Rings (.ref c_TintError) = some true)
    (sg_TintError : PySem.W.specialIn K (.ref c_TintError) "__getattribute__" = some (some (.builtin "type.__getattribute__")))
    (sr_TintError : PySem.W.readsIn K c_TintError (.type "type") = true)
    (sf_TintError : PySem.W.findCls K (.ref c_TintError) (.type "type") "__init__" = some (.val (.builtin "ValueError.__init__")))
    (kx_Rings_Rings : PySem.W.kitOne K (.ref c_Rings) (.ref c_Rings) = some true)
    (cg : PySem.W.specialIn K (.builtin "object.__class__") "__get__" = some (some (.builtin "getset_descriptor.__get__")))
    (ct : PySem.W.takesIn K (.builtin "object.__class__") = some true)
    (ty_Word : PySem.W.findIn K (.ref c_Word) "__class__" = some (some (.builtin "object.__class__")))
    (mr_Word : PySem.W.mroIn K c_Word (.type "object") = some true)
    (ty_One : PySem.W.findIn K (.ref c_One) "__class__" = some (some (.builtin "object.__class__")))
    (mr_One : PySem.W.mroIn K c_One (.type "object") = some true)
    (ty_Without : PySem.W.findIn K (.ref c_Without) "__class__" = some (some (.builtin "object.__class__")))
    (mr_Without : PySem.W.mroIn K c_Without (.type "object") = some true)
    (ty_Many : PySem.W.findIn K (.ref c_Many) "__class__" = some (some (.builtin "object.__class__")))
    (mr_Many : PySem.W.mroIn K c_Many (.type "object") = some true)
    (ty_Any : PySem.W.findIn K (.ref c_Any) "__class__" = some (some (.builtin "object.__class__")))
    (mr_Any : PySem.W.mroIn K c_Any (.type "object") = some true)
    (ty_Still : PySem.W.findIn K (.ref c_Still) "__class__" = some (some (.builtin "object.__class__")))
    (mr_Still : PySem.W.mroIn K c_Still (.type "object") = some true)
    (ty_End : PySem.W.findIn K (.ref c_End) "__class__" = some (some (.builtin "object.__class__")))
    (mr_End : PySem.W.mroIn K c_End (.type "object") = some true)
    (kit_Word_Word : PySem.W.kitOne K (.ref c_Word) (.ref c_Word) = some true)
    (kit_One_One : PySem.W.kitOne K (.ref c_One) (.ref c_One) = some true)
    (kit_Without_Without : PySem.W.kitOne K (.ref c_Without) (.ref c_Without) = some true)
    (kit_Many_Many : PySem.W.kitOne K (.ref c_Many) (.ref c_Many) = some true)
    (kit_Any_Any : PySem.W.kitOne K (.ref c_Any) (.ref c_Any) = some true)
    (kit_Still_Still : PySem.W.kitOne K (.ref c_Still) (.ref c_Still) = some true)
    (kit_End_End : PySem.W.kitOne K (.ref c_End) (.ref c_End) = some true)
    (kb_list_list : PySem.W.kitOne K (.type "list") (.type "list") = some true)
    (kb_str_str : PySem.W.kitOne K (.type "str") (.type "str") = some true)
    (v_LETTERS : PySem.W.nsIn K mainGlobals "LETTERS" = some (some (.str "abcdefghijklmnopqrstuvwxyz" u_LETTERS)))
    (v_LONGEST_NAME : PySem.W.nsIn K mainGlobals "LONGEST_NAME" = some (some (.int 8 u_LONGEST_NAME)))
    (v_START : PySem.W.nsIn K mainGlobals "START" = some (some (.int 0 u_START)))
    (v_SIGNS : PySem.W.nsIn K mainGlobals "SIGNS" = some (some (.str " !\"#$&'()*+,-./0123456789:;<=>?@ABCDEFGHIJKLMNOPQRSTUVWXYZ[\\]^_`abcdefghijklmnopqrstuvwxyz{|}~" u_SIGNS)))
    (v_MOST_MODES : PySem.W.nsIn K mainGlobals "MOST_MODES" = some (some (.int 12 u_MOST_MODES)))
    (v_MOST_RULES : PySem.W.nsIn K mainGlobals "MOST_RULES" = some (some (.int 12 u_MOST_RULES)))
    (v_PATTERNS : PySem.W.nsIn K mainGlobals "PATTERNS" = some (some (.ref g_PATTERNS)))
    (o_PATTERNS : K.lookup g_PATTERNS = some ⟨.type "tuple", od_PATTERNS, .seq #[.str "word" u0_PATTERNS, .str "one" u1_PATTERNS, .str "none" u2_PATTERNS, .str "many" u3_PATTERNS, .str "any" u4_PATTERNS, .str "still" u5_PATTERNS, .str "end" u6_PATTERNS] n_PATTERNS, sl_PATTERNS⟩)
    (v_DEEDS : PySem.W.nsIn K mainGlobals "DEEDS" = some (some (.ref g_DEEDS)))
    (o_DEEDS : K.lookup g_DEEDS = some ⟨.type "tuple", od_DEEDS, .seq #[.str "stay" u0_DEEDS, .str "push" u1_DEEDS, .str "pop" u2_DEEDS, .str "into" u3_DEEDS] n_DEEDS, sl_DEEDS⟩)
    (v_GOING : PySem.W.nsIn K mainGlobals "GOING" = some (some (.ref g_GOING)))
    (o_GOING : K.lookup g_GOING = some ⟨.type "tuple", od_GOING, .seq #[.str "push" u0_GOING, .str "into" u1_GOING] n_GOING, sl_GOING⟩)
    (v_FOLDS : PySem.W.nsIn K mainGlobals "FOLDS" = some (some (.ref g_FOLDS)))
    (o_FOLDS : K.lookup g_FOLDS = some ⟨.type "tuple", od_FOLDS, .seq #[.str "open" u0_FOLDS, .str "close" u1_FOLDS] n_FOLDS, sl_FOLDS⟩)
    (z_all : PySem.W.nsIn K mainGlobals "all" = some none)
    (z_enumerate : PySem.W.nsIn K mainGlobals "enumerate" = some none)
    (z_isinstance : PySem.W.nsIn K mainGlobals "isinstance" = some none)
    (z_len : PySem.W.nsIn K mainGlobals "len" = some none)
    (z_list : PySem.W.nsIn K mainGlobals "list" = some none)
    (z_max : PySem.W.nsIn K mainGlobals "max" = some none)
    (z_range : PySem.W.nsIn K mainGlobals "range" = some none)
    (z_str : PySem.W.nsIn K mainGlobals "str" = some none)
    (z_tuple : PySem.W.nsIn K mainGlobals "tuple" = some none)
    : ∃ fd : FuncData, (∀ (s : Shared) (v : Value), BindsTo s fd ⟨[v], []⟩ [("_law_script", v)]) ∧ ∀ base : Heap, K.In base → base.Ns mainGlobals mg → FnOk l.prog w K mg base CX0 8 fa fd ["_law_script"] (spLaw K) := by
  have e := hfa.symm.trans (PySem.W.mg_of X G a_law)
  cases e
  let t : Adr := ⟨c_TintError, c_NoRules, c_Rings, c_Pattern, c_Word, c_One, c_Without, c_Many, c_Any, c_Still, c_End, c_Rule, c_Mode, c_Rules, c_Cursor, f_Rings___init__, d_Rings___init__, f_Pattern_eaten, d_Pattern_eaten, f_Pattern_eats, d_Pattern_eats, f_Word___init__, d_Word___init__, f_Word_eaten, d_Word_eaten, f_Word_eats, d_Word_eats, f_One___init__, d_One___init__, f_One_eaten, d_One_eaten, f_One_eats, d_One_eats, f_Without___init__, d_Without___init__, f_Without_eaten, d_Without_eaten, f_Without_eats, d_Without_eats, f_Many___init__, d_Many___init__, f_Many_eaten, d_Many_eaten, f_Many_eats, d_Many_eats, f_Any_eaten, d_Any_eaten, f_Any_eats, d_Any_eats, f_Still_eaten, d_Still_eaten, f_End_eaten, d_End_eaten, f_is_name, d_is_name, f_Rule___init__, d_Rule___init__, f_Mode___init__, d_Mode___init__, f_Rules___init__, d_Rules___init__, f_first_rule, d_first_rule, f_do_deed, d_do_deed, f_ask_rings, d_ask_rings, f_ring_of, d_ring_of, f_short_rows, d_short_rows, f_ring_from, d_ring_from, f_idle_rule, d_idle_rule, f_Cursor___init__, d_Cursor___init__, f_Cursor_more, d_Cursor_more, f_Cursor_peek, d_Cursor_peek, f_Cursor_ask, d_Cursor_ask, f_Cursor_take, d_Cursor_take, f_Cursor_take_choice, d_Cursor_take_choice, f_Cursor_take_name, d_Cursor_take_name, f_Cursor_take_signs, d_Cursor_take_signs, f_read_rules, d_read_rules, f_mode_numbers, d_mode_numbers, f_read_mode, d_read_mode, f_read_rule, d_read_rule, f_read_pattern, d_read_pattern, f_read_goal, d_read_goal, f__law_draw, d__law_draw, f__law_all, d__law_all, f__law_signs, d__law_signs, f__law_rule, d__law_rule, f__law_text, d__law_text, f__law_first, d__law_first, f__law_after, d__law_after, f__law_is_ring, d__law_is_ring, f__law_calm, d__law_calm, f__law_refused, d__law_refused, f__law_left, d__law_left, g_PATTERNS, g_DEEDS, g_GOING, g_FOLDS⟩
  have T : Txt K mg t := ⟨PySem.W.mg_of X G a_TintError, PySem.W.mg_of X G a_NoRules, PySem.W.mg_of X G a_Rings, PySem.W.mg_of X G a_Pattern, PySem.W.mg_of X G a_Word, PySem.W.mg_of X G a_One, PySem.W.mg_of X G a_Without, PySem.W.mg_of X G a_Many, PySem.W.mg_of X G a_Any, PySem.W.mg_of X G a_Still, PySem.W.mg_of X G a_End, PySem.W.mg_of X G a_Rule, PySem.W.mg_of X G a_Mode, PySem.W.mg_of X G a_Rules, PySem.W.mg_of X G a_Cursor, F_Rings___init__, F_Pattern_eaten, F_Pattern_eats, F_Word___init__, F_Word_eaten, F_Word_eats, F_One___init__, F_One_eaten, F_One_eats, F_Without___init__, F_Without_eaten, F_Without_eats, F_Many___init__, F_Many_eaten, F_Many_eats, F_Any_eaten, F_Any_eats, F_Still_eaten, F_End_eaten, F_Rule___init__, F_Mode___init__, F_Rules___init__, F_Cursor___init__, F_Cursor_more, F_Cursor_peek, F_Cursor_ask, F_Cursor_take, F_Cursor_take_choice, F_Cursor_take_name, F_Cursor_take_signs, F_is_name, PySem.W.mg_of X G a_is_name, F_first_rule, PySem.W.mg_of X G a_first_rule, F_do_deed, PySem.W.mg_of X G a_do_deed, F_ask_rings, PySem.W.mg_of X G a_ask_rings, F_ring_of, PySem.W.mg_of X G a_ring_of, F_short_rows, PySem.W.mg_of X G a_short_rows, F_ring_from, PySem.W.mg_of X G a_ring_from, F_idle_rule, PySem.W.mg_of X G a_idle_rule, F_read_rules, PySem.W.mg_of X G a_read_rules, F_mode_numbers, PySem.W.mg_of X G a_mode_numbers, F_read_mode, PySem.W.mg_of X G a_read_mode, F_read_rule, PySem.W.mg_of X G a_read_rule, F_read_pattern, PySem.W.mg_of X G a_read_pattern, F_read_goal, PySem.W.mg_of X G a_read_goal, F__law_draw, PySem.W.mg_of X G a__law_draw, F__law_all, PySem.W.mg_of X G a__law_all, F__law_signs, PySem.W.mg_of X G a__law_signs, F__law_rule, PySem.W.mg_of X G a__law_rule, F__law_text, PySem.W.mg_of X G a__law_text, F__law_first, PySem.W.mg_of X G a__law_first, F__law_after, PySem.W.mg_of X G a__law_after, F__law_is_ring, PySem.W.mg_of X G a__law_is_ring, F__law_calm, PySem.W.mg_of X G a__law_calm, F__law_refused, PySem.W.mg_of X G a__law_refused, F__law_left, PySem.W.mg_of X G a__law_left, ⟨pg_Word, hd_Word, po_Word, sa_Word⟩, ⟨mk_Word, a_Word___init__, i_Word___init__, kc_Word⟩, n_Word_wanted, ⟨a_Word_eaten, i_Word_eaten, F_Word_eaten.kp⟩, ⟨a_Word_eats, i_Word_eats, F_Word_eats.kp⟩, ⟨pg_One, hd_One, po_One, sa_One⟩, ⟨mk_One, a_One___init__, i_One___init__, kc_One⟩, n_One_signs, ⟨a_One_eaten, i_One_eaten, F_One_eaten.kp⟩, ⟨a_One_eats, i_One_eats, F_One_eats.kp⟩, ⟨pg_Without, hd_Without, po_Without, sa_Without⟩, ⟨mk_Without, a_Without___init__, i_Without___init__, kc_Without⟩, n_Without_signs, ⟨a_Without_eaten, i_Without_eaten, F_Without_eaten.kp⟩, ⟨a_Without_eats, i_Without_eats, F_Without_eats.kp⟩, ⟨pg_Many, hd_Many, po_Many, sa_Many⟩, ⟨mk_Many, a_Many___init__, i_Many___init__, kc_Many⟩, n_Many_signs, ⟨a_Many_eaten, i_Many_eaten, F_Many_eaten.kp⟩, ⟨a_Many_eats, i_Many_eats, F_Many_eats.kp⟩, ⟨pg_Any, hd_Any, po_Any, sa_Any⟩, ⟨mk_Any, oi_Any, kc_Any⟩, ⟨a_Any_eaten, i_Any_eaten, F_Any_eaten.kp⟩, ⟨a_Any_eats, i_Any_eats, F_Any_eats.kp⟩, ⟨pg_Still, hd_Still, po_Still, sa_Still⟩, ⟨mk_Still, oi_Still, kc_Still⟩, ⟨a_Still_eaten, i_Still_eaten, F_Still_eaten.kp⟩, ⟨h_Still_eats, i_Pattern_eats, F_Pattern_eats.kp⟩, ⟨pg_End, hd_End, po_End, sa_End⟩, ⟨mk_End, oi_End, kc_End⟩, ⟨a_End_eaten, i_End_eaten, F_End_eaten.kp⟩, ⟨h_End_eats, i_Pattern_eats, F_Pattern_eats.kp⟩, ⟨pg_Rule, hd_Rule, po_Rule, sa_Rule⟩, ⟨mk_Rule, a_Rule___init__, i_Rule___init__, kc_Rule⟩, n_Rule_pattern, n_Rule_colour, n_Rule_deed, n_Rule_goal, n_Rule_fold, ⟨pg_Mode, hd_Mode, po_Mode, sa_Mode⟩, ⟨mk_Mode, a_Mode___init__, i_Mode___init__, kc_Mode⟩, n_Mode_name, n_Mode_colour, n_Mode_rules, ⟨pg_Rules, hd_Rules, po_Rules, sa_Rules⟩, ⟨mk_Rules, a_Rules___init__, i_Rules___init__, kc_Rules⟩, n_Rules_modes, ⟨pg_Cursor, hd_Cursor, po_Cursor, sa_Cursor⟩, ⟨mk_Cursor, a_Cursor___init__, i_Cursor___init__, kc_Cursor⟩, n_Cursor_row, n_Cursor_words, n_Cursor_at, ⟨a_Cursor_more, i_Cursor_more, F_Cursor_more.kp⟩, ⟨a_Cursor_peek, i_Cursor_peek, F_Cursor_peek.kp⟩, ⟨a_Cursor_ask, i_Cursor_ask, F_Cursor_ask.kp⟩, ⟨a_Cursor_take, i_Cursor_take, F_Cursor_take.kp⟩, ⟨a_Cursor_take_choice, i_Cursor_take_choice, F_Cursor_take_choice.kp⟩, ⟨a_Cursor_take_name, i_Cursor_take_name, F_Cursor_take_name.kp⟩, ⟨a_Cursor_take_signs, i_Cursor_take_signs, F_Cursor_take_signs.kp⟩, { at_ := xa_TintError, ge := ⟨xg_TintError, xh_TintError, xb_TintError⟩, sa := xs_TintError, ob := xo_TintError, hd := xd_TintError, ca := xc_TintError, cg := xcg, ct := xct }, xn_TintError, { at_ := xa_Rings, ge := ⟨xg_Rings, xh_Rings, xb_Rings⟩, sa := xs_Rings, ob := xo_Rings, hd := xd_Rings, ca := xc_Rings, cg := xcg, ct := xct }, ⟨a_Rings___init__, i_Rings___init__, xk_Rings⟩, n_Rings_ring, n_Rings_sign, tk_Rings_TintError, ⟨sg_TintError, sr_TintError, sf_TintError⟩, kx_Rings_Rings, cg, ct, ty_Word, mr_Word, ty_One, mr_One, ty_Without, mr_Without, ty_Many, mr_Many, ty_Any, mr_Any, ty_Still, mr_Still, ty_End, mr_End, kit_Word_Word, kit_One_One, kit_Without_Without, kit_Many_Many, kit_Any_Any, kit_Still_Still, kit_End_End, kb_list_list, kb_str_str, ⟨_, PySem.W.mg_of X G v_LETTERS, ⟨_, rfl⟩⟩, ⟨_, PySem.W.mg_of X G v_LONGEST_NAME, ⟨_, rfl⟩⟩, ⟨_, PySem.W.mg_of X G v_START, ⟨_, rfl⟩⟩, ⟨_, PySem.W.mg_of X G v_SIGNS, ⟨_, rfl⟩⟩, ⟨_, PySem.W.mg_of X G v_MOST_MODES, ⟨_, rfl⟩⟩, ⟨_, PySem.W.mg_of X G v_MOST_RULES, ⟨_, rfl⟩⟩, PySem.W.mg_of X G v_PATTERNS, fun H => .inr ⟨_, _, _, o_PATTERNS, rfl, rfl, by show 7 ≤ sizeLine; decide, .cons ⟨_, rfl⟩ (.cons ⟨_, rfl⟩ (.cons ⟨_, rfl⟩ (.cons ⟨_, rfl⟩ (.cons ⟨_, rfl⟩ (.cons ⟨_, rfl⟩ (.cons ⟨_, rfl⟩ (.nil)))))))⟩, PySem.W.mg_of X G v_DEEDS, fun H => .inr ⟨_, _, _, o_DEEDS, rfl, rfl, by show 4 ≤ sizeLine; decide, .cons ⟨_, rfl⟩ (.cons ⟨_, rfl⟩ (.cons ⟨_, rfl⟩ (.cons ⟨_, rfl⟩ (.nil))))⟩, PySem.W.mg_of X G v_GOING, fun H => .inr ⟨_, _, _, o_GOING, rfl, rfl, by show 2 ≤ sizeLine; decide, .cons ⟨_, rfl⟩ (.cons ⟨_, rfl⟩ (.nil))⟩, PySem.W.mg_of X G v_FOLDS, fun H => .inr ⟨_, _, _, o_FOLDS, rfl, rfl, by show 2 ≤ sizeLine; decide, .cons ⟨_, rfl⟩ (.cons ⟨_, rfl⟩ (.nil))⟩, PySem.W.mg_none_of X G z_all, PySem.W.mg_none_of X G z_enumerate, PySem.W.mg_none_of X G z_isinstance, PySem.W.mg_none_of X G z_len, PySem.W.mg_none_of X G z_list, PySem.W.mg_none_of X G z_max, PySem.W.mg_none_of X G z_range, PySem.W.mg_none_of X G z_str, PySem.W.mg_none_of X G z_tuple⟩
  exact ⟨d_law, (by obtain ⟨_, _, _, _, _, _, _, _, _, e, _⟩ := F_law.ex; rw [e]; exact fun s v => .of_eq rfl), fun base _ _ => ok_law F_law T⟩
theorem walk {l : PySem.W.OpenLaw} {q : Program} {loose : List Str} {XP : (Str → Option Value) → Heap → Prop} {YP : World → Heap → Prop} {d : DefRec} {K : Params → PySem.W.Frag} (hn : l.most = some 63) (hdf : d.params.defaults = [])
    (hY : ∀ (w : World) (h : Heap), YP w h → (K w.params).In h)
    (F : ∀ (w : World) (mg : Str → Option Value) (fa : Addr) (h : Heap), (K w.params).In h → h.Ns mainGlobals mg → mg d.name = some (.ref fa) →
      ∃ fd : FuncData, (∀ (s : Shared) (u : Value), BindsTo s fd ⟨[u], []⟩ [("_law_script", u)]) ∧ ∀ base : Heap, (K w.params).In base → base.Ns mainGlobals mg → FnOk l.prog w (K w.params) mg base CX0 8 fa fd ["_law_script"] (spLaw (K w.params))) :
    PySem.W.WalkO q loose XP YP l.row.toRowW d [] (fun f vs => PySem.call f vs) :=
  L2.walk_of (n := 63) (k := 8) (x := "_law_script") (CX := fun _ => CX0) (sp := fun w => spLaw (K w.params)) hn (by decide) hdf ⟨rfl, by decide, by decide⟩ hY F (fun _ _ a ns hl _ hS => ⟨a, ns, rfl, hS, hl, fun _ => rfl⟩) fun _ _ _ _ _ z => z
end K05
open PySem PySem.W PyProof.Rows
set_option maxRecDepth 100000 in
set_option maxHeartbeats 0 in
theorem PySem.Challenge.cw_tintrow_k05_whole_rings_holds : PySem.Challenge.rw_tintrow_k05_whole_rings.Holds := by
  w_on; o_law; k_head; (case hw => w_witness2)
  k_fill
  refine K05.walk (l := PySem.Challenge.rw_tintrow_k05_whole_rings) rfl rfl (fun w h Y => PySem.W.kIn_of Y) ?F
  case F =>
    intro w mg fa h KX G hmg
    refine' K05.all_mk KX G hmg ?a_TintError ?a_NoRules ?a_Rings ?a_Pattern ?a_Word ?a_One ?a_Without ?a_Many ?a_Any ?a_Still ?a_End ?a_Rule ?a_Mode ?a_Rules ?a_Cursor ?a_Rings___init__ ?i_Rings___init__ ?F_Rings___init__ ?a_Pattern_eaten ?i_Pattern_eaten ?F_Pattern_eaten ?a_Pattern_eats ?i_Pattern_eats ?F_Pattern_eats ?a_Word___init__ ?i_Word___init__ ?F_Word___init__ ?a_Word_eaten ?i_Word_eaten ?F_Word_eaten ?a_Word_eats ?i_Word_eats ?F_Word_eats ?a_One___init__ ?i_One___init__ ?F_One___init__ ?a_One_eaten ?i_One_eaten ?F_One_eaten ?a_One_eats ?i_One_eats ?F_One_eats ?a_Without___init__ ?i_Without___init__ ?F_Without___init__ ?a_Without_eaten ?i_Without_eaten ?F_Without_eaten ?a_Without_eats ?i_Without_eats ?F_Without_eats ?a_Many___init__ ?i_Many___init__ ?F_Many___init__ ?a_Many_eaten ?i_Many_eaten ?F_Many_eaten ?a_Many_eats ?i_Many_eats ?F_Many_eats ?a_Any_eaten ?i_Any_eaten ?F_Any_eaten ?a_Any_eats ?i_Any_eats ?F_Any_eats ?a_Still_eaten ?i_Still_eaten ?F_Still_eaten ?a_End_eaten ?i_End_eaten ?F_End_eaten ?a_Rule___init__ ?i_Rule___init__ ?F_Rule___init__ ?a_Mode___init__ ?i_Mode___init__ ?F_Mode___init__ ?a_Rules___init__ ?i_Rules___init__ ?F_Rules___init__ ?a_Cursor___init__ ?i_Cursor___init__ ?F_Cursor___init__ ?a_Cursor_more ?i_Cursor_more ?F_Cursor_more ?a_Cursor_peek ?i_Cursor_peek ?F_Cursor_peek ?a_Cursor_ask ?i_Cursor_ask ?F_Cursor_ask ?a_Cursor_take ?i_Cursor_take ?F_Cursor_take ?a_Cursor_take_choice ?i_Cursor_take_choice ?F_Cursor_take_choice ?a_Cursor_take_name ?i_Cursor_take_name ?F_Cursor_take_name ?a_Cursor_take_signs ?i_Cursor_take_signs ?F_Cursor_take_signs ?a_is_name ?F_is_name ?a_first_rule ?F_first_rule ?a_do_deed ?F_do_deed ?a_ask_rings ?F_ask_rings ?a_ring_of ?F_ring_of ?a_short_rows ?F_short_rows ?a_ring_from ?F_ring_from ?a_idle_rule ?F_idle_rule ?a_read_rules ?F_read_rules ?a_mode_numbers ?F_mode_numbers ?a_read_mode ?F_read_mode ?a_read_rule ?F_read_rule ?a_read_pattern ?F_read_pattern ?a_read_goal ?F_read_goal ?a__law_draw ?F__law_draw ?a__law_all ?F__law_all ?a__law_signs ?F__law_signs ?a__law_rule ?F__law_rule ?a__law_text ?F__law_text ?a__law_first ?F__law_first ?a__law_after ?F__law_after ?a__law_is_ring ?F__law_is_ring ?a__law_calm ?F__law_calm ?a__law_refused ?F__law_refused ?a__law_left ?F__law_left ?a_law ?F_law ?pg_Word ?hd_Word ?po_Word ?sa_Word ?mk_Word ?kc_Word ?n_Word_wanted ?pg_One ?hd_One ?po_One ?sa_One ?mk_One ?kc_One ?n_One_signs ?pg_Without ?hd_Without ?po_Without ?sa_Without ?mk_Without ?kc_Without ?n_Without_signs ?pg_Many ?hd_Many ?po_Many ?sa_Many ?mk_Many ?kc_Many ?n_Many_signs ?pg_Any ?hd_Any ?po_Any ?sa_Any ?mk_Any ?kc_Any ?oi_Any ?pg_Still ?hd_Still ?po_Still ?sa_Still ?mk_Still ?kc_Still ?oi_Still ?h_Still_eats ?pg_End ?hd_End ?po_End ?sa_End ?mk_End ?kc_End ?oi_End ?h_End_eats ?pg_Rule ?hd_Rule ?po_Rule ?sa_Rule ?mk_Rule ?kc_Rule ?n_Rule_pattern ?n_Rule_colour ?n_Rule_deed ?n_Rule_goal ?n_Rule_fold ?pg_Mode ?hd_Mode ?po_Mode ?sa_Mode ?mk_Mode ?kc_Mode ?n_Mode_name ?n_Mode_colour ?n_Mode_rules ?pg_Rules ?hd_Rules ?po_Rules ?sa_Rules ?mk_Rules ?kc_Rules ?n_Rules_modes ?pg_Cursor ?hd_Cursor ?po_Cursor ?sa_Cursor ?mk_Cursor ?kc_Cursor ?n_Cursor_row ?n_Cursor_words ?n_Cursor_at ?xcg ?xct ?xa_TintError ?xg_TintError ?xh_TintError ?xb_TintError ?xs_TintError ?xo_TintError ?xd_TintError ?xc_TintError ?xn_TintError ?xa_Rings ?xg_Rings ?xh_Rings ?xb_Rings ?xs_Rings ?xo_Rings ?xd_Rings ?xc_Rings ?xk_Rings ?n_Rings_ring ?n_Rings_sign ?tk_Rings_TintError ?sg_TintError ?sr_TintError ?sf_TintError ?kx_Rings_Rings ?cg ?ct ?ty_Word ?mr_Word ?ty_One ?mr_One ?ty_Without ?mr_Without ?ty_Many ?mr_Many ?ty_Any ?mr_Any ?ty_Still ?mr_Still ?ty_End ?mr_End ?kit_Word_Word ?kit_One_One ?kit_Without_Without ?kit_Many_Many ?kit_Any_Any ?kit_Still_Still ?kit_End_End ?kb_list_list ?kb_str_str ?v_LETTERS ?v_LONGEST_NAME ?v_START ?v_SIGNS ?v_MOST_MODES ?v_MOST_RULES ?v_PATTERNS ?o_PATTERNS ?v_DEEDS ?o_DEEDS ?v_GOING ?o_GOING ?v_FOLDS ?o_FOLDS ?z_all ?z_enumerate ?z_isinstance ?z_len ?z_list ?z_max ?z_range ?z_str ?z_tuple
    (case a_TintError => k_is)
    (case a_NoRules => k_is)
    (case a_Rings => k_is)
    (case a_Pattern => k_is)
    (case a_Word => k_is)
    (case a_One => k_is)
    (case a_Without => k_is)
    (case a_Many => k_is)
    (case a_Any => k_is)
    (case a_Still => k_is)
    (case a_End => k_is)
    (case a_Rule => k_is)
    (case a_Mode => k_is)
    (case a_Rules => k_is)
    (case a_Cursor => k_is)
    (case a_Rings___init__ => k_is)
    (case i_Rings___init__ => k_is)
    (case F_Rings___init__ => (apply L2.fun_mk <;> k_is))
    (case a_Pattern_eaten => k_is)
    (case i_Pattern_eaten => k_is)
    (case F_Pattern_eaten => (apply L2.fun_mk <;> k_is))
    (case a_Pattern_eats => k_is)
    (case i_Pattern_eats => k_is)
    (case F_Pattern_eats => (apply L2.fun_mk <;> k_is))
    (case a_Word___init__ => k_is)
    (case i_Word___init__ => k_is)
    (case F_Word___init__ => (apply L2.fun_mk <;> k_is))
    (case a_Word_eaten => k_is)
    (case i_Word_eaten => k_is)
    (case F_Word_eaten => (apply L2.fun_mk <;> k_is))
    (case a_Word_eats => k_is)
    (case i_Word_eats => k_is)
    (case F_Word_eats => (apply L2.fun_mk <;> k_is))
    (case a_One___init__ => k_is)
    (case i_One___init__ => k_is)
    (case F_One___init__ => (apply L2.fun_mk <;> k_is))
    (case a_One_eaten => k_is)
    (case i_One_eaten => k_is)
    (case F_One_eaten => (apply L2.fun_mk <;> k_is))
    (case a_One_eats => k_is)
    (case i_One_eats => k_is)
    (case F_One_eats => (apply L2.fun_mk <;> k_is))
    (case a_Without___init__ => k_is)
    (case i_Without___init__ => k_is)
    (case F_Without___init__ => (apply L2.fun_mk <;> k_is))
    (case a_Without_eaten => k_is)
    (case i_Without_eaten => k_is)
    (case F_Without_eaten => (apply L2.fun_mk <;> k_is))
    (case a_Without_eats => k_is)
    (case i_Without_eats => k_is)
    (case F_Without_eats => (apply L2.fun_mk <;> k_is))
    (case a_Many___init__ => k_is)
    (case i_Many___init__ => k_is)
    (case F_Many___init__ => (apply L2.fun_mk <;> k_is))
    (case a_Many_eaten => k_is)
    (case i_Many_eaten => k_is)
    (case F_Many_eaten => (apply L2.fun_mk <;> k_is))
    (case a_Many_eats => k_is)
    (case i_Many_eats => k_is)
    (case F_Many_eats => (apply L2.fun_mk <;> k_is))
    (case a_Any_eaten => k_is)
    (case i_Any_eaten => k_is)
    (case F_Any_eaten => (apply L2.fun_mk <;> k_is))
    (case a_Any_eats => k_is)
    (case i_Any_eats => k_is)
    (case F_Any_eats => (apply L2.fun_mk <;> k_is))
    (case a_Still_eaten => k_is)
    (case i_Still_eaten => k_is)
    (case F_Still_eaten => (apply L2.fun_mk <;> k_is))
    (case a_End_eaten => k_is)
    (case i_End_eaten => k_is)
    (case F_End_eaten => (apply L2.fun_mk <;> k_is))
    (case a_Rule___init__ => k_is)
    (case i_Rule___init__ => k_is)
    (case F_Rule___init__ => (apply L2.fun_mk <;> k_is))
    (case a_Mode___init__ => k_is)
    (case i_Mode___init__ => k_is)
    (case F_Mode___init__ => (apply L2.fun_mk <;> k_is))
    (case a_Rules___init__ => k_is)
    (case i_Rules___init__ => k_is)
    (case F_Rules___init__ => (apply L2.fun_mk <;> k_is))
    (case a_Cursor___init__ => k_is)
    (case i_Cursor___init__ => k_is)
    (case F_Cursor___init__ => (apply L2.fun_mk <;> k_is))
    (case a_Cursor_more => k_is)
    (case i_Cursor_more => k_is)
    (case F_Cursor_more => (apply L2.fun_mk <;> k_is))
    (case a_Cursor_peek => k_is)
    (case i_Cursor_peek => k_is)
    (case F_Cursor_peek => (apply L2.fun_mk <;> k_is))
    (case a_Cursor_ask => k_is)
    (case i_Cursor_ask => k_is)
    (case F_Cursor_ask => (apply L2.fun_mk <;> k_is))
    (case a_Cursor_take => k_is)
    (case i_Cursor_take => k_is)
    (case F_Cursor_take => (apply L2.fun_mk <;> k_is))
    (case a_Cursor_take_choice => k_is)
    (case i_Cursor_take_choice => k_is)
    (case F_Cursor_take_choice => (apply L2.fun_mk <;> k_is))
    (case a_Cursor_take_name => k_is)
    (case i_Cursor_take_name => k_is)
    (case F_Cursor_take_name => (apply L2.fun_mk <;> k_is))
    (case a_Cursor_take_signs => k_is)
    (case i_Cursor_take_signs => k_is)
    (case F_Cursor_take_signs => (apply L2.fun_mk <;> k_is))
    (case a_is_name => k_is)
    (case F_is_name => (apply L2.fun_mk <;> k_is))
    (case a_first_rule => k_is)
    (case F_first_rule => (apply L2.fun_mk <;> k_is))
    (case a_do_deed => k_is)
    (case F_do_deed => (apply L2.fun_mk <;> k_is))
    (case a_ask_rings => k_is)
    (case F_ask_rings => (apply L2.fun_mk <;> k_is))
    (case a_ring_of => k_is)
    (case F_ring_of => (apply L2.fun_mk <;> k_is))
    (case a_short_rows => k_is)
    (case F_short_rows => (apply L2.fun_mk <;> k_is))
    (case a_ring_from => k_is)
    (case F_ring_from => (apply L2.fun_mk <;> k_is))
    (case a_idle_rule => k_is)
    (case F_idle_rule => (apply L2.fun_mk <;> k_is))
    (case a_read_rules => k_is)
    (case F_read_rules => (apply L2.fun_mk <;> k_is))
    (case a_mode_numbers => k_is)
    (case F_mode_numbers => (apply L2.fun_mk <;> k_is))
    (case a_read_mode => k_is)
    (case F_read_mode => (apply L2.fun_mk <;> k_is))
    (case a_read_rule => k_is)
    (case F_read_rule => (apply L2.fun_mk <;> k_is))
    (case a_read_pattern => k_is)
    (case F_read_pattern => (apply L2.fun_mk <;> k_is))
    (case a_read_goal => k_is)
    (case F_read_goal => (apply L2.fun_mk <;> k_is))
    (case a__law_draw => k_is)
    (case F__law_draw => (apply L2.fun_mk <;> k_is))
    (case a__law_all => k_is)
    (case F__law_all => (apply L2.fun_mk <;> k_is))
    (case a__law_signs => k_is)
    (case F__law_signs => (apply L2.fun_mk <;> k_is))
    (case a__law_rule => k_is)
    (case F__law_rule => (apply L2.fun_mk <;> k_is))
    (case a__law_text => k_is)
    (case F__law_text => (apply L2.fun_mk <;> k_is))
    (case a__law_first => k_is)
    (case F__law_first => (apply L2.fun_mk <;> k_is))
    (case a__law_after => k_is)
    (case F__law_after => (apply L2.fun_mk <;> k_is))
    (case a__law_is_ring => k_is)
    (case F__law_is_ring => (apply L2.fun_mk <;> k_is))
    (case a__law_calm => k_is)
    (case F__law_calm => (apply L2.fun_mk <;> k_is))
    (case a__law_refused => k_is)
    (case F__law_refused => (apply L2.fun_mk <;> k_is))
    (case a__law_left => k_is)
    (case F__law_left => (apply L2.fun_mk <;> k_is))
    (case a_law => k_is)
    (case F_law => (apply L2.fun_mk <;> k_is))
    (case pg_Word => k_is)
    (case hd_Word => k_is)
    (case po_Word => k_is)
    (case sa_Word => k_is)
    (case mk_Word => k_is)
    (case kc_Word => k_is)
    (case n_Word_wanted => k_is)
    (case pg_One => k_is)
    (case hd_One => k_is)
    (case po_One => k_is)
    (case sa_One => k_is)
    (case mk_One => k_is)
    (case kc_One => k_is)
    (case n_One_signs => k_is)
    (case pg_Without => k_is)
    (case hd_Without => k_is)
    (case po_Without => k_is)
    (case sa_Without => k_is)
    (case mk_Without => k_is)
    (case kc_Without => k_is)
    (case n_Without_signs => k_is)
    (case pg_Many => k_is)
    (case hd_Many => k_is)
    (case po_Many => k_is)
    (case sa_Many => k_is)
    (case mk_Many => k_is)
    (case kc_Many => k_is)
    (case n_Many_signs => k_is)
    (case pg_Any => k_is)
    (case hd_Any => k_is)
    (case po_Any => k_is)
    (case sa_Any => k_is)
    (case mk_Any => k_is)
    (case kc_Any => k_is)
    (case oi_Any => k_is)
    (case pg_Still => k_is)
    (case hd_Still => k_is)
    (case po_Still => k_is)
    (case sa_Still => k_is)
    (case mk_Still => k_is)
    (case kc_Still => k_is)
    (case oi_Still => k_is)
    (case h_Still_eats => k_is)
    (case pg_End => k_is)
    (case hd_End => k_is)
    (case po_End => k_is)
    (case sa_End => k_is)
    (case mk_End => k_is)
    (case kc_End => k_is)
    (case oi_End => k_is)
    (case h_End_eats => k_is)
    (case pg_Rule => k_is)
    (case hd_Rule => k_is)
    (case po_Rule => k_is)
    (case sa_Rule => k_is)
    (case mk_Rule => k_is)
    (case kc_Rule => k_is)
    (case n_Rule_pattern => k_is)
    (case n_Rule_colour => k_is)
    (case n_Rule_deed => k_is)
    (case n_Rule_goal => k_is)
    (case n_Rule_fold => k_is)
    (case pg_Mode => k_is)
    (case hd_Mode => k_is)
    (case po_Mode => k_is)
    (case sa_Mode => k_is)
    (case mk_Mode => k_is)
    (case kc_Mode => k_is)
    (case n_Mode_name => k_is)
    (case n_Mode_colour => k_is)
    (case n_Mode_rules => k_is)
    (case pg_Rules => k_is)
    (case hd_Rules => k_is)
    (case po_Rules => k_is)
    (case sa_Rules => k_is)
    (case mk_Rules => k_is)
    (case kc_Rules => k_is)
    (case n_Rules_modes => k_is)
    (case pg_Cursor => k_is)
    (case hd_Cursor => k_is)
    (case po_Cursor => k_is)
    (case sa_Cursor => k_is)
    (case mk_Cursor => k_is)
    (case kc_Cursor => k_is)
    (case n_Cursor_row => k_is)
    (case n_Cursor_words => k_is)
    (case n_Cursor_at => k_is)
    (case xcg => k_is)
    (case xct => k_is)
    (case xa_TintError => kernel_rfl)
    (case xg_TintError => k_is)
    (case xh_TintError => k_is)
    (case xb_TintError => k_is)
    (case xs_TintError => k_is)
    (case xo_TintError => k_is)
    (case xd_TintError => k_is)
    (case xc_TintError => k_is)
    (case xn_TintError => k_exc)
    (case xa_Rings => kernel_rfl)
    (case xg_Rings => k_is)
    (case xh_Rings => k_is)
    (case xb_Rings => k_is)
    (case xs_Rings => k_is)
    (case xo_Rings => k_is)
    (case xd_Rings => k_is)
    (case xc_Rings => k_is)
    (case xk_Rings => k_is)
    (case n_Rings_ring => k_is)
    (case n_Rings_sign => k_is)
    (case tk_Rings_TintError => k_is)
    (case sg_TintError => k_is)
    (case sr_TintError => k_is)
    (case sf_TintError => k_is)
    (case kx_Rings_Rings => kit_is)
    (case cg => k_is)
    (case ct => k_is)
    (case ty_Word => k_is)
    (case mr_Word => k_is)
    (case ty_One => k_is)
    (case mr_One => k_is)
    (case ty_Without => k_is)
    (case mr_Without => k_is)
    (case ty_Many => k_is)
    (case mr_Many => k_is)
    (case ty_Any => k_is)
    (case mr_Any => k_is)
    (case ty_Still => k_is)
    (case mr_Still => k_is)
    (case ty_End => k_is)
    (case mr_End => k_is)
    (case kit_Word_Word => kit_is)
    (case kit_One_One => kit_is)
    (case kit_Without_Without => kit_is)
    (case kit_Many_Many => kit_is)
    (case kit_Any_Any => kit_is)
    (case kit_Still_Still => kit_is)
    (case kit_End_End => kit_is)
    (case kb_list_list => kit_is)
    (case kb_str_str => kit_is)
    (case v_LETTERS => k_is)
    (case v_LONGEST_NAME => k_is)
    (case v_START => k_is)
    (case v_SIGNS => k_is)
    (case v_MOST_MODES => k_is)
    (case v_MOST_RULES => k_is)
    (case v_PATTERNS => k_is)
    (case o_PATTERNS => k_is)
    (case v_DEEDS => k_is)
    (case o_DEEDS => k_is)
    (case v_GOING => k_is)
    (case o_GOING => k_is)
    (case v_FOLDS => k_is)
    (case o_FOLDS => k_is)
    (case z_all => k_is)
    (case z_enumerate => k_is)
    (case z_isinstance => k_is)
    (case z_len => k_is)
    (case z_list => k_is)
    (case z_max => k_is)
    (case z_range => k_is)
    (case z_str => k_is)
    (case z_tuple => k_is)
