import PyProof.Rows.All
import Wide.All
import OpenK.AllK
import Wide.FinOn
import PyProof.EqAt
import PyProof.EqKinds
import PyProof.TupleCall
import PyProof.ListStr
import PyProof.EnumFor
import PyProof.EnumMake
import PyProof.EnumStmt
import PyProof.StrLawsTight
import PyProof.StrLawsReplace
import PyProof.StrCalls6
import PyProof.ToksMono
import PyProof.CompMap
import KE.KListMore
import PySem.Challenge.RW_tintrow_k07_rules_that_never_come
set_option Elab.async false
set_option linter.all false
set_option maxRecDepth 100000
namespace L2
open PySem PySem.Spec PyProof.Rows

/-- a key: an int or a str -/
abbrev Key := Sum Int Str
def keyIs : Key → Value → Bool
  | .inl k, v => Value.isInt k v
  | .inr x, v => Value.isStrOf x v
def keyH (w : World) : Key → Int
  | .inl k => hashInt k
  | .inr x => hashStr w x
theorem keyIs_shape : ∀ {k : Key} {v : Value}, keyIs k v = true → (∃ i t, k = Sum.inl i ∧ v = Value.int i t) ∨ (∃ x t, k = Sum.inr x ∧ v = Value.str x t)
  | .inl i, v, h => by
    obtain ⟨t, e⟩ := Value.isInt_shape (k := i) (v := v) h
    exact .inl ⟨i, t, rfl, e⟩
  | .inr x, v, h => by
    obtain ⟨t, e⟩ := Value.isStrOf_shape (x := x) (v := v) h
    exact .inr ⟨x, t, rfl, e⟩
theorem keyIs_int (i : Int) (t : Tok) : keyIs (.inl i) (.int i t) = true := by simp [keyIs, Value.isInt]
theorem keyIs_str (x : Str) (t : Tok) : keyIs (.inr x) (.str x t) = true := by simp [keyIs, Value.isStrOf]
theorem key_ll (a b : Int) : decide ((Sum.inl a : Key) = Sum.inl b) = (a == b) := by
  by_cases e : a = b
  · subst e; simp
  · have h : ¬ (Sum.inl a : Key) = Sum.inl b := fun q => e (Sum.inl.inj q)
    rw [decide_eq_false h]
    exact (beq_eq_false_iff_ne.mpr e).symm
theorem key_rr (a b : Str) : decide ((Sum.inr a : Key) = Sum.inr b) = decide (a = b) := by
  by_cases e : a = b
  · subst e; simp
  · have h : ¬ (Sum.inr a : Key) = Sum.inr b := fun q => e (Sum.inr.inj q)
    rw [decide_eq_false h, decide_eq_false e]
theorem key_lr (a : Int) (b : Str) : decide ((Sum.inl a : Key) = Sum.inr b) = false := decide_eq_false (fun q => nomatch q)
theorem key_rl (a : Str) (b : Int) : decide ((Sum.inr a : Key) = Sum.inl b) = false := decide_eq_false (fun q => nomatch q)

def mixKind (prog : Program) (w : World) : PySem.KeyKind prog w Key where
  is := keyIs
  hash := keyH w
  inj := fun v a b ha hb => by
    rcases keyIs_shape ha with ⟨i, t, rfl, rfl⟩ | ⟨x, t, rfl, rfl⟩
    · rcases keyIs_shape hb with ⟨j, u, rfl, e⟩ | ⟨y, u, rfl, e⟩
      · injection e with e1 _; rw [e1]
      · exact nomatch e
    · rcases keyIs_shape hb with ⟨j, u, rfl, e⟩ | ⟨y, u, rfl, e⟩
      · exact nomatch e
      · injection e with e1 _; rw [e1]
  byValue := fun k v h => by
    rcases keyIs_shape h with ⟨i, t, rfl, rfl⟩ | ⟨x, t, rfl, rfl⟩ <;> rfl
  pyHash := fun hv h => by
    rcases keyIs_shape hv with ⟨i, t, rfl, rfl⟩ | ⟨x, t, rfl, rfl⟩
    · exact wpAny_pyHash_int h
    · exact wpAny_pyHash_str h
  eqBool := fun hu hv h => by
    rcases keyIs_shape hu with ⟨i, t, rfl, rfl⟩ | ⟨x, t, rfl, rfl⟩
    · rcases keyIs_shape hv with ⟨j, u, rfl, rfl⟩ | ⟨y, u, rfl, rfl⟩
      · rw [key_ll] at h; exact wpAny_eqBool_int h
      · rw [key_lr] at h; exact SeqAt.EqAt.int_str i t y u _ _ _ _ h
    · rcases keyIs_shape hv with ⟨j, u, rfl, rfl⟩ | ⟨y, u, rfl, rfl⟩
      · rw [key_rl] at h; exact SeqAt.EqAt.str_int x t j u _ _ _ _ h
      · rw [key_rr] at h; exact wpAny_eqBool_str h
  «strs» := fun k x t v h => by
    rcases keyIs_shape h with ⟨i, u, rfl, e⟩ | ⟨y, u, rfl, e⟩
    · exact nomatch e
    · injection e with e1 _
      subst e1
      cases v <;> rfl

theorem mixKind_int (prog : Program) (w : World) (i : Int) (t : Tok) : (mixKind prog w).is (.inl i) (.int i t) = true := keyIs_int i t
theorem mixKind_str (prog : Program) (w : World) (x : Str) (t : Tok) : (mixKind prog w).is (.inr x) (.str x t) = true := keyIs_str x t
end L2

namespace L2
open PySem PySem.Spec PyProof.Rows

/-- a value, without the heap -/
inductive V where
  | non | bl (b : Bool) | int (i : Int) | str (x : Str) | byt (b : Array UInt8) | flt (b : UInt64) | ref (a : Addr) | ty (n : String)
  deriving DecidableEq

def RelV : V → Value → Prop
  | .non, u => u = Value.none
  | .bl b, u => u = Value.bool b
  | .int i, u => ∃ t, u = Value.int i t
  | .str x, u => ∃ t, u = Value.str x t
  | .byt b, u => ∃ t, u = Value.bytes b t
  | .flt b, u => ∃ t, u = Value.float b t
  | .ref a, u => u = Value.ref a
  | .ty n, u => u = Value.type n

abbrev Vals : List V → List Value → Prop := Paired RelV
theorem Vals.length {xs : List V} {us : List Value} (r : Vals xs us) : xs.length = us.length := Paired.length r
theorem Vals.get : ∀ {xs : List V} {us : List Value} {i : Nat} {x : V}, Vals xs us → xs[i]? = some x → ∃ u, us[i]? = some u ∧ RelV x u
  | _, _, _, _, .nil, e => by simp at e
  | _, _, 0, _, .cons r _, e => by simp at e; subst e; exact ⟨_, rfl, r⟩
  | _, _, i + 1, x, .cons _ t, e => by
    obtain ⟨u, h1, h2⟩ := Vals.get (i := i) (x := x) t (by simpa using e)
    exact ⟨u, by simpa using h1, h2⟩
theorem Vals.append : ∀ {xs ys : List V} {us ws : List Value}, Vals xs us → Vals ys ws → Vals (xs ++ ys) (us ++ ws)
  | _, _, _, _, .nil, s => s
  | _, _, _, _, .cons r t, s => .cons r (Vals.append t s)
theorem Vals.take : ∀ {xs : List V} {us : List Value} (n : Nat), Vals xs us → Vals (xs.take n) (us.take n)
  | _, _, 0, _ => .nil
  | _, _, _ + 1, .nil => .nil
  | _, _, n + 1, .cons r t => .cons r (Vals.take n t)
theorem Vals.drop : ∀ {xs : List V} {us : List Value} (n : Nat), Vals xs us → Vals (xs.drop n) (us.drop n)
  | _, _, 0, r => r
  | _, _, _ + 1, .nil => .nil
  | _, _, n + 1, .cons _ t => Vals.drop n t
def RelO : Option V → Option Value → Prop
  | some v, some u => RelV v u
  | none, none => True
  | _, _ => False
def KV {κ : Type} : List (κ × V) → List (κ × Value) → Prop := Paired fun (p : κ × V) (q : κ × Value) => p.1 = q.1 ∧ RelV p.2 q.2

/-- a key of a dict (00_mix): an int or a text -/
def kV : Key → V
  | .inl i => .int i
  | .inr x => .str x

/-- what stands at a tracked address -/
inductive HO where
  /-- a list -/
  | lst (xs : List V)
  /-- a tuple (never changes) -/
  | tup (xs : List V)
  /-- a dict whose keys are ints and texts; one whose keys are tuples of ints and texts (the empty one is both) -/
  | dK (kvs : List (Key × V)) | dT (kvs : List (List Key × V))
  /-- a set of ints: its members, its size -/
  | set (S : Int → Bool) (n : Nat)
  /-- an instance of the class at C, its dict at dx, its attributes -/
  | ins (C dx : Addr) (fs : List (Str × V))
  /-- the dict of the instance at x -/
  | own (x : Addr)
  /-- the dict of an exception -/
  | xd (fs : List (Str × V))
  /-- a bound method, f of x -/
  | met (f x : Addr)
  /-- a range object lo, lo + 1, .. below hi -/
  | rng (lo hi : Int)
  /-- a thing that is known to the object (the script; a dict while a loop walks it): read, never written while it is so -/
  | frz (o : Obj) (u : HO)
  /-- a code object's table -/
  | tbl (ps : Array Value)
  /-- any other thing, by what is true of its one object (a def of one's own: SetO a S n := HO.ext fun h => ..) -/
  | ext (φ : Heap → Prop)

abbrev Hp := Addr → Option HO
def upd (H : Hp) (a : Addr) (o : HO) : Hp := fun b => if b = a then some o else H b
theorem upd_same {H : Hp} {a : Addr} {o : HO} : upd H a o a = some o := by unfold upd; rw [if_pos rfl]
theorem upd_ne {H : Hp} {a b : Addr} {o : HO} (h : b ≠ a) : upd H a o b = H b := by unfold upd; rw [if_neg h]
theorem upd_upd {H : Hp} {a : Addr} {o u : HO} : upd (upd H a o) a u = upd H a u := by
  funext b; unfold upd; split <;> rfl
/-- two objects of different content stand apart -/
theorem ne_of {H : Hp} {a b : Addr} {o u : HO} (h : H a = some o) (h' : H b = some u) (d : o ≠ u) : a ≠ b := by
  intro e; subst e; rw [h] at h'; exact d (Option.some.inj h')
theorem ne_of_none {H : Hp} {a b : Addr} {o : HO} (h : H a = some o) (h' : H b = none) : a ≠ b := by
  intro e; subst e; rw [h] at h'; cases h'

section
variable (P : Program) (w : World)
def ObjOk (H : Hp) (h : Heap) (a : Addr) : HO → Prop
  | .lst xs => xs.length ≤ sizeLine ∧ ∃ (its : List Value) (n : Nat), Vals xs its ∧ h.get? a = some { cls := .type "list", data := .seq its.toArray n }
  | .tup xs => xs.length ≤ sizeLine ∧ ∃ its : List Value, Vals xs its ∧ IsTup h a its.toArray
  | .dK kvs => kvs.length ≤ sizeLine ∧ (a == sysModules) = false ∧ ∃ vs, KV kvs vs ∧ h.DictOf (mixKind P w) a vs
  | .dT kvs => kvs.length ≤ sizeLine ∧ (a == sysModules) = false ∧ ∃ xs : List (List Key × Addr × Value),
      Paired (fun (p : List Key × V) (q : List Key × Addr × Value) => p.1 = q.1 ∧ H q.2.1 = some (.tup (p.1.map kV)) ∧ RelV p.2 q.2.2) kvs xs ∧
      ∃ o es ep, h.get? a = some o ∧ o.ExactDict ∧ o.data = .dict es ep ∧ es.toList = xs.map (entryOfKey (tupleKind (mixKind P w))) ∧ (xs.map (·.1)).Nodup
  | .set S n => h.SetOf (intKind P w) a S n
  | .ins C dx fs => H dx = some (.own a) ∧ fs.length ≤ 1000 ∧ dx ≠ a ∧ h.get? a = some (PySem.W.instObj C dx) ∧
      ∃ mA, h.Ns1 dx mA ∧ (∀ f, RelO (fs.lookup f) (mA f)) ∧ PySem.Within mA (fs.map (·.1))
  | .own _ => ∃ o, h.get? a = some o
  | .xd fs => ∃ mA, h.Ns1 a mA ∧ ∀ f, RelO (fs.lookup f) (mA f)
  | .rng lo hi => ∃ t u v, h.get? a = some { cls := .type "range", data := .fields #[.int lo t, .int hi u, .int 1 v] }
  | .frz o u => h.get? a = some o ∧ ObjOk H h a u
  | .tbl ps => h.get? a = some { cls := .none, data := .fields ps }
  | .met f x => h.get? a = some (PySem.W.methodObj (.ref f) (.ref x))
  | .ext φ => φ h ∧ (∃ o, h.get? a = some o) ∧ ∀ h1 h2 : Heap, φ h1 → (∀ o, h1.get? a = some o → h2.get? a = some o) → φ h2
/-- the abstract heap is held -/
def HOk (H : Hp) (h : Heap) : Prop := ∀ a o, H a = some o → ObjOk P w H h a o
end

section
variable {P : Program} {w : World} {H H' : Hp} {h h' : Heap} {a : Addr} {o : HO}
theorem ObjOk.lt (x : ObjOk P w H h a o) : a < h.objs.size := by
  cases o with
  | lst xs => obtain ⟨_, _, _, _, e⟩ := x; exact Heap.lt_size e
  | tup xs => obtain ⟨_, _, _, p⟩ := x; exact p.lt
  | dK kvs => obtain ⟨_, _, _, _, o, _, _, e, _⟩ := x; exact Heap.lt_size e
  | dT kvs => obtain ⟨_, _, _, _, o, _, _, e, _⟩ := x; exact Heap.lt_size e
  | set S n => obtain ⟨o, _, _, _, e, _⟩ := x; exact Heap.lt_size e
  | ins C dx fs => obtain ⟨_, _, _, e, _⟩ := x; exact Heap.lt_size e
  | own y => obtain ⟨_, e⟩ := x; exact Heap.lt_size e
  | xd fs => obtain ⟨_, ⟨_, _, _, e, _⟩, _⟩ := x; exact Heap.lt_size e
  | rng lo hi => obtain ⟨_, _, _, e⟩ := x; exact Heap.lt_size e
  | frz ob u => obtain ⟨e, _⟩ := x; exact Heap.lt_size e
  | tbl ps => exact Heap.lt_size (show h.get? a = some _ from x)
  | met f y => exact Heap.lt_size (show h.get? a = some _ from x)
  | ext φ => obtain ⟨_, ⟨_, e⟩, _⟩ := x; exact Heap.lt_size e
theorem Paired.mapP {α β : Type} {F G : α → β → Prop} : ∀ {l₁ : List α} {l₂ : List β}, Paired F l₁ l₂ → (∀ a b, F a b → G a b) → Paired G l₁ l₂
  | _, _, .nil, _ => .nil
  | _, _, .cons r t, f => .cons (f _ _ r) (Paired.mapP t f)
/-- what an object's description leans on: its own object, its own dict, the tuples -/
theorem ObjOk.stay (x : ObjOk P w H h a o) (k : ∀ b u, (b = a ∨ H b = some (.own a)) → h.get? b = some u → h'.get? b = some u)
    (ho : ∀ b, H b = some (.own a) → H' b = some (.own a)) (ht : ∀ b xs, H b = some (.tup xs) → H' b = some (.tup xs)) : ObjOk P w H' h' a o := by
  induction o with
  | lst xs => obtain ⟨z, its, n, r, e⟩ := x; exact ⟨z, its, n, r, k _ _ (.inl rfl) e⟩
  | tup xs => obtain ⟨z, its, r, ob, e, c⟩ := x; exact ⟨z, its, r, ob, k _ _ (.inl rfl) e, c⟩
  | dK kvs => obtain ⟨z, y, vs, r, ob, es, ep, e, c⟩ := x; exact ⟨z, y, vs, r, ob, es, ep, k _ _ (.inl rfl) e, c⟩
  | dT kvs =>
    obtain ⟨z, y, xs, r, ob, es, ep, e, c⟩ := x
    exact ⟨z, y, xs, Paired.mapP r fun p q z => ⟨z.1, ht _ _ z.2.1, z.2.2⟩, ob, es, ep, k _ _ (.inl rfl) e, c⟩
  | set S n => obtain ⟨ob, es, ep, t, e, c⟩ := x; exact ⟨ob, es, ep, t, k _ _ (.inl rfl) e, c⟩
  | ins C dx fs =>
    obtain ⟨d, z, ne, e, mA, ⟨od, es, ep, e2, c⟩, r⟩ := x
    exact ⟨ho _ d, z, ne, k _ _ (.inl rfl) e, mA, ⟨od, es, ep, k _ _ (.inr d) e2, c⟩, r⟩
  | own y => obtain ⟨ob, e⟩ := x; exact ⟨ob, k _ _ (.inl rfl) e⟩
  | xd fs => obtain ⟨mA, ⟨od, es, ep, e, c⟩, r⟩ := x; exact ⟨mA, ⟨od, es, ep, k _ _ (.inl rfl) e, c⟩, r⟩
  | rng lo hi => obtain ⟨t, u, v, e⟩ := x; exact ⟨t, u, v, k _ _ (.inl rfl) e⟩
  | frz ob u ih => obtain ⟨e, q⟩ := x; exact ⟨k _ _ (.inl rfl) e, ih q⟩
  | tbl ps =>
    have e : h.get? a = some { cls := .none, data := .fields ps } := x
    show h'.get? a = some { cls := .none, data := .fields ps }
    exact k a _ (.inl rfl) e
  | met f y =>
    have e : h.get? a = some (PySem.W.methodObj (.ref f) (.ref y)) := x
    show h'.get? a = some (PySem.W.methodObj (.ref f) (.ref y))
    exact k a _ (.inl rfl) e
  | ext φ => obtain ⟨p, ⟨o, e⟩, st⟩ := x; exact ⟨st _ _ p fun o q => k _ _ (.inl rfl) q, ⟨o, k _ _ (.inl rfl) e⟩, st⟩
theorem HOk.lt (x : HOk P w H h) (e : H a = some o) : a < h.objs.size := (x a o e).lt
theorem HOk.fresh (x : HOk P w H h) (e : h.objs.size ≤ a) : H a = none := by
  cases q : H a with
  | none => rfl
  | some u => exact absurd (Nat.lt_of_lt_of_le (x.lt q) e) (Nat.lt_irrefl _)
/-- every object of the heap is kept -/
theorem HOk.kept (x : HOk P w H h) (k : ∀ b u, h.get? b = some u → h'.get? b = some u) : HOk P w H h' := fun a o e =>
  (x a o e).stay (fun b u _ q => k b u q) (fun _ q => q) fun _ _ q => q
/-- a new object is laid and tracked -/
theorem HOk.laid (x : HOk P w H h) (k : ∀ b u, h.get? b = some u → h'.get? b = some u) (hp : h.objs.size ≤ a) (new : ObjOk P w (upd H a o) h' a o) : HOk P w (upd H a o) h' := fun b u e => by
  have hn := x.fresh hp
  by_cases hb : b = a
  · subst hb; rw [upd_same] at e; cases e; exact new
  · rw [upd_ne hb] at e
    exact (x b u e).stay (fun c v _ q => k c v q) (fun c q => by rw [upd_ne (ne_of_none q hn)]; exact q) fun c xs q => by rw [upd_ne (ne_of_none q hn)]; exact q
end

/-- what may be read as u: it is u, or a known u -/
def Rd (H : Hp) (a : Addr) (u : HO) : Prop := H a = some u ∨ ∃ o, H a = some (.frz o u)
theorem Rd.ok {P : Program} {w : World} {H : Hp} {h : Heap} {a : Addr} {u : HO} (r : Rd H a u) (x : HOk P w H h) : ObjOk P w H h a u := by
  rcases r with r | ⟨o, r⟩
  · exact x a u r
  · obtain ⟨_, q⟩ := x a _ r
    exact q
/-- what may be written -/
def Mut : Option HO → Prop
  | some (.lst _) => True
  | some (.dK _) => True
  | some (.dT _) => True
  | some (.set _ _) => True
  | some (.ins _ _ _) => True
  | some (.ext _) => True
  | _ => False
section
variable {P : Program} {w : World} {H : Hp} {h h' : Heap} {x e : Addr} {o' : HO}
/-- the object at e is changed: x itself, or the dict of the instance x -/
theorem HOk.write (ok : HOk P w H h) (mu : Mut (H x)) (he : e = x ∨ H e = some (.own x)) (k : ∀ b u, b ≠ e → h.get? b = some u → h'.get? b = some u) (heo : ∃ u, h'.get? e = some u)
    (new : ObjOk P w (upd H x o') h' x o') : HOk P w (upd H x o') h' := fun b u q => by
  have nown : ∀ c y, H c = some (.own y) → c ≠ x := fun c y r z => by subst z; rw [r] at mu; exact mu
  have ntup : ∀ c xs, H c = some (.tup xs) → c ≠ x := fun c xs r z => by subst z; rw [r] at mu; exact mu
  by_cases hb : b = x
  · subst hb; rw [upd_same] at q; cases q; exact new
  · rw [upd_ne hb] at q
    by_cases hbe : b = e
    · have q' : H b = some (.own x) := by
        rcases he with z | z
        · exact absurd (hbe.trans z) hb
        · rw [hbe]; exact z
      rw [q] at q'; cases q'
      obtain ⟨v, hv⟩ := heo
      exact ⟨v, by rw [hbe]; exact hv⟩
    · refine (ok b u q).stay (fun c v hc r => k c v ?_ r) (fun c r => by rw [upd_ne (nown c b r)]; exact r) fun c xs r => by rw [upd_ne (ntup c xs r)]; exact r
      rcases hc with rfl | hc
      · exact hbe
      · rintro rfl
        rcases he with z | z
        · exact nown c b hc z
        · rw [hc] at z; cases z; exact hb rfl
end

structure Un (fs ex : List Addr) (H H' : Hp) (h h' : Heap) : Prop where
  keep : ∀ b o, h.get? b = some o → H b = none → b ∉ fs → b ∉ ex → h'.get? b = some o
  slot : ∀ b o, h.get? b = some o → H b = none → b ∈ fs → b ∉ ex → ∃ sl, h'.get? b = some { o with slots := sl }
  free : ∀ b o, h.get? b = some o → H b = none → b ∉ ex → H' b = none
  there : ∀ b o, h.get? b = some o → b ∉ ex → ∃ o', h'.get? b = some o'
  tups : ∀ b xs, H b = some (.tup xs) → H' b = some (.tup xs)
  frzs : ∀ b o u, H b = some (.frz o u) → H' b = some (.frz o u)
  tbls : ∀ b ps, H b = some (.tbl ps) → ∃ more, H' b = some (.tbl (ps ++ more))
section
variable {fs fs' ex ex' : List Addr} {H H1 H2 : Hp} {h h1 h2 h' : Heap} {a x e : Addr} {o : HO}
theorem Un.any (u : Un fs ex H H1 h h1) {b : Addr} {ob : Obj} (q : h.get? b = some ob) (n : H b = none) (hx : b ∉ ex) : ∃ sl, h1.get? b = some { ob with slots := sl } := by
  by_cases hb : b ∈ fs
  · exact u.slot b ob q n hb hx
  · exact ⟨ob.slots, u.keep b ob q n hb hx⟩
theorem Un.kept (k : ∀ b u, h.get? b = some u → h'.get? b = some u) : Un fs ex H H h h' :=
  ⟨fun b ob q _ _ _ => k b ob q, fun b ob q _ _ _ => ⟨ob.slots, k b ob q⟩, fun _ _ _ n _ => n, fun b ob q _ => ⟨ob, k b ob q⟩, fun _ _ q => q, fun _ _ _ q => q, fun _ ps q => ⟨#[], by rw [q]; simp⟩⟩
theorem Un.refl : Un fs ex H H h h := Un.kept fun _ _ q => q
theorem Un.laid (k : ∀ b u, h.get? b = some u → h'.get? b = some u) (hp : h.objs.size ≤ a) (hn : H a = none) : Un fs ex H (upd H a o) h h' where
  keep := fun b u q _ _ _ => k b u q
  slot := fun b u q _ _ _ => ⟨u.slots, k b u q⟩
  free := fun b u q n _ => by rw [upd_ne (Nat.ne_of_lt (Nat.lt_of_lt_of_le (Heap.lt_size q) hp))]; exact n
  there := fun b u q _ => ⟨u, k b u q⟩
  tups := fun b xs q => by rw [upd_ne (ne_of_none q hn)]; exact q
  frzs := fun b u xs q => by rw [upd_ne (ne_of_none q hn)]; exact q
  tbls := fun b ps q => ⟨#[], by rw [upd_ne (ne_of_none q hn), q]; simp⟩
theorem Un.write (mu : Mut (H x)) (he : e = x ∨ H e = some (.own x)) (k : ∀ b u, b ≠ e → h.get? b = some u → h'.get? b = some u) (heo : ∃ u, h'.get? e = some u) : Un fs ex H (upd H x o) h h' := by
  have hx : ∀ b, H b = none → b ≠ x := fun b n z => by subst z; rw [n] at mu; exact mu
  have hb : ∀ b, H b = none → b ≠ e := fun b n z => by
    subst z
    rcases he with r | r
    · exact hx b n r
    · rw [n] at r; cases r
  have hm : ∀ b u, H b = some u → ¬ Mut (some u) → b ≠ x := fun b u q nm z => by subst z; rw [q] at mu; exact nm mu
  refine ⟨fun b u q n _ _ => k b u (hb b n) q, fun b u q n _ _ => ⟨u.slots, k b u (hb b n) q⟩, fun b u q n _ => by rw [upd_ne (hx b n)]; exact n, fun b u q _ => ?_,
    fun b xs q => by rw [upd_ne (hm b _ q fun z => z)]; exact q, fun b u xs q => by rw [upd_ne (hm b _ q fun z => z)]; exact q, fun b ps q => ⟨#[], by rw [upd_ne (hm b _ q fun z => z), q]; simp⟩⟩
  by_cases hbe : b = e
  · subst hbe; exact heo
  · exact ⟨u, k b u hbe q⟩
end

def trk (h : Heap) (H : Hp) : List Addr := (List.range h.objs.size).filter fun a => (H a).isSome
def hidT (h : Heap) (H : Hp) : Heap := PySem.W.hideAll h (trk h H)
theorem hidT_size (h : Heap) (H : Hp) : (hidT h H).objs.size = h.objs.size := PySem.W.hideAll_size _ _
theorem hidT_get {h : Heap} {H : Hp} {b : Addr} {o : Obj} (e : h.get? b = some o) (n : H b = none) : (hidT h H).get? b = some o :=
  PySem.W.hideAll_get _ e fun hm => by
    have q : (H b).isSome = true := (List.mem_filter.mp hm).2
    rw [n] at q; simp at q
theorem of_hidT {h : Heap} {H : Hp} {b : Addr} {o : Obj} (e : (hidT h H).get? b = some o) : h.get? b = some o ∧ H b = none := by
  have e' : h.get? b = some o := PySem.W.of_hideAll (trk h H) e
  refine ⟨e', ?_⟩
  cases q : H b with
  | none => rfl
  | some x =>
    have hm : b ∈ trk h H := List.mem_filter.mpr ⟨List.mem_range.mpr (Heap.lt_size e'), by simp [q]⟩
    have z : (hidT h H).get? b = none := PySem.W.hideAll_none (trk h H) hm
    rw [z] at e; cases e

end L2

namespace L2
open PySem PySem.Spec PyProof.Rows

/-- the module's facts, over the base: the heap at the law's entry without what is tracked there -/
structure Mod (K : PySem.W.Frag) (mg : Str → Option Value) (base : Heap) : Prop where
  kin : K.In base
  glob : base.Ns mainGlobals mg
  blt : ∃ mb, base.Ns builtinsNs mb ∧ ∀ x : Str, x ≠ "__name__" → mb x = bootBuiltins x
  nolimit : base.NoLimit

/-- the context: a def's body (or a comprehension's block) running. base: fixed through the whole law; s₀, H₀: the entry; outer: the frames whose slots others may change (a def's callers); stack: all frames that run;
   ex: iterators that were made ahead of the entry and are walked here (a comprehension's); fn: the names whose cells were made at the entry (a def: all; a comprehension's block: its own); calm: not within an except suite; pn: pins that every state bears; xe: what is wanted of an exception that leaves the code -/
structure Cx where
  prog : Program
  w : World
  K : PySem.W.Frag
  mg : Str → Option Value
  base : Heap
  A : Around
  N : List Str
  s₀ : Shared
  H₀ : Hp
  env : Env
  outer : List Env
  stack : List Env
  ex : List Addr
  fn : Str → Bool
  calm : Bool
  pn : List (Addr × Obj)
  xe : Value → Shared → Prop
/-- the callers' frames -/
def frs (l : List Env) : List Addr := l.filterMap (·.frame)
abbrev Cx.fs (X : Cx) : List Addr := frs X.outer

def Vis (sc : Scope) (x : Str) : Prop := sc.names.lookup x = some .local ∨ sc.names.lookup x = some .cell ∨ sc.names.lookup x = some .free
def Loc (sc : Scope) (x : Str) : Prop := sc.names.lookup x = some .local ∨ sc.names.lookup x = some .cell
def Look (env : Env) (h : Heap) (m : Str → Option Value) (x : Str) (u : Value) : Prop :=
  (env.kindOf x = some .local ∧ m x = some u) ∨ ((env.kindOf x = some .cell ∨ env.kindOf x = some .free) ∧ ∃ c, env.cells.lookup x = some c ∧ h.IsCell c (some u))

structure Cx.Ok (X : Cx) : Prop where
  mod : Mod X.K X.mg X.base
  kind : X.env.scope.kind = .function
  glob : X.env.globals = mainGlobals
  blt : X.env.builtins = builtinsNs
  above : X.s₀.heap.objs.size ≤ X.env.locals
  inj : ∀ x y c, X.env.cells.lookup x = some c → X.env.cells.lookup y = some c → x = y
  has : ∀ x, (X.env.kindOf x = some .cell ∨ X.env.kindOf x = some .free) → ∃ c, X.env.cells.lookup x = some c
  cab : ∀ x c, X.fn x = true → X.env.cells.lookup x = some c → X.s₀.heap.objs.size ≤ c
  hd : X.calm = true → X.A.handled = none
  frames : X.A.frames = some X.stack
  stk : X.stack = X.outer ∨ (X.stack = X.env :: X.outer ∧ X.env.frame = some X.env.locals)
  exf : ∀ b ∈ X.ex, b ≠ X.env.locals ∧ ∀ x c, X.env.cells.lookup x = some c → c ≠ b
  bs : ∀ b o, X.base.get? b = some o → X.s₀.heap.get? b = some o ∧ X.H₀ b = none
  bsz : X.base.objs.size ≤ X.s₀.heap.objs.size
  noex : ∀ b o, X.base.get? b = some o → b ∉ X.ex
  exfs : ∀ b ∈ X.ex, b ∉ X.fs
  funs : X.s₀.heap.FunFrames X.base X.outer
  frf : ∀ b ∈ X.fs, X.H₀ b = none

structure Inv (X : Cx) (pins : List (Addr × Obj)) (σ : List (Option V)) (H : Hp) (s : Shared) : Prop where
  ok : X.Ok
  os : s.os = X.s₀.os
  bare : AllBare s.gens
  base : Un X.fs X.ex X.H₀ H X.s₀.heap s.heap
  loc : ∃ m, s.heap.Ns X.env.locals m ∧ ∀ (i : Nat) (x : Str) (v : V), X.N[i]? = some x → σ[i]? = some (some v) → Vis X.env.scope x → ∃ u, RelV v u ∧ Look X.env s.heap m x u
  cell : ∀ x c, X.env.cells.lookup x = some c → ∃ v, s.heap.IsCell c v
  free : H X.env.locals = none
  freeC : ∀ x c, X.env.cells.lookup x = some c → H c = none
  pin : ∀ p ∈ X.pn ++ pins, s.heap.get? p.1 = some p.2 ∧ H p.1 = none ∧ p.1 ≠ X.env.locals ∧ p.1 ∉ X.fs ∧ ∀ v, p.2.data ≠ .cell v
  hok : HOk X.prog X.w H s.heap
  len : σ.length = X.N.length

section
variable {X : Cx} {pins : List (Addr × Obj)} {σ : List (Option V)} {H H' : Hp} {s : Shared} {h' : Heap}

theorem Cx.Ok.nofr (ok : X.Ok) {b : Addr} {o : Obj} (e : X.base.get? b = some o) : b ∉ X.fs := fun hb => by
  have := (ok.funs.mem hb).1
  rw [e] at this; cases this
theorem Inv.bs (I : Inv X pins σ H s) : ∀ b o, X.base.get? b = some o → s.heap.get? b = some o ∧ H b = none := fun b o e =>
  ⟨I.base.keep b o (I.ok.bs b o e).1 (I.ok.bs b o e).2 (I.ok.nofr e) (I.ok.noex b o e), I.base.free b o (I.ok.bs b o e).1 (I.ok.bs b o e).2 (I.ok.noex b o e)⟩
theorem Inv.bk (I : Inv X pins σ H s) : ∀ b o, X.base.get? b = some o → s.heap.get? b = some o := fun b o e => (I.bs b o e).1
theorem Inv.mod (I : Inv X pins σ H s) : Mod X.K X.mg X.base := I.ok.mod
theorem Inv.kIn (I : Inv X pins σ H s) : X.K.In s.heap := I.ok.mod.kin.keeps I.bk
theorem Inv.lt (I : Inv X pins σ H s) : X.env.locals < s.heap.objs.size := let ⟨_, hn, _⟩ := I.loc; hn.lt
theorem Inv.sz (I : Inv X pins σ H s) : X.s₀.heap.objs.size ≤ s.heap.objs.size := Nat.le_trans I.ok.above (Nat.le_of_lt I.lt)
theorem Inv.nofs (I : Inv X pins σ H s) {a : Addr} (h : s.heap.objs.size ≤ a) : a ∉ X.fs := fun hb => by
  obtain ⟨_, o, ho, _⟩ := I.ok.funs.mem hb
  exact absurd (Nat.lt_of_lt_of_le (Heap.lt_size ho) (Nat.le_trans I.sz h)) (Nat.lt_irrefl _)
theorem Inv.cne (I : Inv X pins σ H s) : ∀ x c, X.env.cells.lookup x = some c → c ≠ X.env.locals := fun x c e z => by
  obtain ⟨v, o, ho, hd⟩ := I.cell x c e
  obtain ⟨m, ⟨o', es, ep, ho', hd', _⟩, _⟩ := I.loc
  rw [z, ho'] at ho; cases ho; rw [hd'] at hd; cases hd
theorem Inv.funs (I : Inv X pins σ H s) : s.heap.FunFrames X.base X.outer := by
  have all : ∀ (l : List Env), (∀ b ∈ frs l, b ∈ X.fs) → X.s₀.heap.FunFrames X.base l → s.heap.FunFrames X.base l := by
    intro l
    induction l with
    | nil => intro _ _; trivial
    | cons env r ih =>
      intro hs hl
      obtain ⟨hk, ⟨L, o, hf, hn, ho, hd⟩, hr⟩ := hl
      have hL : L ∈ X.fs := hs L (by unfold frs; rw [List.filterMap_cons, hf]; exact List.mem_cons_self)
      obtain ⟨sl, e⟩ := I.base.slot L o ho (I.ok.frf L hL) hL fun z => I.ok.exfs L z hL
      exact ⟨hk, ⟨L, _, hf, hn, e, hd⟩, ih (fun b hb => hs b (by unfold frs; rw [List.filterMap_cons, hf]; exact List.mem_cons_of_mem _ hb)) hr⟩
  exact all X.outer (fun _ hb => hb) I.ok.funs

/-- the frames that run, for a call -/
theorem Inv.stack (I : Inv X pins σ H s) : s.heap.FunFrames X.base X.stack := by
  rcases I.ok.stk with e | ⟨e, hf⟩
  · rw [e]; exact I.funs
  · rw [e]
    obtain ⟨m, hn, _⟩ := I.loc
    refine .cons (by rw [I.ok.kind]; decide) hf hn ?_ I.funs
    exact Heap.get?_none_of_le (Nat.le_trans I.ok.bsz I.ok.above)
theorem Inv.stkSub (I : Inv X pins σ H s) : ∀ b ∈ frs X.stack, b ∈ X.env.locals :: X.fs := fun b hb => by
  rcases I.ok.stk with e | ⟨e, hf⟩
  · rw [e] at hb; exact List.mem_cons_of_mem _ hb
  · rw [e] at hb
    unfold frs at hb
    rw [List.filterMap_cons, hf] at hb
    exact hb
theorem Inv.stkFree (I : Inv X pins σ H s) : ∀ b ∈ frs X.stack, H b = none := fun b hb => by
  rcases List.mem_cons.mp (I.stkSub b hb) with e | hb
  · rw [e]; exact I.free
  · obtain ⟨_, o, ho, _⟩ := I.ok.funs.mem hb
    exact I.base.free b o ho (I.ok.frf b hb) fun z => I.ok.exfs b z hb

/-- THE STEP: the untracked objects but the frame and the records at ch are kept (the callers' frames up to slots), the frame's map is kept, the new abstract heap is held -/
theorem Inv.step {g' : Array GenState} {t' : Nat} {d' : Drawn} {ch : List Addr} (I : Inv X pins σ H s)
    (hch : ∀ b ∈ ch, (b ∈ X.ex ∨ X.s₀.heap.objs.size ≤ b) ∧ b ≠ X.env.locals ∧ (∀ x c, X.env.cells.lookup x = some c → c ≠ b) ∧ ∀ p ∈ X.pn ++ pins, p.1 ≠ b)
    (keep : ∀ b o, b ≠ X.env.locals → b ∉ X.fs → b ∉ ch → s.heap.get? b = some o → H b = none → h'.get? b = some o)
    (slot : ∀ b o, b ≠ X.env.locals → b ∈ X.fs → b ∉ ch → s.heap.get? b = some o → H b = none → ∃ sl, h'.get? b = some { o with slots := sl }) (free : ∀ b o, b ∉ ch → s.heap.get? b = some o → H b = none → H' b = none)
    (there : ∀ b o, b ∉ ch → s.heap.get? b = some o → ∃ o', h'.get? b = some o')
    (tups : ∀ b xs, H b = some (.tup xs) → H' b = some (.tup xs)) (frzs : ∀ b o u, H b = some (.frz o u) → H' b = some (.frz o u)) (tbls : ∀ b ps, H b = some (.tbl ps) → ∃ more, H' b = some (.tbl (ps ++ more)))
    (ns : ∀ m, s.heap.Ns X.env.locals m → h'.Ns X.env.locals m) (hok : HOk X.prog X.w H' h') (hg : AllBare g') :
    Inv X pins σ H' { s with heap := h', gens := g', drawn := d', toks := t' } := by
  have neL : ∀ b o, X.s₀.heap.get? b = some o → b ≠ X.env.locals := fun b o e => Nat.ne_of_lt (Nat.lt_of_lt_of_le (Heap.lt_size e) I.ok.above)
  have neC : ∀ b o, X.s₀.heap.get? b = some o → b ∉ X.ex → b ∉ ch := fun b o e hx hb => by
    rcases (hch b hb).1 with z | z
    · exact hx z
    · exact absurd (Nat.lt_of_lt_of_le (Heap.lt_size e) z) (Nat.lt_irrefl _)
  have cellK : ∀ x c, X.env.cells.lookup x = some c → ∀ v, s.heap.IsCell c v → h'.IsCell c v := fun x c e v ⟨o, ho, hd⟩ => by
    have nch : c ∉ ch := fun z => (hch c z).2.2.1 x c e rfl
    by_cases hc : c ∈ X.fs
    · obtain ⟨sl, q⟩ := slot c o (I.cne x c e) hc nch ho (I.freeC x c e)
      exact ⟨_, q, hd⟩
    · exact ⟨o, keep c o (I.cne x c e) hc nch ho (I.freeC x c e), hd⟩
  refine ⟨I.ok, I.os, hg, ⟨fun b o e n hb hx => ?_, fun b o e n hb hx => ?_, fun b o e n hx => ?_, fun b o e hx => ?_, fun b xs e => tups b xs (I.base.tups b xs e), fun b o xs e => frzs b o xs (I.base.frzs b o xs e), fun b ps e => ?_⟩, ?_, fun x c e => ?_, ?_, fun x c e => ?_, fun p hp => ?_, hok, I.len⟩
  · exact keep b o (neL b o e) hb (neC b o e hx) (I.base.keep b o e n hb hx) (I.base.free b o e n hx)
  · obtain ⟨sl, e1⟩ := I.base.slot b o e n hb hx
    obtain ⟨sl', e2⟩ := slot b _ (neL b o e) hb (neC b o e hx) e1 (I.base.free b o e n hx)
    exact ⟨sl', e2⟩
  · obtain ⟨o', e1⟩ := I.base.there b o e hx
    exact free b o' (neC b o e hx) e1 (I.base.free b o e n hx)
  · obtain ⟨o', e1⟩ := I.base.there b o e hx
    exact there b o' (neC b o e hx) e1
  · obtain ⟨m1, e1⟩ := I.base.tbls b ps e
    obtain ⟨m2, e2⟩ := tbls b _ e1
    exact ⟨m1 ++ m2, by rw [e2, Array.append_assoc]⟩
  · obtain ⟨m, hn, hl⟩ := I.loc
    refine ⟨m, ns m hn, fun i x v e1 e2 e3 => ?_⟩
    obtain ⟨u, r, l⟩ := hl i x v e1 e2 e3
    refine ⟨u, r, ?_⟩
    rcases l with l | ⟨k, c, e, z⟩
    · exact .inl l
    · exact .inr ⟨k, c, e, cellK x c e _ z⟩
  · obtain ⟨v, z⟩ := I.cell x c e
    exact ⟨v, cellK x c e v z⟩
  · obtain ⟨m, ⟨o, _, _, ho, _⟩, _⟩ := I.loc
    exact free _ o (fun z => (hch _ z).2.1 rfl) ho I.free
  · obtain ⟨v, o, ho, hd⟩ := I.cell x c e
    exact free c o (fun z => (hch c z).2.2.1 x c e rfl) ho (I.freeC x c e)
  · obtain ⟨e, n, ne, nf, d⟩ := I.pin p hp
    have nch : p.1 ∉ ch := fun z => (hch p.1 z).2.2.2 p hp rfl
    exact ⟨keep p.1 p.2 ne nf nch e n, free p.1 p.2 nch e n, ne, nf, d⟩
/-- .. where the frame's own object is kept too -/
theorem Inv.un {t' : Nat} (I : Inv X pins σ H s) (u : Un X.fs [] H H' s.heap h') (hok : HOk X.prog X.w H' h') : Inv X pins σ H' { s with heap := h', toks := t' } := by
  obtain ⟨m, ⟨o, es, ep, ho, r⟩, _⟩ := id I.loc
  obtain ⟨sl, hL⟩ := u.any ho I.free (by simp)
  exact I.step (g' := s.gens) (d' := s.drawn) (ch := []) (fun _ z => nomatch z) (fun b o _ hb _ e n => u.keep b o e n hb (by simp)) (fun b o _ hb _ e n => u.slot b o e n hb (by simp)) (fun b o _ e n => u.free b o e n (by simp)) (fun b o _ e => u.there b o e (by simp)) u.tups u.frzs u.tbls (fun m' hm => by
    obtain ⟨o', es', ep', ho', r'⟩ := hm
    rw [ho] at ho'; cases ho'
    exact ⟨_, es', ep', hL, r'⟩) hok I.bare
/-- behind a call (or a comprehension's block): the slots of this frame may have changed too, the records at ch may have turned -/
theorem Inv.call {g' : Array GenState} {t' : Nat} {d' : Drawn} {ch : List Addr} (I : Inv X pins σ H s) (u : Un (frs X.stack) ch H H' s.heap h') (hok : HOk X.prog X.w H' h') (hg : AllBare g')
    (hch : ∀ b ∈ ch, (b ∈ X.ex ∨ X.s₀.heap.objs.size ≤ b) ∧ b ≠ X.env.locals ∧ (∀ x c, X.env.cells.lookup x = some c → c ≠ b) ∧ ∀ p ∈ X.pn ++ pins, p.1 ≠ b) :
    Inv X pins σ H' { s with heap := h', gens := g', drawn := d', toks := t' } := by
  obtain ⟨m, ⟨o, es, ep, ho, r⟩, _⟩ := id I.loc
  obtain ⟨sl, hL⟩ := u.any ho I.free fun z => (hch _ z).2.1 rfl
  exact I.step (ch := ch) hch (fun b o hL hb hc e n => u.keep b o e n (fun z => (List.mem_cons.mp (I.stkSub b z)).elim hL hb) hc) (fun b o _ _ hc e n => u.any e n hc) (fun b o hc e n => u.free b o e n hc) (fun b o hc e => u.there b o e hc) u.tups u.frzs u.tbls (fun m' hm => by
    obtain ⟨o', es', ep', ho', r'⟩ := hm
    rw [ho] at ho'; cases ho'
    exact ⟨_, es', ep', hL, r'⟩) hok hg
/-- an untracked record of ours (an iterator) has turned -/
theorem Inv.turned {t' : Nat} {it : Addr} (I : Inv X pins σ H s) (k : ∀ b o, b ≠ it → s.heap.get? b = some o → h'.get? b = some o) (hn : H it = none) (hL : it ≠ X.env.locals)
    (h1 : it ∈ X.ex ∨ X.s₀.heap.objs.size ≤ it) (h2 : ∀ x c, X.env.cells.lookup x = some c → c ≠ it) (h3 : ∀ p ∈ X.pn ++ pins, p.1 ≠ it) : Inv X pins σ H { s with heap := h', toks := t' } := by
  have nit : ∀ b u, H b = some u → b ≠ it := fun b u e z => by rw [z, hn] at e; cases e
  refine I.step (g' := s.gens) (d' := s.drawn) (ch := [it]) (fun b hb => ?_) (fun b o _ _ hc e _ => k b o (fun z => hc (by simp [z])) e) (fun b o _ _ hc e _ => ⟨o.slots, k b o (fun z => hc (by simp [z])) e⟩) (fun _ _ _ _ n => n)
    (fun b o hc e => ⟨o, k b o (fun z => hc (by simp [z])) e⟩) (fun _ _ e => e) (fun _ _ _ e => e) (fun b ps e => ⟨#[], by rw [e]; simp⟩) (fun m hm => ?_) (fun b u e => ?_) I.bare
  · have e : b = it := by simpa using hb
    subst e
    exact ⟨h1, hL, h2, h3⟩
  · obtain ⟨o, es, ep, ho, r⟩ := hm
    exact ⟨o, es, ep, k _ o (Ne.symm hL) ho, r⟩
  · refine (I.hok b u e).stay (fun c v hc q => k c v ?_ q) (fun _ q => q) fun _ _ q => q
    rcases hc with z | z
    · rw [z]; exact nit b u e
    · exact nit c _ z
theorem Inv.tok (I : Inv X pins σ H s) (t : Nat) : Inv X pins σ H { s with toks := t } := I.un (h' := s.heap) (t' := t) Un.refl I.hok
/-- all objects kept -/
theorem Inv.kept {t' : Nat} (I : Inv X pins σ H s) (k : ∀ b u, s.heap.get? b = some u → h'.get? b = some u) : Inv X pins σ H { s with heap := h', toks := t' } := I.un (Un.kept k) (I.hok.kept k)
/-- a new object laid and tracked -/
theorem Inv.laid {a : Addr} {o : HO} {t' : Nat} (I : Inv X pins σ H s) (k : ∀ b u, s.heap.get? b = some u → h'.get? b = some u) (hp : s.heap.objs.size ≤ a) (new : ObjOk X.prog X.w (upd H a o) h' a o) :
    Inv X pins σ (upd H a o) { s with heap := h', toks := t' } := I.un (Un.laid k hp (I.hok.fresh hp)) (I.hok.laid k hp new)
/-- an object written -/
theorem Inv.write {x e : Addr} {o : HO} {t' : Nat} (I : Inv X pins σ H s) (mu : Mut (H x)) (he : e = x ∨ H e = some (.own x)) (k : ∀ b u, b ≠ e → s.heap.get? b = some u → h'.get? b = some u) (heo : ∃ u, h'.get? e = some u)
    (new : ObjOk X.prog X.w (upd H x o) h' x o) : Inv X pins σ (upd H x o) { s with heap := h', toks := t' } := I.un (Un.write mu he k heo) (I.hok.write mu he k heo new)
theorem Inv.pins_of {pins' : List (Addr × Obj)} (I : Inv X pins σ H s) (h : ∀ p ∈ pins', s.heap.get? p.1 = some p.2 ∧ H p.1 = none ∧ p.1 ≠ X.env.locals ∧ p.1 ∉ X.fs ∧ ∀ v, p.2.data ≠ .cell v) : Inv X pins' σ H s :=
  ⟨I.ok, I.os, I.bare, I.base, I.loc, I.cell, I.free, I.freeC, fun p hp => (List.mem_append.mp hp).elim (fun z => I.pin p (List.mem_append_left _ z)) (h p), I.hok, I.len⟩

theorem nodup_ix {N : List Str} (hN : N.Nodup) {i j : Nat} {x : Str} (a : N[i]? = some x) (b : N[j]? = some x) : i = j := by
  obtain ⟨h1, e1⟩ := List.getElem?_eq_some_iff.mp a
  obtain ⟨h2, e2⟩ := List.getElem?_eq_some_iff.mp b
  exact (List.getElem_inj hN).mp (e1.trans e2.symm)

/-- a name is stored; what changed -/
theorem store_ok2 {M : Model} {A : Around} {E : Value → Shared → Prop} {i : Nat} {x : Str} {v : V} {u : Value} {Q : Unit → Shared → Prop} (I : Inv X pins σ H s) (hN : X.N.Nodup) (hi : X.N[i]? = some x) (hx : Loc X.env.scope x) (r : RelV v u)
    (h : ∀ s', Inv X pins (σ.set i (some v)) H s' → (∃ a, Heap.SameBut a s.heap s'.heap ∧ (a = X.env.locals ∨ X.env.cells.lookup x = some a)) → Q () s') (hf : X.fn x = true ∨ X.env.scope.names.lookup x = some .local := by first | exact .inl rfl | exact .inr rfl | assumption) : wpAny M A (storeName X.env x u) Q E s := by
  obtain ⟨m, hn, hl⟩ := id I.loc
  have hcls : (X.env.scope.kind == .class || (X.env.scope.kind == .module && X.env.locals != X.env.globals)) = false := by rw [I.ok.kind]; rfl
  have hiσ : i < σ.length := by rw [I.len]; exact (List.getElem?_eq_some_iff.mp hi).1
  have cne := I.cne
  have tracked : ∀ {a : Addr} {h' : Heap}, (∃ o, s.heap.get? a = some o ∧ H a = none) → Heap.SameBut a s.heap h' → HOk X.prog X.w H h' := fun {a h'} ha hs b ob e => by
    obtain ⟨_, _, hfree⟩ := ha
    refine (I.hok b ob e).stay (fun c w' hc q => (hs.2 c ?_).trans q) (fun _ q => q) fun _ _ q => q
    rintro rfl
    rcases hc with rfl | hc
    · rw [hfree] at e; cases e
    · rw [hfree] at hc; cases hc
  rcases hx with hk | hk
  · refine wpAny_storeName_local hk hn (fun h' hn' hs => ?_) hcls
    obtain ⟨oL, _, _, hoL, _⟩ := id hn
    refine h _ ⟨I.ok, I.os, I.bare, ⟨fun b o e n hb hx => ?_, fun b o e n hb hx => ?_, I.base.free, fun b o e hx => ?_, I.base.tups, I.base.frzs, I.base.tbls⟩, ⟨_, hn', fun j y v' e1 e2 e3 => ?_⟩, fun y c e => ?_, I.free, I.freeC, fun p hp => ?_, tracked ⟨oL, hoL, I.free⟩ hs, by simpa using I.len⟩ ⟨_, hs, .inl rfl⟩
    · exact (hs.2 b (Nat.ne_of_lt (Nat.lt_of_lt_of_le (Heap.lt_size e) I.ok.above))).trans (I.base.keep b o e n hb hx)
    · obtain ⟨sl, e1⟩ := I.base.slot b o e n hb hx
      exact ⟨sl, (hs.2 b (Nat.ne_of_lt (Nat.lt_of_lt_of_le (Heap.lt_size e) I.ok.above))).trans e1⟩
    · obtain ⟨o', e1⟩ := I.base.there b o e hx
      exact ⟨o', (hs.2 b (Nat.ne_of_lt (Nat.lt_of_lt_of_le (Heap.lt_size e) I.ok.above))).trans e1⟩
    · by_cases hj : j = i
      · subst hj
        rw [hi] at e1; cases e1
        rw [List.getElem?_set_self hiσ] at e2
        cases e2
        exact ⟨u, r, .inl ⟨hk, by simp⟩⟩
      · rw [List.getElem?_set_ne (Ne.symm hj)] at e2
        obtain ⟨u', r', q⟩ := hl j y v' e1 e2 e3
        refine ⟨u', r', ?_⟩
        rcases q with ⟨k, e⟩ | ⟨k, c, e, z⟩
        · refine .inl ⟨k, ?_⟩
          have : y ≠ x := fun e => hj (nodup_ix hN e1 (e ▸ hi))
          simp [this, e]
        · exact .inr ⟨k, c, e, z.sameBut hs (cne y c e)⟩
    · obtain ⟨w', z⟩ := I.cell y c e
      exact ⟨w', z.sameBut hs (cne y c e)⟩
    · obtain ⟨e, n, ne, nf, d⟩ := I.pin p hp
      exact ⟨(hs.2 p.1 ne).trans e, n, ne, nf, d⟩
  · have hfn : X.fn x = true := by
      rcases hf with z | z
      · exact z
      · rw [z] at hk; cases hk
    obtain ⟨c, hc⟩ := I.ok.has x (.inl hk)
    obtain ⟨w', z⟩ := I.cell x c hc
    refine wpAny_storeName_cell I.ok.kind hk hc z (fun h' hc' hs => ?_)
    obtain ⟨oc, hoc, hocd⟩ := id z
    refine h { s with heap := h' } ⟨I.ok, I.os, I.bare, ⟨fun b o e n hb hx => ?_, fun b o e n hb hx => ?_, I.base.free, fun b o e hx => ?_, I.base.tups, I.base.frzs, I.base.tbls⟩, ⟨m, hn.sameBut hs (Ne.symm (cne x c hc)), fun j y v' e1 e2 e3 => ?_⟩, fun y c' e => ?_, I.free, I.freeC, fun p hp => ?_, tracked ⟨oc, hoc, I.freeC x c hc⟩ hs, by simpa using I.len⟩ ⟨c, hs, .inr hc⟩
    · exact (hs.2 b (Nat.ne_of_lt (Nat.lt_of_lt_of_le (Heap.lt_size e) (I.ok.cab x c hfn hc)))).trans (I.base.keep b o e n hb hx)
    · obtain ⟨sl, e1⟩ := I.base.slot b o e n hb hx
      exact ⟨sl, (hs.2 b (Nat.ne_of_lt (Nat.lt_of_lt_of_le (Heap.lt_size e) (I.ok.cab x c hfn hc)))).trans e1⟩
    · obtain ⟨o', e1⟩ := I.base.there b o e hx
      exact ⟨o', (hs.2 b (Nat.ne_of_lt (Nat.lt_of_lt_of_le (Heap.lt_size e) (I.ok.cab x c hfn hc)))).trans e1⟩
    · by_cases hj : j = i
      · subst hj
        rw [hi] at e1; cases e1
        rw [List.getElem?_set_self hiσ] at e2
        cases e2
        exact ⟨u, r, .inr ⟨.inl hk, c, hc, hc'⟩⟩
      · rw [List.getElem?_set_ne (Ne.symm hj)] at e2
        obtain ⟨u', r', q⟩ := hl j y v' e1 e2 e3
        refine ⟨u', r', ?_⟩
        rcases q with q | ⟨k, c', e, z'⟩
        · exact .inl q
        · refine .inr ⟨k, c', e, z'.sameBut hs ?_⟩
          rintro rfl
          exact hj (nodup_ix hN e1 (I.ok.inj _ _ _ e hc ▸ hi))
    · by_cases hcc : c' = c
      · subst hcc; exact ⟨_, hc'⟩
      · obtain ⟨w2, z2⟩ := I.cell y c' e
        exact ⟨w2, z2.sameBut hs hcc⟩
    · obtain ⟨e, n, ne, nf, d⟩ := I.pin p hp
      refine ⟨(hs.2 p.1 ?_).trans e, n, ne, nf, d⟩
      intro q
      rw [q, hoc] at e
      have q' : oc = p.2 := Option.some.inj e
      exact d w' (by rw [← q']; exact hocd)
theorem store_ok {M : Model} {A : Around} {E : Value → Shared → Prop} {i : Nat} {x : Str} {v : V} {u : Value} {Q : Unit → Shared → Prop} (I : Inv X pins σ H s) (hN : X.N.Nodup) (hi : X.N[i]? = some x) (hx : Loc X.env.scope x) (r : RelV v u)
    (h : ∀ s', Inv X pins (σ.set i (some v)) H s' → Q () s') (hf : X.fn x = true ∨ X.env.scope.names.lookup x = some .local := by first | exact .inl rfl | exact .inr rfl | assumption) : wpAny M A (storeName X.env x u) Q E s :=
  store_ok2 I hN hi hx r (fun s' I' _ => h s' I') hf
/-- behind a call or a block, the state as it is -/
theorem Inv.call' {s' : Shared} {ch : List Addr} (I : Inv X pins σ H s) (ho : s'.os = s.os) (u : Un (frs X.stack) ch H H' s.heap s'.heap) (hok : HOk X.prog X.w H' s'.heap) (hg : AllBare s'.gens)
    (hch : ∀ b ∈ ch, (b ∈ X.ex ∨ X.s₀.heap.objs.size ≤ b) ∧ b ≠ X.env.locals ∧ (∀ x c, X.env.cells.lookup x = some c → c ≠ b) ∧ ∀ p ∈ X.pn ++ pins, p.1 ≠ b) : Inv X pins σ H' s' := by
  obtain ⟨h', g', d', t', o'⟩ := s'
  have e : o' = s.os := ho
  subst e
  exact I.call (g' := g') (t' := t') (d' := d') u hok hg hch
end

/-- an exception: its class, its own dict's address (where it has one), the abstract heap behind it -/
abbrev XK := Value → Option Addr → Hp → Prop
abbrev St := List (Option V)
abbrev VK := V → Hp → Prop
/-- an expression's reading; a test's; an argument list's -/
abbrev TE := St → Hp → VK → Prop
abbrev TT := St → Hp → (Bool → Hp → Prop) → Prop
abbrev TA := St → Hp → (List V → Hp → Prop) → Prop
/-- what is wanted behind a statement -/
structure Ends where
  nx : St → Hp → Prop
  rt : VK
  bk : St → Hp → Prop := fun _ _ => False
  ct : St → Hp → Prop := fun _ _ => False
abbrev TS := Ends → St → Hp → Prop

def EP (X : Cx) (pins : List (Addr × Obj)) (σ : St) (Q : VK) (u : Value) (s' : Shared) : Prop := ∃ v H', Inv X pins σ H' s' ∧ RelV v u ∧ Q v H'
def TP (X : Cx) (pins : List (Addr × Obj)) (σ : St) (Q : Bool → Hp → Prop) (b : Bool) (s' : Shared) : Prop := ∃ H', Inv X pins σ H' s' ∧ Q b H'
def AP (X : Cx) (pins : List (Addr × Obj)) (σ : St) (Q : List V → Hp → Prop) (us : List Value) (s' : Shared) : Prop := ∃ vs H', Inv X pins σ H' s' ∧ Vals vs us ∧ Q vs H'
def SP (X : Cx) (pins : List (Addr × Obj)) (D : Ends) (f : Flow) (s' : Shared) : Prop :=
  match f with
  | .next => ∃ σ' H', Inv X pins σ' H' s' ∧ D.nx σ' H'
  | .brk => ∃ σ' H', Inv X pins σ' H' s' ∧ D.bk σ' H'
  | .cont => ∃ σ' H', Inv X pins σ' H' s' ∧ D.ct σ' H'
  | .ret u => ∃ v σ' H', Inv X pins σ' H' s' ∧ RelV v u ∧ D.rt v H'

def PE (X : Cx) (e : Expr) (t : TE) : Prop :=
  ∀ (pins : List (Addr × Obj)) (s : Shared) (σ : St) (H : Hp) (Q : VK), Inv X pins σ H s → t σ H Q → wpAny (model X.prog X.w) X.A (eval e X.env) (EP X pins σ Q) X.xe s
def PT (X : Cx) (e : Expr) (t : TT) : Prop :=
  ∀ (pins : List (Addr × Obj)) (s : Shared) (σ : St) (H : Hp) (Q : Bool → Hp → Prop), Inv X pins σ H s → t σ H Q → wpAny (model X.prog X.w) X.A (isTrue e X.env (eval e X.env)) (TP X pins σ Q) X.xe s
/-- a test whatever its 'whole' is (and, or) -/
def PW (X : Cx) (e : Expr) (t : TT) : Prop :=
  ∀ (whole : Sem Value) (pins : List (Addr × Obj)) (s : Shared) (σ : St) (H : Hp) (Q : Bool → Hp → Prop), Inv X pins σ H s → t σ H Q → wpAny (model X.prog X.w) X.A (isTrue e X.env whole) (TP X pins σ Q) X.xe s
theorem PW.pt {X : Cx} {e : Expr} {t : TT} (h : PW X e t) : PT X e t := h _
/-- an argument list (no star), from the left -/
def PA (X : Cx) (es : List Expr) (t : TA) : Prop :=
  ∀ (pos : Pos) (pins : List (Addr × Obj)) (s : Shared) (σ : St) (H : Hp) (Q : List V → Hp → Prop), Inv X pins σ H s → t σ H Q → wpAny (model X.prog X.w) X.A (spliced (backTo pos (starEach es X.env))) (AP X pins σ Q) X.xe s
def PS (X : Cx) (st : Stmt) (t : TS) : Prop :=
  ∀ (pins : List (Addr × Obj)) (s : Shared) (σ : St) (H : Hp) (D : Ends), Inv X pins σ H s → t D σ H → wpAny (model X.prog X.w) X.A (exec st X.env) (SP X pins D) X.xe s
def PSs (X : Cx) (st : List Stmt) (t : TS) : Prop :=
  ∀ (pins : List (Addr × Obj)) (s : Shared) (σ : St) (H : Hp) (D : Ends), Inv X pins σ H s → t D σ H → wpAny (model X.prog X.w) X.A (execs st X.env) (SP X pins D) X.xe s
/-- weaken the end -/
theorem thn {α : Type} {t : Sem α} {Q Q' : α → Shared → Prop} {M : Model} {A : Around} {E : Value → Shared → Prop} {s : Shared} (h : wpAny M A t Q E s) (hQ : ∀ a s, Q a s → Q' a s) : wpAny M A t Q' E s := wpAny_mono h hQ fun _ _ x => x
end L2

namespace L2
open PySem PySem.Spec PyProof.Rows
section
variable {X : Cx}

def tVar (i : Nat) : TE := fun σ H Q => ∃ v, σ[i]? = some (some v) ∧ Q v H
def tC (v : V) : TE := fun _ H Q => Q v H
theorem pe_var {i : Nat} {x : Str} {pos : Pos} (hN : X.N[i]? = some x) (hv : Vis X.env.scope x) (hd : (x == ("__debug__" : Str)) = false := by decide) (hcd : (x == ("__classdict__" : Str)) = false := by decide) : PE X (.Name x pos) (tVar i) := by
  intro pins s σ H Q I h
  obtain ⟨v, e, h⟩ := h
  obtain ⟨m, hn, hl⟩ := I.loc
  obtain ⟨u, r, l⟩ := hl i x v hN e hv
  have fin : EP X pins σ Q u s := ⟨v, H, I, r, h⟩
  rcases l with ⟨hk, hm⟩ | ⟨hk, c, hc, hcell⟩
  · exact wpAny_Name (wpAny_loadName_local I.ok.kind hk hn hm fin) hd
  · rcases hk with hk | hk
    · exact wpAny_Name (wpAny_loadName_cell I.ok.kind hk hc hcell fin) hd
    · exact wpAny_Name (wpAny_loadName_free I.ok.kind hk hc hcell fin hcd) hd
theorem pe_int {i j pos} : PE X (.Constant (.int i) j pos) (tC (.int i)) := fun _ _ _ H _ I h => wpAny_Constant_int ⟨.int i, H, I.tok _, ⟨_, rfl⟩, h⟩
theorem pe_bl {b j pos} : PE X (.Constant (.bool b) j pos) (tC (.bl b)) := fun _ _ _ H _ I h => Constant_bool ⟨.bl b, H, I, rfl, h⟩
theorem pe_non {j pos} : PE X (.Constant .none j pos) (tC .non) := fun _ _ _ H _ I h => Constant_none ⟨.non, H, I, rfl, h⟩
theorem pe_str {x j pos} : PE X (.Constant (.str x) j pos) (tC (.str x)) := fun _ _ _ H _ I h => Calls.Constant_str ⟨.str x, H, I.tok _, ⟨_, rfl⟩, h⟩

/-- a global name of the def -/
def Gl (X : Cx) (x : Str) : Prop := X.env.kindOf x = some .globalImplicit
theorem ld_glob {E : Value → Shared → Prop} {pins : List (Addr × Obj)} {s : Shared} {σ : St} {H : Hp} {x : Str} {u : Value} {pos : Pos} {Q : Value → Shared → Prop} (I : Inv X pins σ H s) (hg : Gl X x) (hm : X.mg x = some u) (h : Q u s)
    (hd : (x == ("__debug__" : Str)) = false := by decide) : wpAny (model X.prog X.w) X.A (eval (.Name x pos) X.env) Q E s :=
  Calls.Name_function_global I.ok.kind hg (Calls.loadGlobal_global (by rw [I.ok.glob]; exact I.mod.glob.keeps I.bk) hm h) hd
theorem ld_blt {E : Value → Shared → Prop} {pins : List (Addr × Obj)} {s : Shared} {σ : St} {H : Hp} {x : Str} {u : Value} {pos : Pos} {Q : Value → Shared → Prop} (I : Inv X pins σ H s) (hg : Gl X x) (hm : X.mg x = none) (hv : bootBuiltins x = some u) (h : Q u s)
    (hn : x ≠ "__name__" := by decide) (hd : (x == ("__debug__" : Str)) = false := by decide) : wpAny (model X.prog X.w) X.A (eval (.Name x pos) X.env) Q E s := by
  obtain ⟨mb, h1, h2⟩ := I.mod.blt
  exact Calls.Name_function_global I.ok.kind hg (Calls.loadGlobal_builtin (by rw [I.ok.glob]; exact I.mod.glob.keeps I.bk) hm (by rw [I.ok.blt]; exact h1.keeps I.bk) ((h2 x hn).trans hv) h) hd
/-- a module's constant, a class, a function, as a value -/
theorem pe_glob {x : Str} {v : V} {u : Value} {pos : Pos} (hg : Gl X x) (hm : X.mg x = some u) (r : RelV v u) (hd : (x == ("__debug__" : Str)) = false := by decide) : PE X (.Name x pos) (tC v) :=
  fun _ _ _ H _ I h => ld_glob I hg hm ⟨v, H, I, r, h⟩ hd
theorem pe_bltn {x : Str} {v : V} {u : Value} {pos : Pos} (hg : Gl X x) (hm : X.mg x = none) (hv : bootBuiltins x = some u) (r : RelV v u) (hn : x ≠ "__name__" := by decide) (hd : (x == ("__debug__" : Str)) = false := by decide) : PE X (.Name x pos) (tC v) :=
  fun _ _ _ H _ I h => ld_blt I hg hm hv ⟨v, H, I, r, h⟩ hn hd

variable {a b : Expr} {ta tb : TE} {pos : Pos}
def PC (X : Cx) (op : CmpOp) (a b : Expr) (t : TE) : Prop :=
  ∀ (pins : List (Addr × Obj)) (s : Shared) (σ : St) (H : Hp) (Q : VK), Inv X pins σ H s → t σ H Q →
    wpAny (model X.prog X.w) X.A (eval a X.env) (fun v s₁ => wpAny (model X.prog X.w) X.A (eval b X.env) (fun u s₂ => wpAny (model X.prog X.w) X.A (compareOp op v u) (EP X pins σ Q) X.xe s₂) X.xe s₁) X.xe s
theorem nobehind (b : Expr) {op : CmpOp} (h : op ≠ .In) (h2 : op ≠ .NotIn) : behindInMarks op b = false := by
  have e1 : (op == CmpOp.In) = false := by cases op <;> first | rfl | exact absurd rfl h
  have e2 : (op == CmpOp.NotIn) = false := by cases op <;> first | rfl | exact absurd rfl h2
  cases b <;> simp [behindInMarks, e1, e2]
/-- a comparison as a value, as a test -/
def tB (t : TE) : TT := fun σ H Q => t σ H fun x H1 => ∃ c, x = .bl c ∧ Q c H1
theorem pt_cmp {op : CmpOp} {t : TE} (h : PC X op a b t) (h1 : behindInMarks op b = false := by first | exact nobehind _ (by decide) (by decide) | rfl) : PT X (.Compare a [op] [b] pos) (tB t) := by
  intro pins s σ H Q I hw
  refine wpAny_isTrue_Compare1 (thn (h pins s σ H _ I hw) fun v s1 h1 => thn h1 fun u s2 h2 => thn h2 fun c s3 ⟨x, H1, I1, r1, q1⟩ => ?_) h1
  obtain ⟨d, rfl, q⟩ := q1
  cases r1
  exact wpAny_truthy_bool ⟨H1, I1, q⟩
/-- an expression whose value is a bool, as a test -/
theorem pt_val {e : Expr} {t : TE} (h : PE X e t) (he : ∀ whole, isTrue e X.env whole = (do let v ← whole; standAt e.pos; holding [v] (truthy v)) := by intro _; rfl) : PT X e (tB t) := by
  intro pins s σ H Q I hw
  refine isTrue_plain (thn (h pins s σ H _ I hw) fun v s1 ⟨x, H1, I1, r1, q1⟩ => ?_) (he _)
  obtain ⟨d, rfl, q⟩ := q1
  cases r1
  exact wpAny_truthy_bool ⟨H1, I1, q⟩

variable {tA tB' : TT} {rest : List Expr}
def tAnd (t u : TT) : TT := fun σ H Q => t σ H fun c H1 => if c = true then u σ H1 Q else Q false H1
def tOr (t u : TT) : TT := fun σ H Q => t σ H fun c H1 => if c = true then Q true H1 else u σ H1 Q
def tNot (t : TT) : TT := fun σ H Q => t σ H fun c H1 => Q (!c) H1
theorem pw_and1 (ha : PT X a tA) : PW X (.BoolOp .And [a] pos) tA := by
  intro wh pins s σ H Q I h
  refine isTrue_and (thn (ha pins s σ H Q I h) fun c s1 e => ?_)
  cases c with
  | true => exact isTrue_and_nil e
  | false => exact e
theorem pw_or1 (ha : PT X a tA) : PW X (.BoolOp .Or [a] pos) tA := by
  intro wh pins s σ H Q I h
  refine isTrue_or (thn (ha pins s σ H Q I h) fun c s1 e => ?_)
  cases c with
  | false => exact isTrue_or_nil e
  | true => exact e
theorem pw_and (ha : PT X a tA) (hb : PW X (.BoolOp .And (b :: rest) pos) tB') : PW X (.BoolOp .And (a :: b :: rest) pos) (tAnd tA tB') := by
  intro wh pins s σ H Q I h
  refine isTrue_and (thn (ha pins s σ H _ I h) fun c s1 ⟨H1, I1, q1⟩ => ?_)
  cases c with
  | true => exact hb wh pins s1 σ H1 Q I1 q1
  | false => exact ⟨H1, I1, q1⟩
theorem pw_or (ha : PT X a tA) (hb : PW X (.BoolOp .Or (b :: rest) pos) tB') : PW X (.BoolOp .Or (a :: b :: rest) pos) (tOr tA tB') := by
  intro wh pins s σ H Q I h
  refine isTrue_or (thn (ha pins s σ H _ I h) fun c s1 ⟨H1, I1, q1⟩ => ?_)
  cases c with
  | true => exact ⟨H1, I1, q1⟩
  | false => exact hb wh pins s1 σ H1 Q I1 q1
theorem pt_not (ha : PT X a tA) : PT X (.UnaryOp .Not a pos) (tNot tA) := by
  intro pins s σ H Q I h
  exact isTrue_not (ha pins s σ H (fun c H1 => Q (!c) H1) I h)
/-- .. as values (bools) -/
def tAndV (ta tb : TE) : TE := fun σ H Q => ta σ H fun x H1 => ∃ c, x = .bl c ∧ if c = true then tb σ H1 Q else Q (.bl false) H1
def tOrV (ta tb : TE) : TE := fun σ H Q => ta σ H fun x H1 => ∃ c, x = .bl c ∧ if c = true then Q (.bl true) H1 else tb σ H1 Q
def tNotV (ta : TE) : TE := fun σ H Q => ta σ H fun x H1 => ∃ c, x = .bl c ∧ Q (.bl (!c)) H1
theorem pe_one {op} {t : TE} (h : PE X a t) : PE X (.BoolOp op [a] pos) t := fun pins s σ H Q I hw => BoolOp_one (h pins s σ H Q I hw)
theorem pe_and (ha : PE X a ta) (hb : PE X (.BoolOp .And (b :: rest) pos) tb) : PE X (.BoolOp .And (a :: b :: rest) pos) (tAndV ta tb) := by
  intro pins s σ H Q I h
  refine BoolOp_and (thn (ha pins s σ H _ I h) fun v s1 ⟨x, H1, I1, r1, q1⟩ => ?_)
  obtain ⟨c, rfl, q1⟩ := q1
  cases r1
  refine wpAny_truthy_bool ?_
  cases c with
  | true => exact hb pins s1 σ H1 Q I1 q1
  | false => exact ⟨.bl false, H1, I1, rfl, q1⟩
theorem pe_not (ha : PE X a ta) : PE X (.UnaryOp .Not a pos) (tNotV ta) := by
  intro pins s σ H Q I h
  refine UnaryOp_ (thn (ha pins s σ H _ I h) fun v s1 ⟨x, H1, I1, r1, q1⟩ => ?_)
  obtain ⟨c, rfl, q1⟩ := q1
  cases r1
  exact not_of (wpAny_truthy_bool ⟨.bl (!c), H1, I1, rfl, q1⟩)
/-- a if t else b -/
def tIf (t : TT) (ta tb : TE) : TE := fun σ H Q => t σ H fun c H1 => if c = true then ta σ H1 Q else tb σ H1 Q
theorem pe_ifExp {c : Expr} (hc : PT X c tA) (ha : PE X a ta) (hb : PE X b tb) : PE X (.IfExp c a b pos) (tIf tA ta tb) := by
  intro pins s σ H Q I h
  refine wpAny_IfExp (thn (hc pins s σ H _ I h) fun d s1 ⟨H1, I1, q1⟩ => ?_)
  cases d with
  | true => exact ha pins s1 σ H1 Q I1 q1
  | false => exact hb pins s1 σ H1 Q I1 q1
end
end L2

namespace L2
open PySem PySem.Spec PyProof.Rows

def SqL (K : PySem.W.Frag) (H : Hp) (a : Addr) (xs : List V) : Prop :=
  Rd H a (.lst xs) ∨
    ∃ (o : Obj) (its : Array Value) (n : Nat), K.lookup a = some o ∧ o.cls = .type "list" ∧ o.dict = none ∧ o.data = .seq its n ∧ its.size ≤ sizeLine ∧ Vals xs its.toList
def SqT (K : PySem.W.Frag) (H : Hp) (a : Addr) (xs : List V) : Prop :=
  Rd H a (.tup xs) ∨
    ∃ (o : Obj) (its : Array Value) (n : Nat), K.lookup a = some o ∧ o.cls = .type "tuple" ∧ o.data = .seq its n ∧ its.size ≤ sizeLine ∧ Vals xs its.toList
def absV : Value → Option V
  | .none => some .non
  | .bool b => some (.bl b)
  | .int i _ => some (.int i)
  | .str x _ => some (.str x)
  | .bytes b _ => some (.byt b)
  | .float b _ => some (.flt b)
  | .ref a => some (.ref a)
  | .type n => some (.ty n)
  | _ => none
theorem RelV.abs {x : V} {u : Value} (r : RelV x u) : absV u = some x := by
  cases x with
  | non => cases r; rfl
  | bl _ => cases r; rfl
  | int _ => obtain ⟨t, rfl⟩ := r; rfl
  | str _ => obtain ⟨t, rfl⟩ := r; rfl
  | byt _ => obtain ⟨t, rfl⟩ := r; rfl
  | flt _ => obtain ⟨t, rfl⟩ := r; rfl
  | ref _ => cases r; rfl
  | ty _ => cases r; rfl
theorem RelV.inj {x y : V} {u : Value} (r : RelV x u) (q : RelV y u) : x = y := Option.some.inj (r.abs.symm.trans q.abs)
theorem Vals.inj : ∀ {xs ys : List V} {us : List Value}, Vals xs us → Vals ys us → xs = ys
  | _, _, _, .nil, .nil => rfl
  | _, _, _, .cons r t, .cons r' t' => by rw [r.inj r', Vals.inj t t']
section
variable {X : Cx} {pins : List (Addr × Obj)} {σ : St} {H : Hp} {s : Shared} {a : Addr} {xs ys : List V}
theorem SqL.of {K : PySem.W.Frag} (h : H a = some (.lst xs)) : SqL K H a xs := .inl (.inl h)
theorem SqT.of {K : PySem.W.Frag} (h : H a = some (.tup xs)) : SqT K H a xs := .inl (.inl h)
theorem Inv.list (I : Inv X pins σ H s) (h : SqL X.K H a xs) : ∃ its : List Value, Vals xs its ∧ PlainL s.heap a its.toArray ∧ xs.length ≤ sizeLine := by
  rcases h with h | ⟨o, its, n, hk, hc, hd, hs, hz, r⟩
  · obtain ⟨z, its, n, r, e⟩ := h.ok I.hok
    exact ⟨its, r, ⟨_, n, e, rfl, rfl, rfl⟩, z⟩
  · refine ⟨its.toList, r, ⟨o, n, I.kIn a o hk, hc, hd, by simpa using hs⟩, ?_⟩
    have e := r.length
    simp only [Array.length_toList] at e
    omega
theorem Inv.tuple (I : Inv X pins σ H s) (h : SqT X.K H a xs) : ∃ its : List Value, Vals xs its ∧ IsTup s.heap a its.toArray ∧ xs.length ≤ sizeLine := by
  rcases h with h | ⟨o, its, n, hk, hc, hs, hz, r⟩
  · obtain ⟨z, its, r, p⟩ := h.ok I.hok
    exact ⟨its, r, p, z⟩
  · refine ⟨its.toList, r, ⟨o, I.kIn a o hk, hc, n, by simpa using hs⟩, ?_⟩
    have e := r.length
    simp only [Array.length_toList] at e
    omega
theorem Inv.list_inj (I : Inv X pins σ H s) (h : SqL X.K H a xs) (h' : SqL X.K H a ys) : xs = ys := by
  obtain ⟨its, r, ⟨o, n, e, _, _, d⟩, _⟩ := I.list h
  obtain ⟨its', r', ⟨o', n', e', _, _, d'⟩, _⟩ := I.list h'
  rw [e] at e'; cases e'
  rw [d] at d'
  injection d' with d1 _
  have : its = its' := by simpa using congrArg Array.toList d1
  subst this
  exact r.inj r'
end

abbrev Cx.wish (X : Cx) (E : Value → Shared → Prop) : Cx := { X with xe := E }
/-- no exception leaves -/
abbrev Cx.nox (X : Cx) : Cx := X.wish fun _ _ => False
theorem Cx.Ok.wish {X : Cx} (ok : X.Ok) (E : Value → Shared → Prop) : (X.wish E).Ok :=
  ⟨ok.mod, ok.kind, ok.glob, ok.blt, ok.above, ok.inj, ok.has, ok.cab, ok.hd, ok.frames, ok.stk, ok.exf, ok.bs, ok.bsz, ok.noex, ok.exfs, ok.funs, ok.frf⟩
theorem Cx.Ok.unwish {X : Cx} {E : Value → Shared → Prop} (ok : (X.wish E).Ok) : X.Ok :=
  ⟨ok.mod, ok.kind, ok.glob, ok.blt, ok.above, ok.inj, ok.has, ok.cab, ok.hd, ok.frames, ok.stk, ok.exf, ok.bs, ok.bsz, ok.noex, ok.exfs, ok.funs, ok.frf⟩
section
variable {X : Cx} {pins : List (Addr × Obj)} {σ : St} {H : Hp} {s : Shared} {E : Value → Shared → Prop}
theorem Inv.wish (I : Inv X pins σ H s) (E : Value → Shared → Prop) : Inv (X.wish E) pins σ H s := ⟨I.ok.wish E, I.os, I.bare, I.base, I.loc, I.cell, I.free, I.freeC, I.pin, I.hok, I.len⟩
theorem Inv.unwish (I : Inv (X.wish E) pins σ H s) : Inv X pins σ H s := ⟨I.ok.unwish, I.os, I.bare, I.base, I.loc, I.cell, I.free, I.freeC, I.pin, I.hok, I.len⟩
theorem SP.unwish {D : Ends} {f : Flow} {s' : Shared} (h : SP (X.wish E) pins D f s') : SP X pins D f s' := by
  cases f with
  | next => obtain ⟨σ', H', I, q⟩ := h; exact ⟨σ', H', I.unwish, q⟩
  | brk => obtain ⟨σ', H', I, q⟩ := h; exact ⟨σ', H', I.unwish, q⟩
  | cont => obtain ⟨σ', H', I, q⟩ := h; exact ⟨σ', H', I.unwish, q⟩
  | ret u => obtain ⟨v, σ', H', I, r, q⟩ := h; exact ⟨v, σ', H', I.unwish, r, q⟩
theorem PSs.nox {st : List Stmt} {t : TS} (h : PSs X.nox st t) : PSs X st t := fun pins s σ H D I hw =>
  wpAny_mono (h pins s σ H D (I.wish _) hw) (fun _ _ q => q.unwish) fun _ _ z => False.elim z
end

section
variable {X : Cx} {st : Stmt} {rest : List Stmt} {t u : TS} {e : Expr} {te : TE} {pos : Pos}
def tNext : TS := fun D σ H => D.nx σ H
def tSeq (t u : TS) : TS := fun D σ H => t { D with nx := u D } σ H
theorem pss_cons (h1 : PS X st t) (h2 : PSs X rest u) : PSs X (st :: rest) (tSeq t u) := by
  intro pins s σ H D I h
  refine wpAny_execs_cons (thn (h1 pins s σ H { D with nx := u D } I h) fun f s1 q => ?_)
  cases f with
  | next =>
    obtain ⟨σ', H', I', q⟩ := q
    exact h2 pins s1 σ' H' D I' q
  | ret v => exact q
  | brk => exact q
  | cont => exact q
theorem pss_one (h1 : PS X st t) : PSs X [st] t := by
  intro pins s σ H D I h
  refine wpAny_execs_cons (thn (h1 pins s σ H D I h) fun f s1 q => ?_)
  cases f with
  | next => exact wpAny_execs_nil q
  | ret v => exact q
  | brk => exact q
  | cont => exact q
/-- in a def's body nothing is shown -/
theorem Inv.quiet {pins : List (Addr × Obj)} {σ : St} {H : Hp} {s : Shared} (I : Inv X pins σ H s) : interactive X.env = false := by simp [interactive, I.ok.kind]
/-- an expression whose value is dropped -/
def tDrop (te : TE) : TS := fun D σ H => te σ H fun _ H1 => D.nx σ H1
theorem ps_expr (he : PE X e te) (hs : swapsWith e none pos.line X.env = pure false := by rfl) : PS X (.Expr e pos) (tDrop te) := by
  intro pins s σ H D I h
  exact wpAny_Expr_any (thn (he pins s σ H _ I h) fun v s1 ⟨x, H1, I1, r1, q1⟩ => ⟨σ, H1, I1, q1⟩) I.quiet hs
def tRet (te : TE) : TS := fun D σ H => te σ H D.rt
theorem ps_ret (he : PE X e te) : PS X (.Return (some e) pos) (tRet te) := by
  intro pins s σ H D I h
  exact wpAny_Return_some (thn (he pins s σ H _ I h) fun v s1 ⟨x, H1, I1, r1, q1⟩ => ⟨x, σ, H1, I1, r1, q1⟩)
def tIfS (c : TT) (t u : TS) : TS := fun D σ H => c σ H fun b H1 => if b = true then t D σ H1 else u D σ H1
theorem ps_if {c : Expr} {a b : List Stmt} {tc : TT} (hc : PT X c tc) (ha : PSs X a t) (hb : PSs X b u) : PS X (.If c a b pos) (tIfS tc t u) := by
  intro pins s σ H D I h
  refine wpAny_If (thn (hc pins s σ H _ I h) fun d s1 ⟨H1, I1, q1⟩ => ?_)
  cases d with
  | true => exact ha pins s1 σ H1 D I1 q1
  | false => exact hb pins s1 σ H1 D I1 q1
end

abbrev TG := V → St → Hp → (St → Hp → Prop) → Prop
abbrev TGs := List V → St → Hp → (St → Hp → Prop) → Prop
def PG (X : Cx) (target : Expr) (t : TG) : Prop :=
  ∀ (pins : List (Addr × Obj)) (s : Shared) (σ : St) (H : Hp) (v : V) (u : Value) (Q : St → Hp → Prop), Inv X pins σ H s → RelV v u → t v σ H Q →
    wpAny (model X.prog X.w) X.A (assign target X.env u) (fun _ s' => ∃ σ' H', Inv X pins σ' H' s' ∧ Q σ' H') X.xe s
/-- several targets, one after another -/
def PGs (X : Cx) (ts : List Expr) (t : TGs) : Prop :=
  ∀ (pins : List (Addr × Obj)) (s : Shared) (σ : St) (H : Hp) (vs : List V) (us : List Value) (Q : St → Hp → Prop), Inv X pins σ H s → Vals vs us → t vs σ H Q →
    wpAny (model X.prog X.w) X.A (assignInOrder ((assignEach ts X.env).map (·.2)) us) (fun _ s' => ∃ σ' H', Inv X pins σ' H' s' ∧ Q σ' H') X.xe s
/-- a op= b, by values -/
abbrev TIp := V → V → Hp → VK → Prop
def PIp (X : Cx) (op : Operator) (t : TIp) : Prop :=
  ∀ (pins : List (Addr × Obj)) (s : Shared) (σ : St) (H : Hp) (x y : V) (v u : Value) (Q : VK), Inv X pins σ H s → RelV x v → RelV y u → t x y H Q →
    wpAny (model X.prog X.w) X.A (inplaceOp op v u) (EP X pins σ Q) X.xe s
section
variable {X : Cx} {pos : Pos}
def gName (i : Nat) : TG := fun v σ H Q => Q (σ.set i (some v)) H
theorem pg_name {i : Nat} {x : Str} (hN : X.N.Nodup) (hi : X.N[i]? = some x) (hx : Loc X.env.scope x) (hf : X.fn x = true ∨ X.env.scope.names.lookup x = some .local := by first | exact .inl rfl | exact .inr rfl | assumption) : PG X (.Name x pos) (gName i) := by
  intro pins s σ H v u Q I r h
  exact wpAny_assign_Name (store_ok I hN hi hx r (fun s' I' => ⟨_, H, I', h⟩) hf)
def gNil : TGs := fun vs σ H Q => vs = [] ∧ Q σ H
def gCons (t : TG) (u : TGs) : TGs := fun vs σ H Q => ∃ v r, vs = v :: r ∧ t v σ H fun σ' H' => u r σ' H' Q
theorem pgs_nil : PGs X [] gNil := by
  intro pins s σ H vs us Q I r h
  obtain ⟨e, h⟩ := h
  subst e
  cases r
  exact assignInOrder_nil ⟨σ, H, I, h⟩
theorem pgs_cons {e : Expr} {es : List Expr} {t : TG} {u : TGs} (h1 : PG X e t) (h2 : PGs X es u)
    (hs : (assignEach (e :: es) X.env).map (·.2) = assign e X.env :: (assignEach es X.env).map (·.2) := by rfl) : PGs X (e :: es) (gCons t u) := by
  intro pins s σ H vs us Q I r h
  obtain ⟨v, vr, e1, h⟩ := h
  subst e1
  cases r with
  | cons r rr =>
    rw [hs]
    refine assignInOrder_cons (thn (h1 pins s σ H _ _ _ I r h) fun _ s1 ⟨σ1, H1, I1, q1⟩ => ?_)
    exact h2 pins s1 σ1 H1 _ _ Q I1 rr q1
/-- (a, b, ..) = a tuple of that length -/
def gTup (K : PySem.W.Frag) (n : Nat) (t : TGs) : TG := fun v σ H Q => ∃ a xs, v = .ref a ∧ SqT K H a xs ∧ xs.length = n ∧ t xs σ H Q
theorem pg_tup {es : List Expr} {k : Nat} {t : TGs} {n : Nat} (hc : X.calm = true) (h : PGs X es t)
    (hn : (assignEach es X.env).length = n := by rfl) (hst : (assignEach es X.env).findIdx? (·.1) = none := by rfl) : PG X (.Tuple es k pos) (gTup X.K n t) := by
  intro pins s σ H v u Q I r hw
  obtain ⟨a, xs, e1, hq, hl, hw⟩ := hw
  subst e1
  cases r
  obtain ⟨its, rv, ht, hz⟩ := I.tuple hq
  refine assign_Tuple_tuple (I.ok.hd hc) ht (by simp [hn, ← hl, rv.length]) hst fun h' hx => ?_
  have I1 : Inv X pins σ H { s with heap := h' } := I.kept (t' := s.toks) fun b o e => hx b o (Nat.ne_of_lt (Heap.lt_size e)) e
  exact h pins _ σ H xs _ Q I1 (by simpa using rv) hw
/-- target = value -/
def tAsg (te : TE) (g : TG) : TS := fun D σ H => te σ H fun x H1 => g x σ H1 D.nx
theorem ps_asg {tg e : Expr} {te : TE} {g : TG} (he : PE X e te) (hg : PG X tg g) (hs : swapsWithSole [tg] e pos.line X.env = pure false := by rfl) (hw : swappedStores [tg] e X.env = pure none := by rfl)
    (h1 : (assignEach [tg] X.env).map (·.2) = [assign tg X.env] := by rfl) : PS X (.Assign [tg] e pos) (tAsg te g) := by
  intro pins s σ H D I h
  refine wpAny_Assign_stores (thn (he pins s σ H _ I h) fun v s1 ⟨x, H1, I1, r1, q1⟩ => ?_) hs hw
  rw [h1]
  exact thn (hg pins s1 σ H1 x v _ I1 r1 q1) fun _ s2 q => q
/-- name = value -/
theorem ps_set {i : Nat} {x : Str} {e : Expr} {te : TE} {pos' : Pos} (hN : X.N.Nodup) (hi : X.N[i]? = some x) (hx : Loc X.env.scope x) (he : PE X e te) (hs : swapsWith e (some (.Name x pos')) pos.line X.env = pure false := by rfl) (hf : X.fn x = true ∨ X.env.scope.names.lookup x = some .local := by first | exact .inl rfl | exact .inr rfl | assumption) :
    PS X (.Assign [.Name x pos'] e pos) (tAsg te (gName i)) := by
  intro pins s σ H D I h
  refine wpAny_Assign_Name (thn (he pins s σ H _ I h) fun v s1 ⟨y, H1, I1, r1, q1⟩ => ?_) hs
  exact store_ok I1 hN hi hx r1 (fun s2 I2 => ⟨_, H1, I2, q1⟩) hf
/-- name op= e -/
def tAug (i : Nat) (te : TE) (ti : TIp) : TS := fun D σ H => ∃ x, σ[i]? = some (some x) ∧ te σ H fun y H1 => ti x y H1 fun z H2 => D.nx (σ.set i (some z)) H2
theorem ps_aug {i : Nat} {x : Str} {e : Expr} {te : TE} {op : Operator} {ti : TIp} {pos' : Pos} (hN : X.N.Nodup) (hi : X.N[i]? = some x) (hx : Loc X.env.scope x) (he : PE X e te) (ho : PIp X op ti) (hf : X.fn x = true ∨ X.env.scope.names.lookup x = some .local := by first | exact .inl rfl | exact .inr rfl | assumption) :
    PS X (.AugAssign (.Name x pos') op e pos) (tAug i te ti) := by
  intro pins s σ H D I h
  obtain ⟨v, e1, h⟩ := h
  obtain ⟨m, hn, hl⟩ := I.loc
  have vis : Vis X.env.scope x := by rcases hx with k | k; exact .inl k; exact .inr (.inl k)
  obtain ⟨u, r, l⟩ := hl i x v hi e1 vis
  refine wpAny_AugAssign_Name ?_
  have go : wpAny (model X.prog X.w) X.A (eval e X.env) (fun w s₂ => wpAny (model X.prog X.w) X.A (inplaceOp op u w) (fun r s₃ => wpAny (model X.prog X.w) X.A (storeName X.env x r) (fun _ => SP X pins D .next) X.xe s₃) X.xe s₂) X.xe s := by
    refine thn (he pins s σ H _ I h) fun w s1 ⟨y, H1, I1, r1, q1⟩ => ?_
    refine thn (ho pins s1 σ H1 v y u w _ I1 r r1 q1) fun z s2 ⟨zv, H2, I2, r2, q2⟩ => ?_
    exact store_ok I2 hN hi hx r2 (fun s3 I3 => ⟨_, H2, I3, q2⟩) hf
  rcases l with ⟨hk, hm⟩ | ⟨hk, c, hc, hcell⟩
  · exact wpAny_loadName_local I.ok.kind hk hn hm go
  · rcases hk with hk | hk
    · exact wpAny_loadName_cell I.ok.kind hk hc hcell go
    · rcases hx with k | k
      · have : X.env.scope.names.lookup x = some .free := hk
        rw [k] at this; cases this
      · have : X.env.scope.names.lookup x = some .free := hk
        rw [k] at this; cases this
/-- ints -/
def ipI (f : Int → Int → Int) : TIp := fun x y H Q => ∃ i j, x = .int i ∧ y = .int j ∧ Q (.int (f i j)) H
theorem ip_add : PIp X .Add (ipI fun i j => i + j) := by
  intro pins s σ H x y v u Q I r1 r2 h
  obtain ⟨i, j, e1, e2, q⟩ := h
  subst e1; subst e2
  obtain ⟨t, rfl⟩ := r1
  obtain ⟨t', rfl⟩ := r2
  exact iadd_int ⟨.int _, H, I.tok _, ⟨_, rfl⟩, q⟩
end

section
variable {X : Cx} {pos : Pos}
/-- the invariant W with its measure -/
def tWhile (c : TT) (tb : TS) : TS := fun D σ H => ∃ W : Nat → St → Hp → Prop, (∃ m, W m σ H) ∧ ∀ m σ H, W m σ H →
  c σ H fun b H1 => if b = true then ∃ N : St → Hp → Prop, (∀ σ' H', N σ' H' → ∃ m', m' < m ∧ W m' σ' H') ∧ tb { D with nx := N, ct := N, bk := D.nx } σ H1 else D.nx σ H1
theorem ps_while {c : Expr} {body : List Stmt} {tc : TT} {tb : TS} (hp : PassesOwn (model X.prog X.w) X.A X.env X.xe) (hc : PT X c tc) (hb : PSs X body tb) : PS X (.While c body [] pos) (tWhile tc tb) := by
  intro pins s σ H D I h
  obtain ⟨W, ⟨m0, w0⟩, turn⟩ := h
  refine wpAny_While (codeAny_whileLoop (fun n s' => ∃ σ' H', Inv X pins σ' H' s' ∧ W n σ' H') ?_ m0 ⟨σ, H, I, w0⟩)
  rintro n s1 ⟨σ1, H1, I1, w1⟩
  refine wpAny_passesOwn hp (thn (hc pins s1 σ1 H1 _ I1 (turn n σ1 H1 w1)) fun b s2 ⟨H2, I2, q2⟩ => ?_)
  cases b with
  | true =>
    obtain ⟨N, hN, q2⟩ := q2
    rw [if_pos rfl]
    refine wpAny_passesOwn hp (thn (hb pins s2 σ1 H2 _ I2 q2) fun f s3 q3 => ?_)
    cases f with
    | next =>
      obtain ⟨σ3, H3, I3, n3⟩ := q3
      obtain ⟨m', hm, w3⟩ := hN σ3 H3 n3
      exact ⟨m', hm, σ3, H3, I3, w3⟩
    | cont =>
      obtain ⟨σ3, H3, I3, n3⟩ := q3
      obtain ⟨m', hm, w3⟩ := hN σ3 H3 n3
      exact ⟨m', hm, σ3, H3, I3, w3⟩
    | brk => exact q3
    | ret v => exact q3
  | false =>
    rw [if_neg Bool.false_ne_true]
    exact wpAny_execs_nil ⟨σ1, H2, I2, q2⟩
end

/-- at turn i: it yields x (the heap may grow), or it stops -/
structure It where
  go : Nat → Hp → Prop
  yld : Nat → Hp → V → Hp → Prop
  stop : Nat → Hp → Prop
/-- the iterator's own objects may turn: they are not the frame's, not pinned, younger than the entry (or a comprehension's own) -/
def FpOk (X : Cx) (pins : List (Addr × Obj)) (H : Hp) (b : Addr) : Prop :=
  H b = none ∧ b ≠ X.env.locals ∧ b ∉ X.fs ∧ (b ∈ X.ex ∨ X.s₀.heap.objs.size ≤ b) ∧ (∀ x c, X.env.cells.lookup x = some c → c ≠ b) ∧ ∀ p ∈ X.pn ++ pins, p.1 ≠ b
theorem Inv.fpOk {X : Cx} {pins : List (Addr × Obj)} {σ : St} {H H' : Hp} {s : Shared} {b : Addr} (I : Inv X pins σ H s) (hb : s.heap.objs.size ≤ b) (hn : H' b = none) : FpOk X pins H' b := by
  refine ⟨hn, Nat.ne_of_gt (Nat.lt_of_lt_of_le I.lt hb), I.nofs hb, .inr (Nat.le_trans I.sz hb), fun x c e z => ?_, fun p hp z => ?_⟩
  · obtain ⟨v, q⟩ := I.cell x c e
    exact absurd (Nat.lt_of_lt_of_le q.lt (by rw [z]; exact hb)) (Nat.lt_irrefl _)
  · exact absurd (Nat.lt_of_lt_of_le (Heap.lt_size (I.pin p hp).1) (by rw [z]; exact hb)) (Nat.lt_irrefl _)
structure Turn (P : Program) (w : World) (K : PySem.W.Frag) (tg : Expr) (J : It) (fp : List Addr) (it : Addr) (tn : Nat → Heap → Prop) : Prop where
  mem : it ∈ fp
  obj : ∀ i h, tn i h → ∀ b ∈ fp, ∃ o, h.get? b = some o ∧ ∀ v, o.data ≠ .cell v
  keep : ∀ i h h', tn i h → (∀ b ∈ fp, ∀ o, h.get? b = some o → h'.get? b = some o) → tn i h'
  item : ∀ (X : Cx), X.prog = P → X.w = w → X.K = K → X.calm = true → ∀ (i : Nat) (pins : List (Addr × Obj)) (s : Shared) (σ : St) (H : Hp) (E : Value → Shared → Prop), Inv X pins σ H s → (∀ b ∈ fp, FpOk X pins H b) → tn i s.heap → J.go i H →
    wpAny (model P w) X.A (pyNext (.ref it)) (fun r s1 => ∃ u, r = some u ∧
      wpAny (model P w) X.A (letOwnedTupleGo tg (.ref it) u) (fun _ s2 => ∃ x H', Inv X pins σ H' s2 ∧ RelV x u ∧ J.yld i H x H' ∧ tn (i + 1) s2.heap ∧ ∀ b ∈ fp, H' b = none) E s1) E s
  done : ∀ (X : Cx), X.prog = P → X.w = w → X.K = K → X.calm = true → ∀ (i : Nat) (pins : List (Addr × Obj)) (s : Shared) (σ : St) (H : Hp) (E : Value → Shared → Prop), Inv X pins σ H s → (∀ b ∈ fp, FpOk X pins H b) → tn i s.heap → J.stop i H →
    wpAny (model P w) X.A (pyNext (.ref it)) (fun r s1 => r = none ∧ Inv X pins σ H s1) E s
  self : ∀ (A : Around) (i : Nat) (s : Shared) (Q : Value → Shared → Prop) (E : Value → Shared → Prop), tn i s.heap → Q (.ref it) s → wpAny (model P w) A (pyIter (.ref it)) Q E s
abbrev TI := St → Hp → (It → Hp → Prop) → Prop
/-- an iterator has come -/
def PIE (X : Cx) (pins : List (Addr × Obj)) (σ : St) (tg : Expr) (R : It → Hp → Prop) (itv : Value) (s2 : Shared) : Prop :=
  ∃ (it : Addr) (fp : List Addr) (tn : Nat → Heap → Prop) (J : It) (H' : Hp), itv = .ref it ∧ Inv X pins σ H' s2 ∧ Turn X.prog X.w X.K tg J fp it tn ∧ tn 0 s2.heap ∧ (∀ b ∈ fp, FpOk X pins H' b) ∧ R J H'
def PI (X : Cx) (tg iter : Expr) (wi : TI) : Prop :=
  ∀ (pins : List (Addr × Obj)) (s : Shared) (σ : St) (H : Hp) (R : It → Hp → Prop), Inv X pins σ H s → wi σ H R →
    wpAny (model X.prog X.w) X.A (eval iter X.env) (fun v s1 => wpAny (model X.prog X.w) X.A (pyIter v) (PIE X pins σ tg R) X.xe s1) X.xe s

/-- the step ahead of the store is nothing for an iterator that keeps no tuple -/
theorem go_of {M : Model} {A : Around} {E : Value → Shared → Prop} {s : Shared} {tg : Expr} {it : Addr} {u : Value} {o : Obj} {n : String} {vs : Array Value} {Q : Unit → Shared → Prop} (ho : s.heap.get? it = some o) (hc : o.cls = .type n) (hd : o.data = .fields vs)
    (hn : ["enumerate", "zip", "dict_itemiterator", "dict_reverseitemiterator", "odict_iterator", "itertools.zip_longest", "itertools.pairwise"].contains n = false) (hQ : Q () s) : wpAny M A (letOwnedTupleGo tg (.ref it) u) Q E s := by
  unfold letOwnedTupleGo
  cases tg <;> first
    | exact wpAny_pure hQ
    | (cases u <;> first
        | exact wpAny_pure hQ
        | (refine wpAny_bind (wpAny_load ho ?_)
           rw [hc, hd]
           show wpAny M A (if (["enumerate", "zip", "dict_itemiterator", "dict_reverseitemiterator", "odict_iterator", "itertools.zip_longest", "itertools.pairwise"].contains n && vs[0]? == some (rawInt _)) = true then _ else _) Q E s
           rw [if_neg (by intro h; rw [hn, Bool.false_and] at h; cases h)]
           exact wpAny_pure hQ))

/-- the list at a, as it stands at each turn (a loop may append to it) -/
def Itl (K : PySem.W.Frag) (a : Addr) : It :=
  ⟨fun i H => ∃ xs x, SqL K H a xs ∧ xs[i]? = some x, fun i H x H' => H' = H ∧ ∀ xs, SqL K H a xs → xs[i]? = some x, fun i H => ∃ xs, SqL K H a xs ∧ xs.length ≤ i⟩
/-- lo, lo + 1, .. (n of them) -/
def Itr (lo : Int) (n : Nat) : It := ⟨fun i _ => i < n, fun i H x H' => H' = H ∧ x = .int (lo + i), fun i _ => n ≤ i⟩
theorem turn_list {P : Program} {w : World} {K : PySem.W.Frag} {tg : Expr} (a it : Addr) : Turn P w K tg (Itl K a) [it] it (fun i h => h.IsListIter it a i) where
  mem := by simp
  obj := fun i h st b hb => by
    have e : b = it := by simpa using hb
    subst e
    obtain ⟨o, e, c, d⟩ := st
    exact ⟨o, e, fun v z => by rw [d] at z; cases z⟩
  keep := fun i h h' st k => st.at fun o e => k it (by simp) o e
  item := by
    intro X hP hw hK hc i pins s σ H E I hf st hg
    subst hP hw hK
    obtain ⟨xs, x, hq, hx⟩ := hg
    obtain ⟨its, rv, p, hz⟩ := I.list hq
    obtain ⟨u, hu, ru⟩ := rv.get hx
    obtain ⟨f0, f1, f2, f3, f4, f5⟩ := hf it (by simp)
    refine wpAny_pyNext_list_item st p.isList (x := u) (by simpa using hu) fun h' st' sb => ?_
    have I1 : Inv X pins σ H { s with heap := h' } := I.turned (t' := s.toks) (fun b o hb e => (sb.2 b hb).trans e) f0 f1 f3 f4 f5
    obtain ⟨o, e, c, d⟩ := id st'
    exact ⟨u, rfl, go_of (s := { s with heap := h' }) e c d (by decide) ⟨x, H, I1, ru, ⟨rfl, fun ys hy => by rw [I.list_inj hy hq]; exact hx⟩, st', fun b hb => (hf b hb).1⟩⟩
  done := by
    intro X hP hw hK hc i pins s σ H E I hf st hg
    subst hP hw hK
    obtain ⟨xs, hq, hx⟩ := hg
    obtain ⟨its, rv, p, hz⟩ := I.list hq
    obtain ⟨f0, f1, f2, f3, f4, f5⟩ := hf it (by simp)
    have hl := rv.length
    exact wpAny_pyNext_list_end (I.ok.hd hc) st p.isList (by simp; omega) fun h' eb => ⟨rfl, I.turned (t' := s.toks) (fun b o hb e => eb b o hb e) f0 f1 f3 f4 f5⟩
  self := fun _ _ _ _ _ st h => wpAny_pyIter_listiter st h
theorem turn_range {P : Program} {w : World} {K : PySem.W.Frag} {tg : Expr} (it : Addr) (lo : Int) (n : Nat) : Turn P w K tg (Itr lo n) [it] it (fun i h => IsRangeIter h it (lo + (i : Nat) * 1) ((n : Int) - (i : Nat)) 1) where
  mem := by simp
  obj := fun i h st b hb => by
    have e : b = it := by simpa using hb
    subst e
    exact ⟨_, st, fun v z => by
      have z' : Data.fields _ = Data.cell v := z
      cases z'⟩
  keep := fun i h h' st k => k it (by simp) _ st
  item := by
    intro X hP hw hK hc i pins s σ H E I hf st hg
    subst hP hw hK
    obtain ⟨f0, f1, f2, f3, f4, f5⟩ := hf it (by simp)
    have W := Walks.range (prog := X.prog) (w := X.w) (I.ok.hd hc) it lo 1 n
    refine W.item i s _ _ hg st fun v h' tk hv st' kk => ?_
    obtain ⟨t, rfl⟩ := hv
    have I1 : Inv X pins σ H { s with heap := h', toks := tk } := I.turned (fun b o hb e => kk b o (by simpa using hb) e) f0 f1 f3 f4 f5
    refine ⟨_, rfl, go_of (s := { s with heap := h', toks := tk }) (n := "range_iterator") st' rfl rfl (by decide) ⟨.int (lo + i), H, I1, ⟨t, ?_⟩, ⟨rfl, rfl⟩, st', fun b hb => (hf b hb).1⟩⟩
    rw [Int.mul_one]
  done := by
    intro X hP hw hK hc i pins s σ H E I hf st hg
    subst hP hw hK
    obtain ⟨f0, f1, f2, f3, f4, f5⟩ := hf it (by simp)
    exact wpAny_pyNext_range_end (I.ok.hd hc) st (by have : n ≤ i := hg; omega) fun h' eb => ⟨rfl, I.turned (t' := s.toks) (fun b o hb e => eb b o hb e) f0 f1 f3 f4 f5⟩
  self := fun _ _ _ _ _ st h => wpAny_pyIter_rangeiter st h
end L2

namespace L2
open PySem PySem.Spec PyProof.Rows
section
variable {X : Cx} {tg : Expr}
def iList (K : PySem.W.Frag) (tl : TE) : TI := fun σ H R => tl σ H fun x H1 => ∃ a, x = .ref a ∧ (∃ xs, SqL K H1 a xs) ∧ R (Itl K a) H1
theorem pi_list {l : Expr} {tl : TE} (hl : PE X l tl) : PI X tg l (iList X.K tl) := by
  intro pins s σ H R I h
  refine thn (hl pins s σ H _ I h) fun v s1 ⟨x, H1, I1, r1, q1⟩ => ?_
  obtain ⟨a, e, ⟨xs, hq⟩, q⟩ := q1
  subst e
  cases r1
  obtain ⟨its, rv, p, hz⟩ := I1.list hq
  refine wpAny_pyIter_list p.isList ?_
  refine ⟨s1.heap.objs.size, [s1.heap.objs.size], _, _, H1, rfl, I1.kept (t' := s1.toks) fun b o e => Heap.get?_push_of_some _ e, turn_list a _, ⟨_, Heap.get?_push_size _ rfl, rfl, rfl⟩, fun b hb => ?_, q⟩
  have e : b = s1.heap.objs.size := by simpa using hb
  subst e
  exact I1.fpOk (Nat.le_refl _) (I1.hok.fresh (Nat.le_refl _))
/-- a range object just made, walked -/
theorem range_it {pins : List (Addr × Obj)} {σ : St} {H : Hp} {s : Shared} {R : It → Hp → Prop} {E : Value → Shared → Prop} {lo hi : Int} {t u v : Tok} {tk : Nat} (I : Inv X pins σ H s) (h1 : -(2 ^ 62) ≤ lo) (h2 : lo < 2 ^ 62) (h3 : -(2 ^ 62) ≤ hi) (h4 : hi < 2 ^ 62)
    (q : R (Itr lo (hi - lo).toNat) H) : wpAny (model X.prog X.w) X.A (pyIter (.ref s.heap.objs.size)) (PIE X pins σ tg R) E { s with heap := s.heap.push { cls := .type "range", data := .fields #[.int lo t, .int hi u, .int 1 v] }, toks := tk } := by
  refine wpAny_pyIter_range (IsRange.new ..) (small_one h1 h2 h3 h4) ?_
  have I1 : Inv X pins σ H { s with heap := s.heap.push { cls := .type "range", data := .fields #[.int lo t, .int hi u, .int 1 v] }, toks := tk } := I.kept fun b o e => Heap.get?_push_of_some _ e
  refine ⟨(s.heap.push { cls := .type "range", data := .fields #[.int lo t, .int hi u, .int 1 v] }).objs.size, [(s.heap.push { cls := .type "range", data := .fields #[.int lo t, .int hi u, .int 1 v] }).objs.size], _, _, H, rfl,
    I1.kept (t' := tk) fun b o e => Heap.get?_push_of_some _ e, turn_range _ lo (hi - lo).toNat, ?_, fun b hb => ?_, q⟩
  · have e1 : lo + ((0 : Nat) : Int) * 1 = lo := by simp
    have e2 : (((hi - lo).toNat : Nat) : Int) - ((0 : Nat) : Int) = Builtin.Range.rangeSize lo hi 1 := by rw [rangeSize_one]; split <;> omega
    show IsRangeIter _ _ (lo + ((0 : Nat) : Int) * 1) ((((hi - lo).toNat : Nat) : Int) - ((0 : Nat) : Int)) 1
    rw [e1, e2]
    exact Heap.get?_push_size _ rfl
  · have e : b = (s.heap.push { cls := .type "range", data := .fields #[.int lo t, .int hi u, .int 1 v] }).objs.size := by simpa using hb
    subst e
    exact I1.fpOk (Nat.le_refl _) (I1.hok.fresh (Nat.le_refl _))
def iRng1 (ta : TA) : TI := fun σ H R => ta σ H fun vs H1 => ∃ j : Int, vs = [.int j] ∧ -(2 ^ 62) ≤ j ∧ j < 2 ^ 62 ∧ R (Itr 0 j.toNat) H1
theorem pi_range1 {a : Expr} {ta : TA} {p pos : Pos} (hg : Gl X "range") (hm : X.mg "range" = none) (ha : PA X [a] ta) (hs : starEach [a] X.env = [(false, eval a X.env)] := by rfl) : PI X tg (.Call (.Name "range" p) [a] [] pos) (iRng1 ta) := by
  intro pins s σ H R I h
  refine Call_ (ld_blt I hg hm boot_range (PyProof.Rows.callWith_type1 (thn (ha pos pins s σ H _ I h) fun us s1 ⟨vs, H1, I1, r1, q1⟩ => ?_) hs rfl))
  obtain ⟨j, e, q1, q2, q⟩ := q1
  subst e
  cases r1 with
  | cons r rr =>
    cases rr
    obtain ⟨t, rfl⟩ := r
    exact call_range_1 (range_it I1 (by omega) (by omega) q1 q2 (by simpa using q))
/-- W: the invariant by the turn and a measure; N: what the body is to reach -/
def tFor (wi : TI) (g : TG) (tb : TS) : TS := fun D σ H => wi σ H fun J H1 => ∃ W : Nat → Nat → St → Hp → Prop, (∃ m, W 0 m σ H1) ∧ ∀ i m σ H, W i m σ H →
  (J.stop i H ∧ D.nx σ H) ∨ (J.go i H ∧ ∃ N : St → Hp → Prop, (∀ σ' H', N σ' H' → ∃ m', m' < m ∧ W (i + 1) m' σ' H') ∧ ∀ x H', J.yld i H x H' → g x σ H' fun σ2 H2 => tb { D with nx := N, ct := N, bk := D.nx } σ2 H2)
/-- the records at fp as they stand -/
def pinsAt (fp : List Addr) (h : Heap) : List (Addr × Obj) := fp.filterMap fun b => (h.get? b).map fun o => (b, o)
theorem mem_pinsAt {fp : List Addr} {h : Heap} {b : Addr} {o : Obj} (hb : b ∈ fp) (e : h.get? b = some o) : (b, o) ∈ pinsAt fp h := List.mem_filterMap.mpr ⟨b, hb, by rw [e]; rfl⟩
theorem of_pinsAt {fp : List Addr} {h : Heap} {p : Addr × Obj} (hp : p ∈ pinsAt fp h) : p.1 ∈ fp ∧ h.get? p.1 = some p.2 := by
  obtain ⟨b, hb, e⟩ := List.mem_filterMap.mp hp
  cases q : h.get? b with
  | none => rw [q] at e; cases e
  | some o =>
    rw [q] at e
    have e' : (b, o) = p := Option.some.inj e
    subst e'
    exact ⟨hb, q⟩
theorem Inv.pinned {pins : List (Addr × Obj)} {σ : St} {H : Hp} {s : Shared} {fp : List Addr} (I : Inv X pins σ H s) (hf : ∀ b ∈ fp, FpOk X pins H b) (ho : ∀ b ∈ fp, ∃ o, s.heap.get? b = some o ∧ ∀ v, o.data ≠ .cell v) : Inv X (pins ++ pinsAt fp s.heap) σ H s :=
  I.pins_of fun p hp => (List.mem_append.mp hp).elim (fun z => I.pin p (List.mem_append_right _ z)) fun z => by
    obtain ⟨hb, e⟩ := of_pinsAt z
    obtain ⟨f0, f1, f2, _⟩ := hf p.1 hb
    obtain ⟨o, e', d⟩ := ho p.1 hb
    rw [e] at e'; cases e'
    exact ⟨e, f0, f1, f2, d⟩
theorem Inv.unpinned {pins pl : List (Addr × Obj)} {σ : St} {H : Hp} {s : Shared} (I : Inv X (pins ++ pl) σ H s) : Inv X pins σ H s := I.pins_of fun p hp => I.pin p (List.mem_append_right _ (List.mem_append_left _ hp))
theorem ps_for {iter : Expr} {body : List Stmt} {wi : TI} {g : TG} {tb : TS} {pos : Pos} (hp : PassesOwn (model X.prog X.w) X.A X.env X.xe) (hc : X.calm = true) (hi : PI X tg iter wi) (hg : PG X tg g) (hb : PSs X body tb)
    (hs : ∀ x, foldedSetIterable iter X.env x = pure x := by intro _; rfl) : PS X (.For tg iter body [] pos) (tFor wi g tb) := by
  intro pins s σ H D I h
  refine wpAny_For (thn (hi pins s σ H _ I h) fun v s1 h1 => thn h1 fun itv s2 h2 => ?_) hs
  obtain ⟨it, fp, tn, J, H2, e, I2, T, st2, f2, W, ⟨m0, w0⟩, turn⟩ := h2
  subst e
  -- what stays true of the iterator's objects through the loop
  have stat : ∀ {H' : Hp}, (∀ b ∈ fp, H' b = none) → ∀ b ∈ fp, FpOk X pins H' b := fun hn b hb => ⟨hn b hb, (f2 b hb).2⟩
  refine codeAny_forLoop_any (fun n s' => ∃ i σ' H', Inv X pins σ' H' s' ∧ tn i s'.heap ∧ (∀ b ∈ fp, H' b = none) ∧ W i n σ' H') ?_ m0 ⟨0, σ, H2, I2, st2, fun b hb => (f2 b hb).1, w0⟩
  rintro n s3 ⟨i, σ3, H3, I3, st3, fr3, w3⟩
  rcases turn i n σ3 H3 w3 with ⟨stop, qn⟩ | ⟨go, N, hN, step⟩
  · refine wpAny_passesOwn hp (thn (T.done X rfl rfl rfl hc i pins s3 σ3 H3 X.xe I3 (stat fr3) st3 stop) fun r s4 ⟨hr, I4⟩ => ?_)
    subst hr
    exact wpAny_execs_nil ⟨σ3, H3, I4, qn⟩
  · refine wpAny_passesOwn hp (thn (T.item X rfl rfl rfl hc i pins s3 σ3 H3 X.xe I3 (stat fr3) st3 go) fun r s4 ⟨u, hr, h4⟩ => ?_)
    subst hr
    refine wpAny_passesOwn hp (thn h4 fun _ s5 ⟨x, H5, I5, r5, y5, st5, fr5⟩ => ?_)
    have I5' := I5.pinned (stat fr5) (T.obj _ _ st5)
    refine wpAny_passesOwn hp (thn (hg _ s5 σ3 H5 x u _ I5' r5 (step x H5 y5)) fun _ s6 ⟨σ6, H6, I6, q6⟩ => ?_)
    refine wpAny_passesOwn hp (thn (hb _ s6 σ6 H6 _ I6 q6) fun f s7 q7 => ?_)
    have again : ∀ {σ7 : St} {H7 : Hp}, Inv X (pins ++ pinsAt fp s5.heap) σ7 H7 s7 → N σ7 H7 → ∃ m, m < n ∧ ∃ i σ' H', Inv X pins σ' H' s7 ∧ tn i s7.heap ∧ (∀ b ∈ fp, H' b = none) ∧ W i m σ' H' := fun {σ7 H7} I7 n7 => by
      obtain ⟨m', hm, w7⟩ := hN σ7 H7 n7
      refine ⟨m', hm, i + 1, σ7, H7, I7.unpinned, T.keep _ _ _ st5 fun b hb o e => (I7.pin (b, o) (List.mem_append_right _ (List.mem_append_right _ (mem_pinsAt hb e)))).1, fun b hb => ?_, w7⟩
      obtain ⟨o, e, d⟩ := T.obj _ _ st5 b hb
      exact (I7.pin (b, o) (List.mem_append_right _ (List.mem_append_right _ (mem_pinsAt hb e)))).2.1
    cases f with
    | next => obtain ⟨σ7, H7, I7, n7⟩ := q7; exact again I7 n7
    | cont => obtain ⟨σ7, H7, I7, n7⟩ := q7; exact again I7 n7
    | brk => obtain ⟨σ7, H7, I7, q7⟩ := q7; exact ⟨σ7, H7, I7.unpinned, q7⟩
    | ret v => obtain ⟨x7, σ7, H7, I7, r7, q7⟩ := q7; exact ⟨x7, σ7, H7, I7.unpinned, r7, q7⟩
end

/-- over a list that the body leaves as it is -/
theorem for_list {K : PySem.W.Frag} {a : Addr} {xs : List V} {g : TG} {tb : TS} {D : Ends} {σ : St} {H : Hp} (Pv : Nat → St → Hp → Prop) (h0 : Pv 0 σ H) (hl : ∀ i σ H, i ≤ xs.length → Pv i σ H → SqL K H a xs)
    (hs : ∀ i x σ H, xs[i]? = some x → Pv i σ H → g x σ H fun σ2 H2 => tb { D with nx := Pv (i + 1), ct := Pv (i + 1), bk := D.nx } σ2 H2) (hd : ∀ σ H, Pv xs.length σ H → D.nx σ H) :
    ∃ W : Nat → Nat → St → Hp → Prop, (∃ m, W 0 m σ H) ∧ ∀ i m σ H, W i m σ H →
      ((Itl K a).stop i H ∧ D.nx σ H) ∨ ((Itl K a).go i H ∧ ∃ N : St → Hp → Prop, (∀ σ' H', N σ' H' → ∃ m', m' < m ∧ W (i + 1) m' σ' H') ∧ ∀ x H', (Itl K a).yld i H x H' → g x σ H' fun σ2 H2 => tb { D with nx := N, ct := N, bk := D.nx } σ2 H2) := by
  refine ⟨fun i m σ H => m = xs.length - i ∧ i ≤ xs.length ∧ Pv i σ H, ⟨xs.length, by simp, Nat.zero_le _, h0⟩, ?_⟩
  rintro i m σ H ⟨rfl, hi, p⟩
  have q := hl i σ H hi p
  by_cases hlt : i < xs.length
  · refine .inr ⟨⟨xs, xs[i], q, by simp [hlt]⟩, Pv (i + 1), fun σ' H' p' => ⟨xs.length - (i + 1), by omega, rfl, hlt, p'⟩, fun x H' y => ?_⟩
    obtain ⟨e, y⟩ := y
    subst e
    exact hs i x σ _ (y xs q) p
  · have e : i = xs.length := by omega
    subst e
    exact .inl ⟨⟨xs, q, Nat.le_refl _⟩, hd σ H p⟩
theorem for_range {lo : Int} {n : Nat} {g : TG} {tb : TS} {D : Ends} {σ : St} {H : Hp} (Pv : Nat → St → Hp → Prop) (h0 : Pv 0 σ H)
    (hs : ∀ i σ H, i < n → Pv i σ H → g (.int (lo + i)) σ H fun σ2 H2 => tb { D with nx := Pv (i + 1), ct := Pv (i + 1), bk := D.nx } σ2 H2) (hd : ∀ σ H, Pv n σ H → D.nx σ H) :
    ∃ W : Nat → Nat → St → Hp → Prop, (∃ m, W 0 m σ H) ∧ ∀ i m σ H, W i m σ H →
      ((Itr lo n).stop i H ∧ D.nx σ H) ∨ ((Itr lo n).go i H ∧ ∃ N : St → Hp → Prop, (∀ σ' H', N σ' H' → ∃ m', m' < m ∧ W (i + 1) m' σ' H') ∧ ∀ x H', (Itr lo n).yld i H x H' → g x σ H' fun σ2 H2 => tb { D with nx := N, ct := N, bk := D.nx } σ2 H2) := by
  refine ⟨fun i m σ H => m = n - i ∧ i ≤ n ∧ Pv i σ H, ⟨n, by simp, Nat.zero_le _, h0⟩, ?_⟩
  rintro i m σ H ⟨rfl, hi, p⟩
  by_cases hlt : i < n
  · refine .inr ⟨hlt, Pv (i + 1), fun σ' H' p' => ⟨n - (i + 1), by omega, rfl, hlt, p'⟩, fun x H' y => ?_⟩
    obtain ⟨e, y⟩ := y
    subst e y
    exact hs i σ _ hlt p
  · have e : i = n := by omega
    subst e
    exact .inl ⟨Nat.le_refl _, hd σ H p⟩
end L2

namespace L2
open PySem PySem.Spec PyProof.Rows

abbrev R2 := V → V → Hp → VK → Prop
/-- a two-place operation on values: f is binaryOp op, inplaceOp op or compareOp op -/
def OpR (X : Cx) (f : Value → Value → Sem Value) (r : R2) : Prop :=
  ∀ (pins : List (Addr × Obj)) (s : Shared) (σ : St) (H : Hp) (x y : V) (v u : Value) (Q : VK), Inv X pins σ H s → RelV x v → RelV y u → r x y H Q →
    wpAny (model X.prog X.w) X.A (f v u) (EP X pins σ Q) X.xe s
/-- a one-place operation -/
def UnR (X : Cx) (f : Value → Sem Value) (r : V → Hp → VK → Prop) : Prop :=
  ∀ (pins : List (Addr × Obj)) (s : Shared) (σ : St) (H : Hp) (x : V) (v : Value) (Q : VK), Inv X pins σ H s → RelV x v → r x H Q →
    wpAny (model X.prog X.w) X.A (f v) (EP X pins σ Q) X.xe s
/-- a call of a value that is known (a builtin, a type) with values -/
def CallR (X : Cx) (f : Value) (r : List V → Hp → VK → Prop) : Prop :=
  ∀ (pins : List (Addr × Obj)) (s : Shared) (σ : St) (H : Hp) (xs : List V) (us : List Value) (Q : VK), Inv X pins σ H s → Vals xs us → r xs H Q →
    wpAny (model X.prog X.w) X.A (call f us) (EP X pins σ Q) X.xe s
/-- a value's truth -/
def TruR (X : Cx) (r : V → Hp → (Bool → Hp → Prop) → Prop) : Prop :=
  ∀ (pins : List (Addr × Obj)) (s : Shared) (σ : St) (H : Hp) (x : V) (v : Value) (Q : Bool → Hp → Prop), Inv X pins σ H s → RelV x v → r x H Q →
    wpAny (model X.prog X.w) X.A (truthy v) (TP X pins σ Q) X.xe s

def tOp (r : R2) (ta tb : TE) : TE := fun σ H Q => ta σ H fun x H1 => tb σ H1 fun y H2 => r x y H2 Q
def tUn (r : V → Hp → VK → Prop) (ta : TE) : TE := fun σ H Q => ta σ H fun x H1 => r x H1 Q
/-- ints in, under C, and a value out -/
def rI (C : Int → Int → Prop) (g : Int → Int → V) : R2 := fun x y H Q => ∃ i j, x = .int i ∧ y = .int j ∧ C i j ∧ Q (g i j) H
def rI0 (g : Int → Int → V) : R2 := fun x y H Q => ∃ i j, x = .int i ∧ y = .int j ∧ Q (g i j) H
def rU (g : Int → V) : V → Hp → VK → Prop := fun x H Q => ∃ i, x = .int i ∧ Q (g i) H

section
variable {X : Cx} {a b c : Expr} {ta tb tc : TE} {pos : Pos}

theorem binT (ha : PE X a ta) (hb : PE X b tb) {pins : List (Addr × Obj)} {s : Shared} {σ : St} {H : Hp} {R : V → V → Hp → Prop} (I : Inv X pins σ H s)
    (h : ta σ H fun x H1 => tb σ H1 fun y H2 => R x y H2) {Q : Value → Shared → Prop} {f : Value → Value → Sem Value}
    (hf : ∀ v u s2 x y H2, Inv X pins σ H2 s2 → RelV x v → RelV y u → R x y H2 → wpAny (model X.prog X.w) X.A (f v u) Q X.xe s2) :
    wpAny (model X.prog X.w) X.A (eval a X.env) (fun v s₁ => wpAny (model X.prog X.w) X.A (eval b X.env) (fun u s₂ => wpAny (model X.prog X.w) X.A (f v u) Q X.xe s₂) X.xe s₁) X.xe s := by
  refine thn (ha pins s σ H _ I h) fun v s1 ⟨x, H1, I1, r1, q1⟩ => ?_
  refine thn (hb pins s1 σ H1 _ I1 q1) fun u s2 ⟨y, H2, I2, r2, q2⟩ => ?_
  exact hf v u s2 x y H2 I2 r1 r2 q2

theorem pe_op {op : Operator} {r : R2} (ho : OpR X (binaryOp op) r) (ha : PE X a ta) (hb : PE X b tb) : PE X (.BinOp a op b pos) (tOp r ta tb) := by
  intro pins s σ H Q I h
  exact wpAny_BinOp (binT ha hb I h fun v u s2 x y H2 I2 rx ry q => ho pins s2 σ H2 x y v u Q I2 rx ry q)
theorem pe_un {op : UnaryOp} {r : V → Hp → VK → Prop} (ho : UnR X (unaryOp op) r) (ha : PE X a ta) : PE X (.UnaryOp op a pos) (tUn r ta) := by
  intro pins s σ H Q I h
  exact UnaryOp_ (thn (ha pins s σ H _ I h) fun v s1 ⟨x, H1, I1, r1, q1⟩ => ho pins s1 σ H1 x v Q I1 r1 q1)
theorem opI {f : Value → Value → Sem Value} {C : Int → Int → Prop} {g : Int → Int → Int}
    (rule : ∀ (i j : Int) (t u : Tok) (s : Shared) (Q : Value → Shared → Prop) (E : Value → Shared → Prop), C i j → Q (.int (g i j) s.toks) { s with toks := s.toks + 1 } → wpAny (model X.prog X.w) X.A (f (.int i t) (.int j u)) Q E s) :
    OpR X f (rI C fun i j => .int (g i j)) := by
  intro pins s σ H x y v u Q I rx ry h
  obtain ⟨i, j, rfl, rfl, hc, q⟩ := h
  obtain ⟨t, rfl⟩ := rx
  obtain ⟨t', rfl⟩ := ry
  exact rule i j t t' s _ _ hc ⟨.int (g i j), H, I.tok _, ⟨_, rfl⟩, q⟩
theorem opI0 {f : Value → Value → Sem Value} {g : Int → Int → Int}
    (rule : ∀ (i j : Int) (t u : Tok) (s : Shared) (Q : Value → Shared → Prop) (E : Value → Shared → Prop), Q (.int (g i j) s.toks) { s with toks := s.toks + 1 } → wpAny (model X.prog X.w) X.A (f (.int i t) (.int j u)) Q E s) :
    OpR X f (rI0 fun i j => .int (g i j)) := by
  intro pins s σ H x y v u Q I rx ry h
  obtain ⟨i, j, rfl, rfl, q⟩ := h
  obtain ⟨t, rfl⟩ := rx
  obtain ⟨t', rfl⟩ := ry
  exact rule i j t t' s _ _ ⟨.int (g i j), H, I.tok _, ⟨_, rfl⟩, q⟩
theorem opB0 {f : Value → Value → Sem Value} {g : Int → Int → Bool}
    (rule : ∀ (i j : Int) (t u : Tok) (s : Shared) (Q : Value → Shared → Prop) (E : Value → Shared → Prop), Q (.bool (g i j)) s → wpAny (model X.prog X.w) X.A (f (.int i t) (.int j u)) Q E s) :
    OpR X f (rI0 fun i j => .bl (g i j)) := by
  intro pins s σ H x y v u Q I rx ry h
  obtain ⟨i, j, rfl, rfl, q⟩ := h
  obtain ⟨t, rfl⟩ := rx
  obtain ⟨t', rfl⟩ := ry
  exact rule i j t t' s _ _ ⟨.bl (g i j), H, I, rfl, q⟩

def CDiv (i j : Int) : Prop := 0 < j ∧ j < 1073741824
def CMul (i j : Int) : Prop := (-(2 ^ 64) < i ∧ i < 2 ^ 64) ∨ (-(2 ^ 64) < j ∧ j < 2 ^ 64)
theorem CMul.ok {i j : Int} (h : CMul i j) : IntMulOk i j := by
  rcases h with ⟨h1, h2⟩ | ⟨h1, h2⟩
  · exact .of_left (intBits_le_64 h1 h2)
  · exact .of_right (intBits_le_64 h1 h2)
theorem two_pow_nn (k : Nat) : (0 : Int) ≤ 2 ^ k := by
  rw [two_pow_cast]
  exact Int.natCast_nonneg _

theorem op_add : OpR X (binaryOp .Add) (rI0 fun i j => .int (i + j)) := opI0 fun _ _ _ _ _ _ _ q => add_int q
theorem op_sub : OpR X (binaryOp .Sub) (rI0 fun i j => .int (i - j)) := opI0 fun _ _ _ _ _ _ _ q => sub_int q
theorem op_mul : OpR X (binaryOp .Mult) (rI CMul fun i j => .int (i * j)) := opI fun _ _ _ _ _ _ _ hc q => mul_int q hc.ok
/-- // by a positive divisor -/
theorem op_fdiv : OpR X (binaryOp .FloorDiv) (rI CDiv fun i j => .int (i / j)) := opI fun i j _ _ _ _ _ hc q => by
  have h1 : (0 : Int) < j := hc.1
  have h2 : j < 1073741824 := hc.2
  exact floordiv_int (by omega) (by rw [Int.fdiv_eq_ediv_of_nonneg i (by omega)]; exact q) (.inl (PyProof.noPylong_small (by omega)))
/-- % by a positive divisor of any size -/
theorem op_mod : OpR X (binaryOp .Mod) (rI (fun _ j => 0 < j) fun i j => .int (i % j)) := opI fun i j _ _ _ _ _ hc q => by
  have h1 : (0 : Int) < j := hc
  exact mod_int' (by omega) (by rw [Int.fmod_eq_emod_of_nonneg i (by omega)]; exact q)
theorem op_shr : OpR X (binaryOp .RShift) (rI (fun _ j => 0 ≤ j) fun i j => .int (i / 2 ^ j.toNat)) := opI fun i j _ _ _ _ _ hc q =>
  rshift_int hc (by rw [Int.fdiv_eq_ediv_of_nonneg i (two_pow_nn _)]; exact q)
theorem unI {f : Value → Sem Value} {g : Int → Int}
    (rule : ∀ (i : Int) (t : Tok) (s : Shared) (Q : Value → Shared → Prop) (E : Value → Shared → Prop), Q (.int (g i) s.toks) { s with toks := s.toks + 1 } → wpAny (model X.prog X.w) X.A (f (.int i t)) Q E s) :
    UnR X f (rU fun i => .int (g i)) := by
  intro pins s σ H x v Q I rx h
  obtain ⟨i, rfl, q⟩ := h
  obtain ⟨t, rfl⟩ := rx
  exact rule i t s _ _ ⟨.int (g i), H, I.tok _, ⟨_, rfl⟩, q⟩
theorem un_neg : UnR X (unaryOp .USub) (rU fun i => .int (-i)) := unI fun _ _ _ _ _ q => neg_int q
end

/-- the scalars that == tells apart as data does -/
def scal : V → V → Bool
  | .non, .non => true | .non, .int _ => true | .int _, .non => true | .non, .bl _ => true | .bl _, .non => true | .non, .str _ => true | .str _, .non => true
  | .int _, .int _ => true | .bl _, .bl _ => true | .str _, .str _ => true | .byt _, .byt _ => true
  | .int _, .str _ => true | .str _, .int _ => true | .bl _, .str _ => true | .str _, .bl _ => true
  | _, _ => false
def rEq : R2 := fun x y H Q => scal x y = true ∧ Q (.bl (decide (x = y))) H
def rNe : R2 := fun x y H Q => scal x y = true ∧ Q (.bl (!decide (x = y))) H

theorem dec_int {i j : Int} : decide (V.int i = V.int j) = (i == j) := by
  rw [Bool.eq_iff_iff]
  simp
theorem dec_bl {i j : Bool} : decide (V.bl i = V.bl j) = (i == j) := by
  rw [Bool.eq_iff_iff]
  simp
theorem dec_str {i j : Str} : decide (V.str i = V.str j) = (i == j) := by
  rw [Bool.eq_iff_iff]
  simp
theorem dec_byt {i j : Array UInt8} : decide (V.byt i = V.byt j) = (i.toList == j.toList) := by
  rw [Bool.eq_iff_iff]
  cases i
  cases j
  simp

section
variable {X : Cx} {a b c : Expr} {ta tb tc : TE} {pos : Pos}
theorem fin_bl {pins : List (Addr × Obj)} {σ : St} {H : Hp} {s : Shared} {Q : VK} {k k' : Bool} (I : Inv X pins σ H s) (q : Q (.bl k) H) (e : k = k') : EP X pins σ Q (.bool k') s := by
  subst e
  exact ⟨.bl k, H, I, rfl, q⟩
theorem op_eq : OpR X (compareOp .Eq) rEq := by
  intro pins s σ H x y v u Q I rx ry h
  obtain ⟨hs, q⟩ := h
  cases x with
  | non =>
    cases rx
    cases y with
    | non => cases ry; exact PySem.EqNone.eq_none_none (fin_bl I q (by simp))
    | bl j => cases ry; exact PySem.EqNone.eq_none_bool (fin_bl I q (by simp))
    | int j => obtain ⟨t', rfl⟩ := ry; exact PySem.EqNone.eq_none_int (fin_bl I q (by simp))
    | str j => obtain ⟨t', rfl⟩ := ry; exact PySem.EqNone.eq_none_str (fin_bl I q (by simp))
    | _ => exact absurd (show false = true from hs) Bool.false_ne_true
  | bl i =>
    cases rx
    cases y with
    | non => cases ry; exact PySem.EqNone.eq_bool_none (fin_bl I q (by simp))
    | bl j => cases ry; exact eq_bool (fin_bl I q dec_bl)
    | str j => obtain ⟨t', rfl⟩ := ry; exact PySem.EqMixed.eq_bool_str (fin_bl I q (by simp))
    | _ => exact absurd (show false = true from hs) Bool.false_ne_true
  | int i =>
    obtain ⟨t, rfl⟩ := rx
    cases y with
    | non => cases ry; exact PySem.EqNone.eq_int_none (fin_bl I q (by simp))
    | int j => obtain ⟨t', rfl⟩ := ry; exact eq_int (fin_bl I q dec_int)
    | str j => obtain ⟨t', rfl⟩ := ry; exact PySem.EqMixed.eq_int_str (fin_bl I q (by simp))
    | _ => exact absurd (show false = true from hs) Bool.false_ne_true
  | str i =>
    obtain ⟨t, rfl⟩ := rx
    cases y with
    | non => cases ry; exact PySem.EqNone.eq_str_none (fin_bl I q (by simp))
    | bl j => cases ry; exact PySem.EqMixed.eq_str_bool (fin_bl I q (by simp))
    | int j => obtain ⟨t', rfl⟩ := ry; exact PySem.EqMixed.eq_str_int (fin_bl I q (by simp))
    | str j => obtain ⟨t', rfl⟩ := ry; exact eq_str (fin_bl I q dec_str)
    | _ => exact absurd (show false = true from hs) Bool.false_ne_true
  | byt i =>
    obtain ⟨t, rfl⟩ := rx
    cases y with
    | byt j => obtain ⟨t', rfl⟩ := ry; exact PySem.W.eq_bytes (fin_bl I q dec_byt)
    | _ => exact absurd (show false = true from hs) Bool.false_ne_true
  | _ => cases y <;> exact absurd (show false = true from hs) Bool.false_ne_true
theorem op_ne : OpR X (compareOp .NotEq) rNe := by
  intro pins s σ H x y v u Q I rx ry h
  obtain ⟨hs, q⟩ := h
  cases x with
  | non =>
    cases rx
    cases y with
    | non => cases ry; exact PySem.EqNone.ne_none_none (fin_bl I q (by simp))
    | bl j => cases ry; exact PySem.EqNone.ne_none_bool (fin_bl I q (by simp))
    | int j => obtain ⟨t', rfl⟩ := ry; exact PySem.EqNone.ne_none_int (fin_bl I q (by simp))
    | str j => obtain ⟨t', rfl⟩ := ry; exact PySem.EqNone.ne_none_str (fin_bl I q (by simp))
    | _ => exact absurd (show false = true from hs) Bool.false_ne_true
  | bl i =>
    cases rx
    cases y with
    | non => cases ry; exact PySem.EqNone.ne_bool_none (fin_bl I q (by simp))
    | bl j => cases ry; exact ne_bool (fin_bl I q (congrArg not dec_bl))
    | str j => obtain ⟨t', rfl⟩ := ry; exact PySem.EqMixed.ne_bool_str (fin_bl I q (by simp))
    | _ => exact absurd (show false = true from hs) Bool.false_ne_true
  | int i =>
    obtain ⟨t, rfl⟩ := rx
    cases y with
    | non => cases ry; exact PySem.EqNone.ne_int_none (fin_bl I q (by simp))
    | int j => obtain ⟨t', rfl⟩ := ry; exact ne_int (fin_bl I q (congrArg not dec_int))
    | str j => obtain ⟨t', rfl⟩ := ry; exact PySem.EqMixed.ne_int_str (fin_bl I q (by simp))
    | _ => exact absurd (show false = true from hs) Bool.false_ne_true
  | str i =>
    obtain ⟨t, rfl⟩ := rx
    cases y with
    | non => cases ry; exact PySem.EqNone.ne_str_none (fin_bl I q (by simp))
    | bl j => cases ry; exact PySem.EqMixed.ne_str_bool (fin_bl I q (by simp))
    | int j => obtain ⟨t', rfl⟩ := ry; exact PySem.EqMixed.ne_str_int (fin_bl I q (by simp))
    | str j => obtain ⟨t', rfl⟩ := ry; exact ne_str (fin_bl I q (congrArg not dec_str))
    | _ => exact absurd (show false = true from hs) Bool.false_ne_true
  | byt i =>
    obtain ⟨t, rfl⟩ := rx
    cases y with
    | byt j => obtain ⟨t', rfl⟩ := ry; exact PySem.W.ne_bytes (fin_bl I q (congrArg not dec_byt))
    | _ => exact absurd (show false = true from hs) Bool.false_ne_true
  | _ => cases y <;> exact absurd (show false = true from hs) Bool.false_ne_true

theorem op_lt : OpR X (compareOp .Lt) (rI0 fun i j => .bl (decide (i < j))) := opB0 fun _ _ _ _ _ _ _ q => lt_int q
theorem op_gt : OpR X (compareOp .Gt) (rI0 fun i j => .bl (decide (j < i))) := opB0 fun _ _ _ _ _ _ _ q => gt_int q
/-- the one string within the other -/
theorem op_in_str : OpR X (compareOp .In) (fun x y H Q => ∃ i j, x = .str i ∧ y = .str j ∧ Q (.bl (!(Builtin.Str.occurrences j i 0 j.length 1).isEmpty)) H) := by
  intro pins s σ H x y v u Q I rx ry h
  obtain ⟨i, j, rfl, rfl, q⟩ := h
  obtain ⟨t, rfl⟩ := rx
  obtain ⟨t', rfl⟩ := ry
  exact in_str (fin_bl I q rfl)

/-- is None, is not None: the right side a value none -/
theorem op_isN : OpR X (compareOp .Is) (fun x y H Q => y = .non ∧ Q (.bl (decide (x = .non))) H) := by
  intro pins s σ H x y v u Q I rx ry h
  obtain ⟨rfl, q⟩ := h
  cases ry
  refine is_none_gen (fin_bl I q ?_)
  cases x <;> first
    | (cases rx; rfl)
    | (obtain ⟨t, rfl⟩ := rx; rfl)
theorem op_notN : OpR X (compareOp .IsNot) (fun x y H Q => y = .non ∧ Q (.bl (!decide (x = .non))) H) := by
  intro pins s σ H x y v u Q I rx ry h
  obtain ⟨rfl, q⟩ := h
  cases ry
  refine isnot_none_gen (fin_bl I q ?_)
  cases x <;> first
    | (cases rx; rfl)
    | (obtain ⟨t, rfl⟩ := rx; rfl)

theorem op_notin_str : OpR X (compareOp .NotIn) (fun x y H Q => ∃ i j, x = .str i ∧ y = .str j ∧ Q (.bl (!(!(Builtin.Str.occurrences j i 0 j.length 1).isEmpty))) H) := by
  intro pins s σ H x y v u Q I rx ry h
  obtain ⟨i, j, rfl, rfl, q⟩ := h
  obtain ⟨t, rfl⟩ := rx
  obtain ⟨t', rfl⟩ := ry
  exact notIn_str (fin_bl I q rfl)
theorem nomark (b : Expr) {op : CmpOp} (h : op ≠ .In := by decide) (h2 : op ≠ .NotIn := by decide) : behindInMarks op b = false := by
  have e1 : (op == CmpOp.In) = false := by cases op <;> first | rfl | exact absurd rfl h
  have e2 : (op == CmpOp.NotIn) = false := by cases op <;> first | rfl | exact absurd rfl h2
  cases b <;> simp [behindInMarks, e1, e2]
/-- a comparison as a value; hm: nomark b, or (for in, not in) by with_unfolding_all rfl -/
theorem pe_cmpR {op : CmpOp} {r : R2} (ho : OpR X (compareOp op) r) (ha : PE X a ta) (hb : PE X b tb) (hm : behindInMarks op b = false) : PE X (.Compare a [op] [b] pos) (tOp r ta tb) := by
  intro pins s σ H Q I h
  exact wpAny_Compare1 (binT ha hb I h fun v u s2 x y H2 I2 rx ry q => ho pins s2 σ H2 x y v u Q I2 rx ry q) hm
/-- a reading of a value as a test -/
def tTest (t : TE) : TT := fun σ H Q => t σ H fun x H' => ∃ k, x = .bl k ∧ Q k H'
theorem pt_cmpR {op : CmpOp} {r : R2} (ho : OpR X (compareOp op) r) (ha : PE X a ta) (hb : PE X b tb) (hm : behindInMarks op b = false) : PT X (.Compare a [op] [b] pos) (tTest (tOp r ta tb)) := by
  intro pins s σ H Q I h
  refine wpAny_isTrue_Compare1 (thn (ha pins s σ H _ I h) fun v s1 ⟨x, H1, I1, r1, q1⟩ => thn (hb pins s1 σ H1 _ I1 q1) fun u s2 ⟨y, H2, I2, r2, q2⟩ =>
    thn (ho pins s2 σ H2 x y v u _ I2 r1 r2 q2) fun c s3 ⟨z, H3, I3, r3, k, e, q3⟩ => ?_) hm
  subst e
  cases r3
  exact wpAny_truthy_bool ⟨H3, I3, q3⟩
/-- a value's truth by the abstract heap -/
def TruV (K : PySem.W.Frag) (x : V) (H : Hp) (k : Bool) : Prop :=
  match x with
  | .non => k = false
  | .bl b => k = b
  | .int i => k = (i != 0)
  | .str y => y.length ≤ sizeLine ∧ k = ((y.length : Int) != 0)
  | .byt y => y.size ≤ sizeLine ∧ k = ((y.size : Int) != 0)
  | .ref p => (∃ xs, SqL K H p xs ∧ k = !xs.isEmpty) ∨ (∃ xs, SqT K H p xs ∧ k = !xs.isEmpty) ∨ ∃ kvs, H p = some (.dK kvs) ∧ k = !kvs.isEmpty
  | _ => False
theorem isEmpty_kv {κ : Type} {kvs : List (κ × V)} {vs : List (κ × Value)} (r : KV kvs vs) : (!vs.isEmpty) = !kvs.isEmpty := by
  cases r <;> rfl
theorem isEmpty_of {xs : List V} {its : List Value} (r : Vals xs its) : (!its.toArray.isEmpty) = !xs.isEmpty := by
  cases r <;> simp
theorem line63 : (sizeLine : Nat) < 2 ^ 63 := by rw [sizeLine_eq]; decide
theorem tru_ok : TruR X (fun x H Q => ∃ k, TruV X.K x H k ∧ Q k H) := by
  intro pins s σ H x v Q I rx h
  obtain ⟨k, e, q⟩ := h
  have hl := line63
  have hs : sizeLine = 16777216 := sizeLine_eq
  cases x with
  | non =>
    cases rx
    have e' : k = false := e
    subst e'
    exact truthy_none ⟨H, I, q⟩
  | bl b =>
    cases rx
    have e' : k = b := e
    subst e'
    exact wpAny_truthy_bool ⟨H, I, q⟩
  | int i =>
    obtain ⟨t, rfl⟩ := rx
    have e' : k = (i != 0) := e
    subst e'
    exact PySem.P.truthy_int ⟨H, I, q⟩
  | str y =>
    obtain ⟨t, rfl⟩ := rx
    obtain ⟨hy, e'⟩ : y.length ≤ sizeLine ∧ k = ((y.length : Int) != 0) := e
    subst e'
    exact PySem.P.truthy_str (by omega) ⟨H, I.tok _, q⟩
  | byt y =>
    obtain ⟨t, rfl⟩ := rx
    obtain ⟨hy, e'⟩ : y.size ≤ sizeLine ∧ k = ((y.size : Int) != 0) := e
    subst e'
    exact PySem.W.truthy_bytes (by omega) ⟨H, I.tok _, q⟩
  | ref p =>
    cases rx
    have e' : (∃ xs, SqL X.K H p xs ∧ k = !xs.isEmpty) ∨ (∃ xs, SqT X.K H p xs ∧ k = !xs.isEmpty) ∨ ∃ kvs, H p = some (.dK kvs) ∧ k = !kvs.isEmpty := e
    rcases e' with ⟨xs, hx, e'⟩ | ⟨xs, hx, e'⟩ | ⟨kvs, hx, e'⟩
    · subst e'
      obtain ⟨its, r, pl, hz⟩ := I.list hx
      have hlen := r.length
      exact wpAny_truthy_list pl.isList (by simp only [List.size_toArray]; omega) ⟨H, I.tok _, by rw [isEmpty_of r]; exact q⟩
    · subst e'
      obtain ⟨its, r, pl, hz⟩ := I.tuple hx
      have hlen := r.length
      exact truthy_tuple pl (by simp only [List.size_toArray]; omega) ⟨H, I.tok _, by rw [isEmpty_of r]; exact q⟩
    · subst e'
      obtain ⟨hz, hS, vs, r, m⟩ : kvs.length ≤ sizeLine ∧ (p == sysModules) = false ∧ ∃ vs, KV kvs vs ∧ s.heap.DictOf (mixKind X.prog X.w) p vs := I.hok p _ hx
      have hlen : kvs.length = vs.length := Paired.length r
      exact wpAny_truthy_dict hS m (by omega) ⟨H, I.tok _, by rw [isEmpty_kv r]; exact q⟩
  | _ => exact (show False from e).elim
/-- any expression whose test is its value's truth (a name, a call, a subscript, a field ..: he by fun _ => rfl) -/
theorem pt_truth (ha : PE X a ta) (he : ∀ whole, isTrue a X.env whole = (do let v ← whole; standAt a.pos; holding [v] (truthy v))) :
    PT X a (fun σ H Q => ta σ H fun x H' => ∃ k, TruV X.K x H' k ∧ Q k H') := by
  intro pins s σ H Q I h
  exact isTrue_plain (thn (ha pins s σ H _ I h) fun v s1 ⟨x, H1, I1, r1, q1⟩ => tru_ok pins s1 σ H1 x v Q I1 r1 q1) (he _)

theorem op_add_str : OpR X (binaryOp .Add) (fun x y H Q => ∃ i j, x = .str i ∧ y = .str j ∧ i.length + j.length ≤ sizeLine ∧ Q (.str (i ++ j)) H) := by
  intro pins s σ H x y v u Q I rx ry h
  obtain ⟨i, j, rfl, rfl, hz, q⟩ := h
  obtain ⟨t, rfl⟩ := rx
  obtain ⟨t', rfl⟩ := ry
  exact add_str (fun t' tk => ⟨.str (i ++ j), H, I.tok _, ⟨_, rfl⟩, q⟩) hz
theorem vals1 {x : V} {us : List Value} (r : Vals [x] us) : ∃ u, us = [u] ∧ RelV x u := by
  cases r with
  | cons r1 r2 => cases r2; exact ⟨_, rfl, r1⟩
theorem vals2 {x y : V} {us : List Value} (r : Vals [x, y] us) : ∃ u w', us = [u, w'] ∧ RelV x u ∧ RelV y w' := by
  cases r with
  | cons r1 r2 =>
    cases r2 with
    | cons r3 r4 => cases r4; exact ⟨_, _, rfl, r1, r3⟩
theorem call_max2 (hc : X.calm = true) : CallR X (.builtin "max") (fun xs H Q => ∃ i j, xs = [.int i, .int j] ∧ Q (.int (if j > i then j else i)) H) := by
  intro pins s σ H xs us Q I r h
  obtain ⟨i, j, rfl, q⟩ := h
  obtain ⟨u, w', rfl, ⟨t, rfl⟩, ⟨t', rfl⟩⟩ := vals2 r
  refine max_two_ints (I.ok.hd hc) fun h' tk k => ⟨_, H, I.kept k, ?_, q⟩
  by_cases hj : j > i
  · rw [if_pos hj, if_pos hj]; exact ⟨_, rfl⟩
  · rw [if_neg hj, if_neg hj]; exact ⟨_, rfl⟩
end
end L2

namespace L2
open PySem PySem.Spec PyProof.Rows

structure ObjM (h : Heap) (x dx C : Addr) (mA : Str → Option Value) : Prop where
  obj : h.get? x = some (PySem.W.instObj C dx)
  ns : h.Ns1 dx mA
  ne : dx ≠ x

theorem lookIn_ns {h : Heap} {dx : Addr} {mA : Str → Option Value} (n : h.Ns1 dx mA) : ∃ od, h.get? dx = some od ∧ ∀ name, PySem.W.lookIn name od = some (mA name) := by
  obtain ⟨o, es, ep, ho, hd, hk, _, hm⟩ := n
  refine ⟨o, ho, fun name => ?_⟩
  have e := hm name
  unfold nsFind findBy at e
  rw [← Array.find?_toList] at e
  unfold PySem.W.lookIn
  rw [hd]
  dsimp only
  split
  · rename_i y q
    rw [q] at e
    exact congrArg some e
  · rename_i q
    rw [q] at e
    have a : es.toList.any (·.refKey) = false := by
      rw [List.any_eq_false]
      intro y hy
      obtain ⟨z, t, hkey⟩ := hk y (Array.mem_toList_iff.mp hy)
      simp [DictEntry.refKey, hkey]
    have a' : ¬ es.toList.any (·.refKey) = true := by rw [a]; exact Bool.false_ne_true
    rw [if_neg a']
    exact congrArg some e

theorem ObjM.look {h : Heap} {x dx C : Addr} {mA : Str → Option Value} (I : ObjM h x dx C mA) : ∃ od, PySem.W.InstAt h x (PySem.W.instObj C dx) C (some od) ∧ ∀ name, PySem.W.lookIn name od = some (mA name) :=
  let ⟨od, ho, hl⟩ := lookIn_ns I.ns
  ⟨od, ⟨I.obj, rfl, rfl, ho⟩, hl⟩

section
variable {prog : Program} {w : World} {A : Around} {E : Value → Shared → Prop} {s : Shared} {K : PySem.W.Frag} {x dx C f : Addr} {mA : Str → Option Value} {name : Str} {v : Value}

theorem get_map {expr : Bool} {Q : Value → Shared → Prop} (X : K.In s.heap) (I : ObjM s.heap x dx C mA) (hg : PySem.W.plainGet K C name = true) (hh : PySem.W.hasDictIn K C = true)
    (ha : PySem.W.findIn K (.ref C) name = some none) (hv : mA name = some v) (hv' : PySem.W.handedIn v = true) (h : Q v { s with toks := s.toks + 1 }) :
    wpAny (model prog w) A (getAttr (.ref x) name expr) Q E s := by
  obtain ⟨od, J, hl⟩ := I.look
  exact PySem.W.get_value X J (PySem.W.plainGet_of hg).1 (PySem.W.findObj_own hh ha rfl (by rw [hl, hv])) hv' h

theorem get_meth {pl : Sem Bool} {Q : Value × List Value → Shared → Prop} (X : K.In s.heap) (I : ObjM s.heap x dx C mA) (hg : PySem.W.plainGet K C name = true)
    (hf : PySem.W.findIn K (.ref C) name = some (some (.ref f))) (ht : PySem.W.isFn K (.ref f) = true) (hv : mA name = none) (h : Q (.ref f, [.ref x]) s) :
    wpAny (model prog w) A (getMethod (.ref x) name pl) Q E s := by
  obtain ⟨od, J, hl⟩ := I.look
  exact PySem.W.method_fn X J (PySem.W.plainGet_of hg).1 (PySem.W.plainGet_of hg).2 hf (beq_iff_eq.mp ht) (by show (PySem.W.lookIn name od).map (·.isSome) = some false; rw [hl, hv]; rfl) h

theorem set_map {ns : List Str} {Q : Unit → Shared → Prop} (X : K.In s.heap) (I : ObjM s.heap x dx C mA)
    (hs : PySem.W.findIn K (.ref C) "__setattr__" = some (some (.builtin "object.__setattr__"))) (hp : PySem.W.plainOver K C = true) (ht : PySem.W.takerIn K C name = some none) (hh : PySem.W.hasDictIn K C = true)
    (hw : PySem.Within mA ns) (hsz : ns.length ≤ sizeLine)
    (h : ∀ h', ObjM h' x dx C (fun y => if y = name then some v else mA y) → Heap.SameBut dx s.heap h' → Q () { s with heap := h', toks := s.toks + 2 }) :
    wpAny (model prog w) A (setAttr (.ref x) name v) Q E s := by
  obtain ⟨od, J, hl⟩ := I.look
  refine PySem.W.set_plain X J hs (PySem.W.osa_open (s := { s with toks := s.toks + 1 }) (r := none) X J hp ht fun b => ?_)
  obtain ⟨cd, hc, hd'⟩ := PySem.W.any_some hh
  have hx : s.heap.get? x = some ⟨.ref C, some dx, .plain, #[]⟩ := I.obj
  refine wpAny_bind (wpAny_pure (wpAny_bind (wpAny_bind (wpAny_loadPart hx (wpAny_bind (PySem.W.Looks.here (s := { s with toks := s.toks + 1 }) (PySem.W.looks_clsIn X hc) ?_))))))
  rw [hd']
  refine wpAny_pure (a := some dx) (wpAny_bind (wpAny_pure (wpAny_bind ?_)))
  refine wpAny_nsSet1 (s := { s with toks := s.toks + 1 }) I.ns fun h' hn2 hs2 => ?_
  obtain ⟨oD, esD, epD, hoD, hdD, hcD⟩ := hn2.count (PySem.Within.cons name v hw)
  refine wpAny_bind (wpAny_lookBehind hoD (by rw [hdD]; exact pastItsLine_dict (Nat.le_trans hcD (by rw [List.length_cons]; omega))) ?_)
  exact wpAny_pure (h _ ⟨(hs2.2 _ (Ne.symm I.ne)).trans I.obj, hn2, I.ne⟩ hs2)

/-- C(..): the dict at the heap's end, the instance behind it; then its __init__ -/
theorem make_map {R : Result → Shared → Prop} {vs : List Value} {kw : List (Str × Value)} (X : K.In s.heap) (hm : PySem.W.makesIn K C = true)
    (hi : PySem.W.findIn K (.ref C) "__init__" = some (some (.ref f))) (hf : PySem.W.typeIn K (.ref f) = some (.type "function"))
    (h : codeAny (model prog w) (A.under (.builtin "type.__call__" ⟨.ref C :: vs, kw⟩)) (.call (.ref f) ⟨.ref (s.heap.objs.size + 1) :: vs, kw⟩) (PySem.W.InitBack (s.heap.objs.size + 1) R)
      { s with heap := (s.heap.push PySem.W.emptyDict).push (PySem.W.instObj C s.heap.objs.size) }) :
    codeAny (model prog w) A (.call (.ref C) ⟨vs, kw⟩) R s := by
  obtain ⟨hh, g, d, t, os⟩ := s
  exact PySem.W.make_core (PySem.W.makes_of X hm) (PySem.W.looks_findIn X hi) (fun self => PySem.W.bind_fn X self hf) (.inl rfl) h
/-- C() where there is no __init__ but object's -/
theorem make_map0 {R : Result → Shared → Prop} (X : K.In s.heap) (hm : PySem.W.makesIn K C = true)
    (hi : PySem.W.findIn K (.ref C) "__init__" = some (some (.builtin "object.__init__")))
    (hb : ∀ self, PySem.W.Looks (model prog w) s.heap (bindSpecial (.builtin "object.__init__") self) (.builtin "object.__init__", [self]))
    (h : codeAny (model prog w) (A.under (.builtin "type.__call__" ⟨[.ref C], []⟩)) (.call (.builtin "object.__init__") ⟨[.ref (s.heap.objs.size + 1)], []⟩) (PySem.W.InitBack (s.heap.objs.size + 1) R)
      { s with heap := (s.heap.push PySem.W.emptyDict).push (PySem.W.instObj C s.heap.objs.size) }) :
    codeAny (model prog w) A (.call (.ref C) ⟨[], []⟩) R s := by
  obtain ⟨hh, g, d, t, os⟩ := s
  exact PySem.W.make_core (PySem.W.makes_of X hm) (PySem.W.looks_findIn X hi) hb (.inr ⟨rfl, rfl⟩) h
end

def putF (f : Str) (v : V) : List (Str × V) → List (Str × V)
  | [] => [(f, v)]
  | (g, x) :: r => if g = f then (g, v) :: r else (g, x) :: putF f v r
theorem lookup_putF (f g : Str) (v : V) : ∀ fs : List (Str × V), (putF f v fs).lookup g = if g = f then some v else fs.lookup g
  | [] => by
    show List.lookup g [(f, v)] = _
    by_cases h : g = f
    · have hb : (g == f) = true := beq_iff_eq.mpr h
      simp only [List.lookup, hb, if_pos h]
    · have hb : (g == f) = false := beq_eq_false_iff_ne.mpr h
      simp only [List.lookup, hb, if_neg h]
  | (k, x) :: r => by
    have ih := lookup_putF f g v r
    rw [show putF f v ((k, x) :: r) = (if k = f then (k, v) :: r else (k, x) :: putF f v r) from rfl]
    by_cases hk : k = f
    · rw [if_pos hk]
      by_cases h : g = k
      · have hb : (g == k) = true := beq_iff_eq.mpr h
        simp only [List.lookup, hb, if_pos (h.trans hk)]
      · have hb : (g == k) = false := beq_eq_false_iff_ne.mpr h
        simp only [List.lookup, hb, if_neg (fun e : g = f => h (e.trans hk.symm))]
    · rw [if_neg hk]
      by_cases h : g = k
      · have hb : (g == k) = true := beq_iff_eq.mpr h
        simp only [List.lookup, hb, if_neg (fun e : g = f => hk (h.symm.trans e))]
      · have hb : (g == k) = false := beq_eq_false_iff_ne.mpr h
        simp only [List.lookup, hb]
        exact ih
theorem keys_putF (f : Str) (v : V) : ∀ fs : List (Str × V), f ∈ (putF f v fs).map (·.1) ∧ ∀ g, g ∈ fs.map (·.1) → g ∈ (putF f v fs).map (·.1)
  | [] => ⟨by simp [putF], fun g h => by simp at h⟩
  | (k, x) :: r => by
    obtain ⟨i1, i2⟩ := keys_putF f v r
    rw [show putF f v ((k, x) :: r) = (if k = f then (k, v) :: r else (k, x) :: putF f v r) from rfl]
    by_cases hk : k = f
    · rw [if_pos hk]
      subst hk
      exact ⟨by simp, fun g h => by simpa using h⟩
    · rw [if_neg hk]
      refine ⟨?_, fun g h => ?_⟩
      · rw [List.map_cons]
        exact List.mem_cons_of_mem _ i1
      · rw [List.map_cons] at h ⊢
        rcases List.mem_cons.mp h with e | e
        · exact List.mem_cons.mpr (.inl e)
        · exact List.mem_cons_of_mem _ (i2 g e)
theorem length_putF (f : Str) (v : V) : ∀ fs : List (Str × V), (putF f v fs).length ≤ fs.length + 1
  | [] => by simp [putF]
  | (k, x) :: r => by
    have ih := length_putF f v r
    rw [show putF f v ((k, x) :: r) = (if k = f then (k, v) :: r else (k, x) :: putF f v r) from rfl]
    by_cases hk : k = f
    · rw [if_pos hk, List.length_cons, List.length_cons]; omega
    · rw [if_neg hk, List.length_cons, List.length_cons]; omega

theorem RelO.some_of {v : V} {o : Option Value} (r : RelO (some v) o) : ∃ u, o = some u ∧ RelV v u := by
  cases o with
  | none => exact (show False from r).elim
  | some u => exact ⟨u, rfl, r⟩
theorem RelO.none_of {o : Option Value} (r : RelO none o) : o = none := by
  cases o with
  | none => rfl
  | some u => exact (show False from r).elim
theorem handed_of {v : V} {u : Value} (r : RelV v u) : PySem.W.handedIn u = true := by
  cases v with
  | non => cases (show u = Value.none from r); rfl
  | bl b => cases (show u = Value.bool b from r); rfl
  | int i => obtain ⟨t, e⟩ := (show ∃ t, u = Value.int i t from r); cases e; rfl
  | str x => obtain ⟨t, e⟩ := (show ∃ t, u = Value.str x t from r); cases e; rfl
  | byt b => obtain ⟨t, e⟩ := (show ∃ t, u = Value.bytes b t from r); cases e; rfl
  | flt b => obtain ⟨t, e⟩ := (show ∃ t, u = Value.float b t from r); cases e; rfl
  | ref a => cases (show u = Value.ref a from r); rfl
  | ty n => cases (show u = Value.type n from r); rfl

section
variable {P : Program} {w : World} {H H' : Hp} {h h' : Heap} {a C dx : Addr} {fs fs' : List (Str × V)}
theorem ins_get (hok : HOk P w H h) (e : H a = some (.ins C dx fs)) : ∃ mA, ObjM h a dx C mA ∧ (∀ f, RelO (fs.lookup f) (mA f)) ∧ PySem.Within mA (fs.map (·.1)) ∧ fs.length ≤ 1000 ∧ H dx = some (.own a) := by
  obtain ⟨d, z, ne, ob, mA, n, r, q⟩ := (show ObjOk P w H h a (.ins C dx fs) from hok a _ e)
  exact ⟨mA, ⟨ob, n, ne⟩, r, q, z, d⟩
end

structure Cls (K : PySem.W.Frag) (C : Addr) : Prop where
  pg : PySem.W.plainGet K C Str.empty = true
  hd : PySem.W.hasDictIn K C = true
  po : PySem.W.plainOver K C = true
  sa : PySem.W.findIn K (.ref C) "__setattr__" = some (some (.builtin "object.__setattr__"))
theorem Cls.get {K : PySem.W.Frag} {C : Addr} (c : Cls K C) (f : Str) : PySem.W.plainGet K C f = true := c.pg
/-- no class of it has the name -/
def NoAttr (K : PySem.W.Frag) (C : Addr) (f : Str) : Prop := PySem.W.findIn K (.ref C) f = some none
theorem NoAttr.taker {K : PySem.W.Frag} {C : Addr} {f : Str} (n : NoAttr K C f) : PySem.W.takerIn K C f = some none := by
  unfold PySem.W.takerIn
  rw [show PySem.W.findIn K (.ref C) f = some none from n]
  rfl
/-- a method: a plain def of the class or of one above it -/
structure Meth (K : PySem.W.Frag) (C : Addr) (m : Str) (f : Addr) : Prop where
  at_ : PySem.W.findIn K (.ref C) m = some (some (.ref f))
  fn : PySem.W.isFn K (.ref f) = true
  kp : PySem.W.keepIn K (.ref f) = true

section
variable {X : Cx} {pins : List (Addr × Obj)} {σ : St} {H : Hp} {s : Shared} {a C dx : Addr} {fs : List (Str × V)} {f : Str} {v : V} {A : Around} {E : Value → Shared → Prop}

theorem getattr_ok {b : Bool} {Q : Value → Shared → Prop} (I : Inv X pins σ H s) (e : H a = some (.ins C dx fs)) (c : Cls X.K C) (n : NoAttr X.K C f) (l : fs.lookup f = some v)
    (h : ∀ u s', Inv X pins σ H s' → RelV v u → Q u s') : wpAny (model X.prog X.w) A (getAttr (.ref a) f b) Q E s := by
  obtain ⟨mA, O, r, _, _, _⟩ := ins_get I.hok e
  obtain ⟨u, hu, ru⟩ := RelO.some_of (v := v) (o := mA f) (by rw [← l]; exact r f)
  exact get_map I.kIn O (c.get f) c.hd n hu (handed_of ru) (h u _ (I.tok _) ru)

theorem getmeth_ok {m : Str} {g : Addr} {pl : Sem Bool} {Q : Value × List Value → Shared → Prop} (I : Inv X pins σ H s) (e : H a = some (.ins C dx fs)) (c : Cls X.K C) (k : Meth X.K C m g) (l : fs.lookup m = none)
    (h : Q (.ref g, [.ref a]) s) : wpAny (model X.prog X.w) A (getMethod (.ref a) m pl) Q E s := by
  obtain ⟨mA, O, r, _, _, _⟩ := ins_get I.hok e
  have hn : mA m = none := RelO.none_of (by rw [← l]; exact r m)
  exact get_meth I.kIn O (c.get m) k.at_ k.fn hn h

theorem setattr_ok {y : V} {u : Value} {Q : Unit → Shared → Prop} (I : Inv X pins σ H s) (e : H a = some (.ins C dx fs)) (c : Cls X.K C) (n : NoAttr X.K C f) (hl : fs.length < 1000) (ry : RelV y u)
    (h : ∀ s', Inv X pins σ (upd H a (.ins C dx (putF f y fs))) s' → Q () s') : wpAny (model X.prog X.w) A (setAttr (.ref a) f u) Q E s := by
  obtain ⟨mA, O, r, wi, _, ho⟩ := ins_get I.hok e
  have hz : (fs.map (·.1)).length ≤ sizeLine := by rw [List.length_map, sizeLine_eq]; omega
  refine set_map I.kIn O c.sa c.po n.taker c.hd wi hz fun h' O' sb => h _ ?_
  have hd : ∃ o, h'.get? dx = some o := let ⟨o, _, _, e', _⟩ := O'.ns; ⟨o, e'⟩
  refine I.write (x := a) (e := dx) (by rw [e]; exact True.intro) (.inr ho) (fun b q hb z => (sb.2 b hb).trans z) hd ?_
  refine ⟨by rw [upd_ne O.ne]; exact ho, ?_, O.ne, O'.obj, _, O'.ns, fun g => ?_, fun g hg => ?_⟩
  · have := length_putF f y fs; omega
  · show RelO ((putF f y fs).lookup g) (if g = f then some u else mA g)
    rw [lookup_putF]
    by_cases q : g = f
    · rw [if_pos q, if_pos q]; exact ry
    · rw [if_neg q, if_neg q]; exact r g
  · by_cases q : g = f
    · rw [q]; exact (keys_putF f y fs).1
    · refine (keys_putF f y fs).2 g (wi g fun z => hg ?_)
      show (if g = f then some u else mA g) = none
      rw [if_neg q]; exact z

/-- a new instance, tracked, without attributes -/
theorem Inv.made (I : Inv X pins σ H s) : Inv X pins σ (upd (upd H s.heap.objs.size (.own (s.heap.objs.size + 1))) (s.heap.objs.size + 1) (.ins C s.heap.objs.size []))
    { s with heap := (s.heap.push PySem.W.emptyDict).push (PySem.W.instObj C s.heap.objs.size) } := by
  have e1 : (s.heap.push PySem.W.emptyDict).get? s.heap.objs.size = some PySem.W.emptyDict := Heap.get?_push_size s.heap rfl
  have e2 : ((s.heap.push PySem.W.emptyDict).push (PySem.W.instObj C s.heap.objs.size)).get? (s.heap.objs.size + 1) = some (PySem.W.instObj C s.heap.objs.size) := by
    have := Heap.get?_push_size (s.heap.push PySem.W.emptyDict) (o := PySem.W.instObj C s.heap.objs.size) rfl
    rwa [Heap.size_push] at this
  have e3 : (s.heap.push PySem.W.emptyDict).Ns s.heap.objs.size (fun _ => none) := ⟨PySem.W.emptyDict, #[], _, e1, rfl, (fun e he => absurd he (by simp)), fun _ => rfl⟩
  have I1 := I.laid (a := s.heap.objs.size) (o := .own (s.heap.objs.size + 1)) (h' := s.heap.push PySem.W.emptyDict) (t' := s.toks) (fun b u q => Heap.get?_push_of_some _ q) (Nat.le_refl _) ⟨_, e1⟩
  refine I1.laid (a := s.heap.objs.size + 1) (o := .ins C s.heap.objs.size []) (t' := s.toks) (fun b u q => Heap.get?_push_of_some _ q) (Nat.le_of_eq (Heap.size_push _ _)) ?_
  have ne : s.heap.objs.size ≠ s.heap.objs.size + 1 := Nat.ne_of_lt (Nat.lt_succ_self _)
  refine ⟨by rw [upd_ne ne, upd_same], Nat.zero_le _, ne, e2, fun _ => none, (Heap.Ns1.of_empty e3).at fun o q => Heap.get?_push_of_some _ q, fun _ => True.intro, fun y hy => absurd rfl hy⟩

/-- e.f where nothing but the object is asked: through attributeBase (super) and the last hold -/
theorem attr_of {prog : Program} {w : World} {env : Env} {e : Expr} {f : Str} {pos : Pos} {s : Shared} {Q : Value → Shared → Prop} (hb : attributeBase e f env (eval e env) = eval e env)
    (h : wpAny (model prog w) A (eval e env) (fun o s₁ => wpAny (model prog w) A (getAttr o f true) Q E s₁) E s) : wpAny (model prog w) A (eval (.Attribute e f pos) env) Q E s :=
  Attribute_any_ h (by rw [arm_eval_Attribute, hb])
end

/-- e.f, an attribute of the instance -/
def tFld (K : PySem.W.Frag) (ta : TE) (f : Str) : TE := fun σ H Q => ta σ H fun x H1 => ∃ a C dx fs v, x = .ref a ∧ H1 a = some (.ins C dx fs) ∧ Cls K C ∧ NoAttr K C f ∧ fs.lookup f = some v ∧ Q v H1
/-- e.f = value -/
def sFld (K : PySem.W.Frag) (ta tv : TE) (f : Str) : TS := fun D σ H => tv σ H fun y H1 => ta σ H1 fun x H2 => ∃ a C dx fs, x = .ref a ∧ H2 a = some (.ins C dx fs) ∧ Cls K C ∧ NoAttr K C f ∧ fs.length < 1000 ∧
  D.nx σ (upd H2 a (.ins C dx (putF f y fs)))
/-- an augmented operator on two values -/
def InOp (X : Cx) (op : Operator) (rd : V → V → Hp → VK → Prop) : Prop :=
  ∀ (pins : List (Addr × Obj)) (s : Shared) (σ : St) (H : Hp) (x y : V) (u v : Value) (Q : VK), Inv X pins σ H s → RelV x u → RelV y v → rd x y H Q → wpAny (model X.prog X.w) X.A (inplaceOp op u v) (EP X pins σ Q) X.xe s
/-- e.f op= value -/
def sFldAug (K : PySem.W.Frag) (ta tv : TE) (rd : V → V → Hp → VK → Prop) (f : Str) : TS := fun D σ H => ta σ H fun x H1 => ∃ a C dx fs v, x = .ref a ∧ H1 a = some (.ins C dx fs) ∧ Cls K C ∧ NoAttr K C f ∧ fs.lookup f = some v ∧
  tv σ H1 fun y H2 => rd v y H2 fun z H3 => ∃ dx' fs', H3 a = some (.ins C dx' fs') ∧ fs'.length < 1000 ∧ D.nx σ (upd H3 a (.ins C dx' (putF f z fs')))

section
variable {X : Cx} {o e value : Expr} {f : Str} {pos pos' tpos : Pos} {ta tv : TE}
theorem pe_fld (he : PE X e ta) (hb : attributeBase e f X.env (eval e X.env) = eval e X.env) : PE X (.Attribute e f pos) (tFld X.K ta f) := by
  intro pins s σ H Q I h
  refine attr_of hb (thn (he pins s σ H _ I h) fun u s1 ⟨x, H1, I1, rx, a, C, dx, fs, v, ex, ea, c, n, l, q⟩ => ?_)
  subst ex
  obtain rfl : u = Value.ref a := rx
  exact getattr_ok I1 ea c n l fun u' s2 I2 ru => ⟨v, H1, I2, ru, q⟩
theorem ps_fld (ha : PE X o ta) (hv : PE X value tv) (hs : swapsWith value (some (.Attribute o f pos')) pos.line X.env = pure false) : PS X (.Assign [.Attribute o f pos'] value pos) (sFld X.K ta tv f) := by
  intro pins s σ H D I h
  refine plainObj_wpAny_Assign_Attribute (thn (hv pins s σ H _ I h) fun u s1 ⟨y, H1, I1, ry, q⟩ => thn (ha pins s1 σ H1 _ I1 q) fun ov s2 ⟨x, H2, I2, rx, a, C, dx, fs, ex, ea, c, n, l, q2⟩ => ?_) hs
  subst ex
  obtain rfl : ov = Value.ref a := rx
  exact setattr_ok I2 ea c n l ry fun s3 I3 => ⟨σ, _, I3, q2⟩
theorem ps_fldaug {op : Operator} {rd : V → V → Hp → VK → Prop} (ha : PE X o ta) (hv : PE X value tv) (hop : InOp X op rd) : PS X (.AugAssign (.Attribute o f tpos) op value pos) (sFldAug X.K ta tv rd f) := by
  intro pins s σ H D I h
  refine wpAny_AugAssign_AttributeAny (thn (ha pins s σ H _ I h) fun ov s1 ⟨x, H1, I1, rx, a, C, dx, fs, v, ex, ea, c, n, l, q⟩ => ?_)
  subst ex
  obtain rfl : ov = Value.ref a := rx
  refine getattr_ok I1 ea c n l fun u s2 I2 ru => thn (hv pins s2 σ H1 _ I2 q) fun w3 s3 ⟨y, H2, I3, ry, q3⟩ => thn (hop pins s3 σ H2 v y u w3 _ I3 ru ry q3) fun w4 s4 ⟨z, H3, I4, rz, dx', fs', ea', l', q4⟩ => ?_
  exact setattr_ok I4 ea' c n l' rz fun s5 I5 => ⟨σ, _, I5, q4⟩
def rAdd : V → V → Hp → VK → Prop := fun x y H Q => ∃ i j, x = .int i ∧ y = .int j ∧ Q (.int (i + j)) H
theorem in_add : InOp X .Add rAdd := by
  rintro pins s σ H x y u v Q I rx ry ⟨i, j, rfl, rfl, q⟩
  obtain ⟨t, rfl⟩ := (show ∃ t, u = Value.int i t from rx)
  obtain ⟨t', rfl⟩ := (show ∃ t', v = Value.int j t' from ry)
  exact PyProof.Rows.iadd_int ⟨.int (i + j), H, I.tok _, ⟨_, rfl⟩, q⟩
end

section
variable {X : Cx} {pins : List (Addr × Obj)} {σ : St} {H : Hp} {s : Shared} {A : Around} {E : Value → Shared → Prop} {Q : Value → Shared → Prop} {c : Value} {b : Bool}
/-- the type of a value, as the fragment's deciders take it; for an instance its class -/
inductive TyOf (K : PySem.W.Frag) (H : Hp) : V → Value → Prop where
  | non : TyOf K H .non (.type "NoneType")
  | bl (x : Bool) : TyOf K H (.bl x) (.type "bool")
  | int (i : Int) : TyOf K H (.int i) (.type "int")
  | str (x : Str) : TyOf K H (.str x) (.type "str")
  | flt (x : UInt64) : TyOf K H (.flt x) (.type "float")
  | lst {a : Addr} {xs : List V} (e : H a = some (.lst xs)) : TyOf K H (.ref a) (.type "list")
  | frz {a : Addr} {o : Obj} {xs : List V} (e : H a = some (.frz o (.lst xs))) : TyOf K H (.ref a) (.type "list")
  | tup {a : Addr} {xs : List V} (e : H a = some (.tup xs)) : TyOf K H (.ref a) (.type "tuple")
  | dK {a : Addr} {kvs : List (Key × V)} (e : H a = some (.dK kvs)) : TyOf K H (.ref a) (.type "dict")
  | dT {a : Addr} {kvs : List (List Key × V)} (e : H a = some (.dT kvs)) : TyOf K H (.ref a) (.type "dict")
  | ins {a C dx : Addr} {fs : List (Str × V)} (e : H a = some (.ins C dx fs)) (cl : Cls K C) (ha : PySem.W.findIn K (.ref C) "__class__" = some (some (.builtin "object.__class__")))
      (hn : PySem.W.specialIn K (.builtin "object.__class__") "__get__" = some (some (.builtin "getset_descriptor.__get__"))) (htk : PySem.W.takesIn K (.builtin "object.__class__") = some true)
      (hm : PySem.W.mroIn K C (.type "object") = some true) : TyOf K H (.ref a) (.ref C)
/-- isinstance(x, c) for one class c, a built-in or an own one: kitOne's answer -/
theorem isinst_ok {x : V} {u t : Value} (I : Inv X pins σ H s) (rx : RelV x u) (ty : TyOf X.K H x t) (e : PySem.W.kitOne X.K t c = some b) (h : ∀ tk, Q (.bool b) { s with toks := tk }) :
    wpAny (model X.prog X.w) A (call (.builtin "isinstance") [u, c]) Q E s := by
  cases ty with
  | non => cases (show u = Value.none from rx); exact PySem.W.kia_one PySem.W.kitx_none I.kIn True.intro e (fun z => nomatch z) h
  | bl y => cases (show u = Value.bool y from rx); exact PySem.W.kia_one PySem.W.kitx_bool I.kIn True.intro e (fun z => nomatch z) h
  | int i => obtain ⟨t, q⟩ := (show ∃ t, u = Value.int i t from rx); cases q; exact PySem.W.kia_one PySem.W.kitx_int I.kIn True.intro e (fun z => nomatch z) h
  | str y => obtain ⟨t, q⟩ := (show ∃ t, u = Value.str y t from rx); cases q; exact PySem.W.kia_one PySem.W.kitx_str I.kIn True.intro e (fun z => nomatch z) h
  | flt y => obtain ⟨t, q⟩ := (show ∃ t, u = Value.float y t from rx); cases q; exact PySem.W.kia_one PySem.W.kitx_float I.kIn True.intro e (fun z => nomatch z) h
  | @lst a xs ea =>
    cases (show u = Value.ref a from rx)
    obtain ⟨_, _, n, _, h1⟩ := (show ObjOk X.prog X.w H s.heap a (.lst xs) from I.hok a _ ea)
    exact PySem.W.kia_one PySem.W.kitx_list I.kIn ⟨_, h1, rfl⟩ e (fun z => nomatch z) h
  | @frz a ob xs ea =>
    cases (show u = Value.ref a from rx)
    obtain ⟨_, _, _, n, _, h1⟩ := (show ObjOk X.prog X.w H s.heap a (.frz ob (.lst xs)) from I.hok a _ ea)
    exact PySem.W.kia_one PySem.W.kitx_list I.kIn ⟨_, h1, rfl⟩ e (fun z => nomatch z) h
  | @tup a xs ea =>
    cases (show u = Value.ref a from rx)
    obtain ⟨_, _, _, p⟩ := (show ObjOk X.prog X.w H s.heap a (.tup xs) from I.hok a _ ea)
    obtain ⟨o, h1, h2, _⟩ := p
    exact PySem.W.kia_one PySem.W.kitx_tuple I.kIn ⟨o, h1, h2⟩ e (fun z => nomatch z) h
  | @dK a kvs ea =>
    cases (show u = Value.ref a from rx)
    obtain ⟨_, _, vs, _, p⟩ := (show ObjOk X.prog X.w H s.heap a (.dK kvs) from I.hok a _ ea)
    obtain ⟨o, es, ep, h1, h2, _⟩ := p
    exact PySem.W.kia_one PySem.W.kitx_dict I.kIn ⟨o, h1, h2.1⟩ e (fun z => nomatch z) h
  | @dT a kvs ea =>
    cases (show u = Value.ref a from rx)
    obtain ⟨_, _, xs, _, o, es, ep, h1, h2, _⟩ := (show ObjOk X.prog X.w H s.heap a (.dT kvs) from I.hok a _ ea)
    exact PySem.W.kia_one PySem.W.kitx_dict I.kIn ⟨o, h1, h2.1⟩ e (fun z => nomatch z) h
  | @ins a C dx fs ea cl ha hn htk hm =>
    cases (show u = Value.ref a from rx)
    obtain ⟨mA, O, _⟩ := ins_get I.hok ea
    obtain ⟨od, J, _⟩ := O.look
    exact PySem.W.kia_one (PySem.W.kitx_own (cl.get _) cl.hd ha hn htk hm) I.kIn J e (fun z => nomatch z) h
end
end L2

namespace L2
open PySem PySem.Spec PyProof.Rows

structure Room (k : Nat) (A : Around) : Prop where
  hd : A.handled = none
  dp : A.depth + 3 * k + 5 < recursionLimit
  un : A.units + 16 * k + 200 < cLine
theorem Room.mono {j k : Nat} {A : Around} (r : Room k A) (h : j ≤ k) : Room j A := ⟨r.hd, by have := r.dp; omega, by have := r.un; omega⟩
theorem Room.deeper {k : Nat} {A : Around} (r : Room (k + 1) A) (env : Env) : Room k (A.deeper env) :=
  ⟨r.hd, by have := r.dp; show A.depth + 1 + 3 * k + 5 < _; omega, by have := r.un; show A.units + 3 + 16 * k + 200 < _; omega⟩
theorem make_depth {A : Around} {C : Addr} {us : List Value} {kw : List (Str × Value)} : (A.under (.builtin "type.__call__" ⟨.ref C :: us, kw⟩)).depth = A.depth + 1 := by
  first | rfl | simp [Around.under, Code.weight, Code.isCreation, Code.isGuard, Code.isCaller, Code.frames, Code.isFrame, guardIds]
theorem make_units {A : Around} {C : Addr} {us : List Value} {kw : List (Str × Value)} : (A.under (.builtin "type.__call__" ⟨.ref C :: us, kw⟩)).units = A.units + 1 := by
  first | rfl | simp [Around.under, Code.cUnits, Code.frames, Code.isFrame]
theorem Room.make {k : Nat} {A : Around} (r : Room (k + 1) A) (C : Addr) (us : List Value) (kw : List (Str × Value)) : Room k (A.under (.builtin "type.__call__" ⟨.ref C :: us, kw⟩)) :=
  ⟨r.hd, by have := r.dp; rw [make_depth]; omega, by have := r.un; rw [make_units]; omega⟩
theorem Room.depth {k : Nat} {A : Around} (r : Room k A) : A.depth < recursionLimit := by have := r.dp; omega
theorem Room.units {k : Nat} {A : Around} (r : Room k A) : A.units + 64 < cLine := by have := r.un; omega
def tNil : TA := fun _ H Q => Q [] H
def tCons (ta : TE) (tr : TA) : TA := fun σ H Q => ta σ H fun x H1 => tr σ H1 fun xs H2 => Q (x :: xs) H2
section
variable {X : Cx} {e : Expr} {es : List Expr} {te : TE} {t : TA} {pos : Pos}
theorem pa_nil : PA X [] tNil := fun _ _ _ _ H Q I h => Calls.spliced_nil ⟨[], H, I, .nil, h⟩
theorem pa_cons (ha : PE X e te) (hr : PA X es t) (hs : starEach (e :: es) X.env = (false, eval e X.env) :: starEach es X.env := by rfl) : PA X (e :: es) (tCons te t) := by
  intro pos pins s σ H Q I h
  rw [hs]
  show wpAny _ _ (spliced ((false, eval e X.env) :: backTo pos (starEach es X.env))) _ _ s
  refine Calls.spliced_cons (thn (ha pins s σ H _ I h) fun u s1 ⟨x, H1, I1, r1, q1⟩ => ?_)
  exact thn (hr pos pins s1 σ H1 _ I1 q1) fun us s2 ⟨xs, H2, I2, r2, q2⟩ => ⟨x :: xs, H2, I2, .cons r1 r2, q2⟩

/-- a tuple, a list of written items -/
def tTup (t : TA) : TE := fun σ H Q => t σ H fun xs H1 => xs.length ≤ sizeLine ∧ ∀ p, H1 p = none → Q (.ref p) (upd H1 p (.tup xs))
def tLst (t : TA) : TE := fun σ H Q => t σ H fun xs H1 => xs.length ≤ sizeLine ∧ ∀ p, H1 p = none → Q (.ref p) (upd H1 p (.lst xs))
theorem pe_tup {x1} (h : PA X es t) : PE X (.Tuple es x1 pos) (tTup t) := by
  intro pins s σ H Q I hq
  refine wpAny_Tuple_spliced (thn (h pos pins s σ H _ I hq) fun us s1 ⟨xs, H1, I1, r, z, q⟩ => ⟨by rw [← r.length]; exact z, ?_⟩)
  have hf : H1 s1.heap.objs.size = none := I1.hok.fresh (Nat.le_refl _)
  refine ⟨.ref s1.heap.objs.size, upd H1 s1.heap.objs.size (.tup xs), I1.laid (t' := s1.toks) (fun b u e => Heap.get?_push_of_some _ e) (Nat.le_refl _) ?_, rfl, q _ hf⟩
  exact ⟨z, us, r, ⟨_, Heap.get?_push_size _ rfl, rfl, _, rfl⟩⟩
theorem pe_lst (h : PA X es t) : PE X (.List es pos) (tLst t) := by
  intro pins s σ H Q I hq
  refine wpAny_List_spliced (thn (h pos pins s σ H _ I hq) fun us s1 ⟨xs, H1, I1, r, z, q⟩ => ⟨by rw [← r.length]; exact z, ?_⟩)
  have hf : H1 s1.heap.objs.size = none := I1.hok.fresh (Nat.le_refl _)
  refine ⟨.ref s1.heap.objs.size, upd H1 s1.heap.objs.size (.lst xs), I1.laid (t' := s1.toks) (fun b u e => Heap.get?_push_of_some _ e) (Nat.le_refl _) ?_, rfl, q _ hf⟩
  exact ⟨z, us, 0, r, Heap.get?_push_size _ rfl⟩
end

/-- a def's promise: the bound arguments in the parameters' order, the heap, the wanted end, the wanted exception -/
abbrev Sp := List V → Hp → VK → XK → Prop
/-- how an exception lies behind a call (file 08 gives it): the callers' frames, abstract heap and state ahead of the call, the wish, the exception, the state -/
abbrev CXT := List Env → Hp → Shared → XK → Value → Shared → Prop

/-- the state at a call -/
structure Env0 (P : Program) (w : World) (K : PySem.W.Frag) (mg : Str → Option Value) (base : Heap) (A : Around) (outer : List Env) (s : Shared) (H : Hp) : Prop where
  frames : A.frames = some outer
  mod : Mod K mg base
  bs : ∀ b o, base.get? b = some o → s.heap.get? b = some o ∧ H b = none
  bsz : base.objs.size ≤ s.heap.objs.size
  funs : s.heap.FunFrames base outer
  frf : ∀ b ∈ frs outer, H b = none
  hok : HOk P w H s.heap
  bare : AllBare s.gens
/-- a call's end -/
def CE (outer : List Env) (P : Program) (w : World) (H : Hp) (s : Shared) (Q : VK) (u : Value) (s' : Shared) : Prop :=
  ∃ v H', s'.os = s.os ∧ AllBare s'.gens ∧ Un (frs outer) [] H H' s.heap s'.heap ∧ HOk P w H' s'.heap ∧ RelV v u ∧ Q v H'
def CR (CX : CXT) (outer : List Env) (P : Program) (w : World) (H : Hp) (s : Shared) (Q : VK) (E : XK) (r : Result) (s' : Shared) : Prop :=
  match r with
  | .ok (.ret u) => CE outer P w H s Q u s'
  | .ok _ => False
  | .error e => CX outer H s E e s'
structure FnOk (P : Program) (w : World) (K : PySem.W.Frag) (mg : Str → Option Value) (base : Heap) (CX : CXT) (k : Nat) (f : Addr) (fd : FuncData) (ps : List Str) (sp : Sp) : Prop where
  len : ∀ vs H Q E, sp vs H Q E → vs.length = ps.length
  run : ∀ (A : Around) (outer : List Env) (s : Shared) (H : Hp) (args : Args) (us : List Value) (vs : List V) (Q : VK) (E : XK), Room k A → Env0 P w K mg base A outer s H → BindsTo s fd args (ps.zip us) → Vals vs us → sp vs H Q E →
    codeAny (model P w) A (.call (.ref f) args) (CR CX outer P w H s Q E) s
theorem Env0.make {P : Program} {w : World} {K : PySem.W.Frag} {mg : Str → Option Value} {base : Heap} {A : Around} {outer : List Env} {s : Shared} {H : Hp} (e : Env0 P w K mg base A outer s H) (C : Addr) (us : List Value) (kw : List (Str × Value)) :
    Env0 P w K mg base (A.under (.builtin "type.__call__" ⟨.ref C :: us, kw⟩)) outer s H := ⟨by first | exact e.frames | (simpa [Around.under, Code.envs, Code.isFrame, pushEnvs] using e.frames), e.mod, e.bs, e.bsz, e.funs, e.frf, e.hok, e.bare⟩
section
variable {X : Cx} {pins : List (Addr × Obj)} {σ : St} {H : Hp} {s s' : Shared}
/-- from a body: what a callee wants -/
theorem Inv.env0 (I : Inv X pins σ H s) : Env0 X.prog X.w X.K X.mg X.base X.A X.stack s H :=
  ⟨I.ok.frames, I.ok.mod, I.bs, Nat.le_trans I.ok.bsz I.sz, I.stack, I.stkFree, I.hok, I.bare⟩
/-- behind a call -/
theorem Inv.after {Q : VK} {u : Value} (I : Inv X pins σ H s) (h : CE X.stack X.prog X.w H s Q u s') : EP X pins σ Q u s' := by
  obtain ⟨v, H', os, bare, un, hok, r, q⟩ := h
  obtain ⟨hh, g, d, t, os'⟩ := s'
  obtain rfl : os' = s.os := os
  exact ⟨v, H', I.call (h' := hh) (g' := g) (d' := d) (t' := t) (ch := []) un hok bare (fun b z => absurd z (by simp)), r, q⟩
end

/-- f(..): the written arguments, then the defaults dvs; E: what is wanted of an exception -/
def tCall (sp : Sp) (dvs : List V) (E : XK) (t : TA) : TE := fun σ H Q => t σ H fun vs H1 => sp (vs ++ dvs) H1 Q E
/-- o.m(..) of an instance of the class at C -/
def tMeth (C : Addr) (m : Str) (sp : Sp) (dvs : List V) (E : XK) (ta : TE) (t : TA) : TE := fun σ H Q => ta σ H fun x H1 => ∃ a dx fs, x = .ref a ∧ H1 a = some (.ins C dx fs) ∧ fs.lookup m = none ∧
  t σ H1 fun vs H2 => sp (x :: (vs ++ dvs)) H2 Q E
/-- C(..): a new instance and its dict, then __init__ -/
def tMake (C : Addr) (sp : Sp) (dvs : List V) (E : XK) (t : TA) : TE := fun σ H Q => t σ H fun vs H1 => ∀ x dx, H1 x = none → H1 dx = none → dx ≠ x →
  sp (.ref x :: (vs ++ dvs)) (upd (upd H1 dx (.own x)) x (.ins C dx [])) (fun v H2 => v = .non ∧ Q (.ref x) H2) E

/-- how the parameters are bound: us the positional arguments, kw the keywords' values by name, ds the defaults that fill up -/
def Binds (K : PySem.W.Frag) (fd : FuncData) (ps : List Str) (ds : List Value) : Prop :=
  ∀ (s : Shared) (us : List Value), K.In s.heap → (us ++ ds).length = ps.length → BindsTo s fd ⟨us, []⟩ (ps.zip (us ++ ds))
/-- every parameter is given -/
theorem Binds.all {K : PySem.W.Frag} {fd : FuncData} {ps : List Str} (h : ∀ us : List Value, us.length = ps.length → bindArgs fd ⟨us, []⟩ = pure (ps.zip us)) : Binds K fd ps [] := fun s us _ hl => by
  rw [List.append_nil] at hl ⊢
  exact .of_eq (h us hl)

/-- an exception of a callee reaches what this body wants of exceptions -/
def Passes (CX : CXT) (X : Cx) (E : XK) : Prop := ∀ (pins : List (Addr × Obj)) (σ : St) (H : Hp) (s : Shared) (e : Value) (s' : Shared), Inv X pins σ H s → CX X.stack H s E e s' → X.xe e s'

section
variable {X : Cx} {CX : CXT} {k : Nat} {f C : Addr} {fd : FuncData} {ps : List Str} {sp : Sp} {dvs : List V} {ds : List Value} {E : XK} {x m : Str} {p pos apos : Pos} {e o : Expr} {es : List Expr} {ta : TE} {t : TA}

/-- the callee runs -/
theorem run_fn {pins : List (Addr × Obj)} {σ : St} {H : Hp} {s : Shared} {Q : VK} {us : List Value} {vs : List V} (F : FnOk X.prog X.w X.K X.mg X.base CX k f fd ps sp) (hr : Room k X.A) (hb : Binds X.K fd ps ds) (hd : Vals dvs ds) (hx : Passes CX X E)
    (I : Inv X pins σ H s) (r : Vals vs us) (h : sp (vs ++ dvs) H Q E) : wpAny (model X.prog X.w) X.A (call (.ref f) us) (EP X pins σ Q) X.xe s := by
  have r2 : Vals (vs ++ dvs) (us ++ ds) := r.append hd
  have hl : (us ++ ds).length = ps.length := by rw [← r2.length]; exact F.len _ _ _ _ h
  refine wpAny_call (codeAny_mono (F.run X.A X.stack s H ⟨us, []⟩ (us ++ ds) (vs ++ dvs) Q E hr I.env0 (hb s us I.kIn hl) r2 h) fun r s' hq => ?_)
  cases r with
  | error e => exact hx pins σ H s e s' I hq
  | ok fl =>
    cases fl with
    | ret u => exact I.after hq
    | next => exact False.elim hq
    | brk => exact False.elim hq
    | cont => exact False.elim hq

theorem pe_call (F : FnOk X.prog X.w X.K X.mg X.base CX k f fd ps sp) (hr : Room k X.A) (hg : Gl X x) (hm : X.mg x = some (.ref f)) (hk : PySem.W.keepIn X.K (.ref f) = true) (hb : Binds X.K fd ps ds) (hd : Vals dvs ds) (hx : Passes CX X E)
    (ha : PA X (e :: es) t) (hdb : (x == ("__debug__" : Str)) = false := by decide) (he : starEach (e :: es) X.env = (false, eval e X.env) :: starEach es X.env := by rfl) (hpl : (backTo pos (starEach es X.env)).any (·.1) = false := by rfl) :
    PE X (.Call (.Name x p) (e :: es) [] pos) (tCall sp dvs E t) := by
  intro pins s σ H Q I h
  refine wpAny_Call_Name_kw (ld_glob I hg hm ?_ hdb)
  refine PySem.W.callWith_K (h₀ := X.base) I.ok.mod.kin hk (thn (ha pos pins s σ H _ I h) fun us s1 ⟨vs, H1, I1, r, q⟩ => ⟨I1.kIn, ?_⟩) he hpl
  exact run_fn F hr hb hd hx I1 r q
theorem pe_call0 (F : FnOk X.prog X.w X.K X.mg X.base CX k f fd ps sp) (hr : Room k X.A) (hg : Gl X x) (hm : X.mg x = some (.ref f)) (hk : PySem.W.keepIn X.K (.ref f) = true) (hb : Binds X.K fd ps ds) (hd : Vals dvs ds) (hx : Passes CX X E)
    (hdb : (x == ("__debug__" : Str)) = false := by decide) : PE X (.Call (.Name x p) [] [] pos) (tCall sp dvs E tNil) := by
  intro pins s σ H Q I h
  refine wpAny_Call_Name_kw (ld_glob I hg hm ?_ hdb)
  exact PySem.W.callWith_K0 I.kIn hk (run_fn (us := []) F hr hb hd hx I .nil h)

/-- o.m(e, ..) -/
theorem pe_meth {pl : Sem Bool} (he : PE X o ta) (c : Cls X.K C) (hm : Meth X.K C m f) (F : FnOk X.prog X.w X.K X.mg X.base CX k f fd ps sp) (hr : Room k X.A) (hb : Binds X.K fd ps ds) (hd : Vals dvs ds) (hx : Passes CX X E) (ha : PA X (e :: es) t)
    (hst : starEach (e :: es) X.env = (false, eval e X.env) :: starEach es X.env := by rfl) (hpl : (backTo pos (starEach es X.env)).any (·.1) = false := by rfl)
    (ht : eval (.Call (.Attribute o m apos) (e :: es) [] pos) X.env = (do
      let ov ← eval o X.env
      standAt apos.atName
      let (f, first) ← holding [ov] (getMethod ov m pl)
      callWith pos f first (backTo pos (starEach (e :: es) X.env)) (backToKw pos (keywordEach [] X.env))) := by rfl) :
    PE X (.Call (.Attribute o m apos) (e :: es) [] pos) (tMeth C m sp dvs E ta t) := by
  intro pins s σ H Q I h
  refine PySem.W.methodCall_KW (pl := pl) (thn (he pins s σ H _ I h) fun u s1 ⟨x, H1, I1, rx, a, dx, fs, ex, ea, l, q⟩ => ?_) ht
  subst ex
  obtain rfl : u = Value.ref a := rx
  refine getmeth_ok I1 ea c hm l ?_
  refine PySem.W.callWith_K (first := [.ref a]) (h₀ := X.base) I.ok.mod.kin hm.kp (thn (ha pos pins s1 σ H1 _ I1 q) fun us s2 ⟨vs, H2, I2, r, q2⟩ => ⟨I2.kIn, ?_⟩) hst hpl
  exact run_fn (us := .ref a :: us) (vs := .ref a :: vs) F hr hb hd hx I2 (.cons rfl r) q2
/-- o.m() -/
theorem pe_meth0 {pl : Sem Bool} (he : PE X o ta) (c : Cls X.K C) (hm : Meth X.K C m f) (F : FnOk X.prog X.w X.K X.mg X.base CX k f fd ps sp) (hr : Room k X.A) (hb : Binds X.K fd ps ds) (hd : Vals dvs ds) (hx : Passes CX X E)
    (ht : eval (.Call (.Attribute o m apos) [] [] pos) X.env = (do
      let ov ← eval o X.env
      standAt apos.atName
      let (f, first) ← holding [ov] (getMethod ov m pl)
      callWith pos f first (backTo pos (starEach [] X.env)) (backToKw pos (keywordEach [] X.env))) := by rfl) :
    PE X (.Call (.Attribute o m apos) [] [] pos) (tMeth C m sp dvs E ta tNil) := by
  intro pins s σ H Q I h
  refine PySem.W.methodCall_KW (pl := pl) (thn (he pins s σ H _ I h) fun u s1 ⟨x, H1, I1, rx, a, dx, fs, ex, ea, l, q⟩ => ?_) ht
  subst ex
  obtain rfl : u = Value.ref a := rx
  refine getmeth_ok I1 ea c hm l ?_
  exact PySem.W.callWith_K0 (first := [.ref a]) I1.kIn hm.kp (run_fn (us := [.ref a]) (vs := [.ref a]) F hr hb hd hx I1 (.cons rfl .nil) q)

/-- what a class must have to be made -/
structure Mk (K : PySem.W.Frag) (C f : Addr) : Prop where
  makes : PySem.W.makesIn K C = true
  init : PySem.W.findIn K (.ref C) "__init__" = some (some (.ref f))
  fn : PySem.W.isFn K (.ref f) = true
  kp : PySem.W.keepIn K (.ref C) = true

theorem run_make {pins : List (Addr × Obj)} {σ : St} {H : Hp} {s : Shared} {Q : VK} {us : List Value} {vs : List V} (M : Mk X.K C f) (F : FnOk X.prog X.w X.K X.mg X.base CX k f fd ps sp) (hr : Room (k + 1) X.A) (hb : Binds X.K fd ps ds) (hd : Vals dvs ds)
    (hx : Passes CX X E) (I : Inv X pins σ H s) (r : Vals vs us)
    (h : ∀ x dx, H x = none → H dx = none → dx ≠ x → sp (.ref x :: (vs ++ dvs)) (upd (upd H dx (.own x)) x (.ins C dx [])) (fun v H2 => v = .non ∧ Q (.ref x) H2) E) :
    wpAny (model X.prog X.w) X.A (call (.ref C) us) (EP X pins σ Q) X.xe s := by
  have hq := h (s.heap.objs.size + 1) s.heap.objs.size (I.hok.fresh (Nat.le_succ _)) (I.hok.fresh (Nat.le_refl _)) (Nat.ne_of_lt (Nat.lt_succ_self _))
  have I2 := Inv.made (C := C) I
  have r2 : Vals (V.ref (s.heap.objs.size + 1) :: (vs ++ dvs)) (Value.ref (s.heap.objs.size + 1) :: (us ++ ds)) := .cons rfl (r.append hd)
  have hl : (Value.ref (s.heap.objs.size + 1) :: us ++ ds).length = ps.length := by
    have e := r2.length
    rw [F.len _ _ _ _ hq] at e
    exact e.symm
  refine wpAny_call (make_map (f := f) I.kIn M.makes M.init (beq_iff_eq.mp M.fn) (codeAny_mono (F.run _ X.stack _ _ ⟨Value.ref (s.heap.objs.size + 1) :: us, []⟩ (Value.ref (s.heap.objs.size + 1) :: (us ++ ds)) _ _ E (hr.make C us [])
    (I2.env0.make C us []) (hb _ (Value.ref (s.heap.objs.size + 1) :: us) I2.kIn hl) r2 hq) fun r s' hq' => ?_))
  cases r with
  | error e => exact hx pins σ _ _ e s' I2 hq'
  | ok fl =>
    cases fl with
    | ret u =>
      obtain ⟨v, H', I3, rv, ev, q3⟩ := I2.after hq'
      subst ev
      exact ⟨rv, ⟨V.ref (s.heap.objs.size + 1), H', I3, rfl, q3⟩⟩
    | next => exact False.elim hq'
    | brk => exact False.elim hq'
    | cont => exact False.elim hq'
theorem pe_make (M : Mk X.K C f) (F : FnOk X.prog X.w X.K X.mg X.base CX k f fd ps sp) (hr : Room (k + 1) X.A) (hg : Gl X x) (hm : X.mg x = some (.ref C)) (hb : Binds X.K fd ps ds) (hd : Vals dvs ds) (hx : Passes CX X E)
    (ha : PA X (e :: es) t) (hdb : (x == ("__debug__" : Str)) = false := by decide) (he : starEach (e :: es) X.env = (false, eval e X.env) :: starEach es X.env := by rfl) (hpl : (backTo pos (starEach es X.env)).any (·.1) = false := by rfl) :
    PE X (.Call (.Name x p) (e :: es) [] pos) (tMake C sp dvs E t) := by
  intro pins s σ H Q I h
  refine wpAny_Call_Name_kw (ld_glob I hg hm ?_ hdb)
  refine PySem.W.callWith_K (h₀ := X.base) I.ok.mod.kin M.kp (thn (ha pos pins s σ H _ I h) fun us s1 ⟨vs, H1, I1, r, q⟩ => ⟨I1.kIn, ?_⟩) he hpl
  exact run_make M F hr hb hd hx I1 r q
end

section
variable {X : Cx} {CX : CXT} {k : Nat} {f C : Addr} {fd : FuncData} {ps ks : List Str} {sp : Sp} {E : XK} {x m : Str} {p pos apos kpos : Pos} {e o : Expr} {es : List Expr} {kws : List Keyword} {te ta : TE} {t tk : TA} {nm : Option Str}
variable {g : List Value → List Value → List Value} {gV : List V → List V → List V}
end

/-- names: the parameters first -/
structure FnScope (N P : List Str) (sc : Scope) : Prop where
  kind : sc.kind = .function
  co : sc.isCoroutine = false
  gen : sc.isGenerator = false
  nd : N.Nodup
  pre : N.take P.length = P
  par : ∀ x ∈ P, sc.names.lookup x = some .local ∨ sc.names.lookup x = some .cell
  nofree : ∀ y ∈ sc.names, y.2 ≠ .free

theorem bindL_out {kindOf : Str → Option NameKind} {x : Str} : ∀ {binds : List (Str × Value)} {m : Str → Option Value}, (∀ v, (x, v) ∉ binds) → bindL kindOf binds m x = m x
  | [], _, _ => rfl
  | (n, v) :: r, m, h => by
    unfold bindL
    rw [bindL_out fun w hw => h w (List.mem_cons_of_mem _ hw)]
    split
    · have : x ≠ n := by rintro rfl; exact h v List.mem_cons_self
      simp [this]
    · rfl
theorem bindC_out {kindOf : Str → Option NameKind} {x : Str} : ∀ {binds : List (Str × Value)} {m : Str → Option Value}, (∀ v, (x, v) ∉ binds) → bindC kindOf binds m x = m x
  | [], _, _ => rfl
  | (n, v) :: r, m, h => by
    unfold bindC
    rw [bindC_out fun w hw => h w (List.mem_cons_of_mem _ hw)]
    split
    · rfl
    · have : x ≠ n := by rintro rfl; exact h v List.mem_cons_self
      simp [this]
theorem bindL_get {kindOf : Str → Option NameKind} {x : Str} {v : Value} : ∀ {P : List Str} {vs : List Value} {i : Nat} {m : Str → Option Value}, P.Nodup → P[i]? = some x → vs[i]? = some v → kindOf x = some .local →
    bindL kindOf (P.zip vs) m x = some v
  | [], _, _, _, _, h, _, _ => by simp at h
  | _ :: _, [], _, _, _, _, h, _ => by simp at h
  | p :: P, w :: vs, 0, m, nd, h1, h2, hk => by
    simp at h1 h2; subst h1; subst h2
    show bindL kindOf ((p, w) :: P.zip vs) m p = _
    unfold bindL
    rw [bindL_out fun v hv => (List.nodup_cons.mp nd).1 (List.of_mem_zip hv).1, if_pos hk]
    simp
  | p :: P, w :: vs, i + 1, m, nd, h1, h2, hk => by
    show bindL kindOf ((p, w) :: P.zip vs) m x = _
    unfold bindL
    exact bindL_get (i := i) (List.nodup_cons.mp nd).2 (by simpa using h1) (by simpa using h2) hk
theorem bindC_get {kindOf : Str → Option NameKind} {x : Str} {v : Value} : ∀ {P : List Str} {vs : List Value} {i : Nat} {m : Str → Option Value}, P.Nodup → P[i]? = some x → vs[i]? = some v → kindOf x ≠ some .local →
    bindC kindOf (P.zip vs) m x = some v
  | [], _, _, _, _, h, _, _ => by simp at h
  | _ :: _, [], _, _, _, _, h, _ => by simp at h
  | p :: P, w :: vs, 0, m, nd, h1, h2, hk => by
    simp at h1 h2; subst h1; subst h2
    show bindC kindOf ((p, w) :: P.zip vs) m p = _
    unfold bindC
    rw [bindC_out fun v hv => (List.nodup_cons.mp nd).1 (List.of_mem_zip hv).1, if_neg hk]
    simp
  | p :: P, w :: vs, i + 1, m, nd, h1, h2, hk => by
    show bindC kindOf ((p, w) :: P.zip vs) m x = _
    unfold bindC
    exact bindC_get (i := i) (List.nodup_cons.mp nd).2 (by simpa using h1) (by simpa using h2) hk

/-- the names' values at the entry -/
def start (N : List Str) (vs : List V) : St := vs.map some ++ List.replicate (N.length - vs.length) none

/-- the context of a def's body, at its entry; an exception leaves the frame, then lies as CX says -/
def cxOf (CX : CXT) (P : Program) (w : World) (K : PySem.W.Frag) (mg : Str → Option Value) (base : Heap) (N : List Str) (qual : Str) (scope : Scope) (f : Addr) (cd : Value) (A : Around) (outer : List Env) (s : Shared) (H : Hp) (E : XK) : Cx where
  prog := P
  w := w
  K := K
  mg := mg
  base := base
  A := A.deeper (envOfC qual scope s.heap.objs.size f cd)
  N := N
  s₀ := s
  H₀ := H
  env := envOfC qual scope s.heap.objs.size f cd
  outer := outer
  stack := envOfC qual scope s.heap.objs.size f cd :: outer
  ex := []
  calm := true
  fn := fun _ => true
  pn := []
  xe := fun e s' => wpAny (model P w) (A.deeper (envOfC qual scope s.heap.objs.size f cd)) (leaving (envOfC qual scope s.heap.objs.size f cd) e) (fun _ s'' => CX outer H s E e s'') (fun e' s'' => CX outer H s E e' s'') s'

theorem cell_has {sc : Scope} {n : Nat} {x : Str} (h : sc.names.lookup x = some .cell) : ∃ c, (cellsFrom n sc.names []).lookup x = some c := by
  have q := PySem.W.cellsFrom_some sc.names n [] (.inl h)
  exact Option.isSome_iff_exists.mp q

theorem inv_start {CX : CXT} {P : Program} {w : World} {K : PySem.W.Frag} {mg : Str → Option Value} {base : Heap} {N ps : List Str} {qual : Str} {scope : Scope} {f : Addr} {cd : Value} {A : Around} {outer : List Env} {s s1 : Shared} {H : Hp} {E : XK} {us : List Value} {vs : List V}
    (S : FnScope N ps scope) (hd : A.handled = none) (e0 : Env0 P w K mg base A outer s H) (hl : vs.length = ps.length) (r : Vals vs us)
    (x : InCallC s s.heap.objs.size (bindL (envOfC qual scope s.heap.objs.size f cd).kindOf (ps.zip us) fun _ => none) (cellsFrom (s.heap.objs.size + 1) scope.names []) (bindC (envOfC qual scope s.heap.objs.size f cd).kindOf (ps.zip us) fun _ => none) s1) :
    Inv (cxOf CX P w K mg base N qual scope f cd A outer s H E) [] (start N vs) H s1 := by
  have hpl : ps.length ≤ N.length := by have := congrArg List.length S.pre; rw [List.length_take] at this; omega
  obtain ⟨h1, tk, rfl, hk⟩ := x.done
  have noA : ∀ b : Addr, b ∉ (cxOf CX P w K mg base N qual scope f cd A outer s H E).ex := fun b z => absurd (show b ∈ ([] : List Addr) from z) (by simp)
  refine ⟨⟨e0.mod, S.kind, rfl, rfl, Nat.le_refl _, fun y z c h1 h2 => ?_, fun y hy => ?_, fun y c _ h => ?_, fun _ => hd, Around.frames_deeper e0.frames, .inr ⟨rfl, rfl⟩, fun b z => absurd z (noA b), e0.bs, e0.bsz, fun b _ _ => noA b, fun b z => absurd z (noA b), e0.funs, e0.frf⟩,
    rfl, e0.bare, Un.kept hk, ⟨_, x.toInCall.ns, fun i y v h1 h2 h3 => ?_⟩, fun y c h => ⟨_, x.cell y c h⟩, e0.hok.fresh (Nat.le_refl _), fun y c h => ?_, fun p hp => absurd (show p ∈ ([] : List (Addr × Obj)) from hp) (by simp), e0.hok.kept hk, ?_⟩
  · exact name_of_addr x.apart (PySem.mem_of_lookup h1) (PySem.mem_of_lookup h2)
  · have hy : scope.names.lookup y = some .cell ∨ scope.names.lookup y = some .free := hy
    rcases hy with hy | hy
    · exact cell_has hy
    · exact absurd rfl (S.nofree _ (PySem.mem_of_lookup hy))
  · exact Nat.le_of_lt (x.above y c (PySem.mem_of_lookup h))
  · have hi : i < vs.length := by
      unfold start at h2
      by_cases hi : i < vs.length
      · exact hi
      · rw [List.getElem?_append_right (by simpa using hi)] at h2
        rw [List.getElem?_replicate] at h2
        split at h2 <;> cases h2
    have ha : vs[i]? = some v := by
      unfold start at h2
      rw [List.getElem?_append_left (by simpa using hi), List.getElem?_map] at h2
      cases e : vs[i]? with
      | none => rw [e] at h2; cases h2
      | some a => rw [e] at h2; cases h2; rfl
    obtain ⟨u, hu, rv⟩ := r.get ha
    have hp : ps[i]? = some y := by
      rw [← S.pre, List.getElem?_take_of_lt (by omega)]; exact h1
    have ndP : ps.Nodup := by rw [← S.pre]; exact S.nd.sublist (List.take_sublist _ _)
    refine ⟨u, rv, ?_⟩
    rcases S.par y (List.mem_of_getElem? hp) with k | k
    · exact .inl ⟨k, bindL_get ndP hp hu k⟩
    · obtain ⟨c, e⟩ := cell_has (n := s.heap.objs.size + 1) k
      refine .inr ⟨.inl k, c, e, ?_⟩
      have q := x.cell y c e
      rw [bindC_get ndP hp hu (by show scope.names.lookup y ≠ _; rw [k]; decide)] at q
      exact q
  · exact e0.hok.fresh (Nat.le_of_lt (x.above y c (PySem.mem_of_lookup h)))
  · unfold start
    show _ = N.length
    rw [List.length_append, List.length_map, List.length_replicate]
    omega

/-- THE RULE: a def (or a method) of the text, by its body. The body's reading t is chosen for each entry; it is run at the parameters' values -/
theorem fn_of {CX : CXT} {P : Program} {w : World} {K : PySem.W.Frag} {mg : Str → Option Value} {base : Heap} {k : Nat} {f : Addr} {name qual : Str} {params : Arguments} {body : List Stmt} {scope : Scope} {dV kV doc pm cdv ct oc : Value} {an od : Option Addr}
    {osl : Array (Option Value)} {N ps : List Str} {sp : Sp} (lk : K.lookup f = some ⟨oc, od, .func (PySem.W.fnOf name qual params body scope dV kV doc pm an cdv ct), osl⟩) (hcd : PySem.W.codeIn K cdv qual = true) (S : FnScope N ps scope)
    (len : ∀ vs H Q E, sp vs H Q E → vs.length = ps.length)
    (hbody : ∀ (A : Around) (outer : List Env) (s : Shared) (H : Hp) (vs : List V) (Q : VK) (E : XK), Room k (A.deeper (envOfC qual scope s.heap.objs.size f cdv)) → sp vs H Q E →
      ∃ t, PSs (cxOf CX P w K mg base N qual scope f cdv A outer s H E) body t ∧ t { nx := fun _ H' => Q .non H', rt := Q } (start N vs) H) :
    FnOk P w K mg base CX (k + 1) f (PySem.W.fnOf name qual params body scope dV kV doc pm an cdv ct) ps sp := by
  refine ⟨len, fun A outer s H args us vs Q E hr e0 hb r hsp => ?_⟩
  have hl := len _ _ _ _ hsp
  have KX : K.In s.heap := e0.mod.kin.keeps fun b o e => (e0.bs b o e).1
  have lim : s.heap.NoLimit := e0.mod.nolimit.keeps fun b o e => (e0.bs b o e).1
  have hkind : ∀ y ∈ ps.zip us, scope.names.lookup y.1 = some .local ∨ (scope.names.lookup y.1 = some .cell ∧ ((cellsFrom (s.heap.objs.size + 1) scope.names []).lookup y.1).isSome = true) := fun ⟨n, v⟩ hy => by
    rcases S.par n (List.of_mem_zip hy).1 with q | q
    · exact .inl q
    · exact .inr ⟨q, PySem.W.cellsFrom_some _ _ _ (.inl q)⟩
  refine codeAny_call_function hr.depth (KX _ _ lk) rfl S.co S.gen rfl (PySem.W.codeRec_of KX hcd) (hb _ _ _ _ ?_)
  refine wpAny_newFunctionEnv_cells S.kind hkind fun env he s1 x => ?_
  subst he
  refine ⟨lim.keeps x.toInCall.keep, codeAny_func ?_⟩
  obtain ⟨t, ht, hq⟩ := hbody A outer s H vs Q E (hr.deeper _) hsp
  have I : Inv (cxOf CX P w K mg base N qual scope f cdv A outer s H E) [] (start N vs) H s1 := inv_start S hr.hd e0 hl r x
  refine wpAny_mono (ht [] s1 (start N vs) H _ I hq) (fun fl s' hs => ?_) fun e s' hs => hs
  have fin : ∀ {σ' : St} {H' : Hp} {v : V} {u : Value}, Inv (cxOf CX P w K mg base N qual scope f cdv A outer s H E) [] σ' H' s' → RelV v u → Q v H' → CE outer P w H s Q u s' :=
    fun {σ' H' v u} J rv q => ⟨v, H', J.os, J.bare, J.base, J.hok, rv, q⟩
  cases fl with
  | ret u =>
    obtain ⟨v, σ', H', J, rv, q⟩ := hs
    exact fin J rv q
  | next =>
    obtain ⟨σ', H', J, q⟩ := hs
    exact fin (v := V.non) (u := Value.none) J rfl q
  | brk =>
    obtain ⟨_, _, _, q⟩ := hs
    exact False.elim q
  | cont =>
    obtain ⟨_, _, _, q⟩ := hs
    exact False.elim q
end L2

namespace L2
open PySem PySem.Spec PyProof.Rows
section
variable {X : Cx} {x : Str} {p pos : Pos} {e : Expr} {es : List Expr} {t : TA} {id T : String} {r : List V → Hp → VK → Prop}

def tCB (r : List V → Hp → VK → Prop) (t : TA) : TE := fun σ H Q => t σ H fun vs H1 => r vs H1 Q
/-- f(e, ..), f a built-in function -/
theorem pe_callB (hc : CallR X (.builtin id) r) (hg : Gl X x) (hm : X.mg x = none) (hv : bootBuiltins x = some (.builtin id)) (ha : PA X (e :: es) t) (hn : x ≠ "__name__" := by decide) (hdb : (x == ("__debug__" : Str)) = false := by decide)
    (he : starEach (e :: es) X.env = (false, eval e X.env) :: starEach es X.env := by rfl) (hpl : (backTo pos (starEach es X.env)).any (·.1) = false := by rfl) : PE X (.Call (.Name x p) (e :: es) [] pos) (tCB r t) := by
  intro pins s σ H Q I h
  refine wpAny_Call_Name_kw (ld_blt I hg hm hv ?_ hn hdb)
  exact PyProof.Rows.callWith_builtin1 (thn (ha pos pins s σ H _ I h) fun us s1 ⟨vs, H1, I1, r1, q1⟩ => hc pins s1 σ H1 vs us Q I1 r1 q1) he hpl
/-- T(e, ..), T a built-in type -/
theorem pe_callTy (hc : CallR X (.type T) r) (hg : Gl X x) (hm : X.mg x = none) (hv : bootBuiltins x = some (.type T)) (ha : PA X (e :: es) t) (hn : x ≠ "__name__" := by decide) (hdb : (x == ("__debug__" : Str)) = false := by decide)
    (he : starEach (e :: es) X.env = (false, eval e X.env) :: starEach es X.env := by rfl) (hpl : (backTo pos (starEach es X.env)).any (·.1) = false := by rfl) : PE X (.Call (.Name x p) (e :: es) [] pos) (tCB r t) := by
  intro pins s σ H Q I h
  refine wpAny_Call_Name_kw (ld_blt I hg hm hv ?_ hn hdb)
  exact PyProof.Rows.callWith_type1 (thn (ha pos pins s σ H _ I h) fun us s1 ⟨vs, H1, I1, r1, q1⟩ => hc pins s1 σ H1 vs us Q I1 r1 q1) he hpl
end
end L2

namespace HT
open PySem PyProof.Rows

section
open PySem.SeqAt
open PySem.AutoSeq1 (wpAny_loadPart')
open PySem.MeetsSeq PySem.MeetsSeq2 PySem.MeetsSeq3

end

section
variable {prog : Program} {w : World} {A : Around} {E : Value → Shared → Prop} {s : Shared}

/-- a slice's bound as a place among n (d where it is left out) -/
def sIx (n d : Nat) : Option Int → Nat
  | none => d
  | some v => if v < 0 then (v + (n : Int)).toNat else min v.toNat n
theorem sIx_none (n d : Nat) : sIx n d none = d := rfl
theorem sIx_nat (n d k : Nat) : sIx n d (some (k : Int)) = min k n := by
  show (if (k : Int) < 0 then ((k : Int) + (n : Int)).toNat else min (k : Int).toNat n) = min k n
  rw [if_neg (by omega), Int.toNat_natCast]
end
end HT

namespace L2
open PySem PySem.Spec PyProof.Rows

abbrev TO := St → Hp → (Option Int → Hp → Prop) → Prop
/-- a slice's part (left out, or an int) -/
def PO (X : Cx) (e : Option Expr) (t : TO) : Prop :=
  ∀ (pins : List (Addr × Obj)) (s : Shared) (σ : St) (H : Hp) (Q : Option Int → Hp → Prop), Inv X pins σ H s → t σ H Q →
    wpAny (model X.prog X.w) X.A (evalPart e X.env) (fun u s' => ∃ o H', Inv X pins σ H' s' ∧ IsPart u o ∧ Q o H') X.xe s
def tNoPart : TO := fun _ H Q => Q none H
def tPart (t : TE) : TO := fun σ H Q => t σ H fun x H1 => ∃ i, x = .int i ∧ Q (some i) H1

section
variable {X : Cx} {e : Expr} {te : TE} {lo hi : Option Expr} {tl th : TO} {pos p2 : Pos}

theorem po_none : PO X none tNoPart := by
  intro pins s σ H Q I h
  rw [evalPart_none]
  exact wpAny_pure ⟨none, H, I, .none, h⟩
theorem po_some (h : PE X e te) : PO X (some e) (tPart te) := by
  intro pins s σ H Q I hw
  rw [evalPart_some]
  refine thn (h pins s σ H _ I hw) fun u s1 ⟨x, H1, I1, r1, q1⟩ => ?_
  obtain ⟨i, rfl, q⟩ := q1
  obtain ⟨t, rfl⟩ := r1
  exact ⟨some i, H1, I1, .int i t, q⟩

/-- what a slice of a value is, by values: the slice object stands at sl -/
def SlR (X : Cx) (r : V → Option Int → Option Int → Hp → VK → Prop) : Prop :=
  ∀ (pins : List (Addr × Obj)) (s : Shared) (σ : St) (H : Hp) (x : V) (v vl vu : Value) (lo hi : Option Int) (sl : Addr) (Q : VK), Inv X pins σ H s → RelV x v → s.heap.IsSliceOf sl vl vu .none → IsPart vl lo → IsPart vu hi → r x lo hi H Q →
    ∃ T id, typeLookup (.type T) "__getitem__" = pure (some (.builtin id)) ∧ s.TypeIs v T ∧ wpAny (model X.prog X.w) X.A (getItem v (.ref sl)) (EP X pins σ Q) X.xe s
def tSl (r : V → Option Int → Option Int → Hp → VK → Prop) (te : TE) (tl th : TO) : TE := fun σ H Q => te σ H fun x H1 => tl σ H1 fun l H2 => th σ H2 fun u H3 => r x l u H3 Q
/-- a[lo:hi], any a -/
theorem pe_slice {r : V → Option Int → Option Int → Hp → VK → Prop} (hr : SlR X r) (he : PE X e te) (hl : PO X lo tl) (hu : PO X hi th) : PE X (.Subscript e (.Slice lo hi none p2) pos) (tSl r te tl th) := by
  intro pins s σ H Q I h
  refine Subscript_ (thn (he pins s σ H _ I h) fun v s1 ⟨x, H1, I1, r1, q1⟩ => ?_)
  refine wpAny_Slice (thn (hl pins s1 σ H1 _ I1 q1) fun vl s2 ⟨l, H2, I2, pl, q2⟩ => thn (hu pins s2 σ H2 _ I2 q2) fun vu s3 ⟨u, H3, I3, pu, q3⟩ => ?_)
  rw [evalPart_none]
  refine wpAny_pure ?_
  have I4 : Inv X pins σ H3 { s3 with heap := s3.heap.push { cls := .type "slice", data := .fields #[vl, vu, .none] } } := I3.kept (t' := s3.toks) fun b ob q => Heap.get?_push_of_some _ q
  obtain ⟨T, id, hT, ht, hg⟩ := hr pins { s3 with heap := s3.heap.push { cls := .type "slice", data := .fields #[vl, vu, .none] } } σ H3 x v vl vu l u s3.heap.objs.size Q I4 r1 (Heap.IsSliceOf.new ..) pl pu q3
  show wpAny (model X.prog X.w) X.A (subscriptTail e (.Slice lo hi none p2) v (.ref s3.heap.objs.size)) (EP X pins σ Q) X.xe { s3 with heap := s3.heap.push { cls := .type "slice", data := .fields #[vl, vu, .none] } }
  exact tail_any (ops := [.ref s3.heap.objs.size, v]) ht hT hg (by with_unfolding_all rfl)

/-- the items of xs[lo:hi] -/
def cutV (xs : List V) (lo hi : Option Int) : List V := (xs.drop (HT.sIx xs.length 0 lo)).take (HT.sIx xs.length xs.length hi - HT.sIx xs.length 0 lo)
theorem cutV_length (xs : List V) (lo hi : Option Int) : (cutV xs lo hi).length ≤ xs.length := by
  unfold cutV
  rw [List.length_take, List.length_drop]
  omega
end
end L2

namespace L2
open PySem PySem.Spec PyProof.Rows

/-- the place that an index of any sign means -/
def ixN (n : Nat) (i : Int) : Option Nat := if 0 ≤ i then (if i < n then some i.toNat else none) else if -(n : Int) ≤ i then some (i + n).toNat else none
def atI {α : Type} (xs : List α) (i : Int) : Option α := (ixN xs.length i).bind fun j => xs[j]?
theorem ixN_seq {n : Nat} {i : Int} {j : Nat} (h : ixN n i = some j) : seqIndex? i n = some j ∧ j < n ∧ -(n : Int) ≤ i ∧ i < n := by
  unfold ixN at h
  by_cases h0 : 0 ≤ i
  · rw [if_pos h0] at h
    by_cases h1 : i < n
    · rw [if_pos h1] at h
      have e : i.toNat = j := Option.some.inj h
      exact ⟨by rw [seqIndex_of h0 h1, e], by omega, by omega, h1⟩
    · rw [if_neg h1] at h; cases h
  · rw [if_neg h0] at h
    by_cases h1 : -(n : Int) ≤ i
    · rw [if_pos h1] at h
      have e : (i + n).toNat = j := Option.some.inj h
      exact ⟨by rw [seqIndex_neg (by omega) h1, e], by omega, h1, by omega⟩
    · rw [if_neg h1] at h; cases h
theorem atI_get {α : Type} {xs : List α} {i : Int} {v : α} (h : atI xs i = some v) : ∃ j, seqIndex? i xs.length = some j ∧ xs[j]? = some v ∧ j < xs.length ∧ -(xs.length : Int) ≤ i ∧ i < xs.length := by
  unfold atI at h
  cases e : ixN xs.length i with
  | none => rw [e] at h; cases h
  | some j =>
    rw [e] at h
    obtain ⟨h1, h2, h3, h4⟩ := ixN_seq e
    exact ⟨j, h1, h, h2, h3, h4⟩
theorem atI_nat {α : Type} {xs : List α} {j : Nat} {v : α} (h : xs[j]? = some v) : atI xs (j : Int) = some v := by
  have hj : j < xs.length := (List.getElem?_eq_some_iff.mp h).1
  have e : ixN xs.length (j : Int) = some j := by
    unfold ixN
    rw [if_pos (by omega), if_pos (by omega)]; simp
  unfold atI; rw [e]; exact h
/-- what stands as an index of a plain subscript -/
def PlainIx (b : Expr) : Prop := ∀ o i, subscripted b false o i = operate [o, i] (getItem o i)
/-- a subscript by values -/
def IxR (X : Cx) (r : R2) : Prop :=
  ∀ (value slice : Expr) (pins : List (Addr × Obj)) (s : Shared) (σ : St) (H : Hp) (x y : V) (v u : Value) (Q : VK), Inv X pins σ H s → RelV x v → RelV y u → r x y H Q →
    subscripted slice false v u = operate [v, u] (getItem v u) → wpAny (model X.prog X.w) X.A (subscriptTail value slice v u) (EP X pins σ Q) X.xe s
/-- a call of a builtin's method by values: the receiver, the arguments -/
def MtR (X : Cx) (id : String) (r : V → List V → Hp → VK → Prop) : Prop :=
  ∀ (pins : List (Addr × Obj)) (s : Shared) (σ : St) (H : Hp) (x : V) (xs : List V) (v : Value) (us : List Value) (Q : VK), Inv X pins σ H s → RelV x v → Vals xs us → r x xs H Q →
    wpAny (model X.prog X.w) X.A (call (.builtin id) (v :: us)) (EP X pins σ Q) X.xe s
section
variable {X : Cx} {a b : Expr} {ta tb : TE} {pos : Pos}
/-- a[b] -/
theorem pe_ix {r : R2} (hr : IxR X r) (ha : PE X a ta) (hb : PE X b tb) (hs : PlainIx b) : PE X (.Subscript a b pos) (tOp r ta tb) := by
  intro pins s σ H Q I h
  exact Subscript_ (binT ha hb I h fun v u s2 x y H2 I2 rx ry q => hr a b pins s2 σ H2 x y v u Q I2 rx ry q (hs _ _))

def rIxL (K : PySem.W.Frag) : R2 := fun x y H Q => ∃ p xs i v, x = .ref p ∧ y = .int i ∧ SqL K H p xs ∧ atI xs i = some v ∧ Q v H
def rIxT (K : PySem.W.Frag) : R2 := fun x y H Q => ∃ p xs i v, x = .ref p ∧ y = .int i ∧ SqT K H p xs ∧ atI xs i = some v ∧ Q v H
def rIxS : R2 := fun x y H Q => ∃ z i c, x = .str z ∧ y = .int i ∧ z.length ≤ sizeLine ∧ atI z.cps.toList i = some c ∧ Q (.str ⟨#[c]⟩) H
theorem ix_list : IxR X (rIxL X.K) := by
  intro value slice pins s σ H x y v u Q I rx ry h hs
  obtain ⟨p, xs, i, z, rfl, rfl, hq, he, q⟩ := h
  cases rx
  obtain ⟨t, rfl⟩ := ry
  obtain ⟨its, r, pl, hz⟩ := I.list hq
  obtain ⟨j, h1, h2, h3, h4, h5⟩ := atI_get he
  obtain ⟨w, ew, rw'⟩ := r.get h2
  have hl := r.length
  have hn := line63
  have fin : EP X pins σ Q w s := ⟨z, H, I, rw', q⟩
  by_cases h0 : 0 ≤ i
  · have hj : i.toNat = j := by
      rw [seqIndex_of h0 h5] at h1
      exact Option.some.inj h1
    exact item_listR pl.isList h0 (by omega) (by rw [hj]; simpa using ew) fin hs
  · have hj : (i + (its.toArray.size : Int)).toNat = j := by
      rw [seqIndex_neg (by omega) h4] at h1
      rw [List.size_toArray, ← hl]
      exact Option.some.inj h1
    exact subscriptTail_builtinR (x := w) pl.isList.typeIs slot_list_getitem.lookup
      (wpAny_getItem_list_neg (Q := fun r s' => r = w ∧ EP X pins σ Q r s') pl.isList (by omega) (by rw [List.size_toArray] <;> omega) (by omega) (by rw [hj]; simpa using ew) ⟨rfl, fin⟩) hs
theorem ix_tup : IxR X (rIxT X.K) := by
  intro value slice pins s σ H x y v u Q I rx ry h hs
  obtain ⟨p, xs, i, z, rfl, rfl, hq, he, q⟩ := h
  cases rx
  obtain ⟨t, rfl⟩ := ry
  obtain ⟨its, r, pl, hz⟩ := I.tuple hq
  obtain ⟨j, h1, h2, h3, h4, h5⟩ := atI_get he
  obtain ⟨w, ew, rw'⟩ := r.get h2
  have hl := r.length
  have hn := line63
  have fin : EP X pins σ Q w s := ⟨z, H, I, rw', q⟩
  exact subscriptTail_builtinR (x := w) pl.typeIs slot_tuple_getitem.lookup
    (getItem_tuple (j := j) (Q := fun r s' => r = w ∧ EP X pins σ Q r s') pl (by omega) (by omega) (by rw [List.size_toArray, ← hl]; exact h1) (by simpa using ew) ⟨rfl, fin⟩) hs
theorem ix_str : IxR X rIxS := by
  intro value slice pins s σ H x y v u Q I rx ry h hs
  obtain ⟨z, i, c, rfl, rfl, hz, he, q⟩ := h
  obtain ⟨t, rfl⟩ := rx
  obtain ⟨t', rfl⟩ := ry
  obtain ⟨j, h1, h2, h3, h4, h5⟩ := atI_get he
  have hl : z.cps.toList.length = z.length := by simp [Str.length]
  rw [hl] at h1 h4 h5
  have hn := line63
  exact tail_any (typeIs_str s z t) slot_str_getitem.lookup (getItem_str (c := c) (by
    have e1 : decide (i < -(2 ^ 63 : Int)) = false := decide_eq_false (by omega)
    have e2 : decide (i ≥ 2 ^ 63) = false := decide_eq_false (by omega)
    rw [e1, e2, Bool.or_false]) (by rw [h1]; simpa using h2) ⟨.str ⟨#[c]⟩, H, I.tok _, ⟨_, rfl⟩, q⟩) hs
theorem slice_bounds (lo hi : Option Int) (n : Nat) : (sliceBounds lo hi none n).1 = ((HT.sIx n 0 lo : Nat) : Int) ∧ (sliceBounds lo hi none n).2.1 = ((HT.sIx n n hi : Nat) : Int) ∧ (sliceBounds lo hi none n).2.2 = 1 := by
  refine ⟨?_, ?_, rfl⟩
  · cases lo with
    | none => simp [sliceBounds, HT.sIx]
    | some i =>
      simp only [sliceBounds, HT.sIx, Option.getD_none, show (1 : Int) > 0 by decide, if_true]
      by_cases h : i < 0
      · simp only [h, if_true] <;> omega
      · simp only [h, if_false] <;> omega
  · cases hi with
    | none => simp [sliceBounds, HT.sIx]
    | some i =>
      simp only [sliceBounds, HT.sIx, Option.getD_none, show (1 : Int) > 0 by decide, if_true]
      by_cases h : i < 0
      · simp only [h, if_true] <;> omega
      · simp only [h, if_false] <;> omega
theorem slicePick_cut (its : List Value) (lo hi : Option Int) : slicePick its.toArray lo hi none = ((its.drop (HT.sIx its.length 0 lo)).take (HT.sIx its.length its.length hi - HT.sIx its.length 0 lo)).toArray := by
  obtain ⟨h1, h2, h3⟩ := slice_bounds lo hi its.toArray.size
  unfold slicePick
  rw [h1, h2, h3]
  simp only [sliceRange_one, pick_run, List.size_toArray] <;> rfl
/-- xs[lo:hi] of a list: a new list -/
def rSlL (K : PySem.W.Frag) : V → Option Int → Option Int → Hp → VK → Prop := fun x lo hi H Q => ∃ a xs, x = .ref a ∧ SqL K H a xs ∧ ∀ p, H p = none → Q (.ref p) (upd H p (.lst (cutV xs lo hi)))
theorem sl_list : SlR X (rSlL X.K) := by
  intro pins s σ H x v vl vu lo hi sl Q I rx hs pl pu h
  obtain ⟨a, xs, rfl, hx, q⟩ := h
  cases rx
  obtain ⟨its, r, ht, hz⟩ := I.list hx
  have hlen := r.length
  refine ⟨"list", _, slot_list_getitem.lookup, ht.isList.typeIs, ?_⟩
  refine wpAny_getItem_list_slice ht.isList hs pl pu .none (by simp) ?_ (by rw [List.size_toArray] <;> omega)
  rw [slicePick_cut, ← hlen]
  refine ⟨.ref s.heap.objs.size, _, I.laid (t' := s.toks) (o := .lst (cutV xs lo hi)) (fun b ob q => Heap.get?_push_of_some _ q) (Nat.le_refl _) ?_, rfl, q _ (I.hok.fresh (Nat.le_refl _))⟩
  exact ⟨Nat.le_trans (cutV_length xs lo hi) hz, _, 0, (r.drop (HT.sIx xs.length 0 lo)).take (HT.sIx xs.length xs.length hi - HT.sIx xs.length 0 lo), Heap.get?_push_size _ rfl⟩

def flatV : V → Bool
  | .non => true
  | .bl _ => true
  | .int _ => true
  | .str _ => true
  | _ => false
/-- == of flat values -/
def eqV : V → V → Bool
  | .non, .non => true
  | .bl a, .bl b => a == b
  | .bl a, .int b => (if a then 1 else 0) == b
  | .int a, .bl b => a == (if b then 1 else 0)
  | .int a, .int b => a == b
  | .str a, .str b => a == b
  | _, _ => false
theorem eqAt_V {A : Around} {s : Shared} {y x : V} {u v : Value} (ry : RelV y u) (rx : RelV x v) (fy : flatV y = true) (fx : flatV x = true) : SeqAt.EqAt A s u v (eqV y x) := by
  cases y with
  | non =>
    cases ry
    cases x with
    | non => cases rx; exact SeqAt.EqAt.same _
    | bl b => cases rx; exact SeqAt.EqAt.none_bool b
    | int b => obtain ⟨t, rfl⟩ := rx; exact SeqAt.EqAt.none_int b t
    | str b => obtain ⟨t, rfl⟩ := rx; exact SeqAt.EqAt.none_str b t
    | _ => exact absurd (show false = true from fx) Bool.false_ne_true
  | bl a =>
    cases ry
    cases x with
    | non => cases rx; exact SeqAt.EqAt.bool_none a
    | bl b => cases rx; exact SeqAt.EqAt.bool_bool a b
    | int b => obtain ⟨t, rfl⟩ := rx; exact SeqAt.EqAt.bool_int a b t
    | str b => obtain ⟨t, rfl⟩ := rx; exact SeqAt.EqAt.bool_str a b t
    | _ => exact absurd (show false = true from fx) Bool.false_ne_true
  | int a =>
    obtain ⟨t', rfl⟩ := ry
    cases x with
    | non => cases rx; exact SeqAt.EqAt.int_none a t'
    | bl b => cases rx; exact SeqAt.EqAt.int_bool a t' b
    | int b => obtain ⟨t, rfl⟩ := rx; exact SeqAt.EqAt.int_int a t' b t
    | str b => obtain ⟨t, rfl⟩ := rx; exact SeqAt.EqAt.int_str a t' b t
    | _ => exact absurd (show false = true from fx) Bool.false_ne_true
  | str a =>
    obtain ⟨t', rfl⟩ := ry
    cases x with
    | non => cases rx; exact SeqAt.EqAt.str_none a t'
    | bl b => cases rx; exact SeqAt.EqAt.str_bool a t' b
    | int b => obtain ⟨t, rfl⟩ := rx; exact SeqAt.EqAt.str_int a t' b t
    | str b => obtain ⟨t, rfl⟩ := rx; exact SeqAt.EqAt.str_str a t' b t
    | _ => exact absurd (show false = true from fx) Bool.false_ne_true
  | _ => exact absurd (show false = true from fy) Bool.false_ne_true
/-- the items' answers, read off the values (a value's own answer does not lean on its token) -/
def eqU (x : V) (u : Value) : Bool := match u with
  | .none => eqV .non x
  | .bool b => eqV (.bl b) x
  | .int i _ => eqV (.int i) x
  | .str z _ => eqV (.str z) x
  | _ => false
theorem eqU_of {x y : V} {u : Value} (r : RelV y u) (f : flatV y = true) : eqU x u = eqV y x := by
  cases y with
  | non => cases r; rfl
  | bl b => cases r; rfl
  | int i => obtain ⟨t, rfl⟩ := r; rfl
  | str z => obtain ⟨t, rfl⟩ := r; rfl
  | _ => exact absurd (show false = true from f) Bool.false_ne_true
theorem any_eqU {x : V} : ∀ {xs : List V} {us : List Value}, Vals xs us → xs.all flatV = true → us.any (eqU x) = xs.any fun y => eqV y x
  | _, _, .nil, _ => rfl
  | y :: xs, u :: us, .cons r t, f => by
    rw [List.all_cons, Bool.and_eq_true] at f
    rw [List.any_cons, List.any_cons, eqU_of r f.1, any_eqU t f.2]
theorem mem_eqAt {A : Around} {s : Shared} {x : V} {v : Value} (rx : RelV x v) (fx : flatV x = true) : ∀ {xs : List V} {us : List Value}, Vals xs us → xs.all flatV = true → ∀ u ∈ us, SeqAt.EqAt A s u v (eqU x u)
  | _, _, .nil, _ => fun u hu => by cases hu
  | y :: xs, u :: us, .cons r t, f => fun u' hu => by
    rw [List.all_cons, Bool.and_eq_true] at f
    rcases List.mem_cons.mp hu with rfl | hu
    · rw [eqU_of r f.1]; exact eqAt_V r rx f.1 fx
    · exact mem_eqAt rx fx t f.2 u' hu
def inV (x : V) (xs : List V) : Bool := xs.any fun y => eqV y x
/-- x in a list or tuple of flat items -/
def rIn (K : PySem.W.Frag) (neg : Bool) : R2 := fun x y H Q => ∃ p xs, y = .ref p ∧ (SqL K H p xs ∨ SqT K H p xs) ∧ flatV x = true ∧ xs.all flatV = true ∧ Q (.bl (if neg then !inV x xs else inV x xs)) H
theorem op_in_seq : OpR X (compareOp .In) (rIn X.K false) := by
  intro pins s σ H x y v u Q I rx ry h
  obtain ⟨p, xs, rfl, hq, fx, fs, q⟩ := h
  cases ry
  rcases hq with hq | hq
  · obtain ⟨its, r, pl, hz⟩ := I.list hq
    refine SeqAt.in_listAt (eqU x) pl.isList (fun w hw => mem_eqAt rx fx r fs w (by simpa using hw)) ⟨.bl _, H, I, rfl, ?_⟩
    rw [show its.toArray.any (eqU x) = its.any (eqU x) by simp, any_eqU r fs]
    exact q
  · obtain ⟨its, r, pl, hz⟩ := I.tuple hq
    refine SeqAt.in_tupleAt (eqU x) pl (fun w hw => mem_eqAt rx fx r fs w (by simpa using hw)) ⟨.bl _, H, I, rfl, ?_⟩
    rw [show its.toArray.any (eqU x) = its.any (eqU x) by simp, any_eqU r fs]
    exact q
theorem op_notIn_seq : OpR X (compareOp .NotIn) (rIn X.K true) := by
  intro pins s σ H x y v u Q I rx ry h
  obtain ⟨p, xs, rfl, hq, fx, fs, q⟩ := h
  cases ry
  rcases hq with hq | hq
  · obtain ⟨its, r, pl, hz⟩ := I.list hq
    refine SeqAt.notIn_listAt (eqU x) pl.isList (fun w hw => mem_eqAt rx fx r fs w (by simpa using hw)) ⟨.bl _, H, I, rfl, ?_⟩
    rw [show its.toArray.any (eqU x) = its.any (eqU x) by simp, any_eqU r fs]
    exact q
  · obtain ⟨its, r, pl, hz⟩ := I.tuple hq
    refine SeqAt.notIn_tupleAt (eqU x) pl (fun w hw => mem_eqAt rx fx r fs w (by simpa using hw)) ⟨.bl _, H, I, rfl, ?_⟩
    rw [show its.toArray.any (eqU x) = its.any (eqU x) by simp, any_eqU r fs]
    exact q
theorem call_len_seq : CallR X (.builtin "len") (fun xs H Q => ∃ p ys, xs = [.ref p] ∧ (SqL X.K H p ys ∨ SqT X.K H p ys) ∧ Q (.int ys.length) H) := by
  intro pins s σ H xs us Q I r h
  obtain ⟨p, ys, rfl, hq, q⟩ := h
  obtain ⟨u, rfl, rx⟩ := vals1 r
  cases rx
  have hn := line63
  rcases hq with hq | hq
  · obtain ⟨its, r', pl, hz⟩ := I.list hq
    have hlen := r'.length
    exact Calls.call_len_list pl.isList (by simp only [List.size_toArray] <;> omega) ⟨.int ys.length, H, I.tok _, ⟨s.toks + 1, by rw [List.size_toArray, hlen]⟩, q⟩
  · obtain ⟨its, r', pl, hz⟩ := I.tuple hq
    have hlen := r'.length
    exact len_tuple pl (by simp only [List.size_toArray] <;> omega) ⟨.int ys.length, H, I.tok _, ⟨s.toks + 1, by rw [List.size_toArray, hlen]⟩, q⟩
theorem call_len_str : CallR X (.builtin "len") (fun xs H Q => ∃ z, xs = [.str z] ∧ z.length ≤ sizeLine ∧ Q (.int z.length) H) := by
  intro pins s σ H xs us Q I r h
  obtain ⟨z, rfl, hz, q⟩ := h
  obtain ⟨u, rfl, t, rfl⟩ := vals1 r
  have hn := line63
  exact len_str (by omega) ⟨.int z.length, H, I.tok _, ⟨_, rfl⟩, q⟩
theorem call_list_of : CallR X (.type "list") (fun xs H Q => ∃ p ys, xs = [.ref p] ∧ (SqL X.K H p ys ∨ SqT X.K H p ys) ∧ ∀ l, H l = none → Q (.ref l) (upd H l (.lst ys))) := by
  intro pins s σ H xs us Q I r h
  obtain ⟨p, ys, rfl, hq, q⟩ := h
  obtain ⟨u, rfl, rx⟩ := vals1 r
  cases rx
  have fin : ∀ (its : List Value), Vals ys its → ys.length ≤ sizeLine → ∀ (h' : Heap) (c' : Nat), (∀ b o', s.heap.get? b = some o' → h'.get? b = some o') →
      h'.get? s.heap.objs.size = some { cls := .type "list", dict := none, data := .seq its.toArray c', slots := #[] } → EP X pins σ Q (.ref s.heap.objs.size) { s with heap := h' } := fun its r' hz h' c' kp e =>
    ⟨.ref s.heap.objs.size, _, I.laid (t' := s.toks) kp (Nat.le_refl _) (show ObjOk X.prog X.w _ h' _ (.lst ys) from ⟨hz, its, c', r', e⟩), rfl, q _ (I.hok.fresh (Nat.le_refl _))⟩
  rcases hq with hq | hq
  · obtain ⟨its, r', pl, hz⟩ := I.list hq
    have hlen := r'.length
    obtain ⟨o, ho, hc, n, hd⟩ := pl.isList
    exact call_list_seq p (.inl rfl) ho hc hd (fun h' c' kp e => fin its r' hz h' c' kp e) (by simp only [List.size_toArray] <;> omega)
  · obtain ⟨its, r', pl, hz⟩ := I.tuple hq
    have hlen := r'.length
    obtain ⟨o, ho, hc, n, hd⟩ := pl
    exact call_list_seq p (.inr rfl) ho hc hd (fun h' c' kp e => fin its r' hz h' c' kp e) (by simp only [List.size_toArray] <;> omega)
/-- the value is of that builtin type -/
def tyV (K : PySem.W.Frag) (T : String) (x : V) (H : Hp) : Prop := match x with
  | .str _ => T = "str"
  | .int _ => T = "int"
  | .ref p => (T = "list" ∧ ∃ xs, SqL K H p xs) ∨ (T = "tuple" ∧ ∃ o, K.lookup p = some o ∧ o.cls = .type "tuple" ∧ o.dict = none) ∨
      (T = "dict" ∧ ((∃ kvs, H p = some (.dK kvs)) ∨ ∃ kvs, H p = some (.dT kvs))) ∨ (T = "set" ∧ ∃ S n, H p = some (.set S n))
  | _ => False
theorem tyV_is {pins : List (Addr × Obj)} {σ : St} {H : Hp} {s : Shared} {T : String} {x : V} {v : Value} (I : Inv X pins σ H s) (r : RelV x v) (ty : tyV X.K T x H) :
    s.TypeIs v T ∧ ∀ a, v = .ref a → ∃ ob, s.heap.get? a = some ob ∧ ob.dict = none := by
  cases x with
  | str z =>
    obtain ⟨t, rfl⟩ := r
    cases (show T = "str" from ty)
    exact ⟨typeIs_str s z t, fun _ e => nomatch e⟩
  | int i =>
    obtain ⟨t, rfl⟩ := r
    cases (show T = "int" from ty)
    exact ⟨typeIs_int s i t, fun _ e => nomatch e⟩
  | ref p =>
    cases r
    rcases ty with ⟨rfl, xs, hq⟩ | ⟨rfl, o, hk, hc, hd⟩ | ⟨rfl, hk⟩ | ⟨rfl, S, n, hk⟩
    · obtain ⟨its, _, pl, _⟩ := I.list hq
      refine ⟨pl.isList.typeIs, fun a e => ?_⟩
      cases e
      obtain ⟨o, n, e, c, hd, _⟩ := pl
      exact ⟨o, e, hd⟩
    · refine ⟨⟨o, I.kIn p o hk, hc⟩, fun a e => ?_⟩
      cases e
      exact ⟨o, I.kIn _ o hk, hd⟩
    · have z : ∃ o, s.heap.get? p = some o ∧ o.ExactDict := by
        rcases hk with ⟨kvs, hk⟩ | ⟨kvs, hk⟩
        · obtain ⟨_, _, _, _, o, _, _, e, ex, _⟩ := I.hok p _ hk
          exact ⟨o, e, ex⟩
        · obtain ⟨_, _, _, _, o, _, _, e, ex, _⟩ := I.hok p _ hk
          exact ⟨o, e, ex⟩
      obtain ⟨o, e, ex⟩ := z
      refine ⟨⟨o, e, ex.1⟩, fun a e2 => ?_⟩
      cases e2
      exact ⟨o, e, ex.2.1⟩
    · obtain ⟨o, _, _, _, e, ex, _⟩ := I.hok p _ hk
      refine ⟨⟨o, e, ex.1⟩, fun a e2 => ?_⟩
      cases e2
      exact ⟨o, e, ex.2.1⟩
  | _ => exact False.elim ty
def tBM0 (K : PySem.W.Frag) (T : String) (r : V → List V → Hp → VK → Prop) (to : TE) : TE := fun σ H Q => to σ H fun x H1 => tyV K T x H1 ∧ r x [] H1 Q
def tBM (K : PySem.W.Frag) (T : String) (r : V → List V → Hp → VK → Prop) (to : TE) (t : TA) : TE := fun σ H Q => to σ H fun x H1 => tyV K T x H1 ∧ t σ H1 fun xs H2 => r x xs H2 Q
variable {o e : Expr} {es : List Expr} {to : TE} {t : TA} {name : Str} {apos cpos : Pos} {T id : String} {r : V → List V → Hp → VK → Prop}
theorem pe_bm (pa : PlainAttrs T) (slot : Slot T name id) (hty : typeOf (.builtin id) = pure (.type "method_descriptor")) (hm : MtR X id r) (ho : PE X o to) (ha : PA X (e :: es) t)
    (hbase : attributeBase o name X.env (eval o X.env) = eval o X.env := by rfl)
    (hfew : ((backTo cpos (starEach (e :: es) X.env)).all (fun x => !x.1) && (backToKw cpos (keywordEach [] X.env)).all (fun x => x.1.isSome)
      && decide ((e :: es).length + ([] : List Keyword).length + (if ([] : List Keyword).isEmpty then 0 else 1) < 30)) = true := by rfl)
    (hline : (apos.endLine == cpos.line) = true := by rfl) (hs : starEach (e :: es) X.env = (false, eval e X.env) :: starEach es X.env := by rfl) (hplain : (backTo cpos (starEach es X.env)).any (·.1) = false := by rfl) :
    PE X (.Call (.Attribute o name apos) (e :: es) [] cpos) (tBM X.K T r to t) := by
  intro pins s σ H Q I h
  refine wpAny_Call_method_late hbase hfew hline rfl (thn (ho pins s σ H _ I h) fun v s1 ⟨x, H1, I1, r1, ty, q1⟩ => ?_)
  obtain ⟨h1, h2⟩ := tyV_is I1 r1 ty
  refine ⟨T, id, pa, slot, hty, h1, h2, ?_⟩
  have hA := ha cpos pins s1 σ H1 _ I1 q1
  rw [hs] at hA ⊢
  refine Calls.callWith_builtin (by show (false || (backTo cpos (starEach es X.env)).any (·.1)) = false; rw [hplain] <;> rfl) (Calls.evalArgs_plain ?_)
  exact thn hA fun us s2 ⟨vs, H2, I2, r2, q2⟩ => hm pins s2 σ H2 x vs v us Q I2 r1 r2 q2
end
end L2

namespace L2
open PySem PySem.Spec PyProof.Rows

def MtM (X : Cx) (id : String) (r : V → List V → Hp → VK → Prop) : Prop :=
  ∀ (pins : List (Addr × Obj)) (s : Shared) (σ : St) (H : Hp) (x : V) (xs : List V) (v : Value) (us : List Value) (Q : VK), Inv X pins σ H s → RelV x v → Vals xs us → r x xs H Q →
    wpAny (model X.prog X.w) X.A (call (.builtin id) (v :: us)) (EP X pins σ Q) X.xe s

theorem Vals.one : ∀ {x : V} {us : List Value}, Vals [x] us → ∃ u, us = [u] ∧ RelV x u
  | _, _, .cons r .nil => ⟨_, rfl, r⟩
theorem Vals.two : ∀ {x y : V} {us : List Value}, Vals [x, y] us → ∃ u v, us = [u, v] ∧ RelV x u ∧ RelV y v
  | _, _, _, .cons r (.cons q .nil) => ⟨_, _, rfl, r, q⟩
section
variable {X : Cx} {pins : List (Addr × Obj)} {σ : St} {H : Hp} {s : Shared} {l b : Addr} {xs ys zs : List V}

theorem Inv.lset {its its' : List Value} {n : Nat} {f : Array Value → Array Value} {t' : Nat} (I : Inv X pins σ H s) (hH : H l = some (.lst xs))
    (e : s.heap.get? l = some { cls := .type "list", data := .seq its.toArray n }) (hf : f its.toArray = its'.toArray) (hv : Vals ys its') (hz : ys.length ≤ sizeLine) :
    Inv X pins σ (upd H l (.lst ys)) { s with heap := s.heap.update l (Obj.mapSeq f), toks := t' } := by
  have q := PySem.IsL.update e f
  rw [hf] at q
  refine I.write (x := l) (e := l) (by rw [hH]; exact trivial) (.inl rfl) (fun b' u hb hu => (Heap.get?_update_other s.heap (Obj.mapSeq f) (Ne.symm hb)).trans hu) ⟨_, q⟩ ?_
  exact ⟨hz, its', _, hv, q⟩
theorem Inv.lnew {its : List Value} {t' : Nat} (I : Inv X pins σ H s) (hv : Vals ys its) (hz : ys.length ≤ sizeLine) :
    Inv X pins σ (upd H s.heap.objs.size (.lst ys)) { s with heap := s.heap.push { cls := .type "list", data := .seq its.toArray }, toks := t' } :=
  I.laid (fun _ _ q => Heap.get?_push_of_some _ q) (Nat.le_refl _) ⟨hz, its, 0, hv, Heap.get?_push_size _ rfl⟩
theorem Inv.fresh (I : Inv X pins σ H s) : H s.heap.objs.size = none := I.hok.fresh (Nat.le_refl _)
theorem Inv.lstM (I : Inv X pins σ H s) (hH : H l = some (.lst xs)) : xs.length ≤ sizeLine ∧ ∃ (its : List Value) (n : Nat), Vals xs its ∧ xs.length = its.length ∧ s.heap.get? l = some { cls := .type "list", data := .seq its.toArray n } := by
  obtain ⟨z, its, n, r, e⟩ := I.hok l _ hH
  exact ⟨z, its, n, r, r.length, e⟩

end

section
variable {X : Cx}

def rAppend : V → List V → Hp → VK → Prop := fun x vs H Q => ∃ l xs y, x = .ref l ∧ vs = [y] ∧ H l = some (.lst xs) ∧ xs.length < sizeLine ∧ Q .non (upd H l (.lst (xs ++ [y])))
theorem mt_append : MtM X "list.append" rAppend := by
  intro pins s σ H x vs v us Q I rx rv h
  obtain ⟨l, xs, y, rfl, rfl, hH, hz, q⟩ := h
  cases rx
  obtain ⟨u, rfl, ru⟩ := rv.one
  obtain ⟨z, its, n, r, hl, e⟩ := I.lstM hH
  refine call_meets F.slot_list_append ⟨_, e, rfl⟩ F.entry_list_append (F.args_list_append_2 _ _) (PySem.list_append l its.toArray n u (by rw [List.size_toArray]; omega)) ⟨e, ?_⟩
  refine ⟨.non, _, I.lset (its' := its ++ [u]) hH e (by simp) (r.append (.cons ru .nil)) ?_, rfl, q⟩
  rw [List.length_append, List.length_singleton]
  omega

def rCat : R2 := fun x y H Q => ∃ l b xs zs, x = .ref l ∧ y = .ref b ∧ H l = some (.lst xs) ∧ H b = some (.lst zs) ∧ xs.length + zs.length ≤ sizeLine ∧ ∀ p, H p = none → Q (.ref p) (upd H p (.lst (xs ++ zs)))
theorem op_cat : OpR X (binaryOp .Add) rCat := by
  intro pins s σ H x y v u Q I rx ry h
  obtain ⟨l, b, xs, zs, rfl, rfl, hH, hB, hz, q⟩ := h
  cases rx
  cases ry
  obtain ⟨z, its, n, r, hl, e⟩ := I.lstM hH
  obtain ⟨z2, its2, n2, r2, hl2, e2⟩ := I.lstM hB
  refine PySem.P.add_list e e2 ?_ (by rw [List.size_toArray, List.size_toArray]; omega)
  have ea : its.toArray ++ its2.toArray = (its ++ its2).toArray := by simp
  rw [ea]
  exact ⟨.ref _, _, I.lnew (t' := s.toks) (r.append r2) (by rw [List.length_append]; omega), rfl, q _ I.fresh⟩
end

section
variable {prog : Program} {w : World} {A : Around} {E : Value → Shared → Prop} {s : Shared}
set_option maxRecDepth 100000 in
end

section
variable {X : Cx}
end
end L2

namespace Att
open PySem PySem.W PySem.Calls PyProof.Rows

theorem ints_of_wellAll {P : Params} {h : Heap} : ∀ (ns : List Int) (vs : List Value), WellAll P h vs (ns.map WData.int) → IntsAre vs ns := by
  intro ns
  induction ns with
  | nil =>
    intro vs w
    rw [List.map_nil] at w
    cases w
    exact .nil
  | cons n ns ih =>
    intro vs w
    rw [List.map_cons] at w
    cases w with
    | cons a b =>
      cases a
      exact .cons _ _ (ih _ b)

theorem script_of {l : OpenLaw} {n : Nat} (hn : l.most = some n) {P : Params} {h : Heap} {args : List WData} {vals : List Value}
    (hpre : l.row.toRowW.claim.pre args = true) (hwl : WellAll P h vals args) :
    ∃ a vs ns, vals = [Value.ref a] ∧ args = [WData.list (ns.map WData.int)] ∧ h.get? a = some { cls := .type "list", data := .seq vs.toArray } ∧ IntsAre vs ns ∧ ns.length ≤ n := by
  have hsh : WShape.hasAll [] args [.list .int] = true := (pre_splitW hpre).1
  have hc : l.pre.holds [] { args := args } = true := (pre_splitW hpre).2
  obtain ⟨d, r, rfl, h1, h2⟩ := hasAllW_cons hsh
  obtain rfl := hasAllW_nil h2
  obtain ⟨xs, rfl, h3⟩ := hasW_list h1
  obtain ⟨ns, rfl⟩ := items_int h3
  have hlen : ns.length ≤ n := by
    unfold OpenLaw.pre at hc
    have h4 : (WTm.not (.lt (.lit (.int (n : Int))) (.len (.arg 0)))).holds [] { args := [.list (ns.map .int)] } = true := by
      have h4 := (holds_andW hc).1
      rw [hn] at h4
      exact h4
    have h5 := condW_of h4 (w_not (w_lt w_lit (w_len_list (w_arg rfl))))
    rw [List.length_map] at h5
    refine Nat.le_of_not_lt fun q => ?_
    have q' : (n : Int) < ((ns.length : Nat) : Int) := by omega
    first
      | (rw [decide_eq_true q'] at h5; exact absurd h5 (by decide))
      | (simp at h5; omega)
  cases hwl with
  | cons w1 w2 =>
    cases w2
    cases w1 with
    | list ho hall => exact ⟨_, _, ns, rfl, rfl, ho, ints_of_wellAll ns _ hall, hlen⟩

theorem post_true (l : OpenLaw) (args : List WData) : l.row.toRowW.claim.post args (.bool true) args = true :=
  postW_of (r := l.row.toRowW) (X := (true == true))
    (show WShape.has [] (.bool true) .bool = true by first | rfl | decide | simp [WShape.has, WShape.arms, WShape.armsAll])
    (show (WTm.eq .res (.lit (.bool true))).value [] { args := args, res := some (.bool true), after := args } = some (.bool (true == true)) from w_eq_bool (w_res rfl) w_lit) rfl

/-- the same from a codeAny of the CALL (for a layer whose function contracts speak of calls) -/
theorem attach_call {l : OpenLaw} {n : Nat} {q : Program} {loose : List Str} {XP : (Str → Option Value) → Heap → Prop} {YP : World → Heap → Prop} {d : DefRec}
    (hn : l.most = some n) (hdf : d.params.defaults = [])
    (call : ∀ (w : World) (s₀ s₁ : Shared) (mg mb : Str → Option Value) (fa : Addr) (o : Obj) (pm cd doc : Value) (a : Addr) (vs : List Value) (ns : List Int),
      Ground q loose [] XP w s₀ mg mb s₁.heap → YP w s₁.heap →
      s₁.heap.get? fa = some o → o.data = .func (docDef d.name d.params d.body d.scope pm cd doc) → s₁.heap.CodeRec cd d.name → mg d.name = some (.ref fa) →
      s₁.heap.get? a = some { cls := .type "list", data := .seq vs.toArray } → IntsAre vs ns → ns.length ≤ n → s₁.gens = #[] →
      codeAny (model l.prog w) callerA (.call (.ref fa) ⟨[.ref a], []⟩) (fun r s' => r = .ok (.ret (.bool true)) ∧ OldK s₁.heap s'.heap ∧ s'.os = s₁.os ∧ AllBare s'.gens) s₁) :
    WalkO q loose XP YP l.row.toRowW d [] (fun f vs => PySem.call f vs) := by
  intro w s₀ s₁ mg mb G Y fa o pm cd doc dV kV ho hd hcd hD hmg hg args vals as hpre hlay hrd hwl hlo
  obtain rfl : dV = .none := Dflts.none hD hdf
  obtain rfl : kV = .none := Dflts.noKw hD
  obtain ⟨a, vs, ns, rfl, rfl, hobj, hints, hlen⟩ := script_of hn hpre hwl
  refine enter_call (codeAny_mono (call w s₀ s₁ mg mb fa o pm cd doc a vs ns G Y ho (fd_plain hd) hcd hmg hobj hints hlen hg) fun r s' hq => ?_)
  obtain ⟨rfl, h2, h3, h4⟩ := hq
  exact ⟨.inl ⟨.bool true, .bool true, [], rfl, fun _ => rfl, .bool true, post_true l _, fun _ => ⟨List.Pairwise.nil, fun _ hm => (nomatch hm)⟩⟩, h2, h3, h4⟩

section
variable {prog : Program} {w : World} {A : Around} {E : Value → Shared → Prop} {s : Shared} {K : Frag}

end
end Att

namespace L2
open PySem PySem.Spec PyProof.Rows

theorem vals_ints : ∀ {vs : List Value} {ns : List Int}, IntsAre vs ns → Vals (ns.map V.int) vs
  | _, _, .nil => .nil
  | _, _, .cons n t h => .cons ⟨t, rfl⟩ (vals_ints h)

/-- nothing is tracked but the script, known to the object (or it is an object of the module) -/
def Only (H : Hp) : Prop := ∀ b, H b = none ∨ ∃ o xs, H b = some (.frz o (.lst xs))

/-- THE HEAD: the law's promise, at the heap behind the top. F, the promise of the law's def, may use that base is part of the heap (so K.In base, base.Ns mainGlobals mg stand in Mod) -/
theorem law_call {P : Program} {w : World} {K : PySem.W.Frag} {mg mb : Str → Option Value} {CX : CXT} {k : Nat} {fa a : Addr} {fd : FuncData} {x : Str} {sp : Sp} {s₁ : Shared} {vs : List Value} {ns : List Int}
    (KX : K.In s₁.heap) (hns : s₁.heap.Ns mainGlobals mg) (hb : s₁.heap.Ns builtinsNs mb) (hbb : ∀ x : Str, x ≠ "__name__" → mb x = bootBuiltins x) (hlim : s₁.heap.NoLimit) (hg : s₁.gens = #[])
    (ha : s₁.heap.get? a = some { cls := .type "list", data := .seq vs.toArray }) (hi : IntsAre vs ns) (hl : ns.length ≤ sizeLine) (hr : Room k callerA)
    (F : ∀ base : Heap, K.In base → base.Ns mainGlobals mg → FnOk P w K mg base CX k fa fd [x] sp) (hbind : ∀ (s : Shared) (u : Value), BindsTo s fd ⟨[u], []⟩ [(x, u)])
    (hsp : ∀ H : Hp, Only H → SqL K H a (ns.map V.int) → sp [.ref a] H (fun v _ => v = .bl true) fun _ _ _ => False)
    (hCX : ∀ H e s', CX [] H s₁ (fun _ _ _ => False) e s' → False) :
    codeAny (model P w) callerA (.call (.ref fa) ⟨[.ref a], []⟩) (fun r s' => r = .ok (.ret (.bool true)) ∧ OldK s₁.heap s'.heap ∧ s'.os = s₁.os ∧ AllBare s'.gens) s₁ := by
  have rv := vals_ints hi
  have lenV := hi.length
  -- from an abstract heap in which nothing but the script may be tracked
  have core : ∀ H : Hp, Only H → SqL K H a (ns.map V.int) → HOk P w H s₁.heap → (∀ b, H b ≠ none → b = a) → (H a ≠ none → K.lookup a = none) →
      codeAny (model P w) callerA (.call (.ref fa) ⟨[.ref a], []⟩) (fun r s' => r = .ok (.ret (.bool true)) ∧ OldK s₁.heap s'.heap ∧ s'.os = s₁.os ∧ AllBare s'.gens) s₁ := by
    intro H hO hS hok hA hK
    have base_of : ∀ {b : Addr} {o : Obj}, s₁.heap.get? b = some o → H b = none → (hidT s₁.heap H).get? b = some o := fun e n => hidT_get e n
    have noA : ∀ {b : Addr} {o : Obj} {es : Array DictEntry} {ep : Nat}, s₁.heap.get? b = some o → o.data = .dict es ep → H b = none := fun {b o es ep} e d => by
      cases q : H b with
      | none => rfl
      | some u =>
        have e' : b = a := hA b (by rw [q]; simp)
        subst e'
        rw [ha] at e; cases e
        have d' : Data.seq vs.toArray _ = Data.dict es ep := d
        cases d'
    have nsK : ∀ {b : Addr} {m : Str → Option Value}, s₁.heap.Ns b m → (hidT s₁.heap H).Ns b m := fun {b m} ⟨o, es, ep, e, d, r⟩ => ⟨o, es, ep, base_of e (noA e d), d, r⟩
    have hKb : K.In (hidT s₁.heap H) := fun b o e => base_of (KX b o e) (by
      cases q : H b with
      | none => rfl
      | some u =>
        have e' : b = a := hA b (by rw [q]; simp)
        subst e'
        rw [hK (by rw [q]; simp)] at e; cases e)
    have hM : Mod K mg (hidT s₁.heap H) := ⟨hKb, nsK hns, ⟨mb, nsK hb, hbb⟩, let ⟨mc, h1, h2⟩ := hlim; ⟨mc, nsK h1, h2⟩⟩
    have e0 : Env0 P w K mg (hidT s₁.heap H) callerA [] s₁ H := ⟨rfl, hM, fun b o e => of_hidT e, Nat.le_of_eq (hidT_size _ _), trivial, fun b hb => absurd (show b ∈ ([] : List Addr) from hb) (by simp), hok, .of_eq hg⟩
    refine codeAny_mono ((F _ hKb (nsK hns)).run callerA [] s₁ H ⟨[.ref a], []⟩ [.ref a] [.ref a] _ _ hr e0 (hbind s₁ (.ref a)) (.cons rfl .nil) (hsp H hO hS)) fun r s' h => ?_
    cases r with
    | error e => exact (hCX H e s' h).elim
    | ok fl =>
      cases fl with
      | next => exact False.elim h
      | brk => exact False.elim h
      | cont => exact False.elim h
      | ret u =>
        obtain ⟨v, H', os, bare, un, hok', r', q⟩ := h
        have q' : v = .bl true := q
        subst q'
        obtain rfl : u = Value.bool true := r'
        refine ⟨rfl, OldK.of_keep fun b o e => ?_, os, bare⟩
        cases q : H b with
        | none => exact un.keep b o e q (by intro z; exact absurd (show b ∈ ([] : List Addr) from z) (by simp)) (by simp)
        | some u =>
          rcases hO b with z | ⟨ob, xs, z⟩
          · rw [q] at z; cases z
          · have z2 := un.frzs b ob _ z
            obtain ⟨e1, _⟩ := hok b _ z
            obtain ⟨e2, _⟩ := hok' b _ z2
            rw [e] at e1; cases e1
            exact e2
  cases hk : K.lookup a with
  | some o =>
    -- the script is one of the module's own objects
    have e := KX a o hk
    rw [ha] at e
    cases e
    refine core (fun _ => none) (fun _ => .inl rfl) (.inr ⟨_, vs.toArray, _, hk, rfl, rfl, rfl, by rw [List.size_toArray, lenV]; exact hl, by simpa using rv⟩) (fun b u z => by have z' : (none : Option HO) = some u := z; cases z') (fun b z => absurd rfl z) fun z => absurd rfl z
  | none =>
    refine core (fun b => if b = a then some (.frz { cls := .type "list", data := .seq vs.toArray } (.lst (ns.map V.int))) else none) (fun b => ?_) (.inl (.inr ⟨{ cls := .type "list", data := .seq vs.toArray }, if_pos rfl⟩)) (fun b u z => ?_) (fun b z => ?_) fun _ => hk
    · by_cases hb : b = a
      · exact .inr ⟨_, _, if_pos hb⟩
      · exact .inl (if_neg hb)
    · by_cases hb : b = a
      · have z' := (if_pos hb).symm.trans z
        cases z'
        subst hb
        exact ⟨ha, by rw [List.length_map]; exact hl, vs, _, rv, ha⟩
      · have z' := (if_neg hb).symm.trans z
        cases z'
    · by_cases hb : b = a
      · exact hb
      · exact absurd (if_neg hb) z
end L2

namespace L2
open PySem PySem.Spec PyProof.Rows

/-- the goal that k_head leaves (case hc), from the law's promise. F gives the function object fd (K's own) once, then the promise over every base -/
theorem walk_of {l : PySem.W.OpenLaw} {n k : Nat} {q : Program} {loose : List Str} {XP : (Str → Option Value) → Heap → Prop} {YP : World → Heap → Prop} {d : DefRec} {K : Params → PySem.W.Frag} {CX : World → CXT} {sp : World → Sp} {x : Str}
    (hn : l.most = some n) (hn2 : n ≤ sizeLine) (hdf : d.params.defaults = []) (hr : Room k callerA)
    (hY : ∀ (w : World) (h : Heap), YP w h → (K w.params).In h)
    (F : ∀ (w : World) (mg : Str → Option Value) (fa : Addr) (h : Heap), (K w.params).In h → h.Ns mainGlobals mg → mg d.name = some (.ref fa) →
      ∃ fd : FuncData, (∀ (s : Shared) (u : Value), BindsTo s fd ⟨[u], []⟩ [(x, u)]) ∧
        ∀ base : Heap, (K w.params).In base → base.Ns mainGlobals mg → FnOk l.prog w (K w.params) mg base (CX w) k fa fd [x] (sp w))
    (hsp : ∀ (w : World) (H : Hp) (a : Addr) (ns : List Int), ns.length ≤ n → Only H → SqL (K w.params) H a (ns.map V.int) → sp w [.ref a] H (fun v _ => v = .bl true) fun _ _ _ => False)
    (hCX : ∀ (w : World) (H : Hp) (s : Shared) (e : Value) (s' : Shared), CX w [] H s (fun _ _ _ => False) e s' → False) :
    PySem.W.WalkO q loose XP YP l.row.toRowW d [] (fun f vs => PySem.call f vs) := by
  refine Att.attach_call hn hdf fun w s₀ s₁ mg mb fa o pm cd doc a vs ns G Y ho hd hcd hmg hobj hints hlen hg => ?_
  have KX := hY w _ Y
  obtain ⟨fd, hb, hF⟩ := F w mg fa _ KX G.T.g hmg
  exact law_call KX G.T.g G.T.b G.T.builtins G.T.nolimit hg hobj hints (Nat.le_trans hlen hn2) hr hF hb (fun H hO hS => hsp w H a ns hlen hO hS) fun H e s' => hCX w H s₁ e s'
end L2


namespace L2
open PySem PySem.Spec PyProof.Rows

/-- the j-th statement of a class's body -/
def inClass (s : Stmt) (j : Nat) : Stmt := match s with
  | .ClassDef _ _ _ body _ _ _ _ _ _ _ => body.getD j (.Pass ⟨0, 0, 0, 0⟩)
  | _ => .Pass ⟨0, 0, 0, 0⟩
def defArgs (s : Stmt) : Arguments := match s with
  | .FunctionDef _ a _ _ _ _ _ _ _ _ => a
  | _ => { posonlyargs := [], args := [], vararg := none, kwonlyargs := [], kw_defaults := [], kwarg := none, defaults := [] }
def defBody (s : Stmt) : List Stmt := match s with
  | .FunctionDef _ _ b _ _ _ _ _ _ _ => b
  | _ => []
def defScope (s : Stmt) : Scope := match s with
  | .FunctionDef _ _ _ _ _ _ sc _ _ _ => sc
  | _ => { kind := .function, names := [], isGenerator := false, isCoroutine := false }

abbrev CX0 : CXT := fun _ _ _ _ _ _ => False
abbrev E0 : XK := fun _ _ _ => False
theorem pass0 {X : Cx} : Passes CX0 X E0 := fun _ _ _ _ _ _ _ h => h.elim

structure Fun (K : PySem.W.Frag) (x qual : Str) (st : Stmt) (f : Addr) (fd : FuncData) : Prop where
  ex : ∃ (oc : Value) (od : Option Addr) (kV doc pm : Value) (an : Option Addr) (cdv ct : Value) (osl : Array (Option Value)),
    fd = PySem.W.fnOf x qual (defArgs st) (defBody st) (defScope st) .none kV doc pm an cdv ct ∧ K.lookup f = some ⟨oc, od, .func fd, osl⟩ ∧ PySem.W.codeIn K cdv qual = true
  kp : PySem.W.keepIn K (.ref f) = true
section
variable {P : Program} {w : World} {K : PySem.W.Frag} {mg : Str → Option Value} {base : Heap}
/-- THE RULE for a def: its body as a term of rules, and the reading of that term -/
theorem Fun.ok {x qual : Str} {st : Stmt} {f : Addr} {fd : FuncData} {N ps : List Str} {k : Nat} {sp : Sp} (F : Fun K x qual st f fd) (S : FnScope N ps (defScope st)) (len : ∀ vs H Q E, sp vs H Q E → vs.length = ps.length)
    (hbody : ∀ (cdv : Value) (A : Around) (outer : List Env) (s : Shared) (H : Hp) (vs : List V) (Q : VK) (E : XK), Room k (A.deeper (envOfC qual (defScope st) s.heap.objs.size f cdv)) → sp vs H Q E →
      ∃ t, PSs (cxOf CX0 P w K mg base N qual (defScope st) f cdv A outer s H E).nox (defBody st) t ∧ t { nx := fun _ H' => Q .non H', rt := Q } (start N vs) H) : FnOk P w K mg base CX0 (k + 1) f fd ps sp := by
  obtain ⟨oc, od, kV, doc, pm, an, cdv, ct, osl, rfl, lk, hcd⟩ := F.ex
  refine fn_of lk hcd S len fun A outer s H vs Q E hr hsp => ?_
  obtain ⟨t, h, q⟩ := hbody cdv A outer s H vs Q E hr hsp
  exact ⟨t, h.nox, q⟩
/-- how its arguments bind (no defaults): h is «fun _ _ _ _ _ _ us hl => match us, hl with | [_, _], _ => rfl», one _ a parameter -/
theorem Fun.binds {x qual : Str} {st : Stmt} {f : Addr} {fd : FuncData} {ps : List Str} (F : Fun K x qual st f fd)
    (h : ∀ (kV doc pm : Value) (an : Option Addr) (cdv ct : Value) (us : List Value), us.length = ps.length → bindArgs (PySem.W.fnOf x qual (defArgs st) (defBody st) (defScope st) .none kV doc pm an cdv ct) ⟨us, []⟩ = pure (ps.zip us)) : Binds K fd ps [] := by
  obtain ⟨oc, od, kV, doc, pm, an, cdv, ct, osl, rfl, lk, hcd⟩ := F.ex
  exact .all (h kV doc pm an cdv ct)
theorem fun_mk {x qual : Str} {st : Stmt} {f : Addr} {oc : Value} {od an : Option Addr} {osl : Array (Option Value)} {kV doc pm cdv ct : Value} (l : K.lookup f = some ⟨oc, od, .func (PySem.W.fnOf x qual (defArgs st) (defBody st) (defScope st) .none kV doc pm an cdv ct), osl⟩)
    (c : PySem.W.codeIn K cdv qual = true) (k : PySem.W.keepIn K (.ref f) = true) : Fun K x qual st f (PySem.W.fnOf x qual (defArgs st) (defBody st) (defScope st) .none kV doc pm an cdv ct) := ⟨⟨oc, od, kV, doc, pm, an, cdv, ct, osl, rfl, l, c⟩, k⟩
end
theorem hu_of {A : Around} {k : Nat} (hr : Room k A) : A.units + 1 < cLine := Nat.lt_of_le_of_lt (Nat.add_le_add_left (by decide : 1 ≤ 64) _) hr.units
section
variable {X : Cx}
theorem pv (i : Nat) {x : Str} {pos : Pos} (hN : X.N[i]? = some x := by rfl) (hv : Vis X.env.scope x := by first | exact Or.inl rfl | exact Or.inr (Or.inl rfl) | exact Or.inr (Or.inr rfl)) (hd : (x == ("__debug__" : Str)) = false := by decide)
    (hcd : (x == ("__classdict__" : Str)) = false := by decide) : PE X (.Name x pos) (tVar i) := pe_var hN hv hd hcd
end

theorem iteF {A B : Prop} (h : B) : if false = true then A else B := by
  rw [if_neg Bool.false_ne_true]
  exact h
theorem iteT {A B : Prop} (h : A) : if true = true then A else B := by
  rw [if_pos rfl]
  exact h
/-- all that was tracked is as it was -/
def Same (H H' : Hp) : Prop := ∀ b o, H b = some o → H' b = some o
theorem Same.refl (H : Hp) : Same H H := fun _ _ h => h
theorem Same.trans {H H1 H2 : Hp} (a : Same H H1) (b : Same H1 H2) : Same H H2 := fun c o h => b c o (a c o h)
theorem Same.free {H H' : Hp} (e : Same H H') {l : Addr} (h : H' l = Option.none) : H l = Option.none := by
  cases q : H l with
  | none => rfl
  | some o =>
    rw [e l o q] at h
    cases h
theorem Same.seq {K : PySem.W.Frag} {H H' : Hp} {a : Addr} {xs : List V} (e : Same H H') (h : SqL K H a xs) : SqL K H' a xs := by
  rcases h with (h | ⟨o, h⟩) | h
  · exact .inl (.inl (e _ _ h))
  · exact .inl (.inr ⟨o, e _ _ h⟩)
  · exact .inr h

end L2
set_option maxHeartbeats 4000000
namespace PySem.W.Fast
def tw4663690500701074675:=0
def tw12805162951345804114:=0
def tw13274886789629160128:=0
def tw3845545596962953066:=0
def tw2915686174313277386:=0
def tw6975550159063613880:=0
def tw11339489467696241345:=0
def tw10832677132386740695:=0
def tw16244193067575887433:=0
def tw15415833397161479643:=0
def tw2575049317407351330:=0
def tw13249117824328644768:=0
def tw8457009584836711742:=0
def tw5329224329807394431:=0
def tw1142891711598711227:=0
def tw14507830170441325704:=0
def tw16069769342385693714:=0
def tw18236973155832575166:=0
def tw8389180159494590736:=0
def tw11187672742835518725:=0
def tw3855195980310883895:=0
def tw6699828995542273495:=0
def tw2838097219401410777:=0
def tw9764018630817679684:=0
def tw16295203590835080128:=0
def tw16679116382144608918:=0
def tw1975906081319092160:=0
def tw6939909688053087011:=0
def tw14775039783091817938:=0
def tw10376216348878769191:=0
def tw216137742851431500:=0
def tw6035824204459424730:=0
def tw14901201003114550312:=0
def tw14116046711062901573:=0
def tw11350227371548591267:=0
def tw14784887442267193554:=0
def tw8305226302970686461:=0
def tw7513623011116677132:=0
def tw13713166138691199169:=0
def tw18288759412779219317:=0
def tw17098293466568447121:=0
def tw8245440268355569521:=0
def tw9184123821049006666:=0
def tw5677858243132388875:=0
def tw4379693329731186469:=0
def tw12192149734120158610:=0
def tw10513848519504842166:=0
def tw2059426671569592653:=0
def tw7600791021312243037:=0
def tw10289447611115535664:=0
def tw11346626165249741133:=0
def tw16291342694131023470:=0
def tw17547911211535916836:=0
def tw15199842872973488807:=0
def tw10472308857369819528:=0
def tw2452925298819151302:=0
def tw12007389321944466610:=0
def tw4317759497938990064:=0
def tw2144495248377020795:=0
def tw8705908986017637820:=0
def tw16085771173079042589:=0
def tw11220087248309096800:=0
def tw14860545640495769862:=0
def tw3906107313782916920:=0
def tw14801654577347576409:=0
def tw5039003329123330622:=0
def tw15982488880363103109:=0
def tw14905821776936271262:=0
def tw14606102623523421664:=0
def tw7003402336103864394:=0
def tw6359570655147659260:=0
def tw8876879407805200895:=0
def tw7356223555328441274:=0
def tw17299914394190011779:=0
def tw4644606157453686000:=0
def tw3559968942011944804:=0
def tw15476817327943699653:=0
def tw13443536906663154224:=0
def tw13979287753641227234:=0
def tw7020206908306895661:=0
def tw13521859775054619515:=0
def tw76927197280882127:=0
def tw15415347137011290726:=0
def tw10561369395762826379:=0
def tw3231107245582460222:=0
def tw3789027331374725262:=0
def tw1583984803786892896:=0
def tw14887014596426114849:=0
end PySem.W.Fast
namespace L2
open PySem PySem.Spec PyProof.Rows
structure CompOk (sc csc : Scope) (N : List Str) (x : Str) (caps : List (Str × Nat)) : Prop where
  cell : ∀ p ∈ csc.names, p.2 ≠ .cell
  kind : csc.kind = .function
  loc : ∀ p ∈ csc.names, p.2 = .local → csc.names.lookup p.1 = some .local
  tg : csc.names.lookup x = some .local
  free : ∀ p ∈ csc.names, p.2 = .free → sc.names.lookup p.1 = some .cell
  cap : ∀ p ∈ caps, N[p.2]? = some p.1 ∧ csc.names.lookup p.1 = some .free
  nd : (caps.map (·.1) ++ [x]).Nodup

def clFold (env : Env) : List (Str × NameKind) → List (Str × Addr) → List (Str × Addr)
  | [], cs => cs
  | (n, k) :: r, cs => clFold env r (if k == .free then (n, (env.cells.lookup n).getD 0) :: cs else cs)

theorem closureFor_eq {env : Env} {sc : Scope} (h : ∀ p ∈ sc.names, p.2 = .free → ∃ c, env.cells.lookup p.1 = some c) : closureFor sc env = pure (clFold env sc.names []) := by
  obtain ⟨kind, names, g, c⟩ := sc
  simp only [closureFor]
  have aux : ∀ (l : List (Str × NameKind)) (cs : List (Str × Addr)), (∀ p ∈ l, p.2 = .free → ∃ c, env.cells.lookup p.1 = some c) →
      (forIn l cs (fun (x : Str × NameKind) (r : List (Str × Addr)) => if (x.2 == NameKind.free) = true then (do let a ← cellOf env x.1; pure (ForInStep.yield ((x.1, a) :: r))) else pure (ForInStep.yield r)) : Sem (List (Str × Addr))) = pure (clFold env l cs) := by
    intro l
    induction l with
    | nil => intro cs _; rfl
    | cons p r ih =>
      intro cs hp
      obtain ⟨n, k⟩ := p
      rw [List.forIn_cons]
      have ih' := fun cs => ih cs (fun q hq => hp q (List.mem_cons_of_mem _ hq))
      by_cases hk : (k == NameKind.free) = true
      · obtain ⟨c, e⟩ := hp (n, k) List.mem_cons_self (by simpa using hk)
        simp only [hk, if_true, cellOf, e, clFold, pure_bind, Option.getD_some]
        exact ih' _
      · have hk' : (k == NameKind.free) = false := by simpa using hk
        simp only [hk', if_false, clFold, pure_bind, Bool.false_eq_true]
        exact ih' _
  have := aux names [] h
  first
    | (rw [this]; rfl)
    | (simp only [bind_pure]; exact this)
    | (refine Eq.trans (bind_pure _) this)

theorem clFold_in {env : Env} : ∀ (l : List (Str × NameKind)) (cs : List (Str × Addr)), (∀ p ∈ l, p.2 = .free → ∃ c, env.cells.lookup p.1 = some c) → (∀ y c, cs.lookup y = some c → env.cells.lookup y = some c) →
    ∀ y c, (clFold env l cs).lookup y = some c → env.cells.lookup y = some c
  | [], _, _, h2 => h2
  | (n, k) :: r, cs, h1, h2 => by
    unfold clFold
    refine clFold_in r _ (fun q hq => h1 q (List.mem_cons_of_mem _ hq)) ?_
    by_cases hk : (k == NameKind.free) = true
    · obtain ⟨c, e⟩ := h1 (n, k) List.mem_cons_self (by simpa using hk)
      rw [if_pos hk]
      intro y c' h
      rw [e] at h
      rw [List.lookup_cons] at h
      cases hy : y == n with
      | true => rw [hy] at h; simp at h; rw [eq_of_beq hy, ← h]; exact e
      | false => rw [hy] at h; exact h2 y c' h
    · rw [if_neg hk]; exact h2
theorem clFold_has {env : Env} : ∀ (l : List (Str × NameKind)) (cs : List (Str × Addr)) (y : Str), ((y, NameKind.free) ∈ l ∨ ∃ c, cs.lookup y = some c) → ∃ c, (clFold env l cs).lookup y = some c
  | [], _, _, h => by
    rcases h with h | h
    · cases h
    · exact h
  | (n, k) :: r, cs, y, h => by
    unfold clFold
    refine clFold_has r _ y ?_
    by_cases hk : (k == NameKind.free) = true
    · rw [if_pos hk]
      by_cases hy : (y == n) = true
      · exact .inr ⟨_, by rw [List.lookup_cons, hy]⟩
      · have hy' : (y == n) = false := by simpa using hy
        rcases h with h | ⟨c, h⟩
        · rcases List.mem_cons.mp h with z | z
          · cases z; simp at hy
          · exact .inl z
        · exact .inr ⟨c, by rw [List.lookup_cons, hy']; exact h⟩
    · rw [if_neg hk]
      rcases h with h | h
      · rcases List.mem_cons.mp h with z | z
        · cases z; simp at hk
        · exact .inl z
      · exact .inr h

abbrev compCx (X : Cx) (N' : List Str) (csc : Scope) (C : Addr) (s2 : Shared) (H2 : Hp) (fp : List Addr) : Cx :=
  { X with N := N', s₀ := s2, H₀ := H2, env := compEnvC csc (clFold X.env csc.names []) C X.env, outer := X.stack, ex := fp, fn := fun _ => false, pn := [], xe := fun _ _ => False }

def capV (caps : List (Str × Nat)) (σ : St) : St := caps.map fun p => (σ[p.2]?).join
/-- W: by the turn, a measure, and what has been made so far -/
def CompW (J : It) (caps : List (Str × Nat)) (te : TE) (σ : St) (H1 : Hp) (Q : VK) : Prop := ∃ W : Nat → Nat → List V → Hp → Prop, (∃ m, W 0 m [] H1) ∧ ∀ i m ys H, W i m ys H →
  (J.stop i H ∧ ∀ D, H D = none → Q (.ref D) (upd H D (.lst ys))) ∨ (J.go i H ∧ ys.length < sizeLine ∧ ∀ x H', J.yld i H x H' → te (capV caps σ ++ [some x]) H' fun y H2 => ∃ m', m' < m ∧ W (i + 1) m' (ys ++ [y]) H2)
def tComp (caps : List (Str × Nat)) (wi : TI) (te : TE) : TE := fun σ H Q => wi σ H fun J H1 => CompW J caps te σ H1 Q

theorem lookup_relabel {env : Env} (hk : env.scope.kind = .function) : ∀ {names : List (Str × NameKind)} {x : Str}, (∀ p ∈ names, p.2 = .free → env.kindOf p.1 = some .cell) → names.lookup x = some .free →
    (names.map fun (n, k) => if (k == NameKind.free && env.scope.kind == .function && env.kindOf n == some .cell) then (n, NameKind.cell) else (n, k)).lookup x = some .cell
  | [], _, _, h => by simp at h
  | (n, k) :: r, x, hf, h => by
    have ih := @lookup_relabel env hk r x (fun p hp => hf p (List.mem_cons_of_mem _ hp))
    show List.lookup x ((if (k == NameKind.free && env.scope.kind == .function && env.kindOf n == some .cell) = true then (n, NameKind.cell) else (n, k)) :: _) = _
    cases hx : x == n with
    | true =>
      simp only [List.lookup_cons, hx] at h
      cases h
      have := hf (n, .free) List.mem_cons_self rfl
      have hk' : (env.scope.kind == ScopeKind.function) = true := by rw [hk]; rfl
      simp [List.lookup_cons, hx, this, hk']
    | false =>
      simp only [List.lookup_cons, hx] at h
      by_cases hc : (k == NameKind.free && env.scope.kind == .function && env.kindOf n == some .cell) = true
      · rw [if_pos hc]; simp only [List.lookup_cons, hx]; exact ih h
      · rw [if_neg hc]; simp only [List.lookup_cons, hx]; exact ih h
theorem lookup_relabel_inv {env : Env} : ∀ {names : List (Str × NameKind)} {x : Str} {k' : NameKind}, 
    (names.map fun (n, k) => if (k == NameKind.free && env.scope.kind == .function && env.kindOf n == some .cell) then (n, NameKind.cell) else (n, k)).lookup x = some k' → (k' = .cell ∨ k' = .free) → (∀ p ∈ names, p.2 ≠ .cell) → (x, NameKind.free) ∈ names
  | [], _, _, h, _, _ => by simp at h
  | (n, k) :: r, x, k', h, hk, hn => by
    have ih := @lookup_relabel_inv env r x k'
    have h : List.lookup x ((if (k == NameKind.free && env.scope.kind == .function && env.kindOf n == some .cell) = true then (n, NameKind.cell) else (n, k)) :: (r.map fun (n, k) => if (k == NameKind.free && env.scope.kind == .function && env.kindOf n == some .cell) then (n, NameKind.cell) else (n, k))) = some k' := h
    cases hx : x == n with
    | true =>
      have e : x = n := eq_of_beq hx
      subst e
      by_cases hc : (k == NameKind.free && env.scope.kind == .function && env.kindOf x == some .cell) = true
      · have : k = .free := by
          simp only [Bool.and_eq_true] at hc
          simpa using hc.1.1
        subst this
        exact List.mem_cons_self
      · rw [if_neg hc] at h
        simp only [List.lookup_cons, hx] at h
        cases h
        rcases hk with z | z
        · exact absurd z (hn _ List.mem_cons_self)
        · subst z; exact List.mem_cons_self
    | false =>
      refine List.mem_cons_of_mem _ (ih ?_ hk fun p hp => hn p (List.mem_cons_of_mem _ hp))
      by_cases hc : (k == NameKind.free && env.scope.kind == .function && env.kindOf n == some .cell) = true
      · rw [if_pos hc] at h; simp only [List.lookup_cons, hx] at h; exact h
      · rw [if_neg hc] at h; simp only [List.lookup_cons, hx] at h; exact h

section
variable {X : Cx} {pins : List (Addr × Obj)} {σ : St} {H : Hp} {s : Shared}
theorem capV_len (caps : List (Str × Nat)) (σ : St) : (capV caps σ).length = caps.length := by simp [capV]
/-- the block's context at its start -/
theorem comp_start {csc : Scope} {x : Str} {caps : List (Str × Nat)} {fp : List Addr} {h4 : Heap} {t4 : Nat} {C : Addr} {m0 : Str → Option Value} (I : Inv X pins σ H s) (ck : CompOk X.env.scope csc X.N x caps) (hf : ∀ b ∈ fp, FpOk X pins H b)
    (hfs : ∀ b ∈ fp, b < s.heap.objs.size) (hC : s.heap.objs.size ≤ C) (hk : ∀ b o, s.heap.get? b = some o → h4.get? b = some o) (hn : h4.Ns C m0) :
    Inv (compCx X (caps.map (·.1) ++ [x]) csc C s H fp) [] (capV caps σ ++ [none]) H { s with heap := h4, toks := t4 } := by
  have cellsOk : ∀ p ∈ csc.names, p.2 = .free → ∃ c, X.env.cells.lookup p.1 = some c := fun p hp e => I.ok.has p.1 (.inl (ck.free p hp e))
  have inX : ∀ y c, (clFold X.env csc.names []).lookup y = some c → X.env.cells.lookup y = some c := clFold_in _ _ cellsOk (fun y c h => by simp at h)
  have kf : ∀ p ∈ csc.names, p.2 = .free → X.env.kindOf p.1 = some .cell := ck.free
  refine ⟨⟨I.ok.mod, ck.kind, I.ok.glob, I.ok.blt, hC, fun y z c h1 h2 => I.ok.inj y z c (inX y c h1) (inX z c h2), fun y hy => ?_, fun y c h => (nomatch h), I.ok.hd, I.ok.frames, .inl rfl, fun b hb => ⟨?_, fun y c h => ?_⟩, ?_, ?_, ?_, ?_, I.stack, I.stkFree⟩, rfl, I.bare, Un.kept hk, ⟨m0, hn, fun i y v h1 h2 h3 => ?_⟩, fun y c h => ?_, I.hok.fresh hC, fun y c h => I.freeC y c (inX y c h), fun p hp => absurd hp (by simp), I.hok.kept hk, ?_⟩
  · have hy' : (csc.names.map fun (n, k) => if (k == NameKind.free && X.env.scope.kind == .function && X.env.kindOf n == some .cell) then (n, NameKind.cell) else (n, k)).lookup y = some .cell ∨ (csc.names.map fun (n, k) => if (k == NameKind.free && X.env.scope.kind == .function && X.env.kindOf n == some .cell) then (n, NameKind.cell) else (n, k)).lookup y = some .free := hy
    refine clFold_has _ _ y (.inl ?_)
    rcases hy' with z | z
    · exact lookup_relabel_inv z (.inl rfl) ck.cell
    · exact lookup_relabel_inv z (.inr rfl) ck.cell
  · exact Nat.ne_of_lt (Nat.lt_of_lt_of_le (hfs b hb) hC)
  · exact (hf b hb).2.2.2.2.1 y c (inX y c h)
  · exact fun b o e => I.bs b o e
  · exact Nat.le_trans I.ok.bsz I.sz
  · intro b o e hb
    rcases (hf b hb).2.2.2.1 with z | z
    · exact I.ok.noex b o e z
    · exact absurd (Nat.lt_of_lt_of_le (Heap.lt_size (I.ok.bs b o e).1) z) (Nat.lt_irrefl _)
  · intro b hb z
    rcases List.mem_cons.mp (I.stkSub b z) with e | e
    · exact (hf b hb).2.1 e
    · exact (hf b hb).2.2.1 e
  · have hi : i < caps.length := by
      by_cases hi : i < caps.length
      · exact hi
      · rw [List.getElem?_append_right (by rw [capV_len]; omega), capV_len] at h2
        cases q : i - caps.length with
        | zero => rw [q] at h2; simp at h2
        | succ k => rw [q] at h2; simp at h2
    rw [List.getElem?_append_left (by rw [List.length_map]; exact hi), List.getElem?_map] at h1
    rw [List.getElem?_append_left (by rw [capV_len]; exact hi)] at h2
    unfold capV at h2
    rw [List.getElem?_map] at h2
    cases e : caps[i]? with
    | none => rw [e] at h1; cases h1
    | some p =>
      rw [e] at h1 h2
      simp only [Option.map_some, Option.some.injEq] at h1 h2
      subst h1
      obtain ⟨hN, hfr⟩ := ck.cap p (List.mem_of_getElem? e)
      have h2' : σ[p.2]? = some (some v) := by
        cases q : σ[p.2]? with
        | none => rw [q] at h2; cases h2
        | some w => rw [q] at h2; simp at h2; rw [h2]
      have hcX : X.env.scope.names.lookup p.1 = some .cell := ck.free (p.1, .free) (PySem.mem_of_lookup hfr) rfl
      obtain ⟨m, _, hl⟩ := I.loc
      obtain ⟨u, r, l⟩ := hl p.2 p.1 v hN h2' (.inr (.inl hcX))
      refine ⟨u, r, ?_⟩
      rcases l with ⟨k, _⟩ | ⟨_, c, hc, z⟩
      · have k' : X.env.scope.names.lookup p.1 = some .local := k
        rw [hcX] at k'; cases k'
      · obtain ⟨c', hc'⟩ := clFold_has (env := X.env) csc.names [] p.1 (.inl (PySem.mem_of_lookup hfr))
        have : c' = c := by
          have := inX p.1 c' hc'
          rw [hc] at this
          exact (Option.some.inj this).symm
        subst this
        refine .inr ⟨.inl (lookup_relabel I.ok.kind kf hfr), c', hc', ?_⟩
        obtain ⟨o, ho, hd⟩ := z
        exact ⟨o, hk _ _ ho, hd⟩
  · obtain ⟨v, o, ho, hd⟩ := I.cell y c (inX y c h)
    exact ⟨v, o, hk _ _ ho, hd⟩
  · rw [List.length_append, capV_len, List.length_append, List.length_map]; rfl
end
end L2
namespace L2
open PySem PySem.Spec PyProof.Rows
/-- the loop of a comprehension, with the step ahead of the store -/
theorem compLoop_go {prog : Program} {w : World} {A : Around} {R : Result → Shared → Prop} {s : Shared} {elt target iter : Expr} {scope : Scope} {pos : Pos} {it acc : Value} {env : Env} (J : Nat → Shared → Prop)
    (turn : ∀ n s, J n s → wpAny (model prog w) A (pyNext it) (fun r s₁ => match r with
      | none => R (.ok .next) s₁
      | some v => wpAny (model prog w) A (letOwnedTupleGo target it v) (fun _ s₁ => wpAny (model prog w) A (assign target env v) (fun _ s₂ => wpAny (model prog w) A (eval elt env) (fun x s₃ =>
          wpAny (model prog w) A (call (.builtin "list.append") [acc, x]) (fun _ s₄ => ∃ m, m < n ∧ J m s₄) (fun _ _ => False) s₃)
          (fun _ _ => False) s₂) (fun _ _ => False) s₁) (fun _ _ => False) s₁) (fun _ _ => False) s)
    (n : Nat) (h : J n s) :
    codeAny (model prog w) A (.compLoop (.ListComp elt [⟨target, iter, [], 0⟩] scope pos) 0 it acc env) R s := by
  refine codeAny_loop rfl J (fun n s hI => ?_) n h
  show wpAny _ _ ((compTurn (.ListComp elt [⟨target, iter, [], 0⟩] scope pos) 0 it acc env).onRaise (fun x => do noteFrame x env; theTreesLotGoes x)) _ _ s
  refine wpAny_noted ?_
  rw [compTurn_list1]
  refine wpAny_bind (wpAny_standAt (wpAny_bind (wpAny_mono (turn n s hI) (fun r s₁ h₁ => ?_) fun _ _ h' => h'.elim)))
  cases r with
  | none => exact wpAny_pure h₁
  | some v =>
    refine wpAny_bind (wpAny_mono h₁ (fun _ s₁' h₁ => ?_) fun _ _ h' => h'.elim)
    exact wpAny_bind (wpAny_mono h₁ (fun _ s₂ h₂ => wpAny_bind (wpAny_bind (wpAny_mono h₂ (fun x s₃ h₃ => wpAny_bind (wpAny_mono h₃
      (fun _ s₄ h₄ => wpAny_pure (wpAny_pure ⟨rfl, h₄⟩)) fun _ _ h' => h'.elim)) fun _ _ h' => h'.elim))) fun _ _ h' => h'.elim)
theorem nlt {a b : Nat} (h : a < b) : a ≠ b := Nat.ne_of_lt h
theorem nlt1 {a b : Nat} (h : a < b) : a ≠ b + 1 := Nat.ne_of_lt (Nat.lt_succ_of_lt h)
theorem ns1 {a : Nat} : a ≠ a + 1 := Nat.ne_of_lt (Nat.lt_succ_self a)
section
variable {X : Cx}
/-- behind the block -/
theorem comp_done {csc : Scope} {N' : List Str} {fp : List Addr} {C D : Addr} {pins pl : List (Addr × Obj)} {σ σ' : St} {H H' : Hp} {s s' : Shared} {h' : Heap} {ys : List V} {its : List Value} {n : Nat} (I : Inv X pins σ H s)
    (J : Inv (compCx X N' csc C s H fp) pl σ' H' s') (hf : ∀ b ∈ fp, FpOk X pins H b) (hC : s.heap.objs.size ≤ C) (hD : s.heap.objs.size ≤ D) (hDC : D ≠ C) (hs : Heap.SameBut C s'.heap h') (hv : Vals ys its) (hz : ys.length ≤ sizeLine)
    (hd : s'.heap.get? D = some { cls := .type "list", data := .seq its.toArray n }) (hDn : H' D = none) : Inv X pins σ (upd H' D (.lst ys)) { s' with heap := h' } := by
  have ne : ∀ b o, s.heap.get? b = some o → b ≠ C ∧ b ≠ D := fun b o e => ⟨Nat.ne_of_lt (Nat.lt_of_lt_of_le (Heap.lt_size e) hC), Nat.ne_of_lt (Nat.lt_of_lt_of_le (Heap.lt_size e) hD)⟩
  have u : Un (frs X.stack) fp H H' s.heap s'.heap := J.base
  have nDt : ∀ b o, H' b = some o → b ≠ D := fun b o e => ne_of_none e hDn
  refine I.call' (s' := { s' with heap := h' }) (ch := fp) J.os ?_ ?_ J.bare fun b hb => ⟨(hf b hb).2.2.2.1, (hf b hb).2.1, (hf b hb).2.2.2.2.1, (hf b hb).2.2.2.2.2⟩
  · refine ⟨fun b o q n hb he => ?_, fun b o q n hb he => ?_, fun b o q n he => ?_, fun b o q he => ?_, fun b xs q => ?_, fun b o xs q => ?_, fun b ps q => ?_⟩
    · exact (hs.2 b (ne b o q).1).trans (u.keep b o q n hb he)
    · obtain ⟨sl, e⟩ := u.slot b o q n hb he
      exact ⟨sl, (hs.2 b (ne b o q).1).trans e⟩
    · rw [upd_ne (ne b o q).2]; exact u.free b o q n he
    · obtain ⟨o', e⟩ := u.there b o q he
      exact ⟨o', (hs.2 b (ne b o q).1).trans e⟩
    · have := u.tups b xs q
      rw [upd_ne (nDt b _ this)]; exact this
    · have := u.frzs b o xs q
      rw [upd_ne (nDt b _ this)]; exact this
    · obtain ⟨more, this⟩ := u.tbls b ps q
      exact ⟨more, by rw [upd_ne (nDt b _ this)]; exact this⟩
  · intro b o e
    by_cases hb : b = D
    · subst hb
      rw [upd_same] at e; cases e
      exact ⟨hz, its, n, hv, (hs.2 b hDC).trans hd⟩
    · rw [upd_ne hb] at e
      refine (J.hok b o e).stay (fun c v hc q => (hs.2 c ?_).trans q) (fun c q => by rw [upd_ne (nDt c _ q)]; exact q) fun c xs q => by rw [upd_ne (nDt c _ q)]; exact q
      have hfree : H' C = none := J.free
      rcases hc with z | z
      · rw [z]; exact ne_of_none e hfree
      · exact ne_of_none z hfree

theorem pe_comp {sc csc : Scope} {N : List Str} {elt iter : Expr} {x : Str} {px pos : Pos} {caps : List (Str × Nat)} {wi : TI} {te : TE} (ck : CompOk sc csc N x caps) (hi : PI X (.Name x px) iter wi)
    (he : ∀ C s2 H2 fp, PE (compCx X (caps.map (·.1) ++ [x]) csc C s2 H2 fp) elt te) (hc : X.calm = true := by rfl) (hsc : X.env.scope = sc := by rfl) (hXN : X.N = N := by rfl) (hs : ∀ x, foldedSetIterable iter X.env x = pure x := by intro _; rfl) :
    PE X (.ListComp elt [⟨.Name x px, iter, [], 0⟩] csc pos) (tComp caps wi te) := by
  subst hsc hXN
  intro pins s σ H Q I h
  rw [eval_ListComp]
  have cellsOk : ∀ p ∈ csc.names, p.2 = .free → ∃ c, X.env.cells.lookup p.1 = some c := fun p hp e => I.ok.has p.1 (.inl (ck.free p hp e))
  refine wpAny_comprehension_free (use := none) rfl hs (closureFor_eq cellsOk) ck.kind ck.loc (thn (hi pins s σ H _ I h) fun v s1 h1 => thn h1 fun itv s2 h2 => ?_)
  obtain ⟨it, fp, tn, J, H2, e, I2, T, st2, f2, W, ⟨m0, w0⟩, turn⟩ := h2
  subst e
  refine wpAny_newObj_type (wpAny_newFunctionEnv ck.cell (by intro y hy; simp at hy) (fun h4 hns4 hsb4 => ?_) ck.kind)
  dsimp only at hns4 hsb4 ⊢
  generalize hD : s2.heap.objs.size = D at hns4 hsb4 ⊢
  generalize hH2 : s2.heap.push { cls := .type "list", dict := none, data := .seq ([] : List Value).toArray } = G at hns4 hsb4 ⊢
  have hGs : G.objs.size = D + 1 := by rw [← hH2, Heap.size_push, hD]
  rw [hGs] at hns4 hsb4 ⊢
  have lt2 : ∀ b o, s2.heap.get? b = some o → b < D := fun b o e => hD ▸ Heap.lt_size e
  have old : ∀ b o, s2.heap.get? b = some o → b ≠ D + 1 ∧ b ≠ D := fun b o e => ⟨nlt1 (lt2 b o e), nlt (lt2 b o e)⟩
  have leD : s2.heap.objs.size ≤ D := Nat.le_of_eq hD
  have leD1 : s2.heap.objs.size ≤ D + 1 := Nat.le_succ_of_le leD
  have keep4 : ∀ b o, s2.heap.get? b = some o → h4.get? b = some o := fun b o e => hsb4.extBut b o (old b o e).1 (Heap.get?_push_of_some _ (hH2 ▸ Heap.get?_push_of_some _ e))
  have hDo : h4.get? D = some { cls := .type "list", data := .seq ([] : List Value).toArray 0 } := by
    refine hsb4.extBut D _ ns1 (Heap.get?_push_of_some _ ?_)
    rw [← hH2, ← hD]
    exact Heap.get?_push_size _ rfl
  have fps : ∀ b ∈ fp, b < s2.heap.objs.size := fun b hb => by
    obtain ⟨o, e, _⟩ := T.obj _ _ st2 b hb
    exact Heap.lt_size e
  have I4 : ∀ t4, Inv (compCx X (caps.map (·.1) ++ [x]) csc (D + 1) s2 H2 fp) [] (capV caps σ ++ [none]) H2 { s2 with heap := h4, toks := t4 } := fun t4 => comp_start (m0 := fun x => [].reverse.lookup x) I2 ck f2 fps leD1 keep4 hns4
  have cellsLt : ∀ y c, (clFold X.env csc.names []).lookup y = some c → c < D := fun y c e => by
    obtain ⟨v, o, ho, _⟩ := I2.cell y c (clFold_in _ _ cellsOk (fun y c h => by simp at h) y c e)
    exact lt2 c o ho
  have fsLt : ∀ b ∈ frs X.stack, b < D := fun b hb => by
    obtain ⟨_, o, ho, _⟩ := I2.stack.mem hb
    exact lt2 b o ho
  -- the iterator's objects within the block
  have fpC : ∀ {pl : List (Addr × Obj)} {H' : Hp}, (∀ p ∈ pl, p.1 = D) → (∀ b ∈ fp, H' b = none) → ∀ b ∈ fp, FpOk (compCx X (caps.map (·.1) ++ [x]) csc (D + 1) s2 H2 fp) pl H' b := fun {pl H'} hpl hn b hb => by
    have hb' : b < D := hD ▸ fps b hb
    refine ⟨hn b hb, nlt1 hb', ?_, .inl hb, fun y c e => ?_, fun p hp => ?_⟩
    · intro z
      rcases List.mem_cons.mp (I2.stkSub b z) with e | e
      · exact (f2 b hb).2.1 e
      · exact (f2 b hb).2.2.1 e
    · exact (f2 b hb).2.2.2.2.1 y c (clFold_in _ _ cellsOk (fun y c h => by simp at h) y c e)
    · have : p.1 = D := hpl p (by simpa using hp)
      rw [this]; exact fun z => nlt hb' z.symm
  have loop : ∀ t4, codeAny (model X.prog X.w) X.A (.compLoop (.ListComp elt [⟨.Name x px, iter, [], 0⟩] csc pos) 0 (.ref it) (.ref D) (compEnvC csc (clFold X.env csc.names []) (D + 1) X.env))
      (compPost (model X.prog X.w) X.A X.xe none (EP X pins σ Q) (.ref D) (D + 1)) { s2 with heap := h4, toks := t4 } := by
    intro t4
    refine compLoop_go (fun n s' => ∃ (i : Nat) (ys : List V) (its : List Value) (k : Nat) (σ' : St) (H' : Hp), Inv (compCx X (caps.map (·.1) ++ [x]) csc (D + 1) s2 H2 fp) [(D, { cls := .type "list", data := .seq its.toArray k })] σ' H' s' ∧ tn i s'.heap ∧ (∀ b ∈ fp, H' b = none) ∧ Vals ys its ∧ ys.length ≤ sizeLine ∧ W i n ys H' ∧ (∃ z, σ' = capV caps σ ++ [z])) ?_ m0 ?_
    · rintro n s3 ⟨i, ys, its, k, σ3, H3, I3, st3, fr3, hv, hz, w3, z3, rfl⟩
      have pl1 : ∀ p ∈ [((D, { cls := .type "list", data := .seq its.toArray k }) : Addr × Obj)], p.1 = D := fun p hp => by rw [List.mem_singleton.mp hp]
      rcases turn i n ys H3 w3 with ⟨stop, qn⟩ | ⟨go, hlt, step⟩
      · refine wpAny_mono (T.done (compCx X (caps.map (·.1) ++ [x]) csc (D + 1) s2 H2 fp) rfl rfl rfl hc i _ s3 _ H3 (fun _ _ => False) I3 (fpC pl1 fr3) st3 stop) (fun r s4 ⟨hr, I4'⟩ => ?_) fun _ _ f => f.elim
        subst hr
        obtain ⟨m, hn, _⟩ := id I4'.loc
        have pD := I4'.pin (D, { cls := .type "list", data := .seq its.toArray k }) (by simp)
        refine ⟨m, hn, fun h' hs' => ⟨.ref D, _, comp_done I2 I4' f2 leD1 leD ns1 hs' hv hz pD.1 pD.2.1, rfl, qn D pD.2.1⟩⟩
      · refine wpAny_mono (T.item (compCx X (caps.map (·.1) ++ [x]) csc (D + 1) s2 H2 fp) rfl rfl rfl hc i _ s3 _ H3 (fun _ _ => False) I3 (fpC pl1 fr3) st3 go) (fun r s4 ⟨u, hr, h4'⟩ => ?_) fun _ _ f => f.elim
        subst hr
        refine wpAny_mono h4' (fun _ s4 ⟨xv, H5, I5, r5, y5, st5, fr5⟩ => ?_) fun _ _ f => f.elim
        have I5' := I5.pinned (fpC pl1 fr5) (T.obj _ _ st5)
        have hiN : (caps.map (·.1) ++ [x])[caps.length]? = some x := by rw [List.getElem?_append_right (by simp)]; simp
        refine wpAny_mono (pg_name (X := compCx X (caps.map (·.1) ++ [x]) csc (D + 1) s2 H2 fp) (i := caps.length) ck.nd hiN (.inl (lookup_relabel_local ck.tg)) (.inr (lookup_relabel_local ck.tg)) _ s4 _ H5 xv u _ I5' r5 (show gName caps.length xv _ H5 (fun σ6 H6 => σ6 = capV caps σ ++ [some xv] ∧ H6 = H5) from ⟨?_, rfl⟩)) (fun _ s6 ⟨σ6, H6, I6, hσ, hH⟩ => ?_) fun _ _ f => f.elim
        · rw [List.set_append_right _ _ (by rw [capV_len]; exact Nat.le_refl _), capV_len, Nat.sub_self]; rfl
        subst hσ hH
        refine wpAny_mono (he (D + 1) s2 H2 fp _ s6 _ H6 _ I6 (step xv H6 y5)) (fun w7 s7 ⟨y, H7, I7, r7, m', hm, w8⟩ => ?_) fun _ _ f => f.elim
        have pD := I7.pin (D, { cls := .type "list", data := .seq its.toArray k }) (by simp)
        have hll := hv.length
        refine call_meets F.slot_list_append ⟨_, pD.1, rfl⟩ F.entry_list_append (F.args_list_append_2 _ _) (PySem.list_append D its.toArray k w7 (by rw [List.size_toArray]; omega)) ⟨pD.1, ?_⟩
        have q := PySem.IsL.update pD.1 (·.push w7)
        have hpush : its.toArray.push w7 = (its ++ [w7]).toArray := by simp
        rw [hpush] at q
        obtain ⟨k', q⟩ : ∃ k', (s7.heap.update D (Obj.mapSeq (·.push w7))).get? D = some { cls := .type "list", data := .seq (its ++ [w7]).toArray k' } := ⟨_, q⟩
        have I7u : Inv (compCx X (caps.map (·.1) ++ [x]) csc (D + 1) s2 H2 fp) (pinsAt fp s4.heap) _ H7 s7 := I7.pins_of fun p hp => I7.pin p (List.mem_append_right _ (List.mem_append_right _ hp))
        have pfp : ∀ p ∈ pinsAt fp s4.heap, p.1 < D := fun p hp => hD ▸ fps p.1 (of_pinsAt hp).1
        have I8 := I7u.turned (h' := s7.heap.update D (Obj.mapSeq (·.push w7))) (t' := s7.toks) (it := D) (fun b o hb e => (Heap.get?_update_other s7.heap _ (Ne.symm hb)).trans e) pD.2.1 ns1 (.inr leD) (fun y c e => nlt (cellsLt y c e)) (fun p hp => nlt (pfp p (by simpa using hp)))
        refine ⟨m', hm, i + 1, ys ++ [y], its ++ [w7], k', _, H7, I8.pins_of fun p hp => ?_, T.keep _ _ _ st5 fun b hb o e => (I8.pin (b, o) (List.mem_append_right _ (mem_pinsAt hb e))).1, fun b hb => ?_, hv.append (.cons r7 .nil), ?_, w8, _, rfl⟩
        · rw [List.mem_singleton.mp hp]
          exact ⟨q, pD.2.1, pD.2.2.1, pD.2.2.2.1, fun v => by simp⟩
        · obtain ⟨o, e, d⟩ := T.obj _ _ st5 b hb
          exact (I8.pin (b, o) (List.mem_append_right _ (mem_pinsAt hb e))).2.1
        · rw [List.length_append, List.length_singleton]; omega
    · refine ⟨0, [], [], 0, _, H2, (I4 t4).pins_of fun p hp => ?_, T.keep _ _ _ st2 fun b hb o e => keep4 b o e, fun b hb => (f2 b hb).1, .nil, Nat.zero_le _, w0, _, rfl⟩
      rw [List.mem_singleton.mp hp]
      refine ⟨hDo, I2.hok.fresh leD, ns1, fun z => absurd (fsLt D z) (Nat.lt_irrefl _), fun v => by simp⟩
  exact codeAny_compStart_list (loop _) (T.self _ 0 _ _ _ (T.keep _ _ _ st2 fun b hb o e => keep4 b o e) (loop _))
end
end L2
namespace L2
open PySem PySem.Spec PyProof.Rows
section
variable {X : Cx}
theorem strsAre_of {ys : List Str} : ∀ {us : List Value}, Vals (ys.map V.str) us → StrsAre us ys := by
  induction ys with
  | nil => intro us r; cases r; exact .nil
  | cons y r ih =>
    intro us h
    cases h with
    | cons h t =>
      obtain ⟨k, rfl⟩ := h
      exact .cons _ _ (ih t)
/-- sep.join(a list of texts) -/
def rJoin (K : PySem.W.Frag) : V → List V → Hp → VK → Prop := fun x vs H Q => ∃ z p ys, x = .str z ∧ vs = [.ref p] ∧ SqL K H p (ys.map V.str) ∧ (ys.map (·.length)).sum + ys.length * z.length ≤ 16777216 ∧ Q (.str (Txt.join z ys)) H
theorem mt_join : MtR X "str.join" (rJoin X.K) := by
  intro pins s σ H x vs v us Q I rx rv h
  obtain ⟨z, p, ys, rfl, rfl, hq, hz, q⟩ := h
  obtain ⟨t, rfl⟩ := rx
  obtain ⟨u, rfl, ru⟩ := rv.one
  cases ru
  obtain ⟨its, r, pl, _⟩ := I.list hq
  exact PyProof.Rows.join_list pl.isList (by simpa using strsAre_of r) hz fun t' k => ⟨.str _, H, I.tok _, ⟨_, rfl⟩, q⟩
/-- x.startswith(y, i), 0 ≤ i -/
def rStarts3 : V → List V → Hp → VK → Prop := fun x vs H Q => ∃ a b i, x = .str a ∧ vs = [.str b, .int i] ∧ Q (.bl (fromIndex a.length i + b.length ≤ a.length && Builtin.Str.subAt a b (fromIndex a.length i))) H
theorem mt_starts3 : MtR X "str.startswith" rStarts3 := by
  intro pins s σ H x vs v us Q I rx rv h
  obtain ⟨a, b, i, rfl, rfl, q⟩ := h
  obtain ⟨t, rfl⟩ := rx
  obtain ⟨u, w', rfl, ru, rw'⟩ := rv.two
  obtain ⟨t1, rfl⟩ := ru
  obtain ⟨t2, rfl⟩ := rw'
  exact call_gives F.slot_str_startswith (typeIs_str _ _ _) F.entry_str_startswith (F.args_str_startswith_3 _ _ _) (gives_str_startswith_from a b i t t1 t2) ⟨.bl _, H, I, rfl, q⟩
/-- x.startswith(y) -/
def rStarts2 : V → List V → Hp → VK → Prop := fun x vs H Q => ∃ a b, x = .str a ∧ vs = [.str b] ∧ Q (.bl (0 + b.length ≤ a.length && Builtin.Str.subAt a b 0)) H
theorem mt_starts2 : MtR X "str.startswith" rStarts2 := by
  intro pins s σ H x vs v us Q I rx rv h
  obtain ⟨a, b, rfl, rfl, q⟩ := h
  obtain ⟨t, rfl⟩ := rx
  obtain ⟨u, rfl, ru⟩ := rv.one
  obtain ⟨t1, rfl⟩ := ru
  exact call_gives F.slot_str_startswith (typeIs_str _ _ _) F.entry_str_startswith (F.args_str_startswith_2 _ _) (gives_str_startswith a b t t1) ⟨.bl _, H, I, rfl, q⟩
/-- the signs of a text, one text each -/
def signsV (z : Str) : List V := z.cps.toList.map fun c => V.str ⟨#[c]⟩
theorem vals_signs {z : Str} {acc : Array Value} (h : ItemsOf (SignAt z) acc z.cps.size) : Vals (signsV z) acc.toList := by
  obtain ⟨hs, hi⟩ := h
  have aux : ∀ (cs : List Nat) (us : List Value), us.length = cs.length → (∀ (i : Nat) (v : Value), us[i]? = some v → ∃ c u, cs[i]? = some c ∧ v = Value.str ⟨#[c]⟩ u) → Vals (cs.map fun c => V.str ⟨#[c]⟩) us := by
    intro cs
    induction cs with
    | nil => intro us hl _; cases us with
      | nil => exact .nil
      | cons _ _ => cases hl
    | cons c r ih => 
      intro us hl h
      cases us with
      | nil => cases hl
      | cons u r' =>
        refine .cons ?_ (ih r' (by simpa using hl) fun i v e => h (i + 1) v (by simpa using e))
        obtain ⟨c', t, e, z⟩ := h 0 u rfl
        simp at e
        subst e
        exact ⟨t, z⟩
  refine aux _ _ (by simp [hs]) fun i v e => ?_
  obtain ⟨c, u, e1, e2⟩ := hi i v (by simpa using e)
  exact ⟨c, u, by simpa using e1, e2⟩
theorem call_listS (hc : X.calm = true) : CallR X (.type "list") (fun xs H Q => ∃ z : Str, xs = [.str z] ∧ z.length ≤ sizeLine ∧ ∀ l, H l = none → Q (.ref l) (upd H l (.lst (signsV z)))) := by
  intro pins s σ H xs us Q I r h
  obtain ⟨z, rfl, hz, q⟩ := h
  obtain ⟨u, rfl, rx⟩ := vals1 r
  obtain ⟨t, rfl⟩ := rx
  refine PySem.call_list_str (I.ok.hd hc) z t (fun h' tk acc' c' kp e hi => ?_) hz
  have hv := vals_signs hi
  exact ⟨.ref s.heap.objs.size, _, I.laid (t' := tk) kp (Nat.le_refl _) (show ObjOk X.prog X.w _ h' _ (.lst (signsV z)) from ⟨by simp only [signsV, List.length_map, Array.length_toList]; exact hz, acc'.toList, c', hv, by simpa using e⟩), rfl, q _ (I.hok.fresh (Nat.le_refl _))⟩
/-- isinstance(x, c) -/
theorem call_isi : CallR X (.builtin "isinstance") (fun xs H Q => ∃ x c cv t b, xs = [x, c] ∧ (c = V.ty cv ∨ False) ∧ TyOf X.K H x t ∧ PySem.W.kitOne X.K t (.type cv) = some b ∧ Q (.bl b) H) := by
  intro pins s σ H xs us Q I r h
  obtain ⟨x, c, cv, t, b, rfl, hc, ty, e, q⟩ := h
  obtain ⟨u, w', rfl, ru, rw'⟩ := vals2 r
  rcases hc with rfl | hc
  · cases rw'
    exact isinst_ok I ru ty e fun tk => ⟨.bl b, H, I.tok _, rfl, q⟩
  · exact hc.elim
theorem call_isiC : CallR X (.builtin "isinstance") (fun xs H Q => ∃ x a t b, xs = [x, .ref a] ∧ TyOf X.K H x t ∧ PySem.W.kitOne X.K t (.ref a) = some b ∧ Q (.bl b) H) := by
  intro pins s σ H xs us Q I r h
  obtain ⟨x, a, t, b, rfl, ty, e, q⟩ := h
  obtain ⟨u, w', rfl, ru, rw'⟩ := vals2 r
  cases rw'
  exact isinst_ok I ru ty e fun tk => ⟨.bl b, H, I.tok _, rfl, q⟩
end
end L2
namespace L2
open PySem PySem.Spec PyProof.Rows
def At (X : Cx) (D : Ends) (sts : List Stmt) (σ : St) (H : Hp) : Prop := ∀ (pins : List (Addr × Obj)) (s : Shared), Inv X pins σ H s → wpAny (model X.prog X.w) X.A (execs sts X.env) (SP X pins D) X.xe s
section
variable {X : Cx} {D : Ends} {st : Stmt} {rest sts : List Stmt} {t : TS} {σ : St} {H : Hp}
theorem pss_at : PSs X sts (fun D σ H => At X D sts σ H) := fun pins s σ H D I h => h pins s I
theorem at_nil (h : D.nx σ H) : At X D [] σ H := fun _ _ I => wpAny_execs_nil ⟨σ, H, I, h⟩
theorem at_cons (h : PS X st t) (q : t { D with nx := fun σ H => At X D rest σ H } σ H) : At X D (st :: rest) σ H := fun pins s I =>
  (pss_cons h pss_at) pins s σ H D I q
theorem at_one (h : PS X st t) (q : t D σ H) : At X D [st] σ H := fun pins s I => (pss_one h) pins s σ H D I q
theorem at_body (h : At X D sts σ H) : ∃ t, PSs X sts t ∧ t D σ H := ⟨fun D' σ' H' => D' = D ∧ σ' = σ ∧ H' = H, fun pins s σ' H' D' I ⟨e1, e2, e3⟩ => by subst e1 e2 e3; exact h pins s I, rfl, rfl, rfl⟩
end
/-- a test at a value, both ways -/
theorem ifd {c : Prop} [Decidable c] {A B : Prop} (h1 : c → A) (h2 : ¬ c → B) : if decide c = true then A else B := by
  by_cases h : c
  · rw [decide_eq_true h]; exact h1 h
  · rw [decide_eq_false h]; exact h2 h
theorem ifnd {c : Prop} [Decidable c] {A B : Prop} (h1 : ¬ c → A) (h2 : c → B) : if (!decide c) = true then A else B := by
  by_cases h : c
  · rw [decide_eq_true h]; exact h2 h
  · rw [decide_eq_false h]; exact h1 h
theorem ifb {c : Bool} {A B : Prop} (h1 : c = true → A) (h2 : c = false → B) : if c = true then A else B := by
  cases c
  · exact h2 rfl
  · exact h1 rfl
theorem Same.upd {H : Hp} {p : Addr} {o : HO} (h : H p = none) : Same H (upd H p o) := fun b u e => by rw [upd_ne (ne_of_none e h)]; exact e
theorem Same.to {H H1 : Hp} {p : Addr} {o : HO} (s : Same H H1) (h : H1 p = none) : Same H (L2.upd H1 p o) := s.trans (Same.upd h)
theorem SqL.same {K : PySem.W.Frag} {H H' : Hp} {a : Addr} {xs : List V} (h : SqL K H a xs) (e : Same H H') : SqL K H' a xs := e.seq h
section
variable {X : Cx} {C : Addr} {x : Str} {p pos : Pos}
def tMakeO (C : Addr) : TE := fun _ H Q => ∀ x dx, H x = none → H dx = none → dx ≠ x → Q (.ref x) (upd (upd H dx (.own x)) x (.ins C dx []))
end
end L2
namespace L2
open PySem PySem.Spec PyProof.Rows
section
variable {X : Cx} {C : Addr} {x : Str} {p pos : Pos}
structure MkO (K : PySem.W.Frag) (C : Addr) : Prop where
  makes : PySem.W.makesIn K C = true
  init : PySem.W.findIn K (.ref C) "__init__" = some (some (.builtin "object.__init__"))
  kp : PySem.W.keepIn K (.ref C) = true
theorem pe_makeO (M : MkO X.K C) (hg : Gl X x) (hm : X.mg x = some (.ref C)) (hdb : (x == ("__debug__" : Str)) = false := by decide) : PE X (.Call (.Name x p) [] [] pos) (tMakeO C) := by
  intro pins s σ H Q I h
  refine wpAny_Call_Name_kw (ld_glob I hg hm ?_ hdb)
  refine PySem.W.callWith_K0 I.kIn M.kp (wpAny_call ?_)
  have hq := h (s.heap.objs.size + 1) s.heap.objs.size (I.hok.fresh (Nat.le_succ _)) (I.hok.fresh (Nat.le_refl _)) (Nat.ne_of_lt (Nat.lt_succ_self _))
  have I2 := Inv.made (C := C) I
  have Y := PySem.W.makes_of (M := model X.prog X.w) I.kIn M.makes
  refine make_map0 I.kIn M.makes M.init (fun self => PySem.W.Looks.of_pure (PySem.W.oi_bind self)) ?_
  obtain ⟨hh, g, d, t, os⟩ := s
  have e2 : ((hh.push PySem.W.emptyDict).push (PySem.W.instObj C hh.objs.size)).get? (hh.objs.size + 1) = some (PySem.W.instObj C hh.objs.size) := by
    have := Heap.get?_push_size (hh.push PySem.W.emptyDict) (o := PySem.W.instObj C hh.objs.size) rfl
    rwa [Heap.size_push] at this
  have t1 : PySem.W.Looks (model X.prog X.w) ((hh.push PySem.W.emptyDict).push (PySem.W.instObj C hh.objs.size)) (typeOf (.ref (hh.objs.size + 1))) (.ref C) := (PySem.W.Looks.ld e2).andThen .now
  have t2 : PySem.W.Looks (model X.prog X.w) ((hh.push PySem.W.emptyDict).push (PySem.W.instObj C hh.objs.size)) (isInstance (.ref (hh.objs.size + 1)) (.type "object")) true := t1.andThen (Y.top.keeps fun b o e => Heap.get?_push_of_some _ (Heap.get?_push_of_some _ e))
  refine codeAny_call_builtin PySem.W.oi_plain PySem.W.entry_oi (@PySem.W.check_slot (model X.prog X.w) _ _ _ "object.__init__" "object" "__init__" (.ref (hh.objs.size + 1)) [] [] _ PySem.W.oi_kind PySem.W.oi_split t2 (PySem.W.oi_args (.ref (hh.objs.size + 1))) ?_)
  rw [PySem.W.oi_run]
  exact wpAny_pure ⟨rfl, ⟨V.ref (hh.objs.size + 1), _, I2, rfl, hq⟩⟩
end
end L2
namespace L2
open PySem PySem.Spec PyProof.Rows
section
variable {X : Cx}
def rSlS : V → Option Int → Option Int → Hp → VK → Prop := fun x lo hi H Q => ∃ z, x = .str z ∧ z.length ≤ sizeLine ∧ Q (.str (Txt.slice z lo hi)) H
theorem part_of {v : Value} {o : Option Int} (h : IsPart v o) : ∃ l : Option (Int × Tok), v = partValue l ∧ l.map (·.1) = o := by
  cases h with
  | none => exact ⟨none, rfl, rfl⟩
  | int i t => exact ⟨some (i, t), rfl, rfl⟩
theorem sl_str : SlR X rSlS := by
  intro pins s σ H x v vl vu lo hi sl Q I rx hs pl pu h
  obtain ⟨z, rfl, hz, q⟩ := h
  obtain ⟨t, rfl⟩ := rx
  obtain ⟨l, rfl, rfl⟩ := part_of pl
  obtain ⟨u, rfl, rfl⟩ := part_of pu
  refine ⟨"str", _, F.slot_str_getitem.lookup, typeIs_str _ _ _, wpAny_getItem_str_slice (l := l) (u := u) (st := none) (by obtain ⟨o, e, c, d⟩ := hs; exact ⟨o, e, c, d⟩) rfl ?_⟩
  exact post_val_or_str ⟨Nat.le_trans (Txt.slice_le z _ _) hz, fun t' k => ⟨.str _, H, I.tok _, ⟨t', rfl⟩, q⟩⟩
end
end L2
namespace L2
open PySem PySem.Spec PyProof.Rows
section
variable {X : Cx} {D : Ends} {st : Stmt} {rest sts : List Stmt} {t : TS} {σ : St} {H : Hp}
/-- a cut behind a statement -/
theorem at_consR (R : St → Hp → Prop) (h : PS X st t) (q : t { D with nx := R } σ H) (r : ∀ σ H, R σ H → At X D rest σ H) : At X D (st :: rest) σ H := fun pins s I =>
  (pss_cons h (u := fun D' σ H => D' = D ∧ R σ H) (fun pins s σ H D' I ⟨e, z⟩ => by subst e; exact r σ H z pins s I)) pins s σ H D I (by
    have e : (fun σ H => D = D ∧ R σ H) = R := by funext σ H; simp
    show t { D with nx := fun σ H => D = D ∧ R σ H } σ H
    rw [e]; exact q)
theorem cxOf_K {CX : CXT} {P : Program} {w : World} {K : PySem.W.Frag} {mg : Str → Option Value} {base : Heap} {N : List Str} {qual : Str} {scope : Scope} {f : Addr} {cd : Value} {A : Around} {outer : List Env} {s : Shared} {H : Hp} {E : XK} :
    (cxOf CX P w K mg base N qual scope f cd A outer s H E).K = K := rfl
end
end L2
namespace L2
open PySem PySem.Spec PyProof.Rows
theorem comp_range {caps : List (Str × Nat)} {lo : Int} {n : Nat} {te : TE} {σ : St} {H : Hp} {Q : VK} (Pv : Nat → List V → Hp → Prop) (h0 : Pv 0 [] H) (hn : n < sizeLine)
    (hs : ∀ i ys H, i < n → ys.length = i → Pv i ys H → te (capV caps σ ++ [some (.int (lo + i))]) H fun y H2 => ∃ m', m' < n - i ∧ m' = n - (i + 1) ∧ i + 1 ≤ n ∧ (ys ++ [y]).length = i + 1 ∧ Pv (i + 1) (ys ++ [y]) H2) (hd : ∀ ys H, ys.length = n → Pv n ys H → ∀ D, H D = none → Q (.ref D) (upd H D (.lst ys))) :
    CompW (Itr lo n) caps te σ H Q := by
  refine ⟨fun i m ys H => m = n - i ∧ i ≤ n ∧ ys.length = i ∧ Pv i ys H, ⟨n, by simp, Nat.zero_le _, rfl, h0⟩, ?_⟩
  rintro i m ys H ⟨rfl, hi, hl, p⟩
  by_cases hlt : i < n
  · refine .inr ⟨hlt, by omega, fun x H' y => ?_⟩
    obtain ⟨e, y⟩ := y
    subst e y
    exact hs i ys _ hlt hl p
  · have e : i = n := by omega
    subst e
    exact .inl ⟨Nat.le_refl _, hd ys H hl p⟩
theorem comp_list {K : PySem.W.Frag} {a : Addr} {xs : List V} {caps : List (Str × Nat)} {te : TE} {σ : St} {H : Hp} {Q : VK} (Pv : Nat → List V → Hp → Prop) (h0 : Pv 0 [] H) (hn : xs.length < sizeLine)
    (hq : ∀ i ys H, i ≤ xs.length → Pv i ys H → SqL K H a xs)
    (hs : ∀ i x ys H, xs[i]? = some x → ys.length = i → Pv i ys H → te (capV caps σ ++ [some x]) H fun y H2 => ∃ m', m' < xs.length - i ∧ m' = xs.length - (i + 1) ∧ i + 1 ≤ xs.length ∧ (ys ++ [y]).length = i + 1 ∧ Pv (i + 1) (ys ++ [y]) H2) (hd : ∀ ys H, ys.length = xs.length → Pv xs.length ys H → ∀ D, H D = none → Q (.ref D) (upd H D (.lst ys))) :
    CompW (Itl K a) caps te σ H Q := by
  refine ⟨fun i m ys H => m = xs.length - i ∧ i ≤ xs.length ∧ ys.length = i ∧ Pv i ys H, ⟨xs.length, by simp, Nat.zero_le _, rfl, h0⟩, ?_⟩
  rintro i m ys H ⟨rfl, hi, hl, p⟩
  have q := hq i ys H hi p
  by_cases hlt : i < xs.length
  · refine .inr ⟨⟨xs, xs[i], q, by simp [hlt]⟩, by omega, fun x H' y => ?_⟩
    obtain ⟨e, y⟩ := y
    subst e
    exact hs i x ys _ (y xs q) hl p
  · have e : i = xs.length := by omega
    subst e
    exact .inl ⟨⟨xs, q, Nat.le_refl _⟩, hd ys H hl p⟩
/-- the turn's end of comp_range, comp_list -/
theorem comp_turn {n i : Nat} {ys : List V} {y : V} {R : Prop} (hi : i < n) (hl : ys.length = i) (r : R) : ∃ m', m' < n - i ∧ m' = n - (i + 1) ∧ i + 1 ≤ n ∧ (ys ++ [y]).length = i + 1 ∧ R :=
  ⟨n - (i + 1), by omega, rfl, hi, by simp [hl], r⟩
theorem atI_in {α : Type} (xs : List α) {i : Int} (h0 : 0 ≤ i) (h1 : i < xs.length) : ∃ v, xs[i.toNat]? = some v ∧ atI xs i = some v := by
  have h3 : i.toNat < xs.length := by omega
  refine ⟨xs[i.toNat], List.getElem?_eq_getElem h3, ?_⟩
  have q := atI_nat (xs := xs) (List.getElem?_eq_getElem h3)
  rw [Int.toNat_of_nonneg h0] at q
  exact q
theorem emod_rng (a : Int) {m : Int} (h : 0 < m) : 0 ≤ a % m ∧ a % m < m := ⟨Int.emod_nonneg _ (by omega), Int.emod_lt_of_pos _ h⟩
theorem sl_le {n : Nat} (h : n ≤ 1000000) : n ≤ sizeLine := Nat.le_trans h (by decide)
theorem sl_lt {n : Nat} (h : n ≤ 1000000) : n < sizeLine := Nat.lt_of_le_of_lt h (by decide)
/-- a field of the object in a slot -/
theorem fldv {K : PySem.W.Frag} {i : Nat} {f : Str} {σ : St} {H : Hp} {Q : VK} {a C dx : Addr} {fs : List (Str × V)} {v : V} (e : σ[i]? = some (some (.ref a))) (h : H a = some (.ins C dx fs)) (c : Cls K C) (n : NoAttr K C f) (l : fs.lookup f = some v) (q : Q v H) : tFld K (tVar i) f σ H Q :=
  ⟨_, e, a, C, dx, fs, v, rfl, h, c, n, l, q⟩
def ForW (J : It) (g : TG) (tb : TS) (D : Ends) (σ : St) (H1 : Hp) : Prop := ∃ W : Nat → Nat → St → Hp → Prop, (∃ m, W 0 m σ H1) ∧ ∀ i m σ H, W i m σ H →
  (J.stop i H ∧ D.nx σ H) ∨ (J.go i H ∧ ∃ N : St → Hp → Prop, (∀ σ' H', N σ' H' → ∃ m', m' < m ∧ W (i + 1) m' σ' H') ∧ ∀ x H', J.yld i H x H' → g x σ H' fun σ2 H2 => tb { D with nx := N, ct := N, bk := D.nx } σ2 H2)
def tForA (wi : TI) (g : TG) (tb : TS) : TS := fun D σ H => wi σ H fun J H1 => ForW J g tb D σ H1
theorem ps_forA {X : Cx} {tg iter : Expr} {body : List Stmt} {wi : TI} {g : TG} {tb : TS} {pos : Pos} (hp : PassesOwn (model X.prog X.w) X.A X.env X.xe) (hc : X.calm = true) (hi : PI X tg iter wi) (hg : PG X tg g) (hb : PSs X body tb)
    (hs : ∀ x, foldedSetIterable iter X.env x = pure x := by intro _; rfl) : PS X (.For tg iter body [] pos) (tForA wi g tb) := ps_for hp hc hi hg hb hs
theorem forW_range {lo : Int} {n : Nat} {g : TG} {tb : TS} {D : Ends} {σ : St} {H : Hp} (Pv : Nat → St → Hp → Prop) (h0 : Pv 0 σ H)
    (hs : ∀ i σ H, i < n → Pv i σ H → g (.int (lo + i)) σ H fun σ2 H2 => tb { D with nx := Pv (i + 1), ct := Pv (i + 1), bk := D.nx } σ2 H2) (hd : ∀ σ H, Pv n σ H → D.nx σ H) : ForW (Itr lo n) g tb D σ H := for_range Pv h0 hs hd
theorem forW_list {K : PySem.W.Frag} {a : Addr} {xs : List V} {g : TG} {tb : TS} {D : Ends} {σ : St} {H : Hp} (Pv : Nat → St → Hp → Prop) (h0 : Pv 0 σ H) (hl : ∀ i σ H, i ≤ xs.length → Pv i σ H → SqL K H a xs)
    (hs : ∀ i x σ H, xs[i]? = some x → Pv i σ H → g x σ H fun σ2 H2 => tb { D with nx := Pv (i + 1), ct := Pv (i + 1), bk := D.nx } σ2 H2) (hd : ∀ σ H, Pv xs.length σ H → D.nx σ H) : ForW (Itl K a) g tb D σ H := for_list Pv h0 hl hs hd
end L2
namespace L2
open PySem PySem.Spec PyProof.Rows

section
variable {κ : Type} [DecidableEq κ]
def valV (kvs : List (κ × V)) (k : κ) : Option V := (kvs.find? fun kv => decide (kv.1 = k)).map (·.2)
/-- in its place, or at the end -/
def putK (kvs : List (κ × V)) (k : κ) (v : V) : List (κ × V) :=
  if (kvs.any fun kv => decide (kv.1 = k)) = true then kvs.map (fun kv => if kv.1 = k then (kv.1, v) else kv) else kvs ++ [(k, v)]
theorem valV_pos {p : κ × V} {r : List (κ × V)} {k : κ} (e : p.1 = k) : valV (p :: r) k = some p.2 := by simp [valV, List.find?_cons, e]
theorem valV_neg {p : κ × V} {r : List (κ × V)} {k : κ} (e : ¬ p.1 = k) : valV (p :: r) k = valV r k := by simp [valV, List.find?_cons, e]
theorem valV_any (k : κ) : ∀ kvs : List (κ × V), (kvs.any fun kv => decide (kv.1 = k)) = (valV kvs k).isSome
  | [] => rfl
  | p :: r => by
    rw [List.any_cons]
    by_cases e : p.1 = k
    · simp only [valV_pos e, decide_eq_true e, Bool.true_or, Option.isSome_some]
    · rw [valV_neg e, decide_eq_false e, Bool.false_or]; exact valV_any k r
theorem valV_map (k j : κ) (y : V) : ∀ kvs : List (κ × V), valV (kvs.map fun kv => if kv.1 = k then (kv.1, y) else kv) j = (valV kvs j).map fun x => if j = k then y else x
  | [] => rfl
  | p :: r => by
    have ih := valV_map k j y r
    rw [List.map_cons]
    by_cases h : p.1 = k
    · rw [if_pos h]
      by_cases e : p.1 = j
      · rw [valV_pos (p := (p.1, y)) e, valV_pos e, Option.map_some, if_pos (e.symm.trans h)]
      · rw [valV_neg (p := (p.1, y)) e, valV_neg e, ih]
    · rw [if_neg h]
      by_cases e : p.1 = j
      · rw [valV_pos (p := p) e, valV_pos e, Option.map_some, if_neg (fun z => h (e.trans z))]
      · rw [valV_neg (p := p) e, valV_neg e, ih]
theorem valV_snoc (k j : κ) (y : V) : ∀ kvs : List (κ × V), valV kvs k = none → valV (kvs ++ [(k, y)]) j = if j = k then some y else valV kvs j
  | [], _ => by
    by_cases e : k = j
    · rw [if_pos e.symm]; exact valV_pos (p := (k, y)) e
    · rw [if_neg (fun z => e z.symm)]; exact valV_neg (p := (k, y)) e
  | p :: r, hn => by
    rw [List.cons_append]
    have hk : ¬ p.1 = k := fun z => by rw [valV_pos z] at hn; cases hn
    rw [valV_neg hk] at hn
    have ih := valV_snoc k j y r hn
    by_cases e : p.1 = j
    · rw [valV_pos e, valV_pos e, if_neg (fun z => hk (e.trans z))]
    · rw [valV_neg e, valV_neg e, ih]
theorem valV_put (kvs : List (κ × V)) (k j : κ) (y : V) : valV (putK kvs k y) j = if j = k then some y else valV kvs j := by
  unfold putK
  by_cases a : (kvs.any fun kv => decide (kv.1 = k)) = true
  · rw [if_pos a, valV_map]
    rw [valV_any] at a
    by_cases e : j = k
    · obtain ⟨x, hx⟩ := Option.isSome_iff_exists.mp a
      rw [if_pos e, e, hx, Option.map_some, if_pos rfl]
    · rw [if_neg e]
      cases valV kvs j with
      | none => rfl
      | some x => rw [Option.map_some, if_neg e]
  · rw [if_neg a]
    refine valV_snoc k j y kvs ?_
    rw [valV_any] at a
    cases q : valV kvs k with
    | none => rfl
    | some x => rw [q] at a; exact (a rfl).elim
theorem length_putK (kvs : List (κ × V)) (k : κ) (v : V) : (putK kvs k v).length ≤ kvs.length + 1 := by
  unfold putK
  split
  · rw [List.length_map]; omega
  · rw [List.length_append, List.length_cons, List.length_nil]; omega
theorem RelO.isSome_eq {o : Option V} {u : Option Value} (r : RelO o u) : o.isSome = u.isSome := by
  cases o with
  | none => cases u with
    | none => rfl
    | some _ => exact (show False from r).elim
  | some _ => cases u with
    | none => exact (show False from r).elim
    | some _ => rfl
theorem RelO.getD {o : Option V} {u : Option Value} {d : V} {d' : Value} (r : RelO o u) (rd : RelV d d') : RelV (o.getD d) (u.getD d') := by
  cases o with
  | none => cases u with
    | none => exact rd
    | some _ => exact (show False from r).elim
  | some _ => cases u with
    | none => exact (show False from r).elim
    | some _ => exact r

/-- raw tables of the same keys -/
theorem KV.val {kvs : List (κ × V)} {vs : List (κ × Value)} (r : KV kvs vs) (k : κ) : RelO (valV kvs k) (valueAt vs k) := by
  unfold KV at r
  induction r with
  | nil => exact True.intro
  | @cons p q ps qs h t ih =>
    obtain ⟨h1, h2⟩ := h
    by_cases e : p.1 = k
    · have e' : q.1 = k := h1.symm.trans e
      have b : valueAt (q :: qs) k = some q.2 := by simp [valueAt, List.find?_cons, e']
      rw [valV_pos e, b]; exact h2
    · have e' : ¬ q.1 = k := fun z => e (h1.trans z)
      have b : valueAt (q :: qs) k = valueAt qs k := by simp [valueAt, List.find?_cons, e']
      rw [valV_neg e, b]; exact ih
theorem KV.any {kvs : List (κ × V)} {vs : List (κ × Value)} (r : KV kvs vs) (k : κ) : (kvs.any fun kv => decide (kv.1 = k)) = vs.any fun kv => decide (kv.1 = k) := by
  unfold KV at r
  induction r with
  | nil => rfl
  | cons h t ih => rw [List.any_cons, List.any_cons, ih, h.1]
theorem KV.repl {kvs : List (κ × V)} {vs : List (κ × Value)} (r : KV kvs vs) (k : κ) {y : V} {u : Value} (ry : RelV y u) :
    KV (kvs.map fun kv => if kv.1 = k then (kv.1, y) else kv) (vs.map fun kv => if kv.1 = k then (kv.1, u) else kv) := by
  unfold KV at r ⊢
  induction r with
  | nil => exact .nil
  | @cons p q ps qs h t ih =>
    rw [List.map_cons, List.map_cons]
    refine .cons ?_ ih
    obtain ⟨h1, h2⟩ := h
    by_cases e : p.1 = k
    · rw [if_pos e, if_pos (h1.symm.trans e)]; exact ⟨h1, ry⟩
    · rw [if_neg e, if_neg (fun z => e (h1.trans z))]; exact ⟨h1, h2⟩
theorem KV.put {kvs : List (κ × V)} {vs : List (κ × Value)} (r : KV kvs vs) (k : κ) {y : V} {u : Value} (ry : RelV y u) : KV (putK kvs k y) (stored vs k u) := by
  unfold putK stored
  rw [r.any k]
  by_cases e : (vs.any fun kv => decide (kv.1 = k)) = true
  · rw [if_pos e, if_pos e]; exact r.repl k ry
  · rw [if_neg e, if_neg e]; exact Paired.snoc r ⟨rfl, ry⟩
theorem KV.length {kvs : List (κ × V)} {vs : List (κ × Value)} (r : KV kvs vs) : kvs.length = vs.length := Paired.length r
end


theorem kV_is {P : Program} {w : World} {k : Key} {u : Value} (r : RelV (kV k) u) : (mixKind P w).is k u = true := by
  cases k with
  | inl i => obtain ⟨t, e⟩ := (show ∃ t, u = Value.int i t from r); subst e; exact mixKind_int P w i t
  | inr x => obtain ⟨t, e⟩ := (show ∃ t, u = Value.str x t from r); subst e; exact mixKind_str P w x t
theorem items_are {P : Program} {w : World} : ∀ {ks : List Key} {us : List Value}, Vals (ks.map kV) us → ItemsAre (mixKind P w) ks us
  | [], _, r => by rw [List.map_nil] at r; cases r; exact .nil
  | k :: ks, _, r => by
    rw [List.map_cons] at r
    cases r with
    | cons h t => exact .cons (kV_is h) (items_are t)

/-- raw entries of a dict with tuple keys -/
abbrev KT (H : Hp) : List (List Key × V) → List (List Key × Addr × Value) → Prop := Paired fun p q => p.1 = q.1 ∧ H q.2.1 = some (.tup (p.1.map kV)) ∧ RelV p.2 q.2.2
theorem KT.val {H : Hp} {kvs : List (List Key × V)} {xs : List (List Key × Addr × Value)} (r : KT H kvs xs) (k : List Key) : RelO (valV kvs k) ((atKey xs k).map (·.2)) := by
  induction r with
  | nil => exact True.intro
  | @cons p q ps qs h t ih =>
    obtain ⟨h1, _, h2⟩ := h
    by_cases e : p.1 = k
    · have e' : q.1 = k := h1.symm.trans e
      have b : atKey (q :: qs) k = some q.2 := by simp [atKey, List.find?_cons, e']
      rw [valV_pos e, b]; exact h2
    · have e' : ¬ q.1 = k := fun z => e (h1.trans z)
      have b : atKey (q :: qs) k = atKey qs k := by simp [atKey, List.find?_cons, e']
      rw [valV_neg e, b]; exact ih
theorem KT.repl {H : Hp} {kvs : List (List Key × V)} {xs : List (List Key × Addr × Value)} (r : KT H kvs xs) (k : List Key) {y : V} {u : Value} (ry : RelV y u) :
    KT H (kvs.map fun kv => if kv.1 = k then (kv.1, y) else kv) (xs.map (putAt k u)) := by
  induction r with
  | nil => exact .nil
  | @cons p q ps qs h t ih =>
    rw [List.map_cons, List.map_cons]
    refine .cons ?_ ih
    obtain ⟨h1, h2, h3⟩ := h
    unfold putAt
    by_cases e : p.1 = k
    · rw [if_pos e, if_pos (h1.symm.trans e)]; exact ⟨h1, h2, ry⟩
    · rw [if_neg e, if_neg (fun z => e (h1.trans z))]; exact ⟨h1, h2, h3⟩
theorem KT.put {H : Hp} {kvs : List (List Key × V)} {xs : List (List Key × Addr × Value)} (r : KT H kvs xs) (k : List Key) {b : Addr} {y : V} {u : Value} (hb : H b = some (.tup (k.map kV))) (ry : RelV y u) :
    KT H (putK kvs k y) (storedH xs k b u) := by
  have e : (kvs.any fun kv => decide (kv.1 = k)) = (atKey xs k).isSome := by
    rw [valV_any, (r.val k).isSome_eq, Option.isSome_map]
  unfold putK storedH
  rw [e]
  by_cases q : (atKey xs k).isSome = true
  · rw [if_pos q, if_pos q]; exact r.repl k ry
  · rw [if_neg q, if_neg q]; exact Paired.snoc r ⟨rfl, hb, ry⟩
theorem KT.keeps {H H' : Hp} {kvs : List (List Key × V)} {xs : List (List Key × Addr × Value)} (r : KT H kvs xs) (ht : ∀ b ys, H b = some (.tup ys) → H' b = some (.tup ys)) : KT H' kvs xs :=
  Paired.mapP r fun _ _ z => ⟨z.1, ht _ _ z.2.1, z.2.2⟩

section
variable {P : Program} {w : World} {H : Hp} {h : Heap} {a : Addr}
theorem rd_of {u : HO} (ok : HOk P w H h) (e : Rd H a u) : ObjOk P w H h a u := e.ok ok
theorem dk_rd {kvs : List (Key × V)} (ok : HOk P w H h) (e : Rd H a (.dK kvs)) : kvs.length ≤ sizeLine ∧ (a == sysModules) = false ∧ ∃ vs, KV kvs vs ∧ h.DictOf (mixKind P w) a vs :=
  show ObjOk P w H h a (.dK kvs) from rd_of ok e
theorem dk_of {kvs : List (Key × V)} (ok : HOk P w H h) (e : H a = some (.dK kvs)) : kvs.length ≤ sizeLine ∧ (a == sysModules) = false ∧ ∃ vs, KV kvs vs ∧ h.DictOf (mixKind P w) a vs := dk_rd ok (.inl e)
/-- a tracked tuple of ints and texts is a key -/
theorem key_of {ks : List Key} (ok : HOk P w H h) (e : H a = some (.tup (ks.map kV))) : (tupleKind (mixKind P w)).is h ks a := by
  obtain ⟨_, its, r, o, h1, h2, n, h3⟩ := (show ObjOk P w H h a (.tup (ks.map kV)) from ok a _ e)
  exact ⟨o, its.toArray, n, h1, h2, h3, by simpa using items_are r⟩
theorem dt_rd {kvs : List (List Key × V)} (ok : HOk P w H h) (e : Rd H a (.dT kvs)) : kvs.length ≤ sizeLine ∧ (a == sysModules) = false ∧
    ∃ xs, KT H kvs xs ∧ h.DictOfH (tupleKind (mixKind P w)) a xs := by
  obtain ⟨z, y, xs, r, o, es, ep, h1, h2, h3, h4, h5⟩ := (show ObjOk P w H h a (.dT kvs) from rd_of ok e)
  refine ⟨z, y, xs, r, o, es, ep, h1, h2, h3, h4, fun x hx => ?_, h5⟩
  have all : ∀ {l : List (List Key × V)} {m : List (List Key × Addr × Value)}, KT H l m → ∀ x ∈ m, (tupleKind (mixKind P w)).is h x.1 x.2.1 := by
    intro l m q
    induction q with
    | nil => intro x hx; exact nomatch hx
    | @cons p q ps qs hq t ih =>
      intro x hx
      rcases List.mem_cons.mp hx with e | hx
      · subst e
        exact key_of ok (by rw [← hq.1]; exact hq.2.1)
      · exact ih x hx
  exact all r x hx
theorem dt_of {kvs : List (List Key × V)} (ok : HOk P w H h) (e : H a = some (.dT kvs)) : kvs.length ≤ sizeLine ∧ (a == sysModules) = false ∧
    ∃ xs, KT H kvs xs ∧ h.DictOfH (tupleKind (mixKind P w)) a xs := dt_rd ok (.inl e)
end

/-- what the dict at a holds at the key y -/
def DGet (H : Hp) (a : Addr) (y : V) (r : Option V) : Prop :=
  (∃ kvs k, Rd H a (.dK kvs) ∧ y = kV k ∧ r = valV kvs k) ∨ ∃ kvs k b, Rd H a (.dT kvs) ∧ y = .ref b ∧ H b = some (.tup (k.map kV)) ∧ r = valV kvs k
/-- the heap behind a[y] = v -/
def DPut (H : Hp) (a : Addr) (y v : V) (H' : Hp) : Prop :=
  (∃ kvs k, H a = some (.dK kvs) ∧ y = kV k ∧ kvs.length < sizeLine ∧ H' = upd H a (.dK (putK kvs k v))) ∨
  ∃ kvs k b, H a = some (.dT kvs) ∧ y = .ref b ∧ H b = some (.tup (k.map kV)) ∧ kvs.length < sizeLine ∧ H' = upd H a (.dT (putK kvs k v))
theorem DGet.k {H : Hp} {a : Addr} {kvs : List (Key × V)} {k : Key} (e : H a = some (.dK kvs)) : DGet H a (kV k) (valV kvs k) := .inl ⟨kvs, k, .inl e, rfl, rfl⟩
theorem DPut.k {H : Hp} {a : Addr} {kvs : List (Key × V)} {k : Key} {v : V} (e : H a = some (.dK kvs)) (hl : kvs.length < sizeLine) : DPut H a (kV k) v (upd H a (.dK (putK kvs k v))) := .inl ⟨kvs, k, e, rfl, hl, rfl⟩
section
variable {X : Cx} {pins : List (Addr × Obj)} {σ : St} {H : Hp} {s : Shared} {a : Addr} {y v : V} {u r : Value} {o : Option V} {A : Around} {E : Value → Shared → Prop}

theorem Inv.big (I : Inv X pins σ H s) : sysModules < s.heap.objs.size := by
  have h : mainGlobals < s.heap.objs.size := (I.mod.glob.keeps I.bk).lt
  exact Nat.lt_trans (by decide) h

/-- y in d -/
theorem d_in {Q : Value → Shared → Prop} (hu : A.units + 1 < cLine) (I : Inv X pins σ H s) (g : DGet H a y o) (ry : RelV y u) (h : ∀ s', Inv X pins σ H s' → Q (.bool o.isSome) s') :
    wpAny (model X.prog X.w) A (compareOp .In u (.ref a)) Q E s := by
  rcases g with ⟨kvs, k, e, ey, l⟩ | ⟨kvs, k, b, e, ey, eb, l⟩
  · subst ey
    obtain ⟨z, hd, vs, rel, dd⟩ := dk_rd I.hok e
    refine wpAny_in_of (kV_is ry) hd dd.mapOf ?_
    rw [← (rel.val k).isSome_eq, ← l]
    exact h _ (I.tok _)
  · subst ey
    cases (show u = Value.ref b from ry)
    obtain ⟨z, hd, xs, rel, dd⟩ := dt_rd I.hok e
    refine wpAny_in_heap (tupleKind_room_in1 hu) (key_of I.hok eb) hd dd ?_
    have q := (rel.val k).isSome_eq
    rw [Option.isSome_map] at q
    rw [← q, ← l]
    exact h _ (I.tok _)
theorem d_notIn {Q : Value → Shared → Prop} (hu : A.units + 1 < cLine) (I : Inv X pins σ H s) (g : DGet H a y o) (ry : RelV y u) (h : ∀ s', Inv X pins σ H s' → Q (.bool (!o.isSome)) s') :
    wpAny (model X.prog X.w) A (compareOp .NotIn u (.ref a)) Q E s := by
  rcases g with ⟨kvs, k, e, ey, l⟩ | ⟨kvs, k, b, e, ey, eb, l⟩
  · subst ey
    obtain ⟨z, hd, vs, rel, dd⟩ := dk_rd I.hok e
    refine wpAny_notIn_of (kV_is ry) hd dd.mapOf ?_
    rw [← (rel.val k).isSome_eq, ← l]
    exact h _ (I.tok _)
  · subst ey
    cases (show u = Value.ref b from ry)
    obtain ⟨z, hd, xs, rel, dd⟩ := dt_rd I.hok e
    refine wpAny_notIn_heap (tupleKind_room_in1 hu) (key_of I.hok eb) hd dd ?_
    have q := (rel.val k).isSome_eq
    rw [Option.isSome_map] at q
    rw [← q, ← l]
    exact h _ (I.tok _)
/-- a dict's object is replaced -/
theorem d_write {h' : Heap} {t' : Nat} {ob : HO} (I : Inv X pins σ H s) (mu : Mut (H a)) (hs : Heap.SameBut a s.heap h') (he : ∃ q, h'.get? a = some q) (new : ObjOk X.prog X.w (upd H a ob) h' a ob) :
    Inv X pins σ (upd H a ob) { s with heap := h', toks := t' } :=
  I.write (x := a) (e := a) mu (.inl rfl) (fun b q hb z => (hs.2 b hb).trans z) he new
theorem dk_new {P : Program} {w : World} {H' : Hp} {h' : Heap} {kvs : List (Key × V)} {vs : List (Key × Value)} (z : kvs.length ≤ sizeLine) (hd : (a == sysModules) = false) (rel : KV kvs vs) (dd : h'.DictOf (mixKind P w) a vs) :
    ObjOk P w H' h' a (.dK kvs) := ⟨z, hd, vs, rel, dd⟩
/-- d[y] = v -/
theorem d_setItem {H' : Hp} {Q : Unit → Shared → Prop} (hu : A.units + 1 < cLine) (I : Inv X pins σ H s) (g : DPut H a y v H') (ry : RelV y u) (rv : RelV v r) (h : ∀ s', Inv X pins σ H' s' → Q () s') :
    wpAny (model X.prog X.w) A (setItem (.ref a) u r) Q E s := by
  rcases g with ⟨kvs, k, e, ey, l, eH⟩ | ⟨kvs, k, b, e, ey, eb, l, eH⟩
  · subst ey eH
    obtain ⟨z, hd, vs, rel, dd⟩ := dk_of I.hok e
    have hz : vs.length ≤ sizeLine := by rw [← rel.length]; exact z
    have hl : (putK kvs k v).length ≤ sizeLine := by have := length_putK kvs k v; omega
    refine wpAny_setItem_pairs (hsz := hz) (kV_is ry) dd fun h' dd' hs => h _ ?_
    have he : ∃ q, h'.get? a = some q := let ⟨q, _, _, hq, _⟩ := dd'; ⟨q, hq⟩
    exact d_write I (by rw [e]; exact True.intro) hs he (dk_new hl hd (rel.put k rv) dd')
  · subst ey eH
    cases (show u = Value.ref b from ry)
    obtain ⟨z, hd, xs, rel, dd⟩ := dt_of I.hok e
    have hz : xs.length ≤ sizeLine := by rw [← Paired.length rel]; exact z
    have hl : (putK kvs k v).length ≤ sizeLine := by have := length_putK kvs k v; omega
    refine wpAny_setItem_heap (hsz := hz) (tupleKind_room_in1 hu) (key_of I.hok eb) dd fun h' dd' hs => h _ ?_
    obtain ⟨q, es, ep, hq, h2, h3, h4, _, h5⟩ := dd'
    refine d_write I (by rw [e]; exact True.intro) hs ⟨q, hq⟩ ⟨hl, hd, _, (rel.put k eb rv).keeps fun c ys ec => ?_, q, es, ep, hq, h2, h3, h4, h5⟩
    rw [upd_ne (ne_of ec e (fun z => nomatch z))]
    exact ec
end

section
variable {X : Cx} {pins : List (Addr × Obj)} {σ : St} {H : Hp} {s : Shared} {a : Addr} {kvs : List (Key × V)} {k : Key} {u : Value} {A : Around} {E : Value → Shared → Prop}
/-- len(d) -/
theorem d_len {Q : Value → Shared → Prop} (I : Inv X pins σ H s) (e : Rd H a (.dK kvs)) (h : ∀ t s', Inv X pins σ H s' → Q (.int kvs.length t) s') : wpAny (model X.prog X.w) A (call (.builtin "len") [.ref a]) Q E s := by
  obtain ⟨z, hd, vs, rel, dd⟩ := dk_rd I.hok e
  refine call_len_dict hd dd (by rw [← rel.length]; rw [sizeLine_eq] at z; omega) ?_
  rw [← rel.length]
  exact h _ _ (I.tok _)
end


/-- y in d, y not in d -/
def tDIn (ty td : TE) : TE := fun σ H Q => ty σ H fun y H1 => td σ H1 fun x H2 => ∃ a o, x = .ref a ∧ DGet H2 a y o ∧ Q (.bl o.isSome) H2
def tDNotIn (ty td : TE) : TE := fun σ H Q => ty σ H fun y H1 => td σ H1 fun x H2 => ∃ a o, x = .ref a ∧ DGet H2 a y o ∧ Q (.bl (!o.isSome)) H2
/-- d[y] = v -/
def sDPut (td ty tv : TE) : TS := fun D σ H => tv σ H fun v H1 => td σ H1 fun x H2 => ty σ H2 fun y H3 => ∃ a H4, x = .ref a ∧ DPut H3 a y v H4 ∧ D.nx σ H4
section
variable {X : Cx} {o i e value : Expr} {pos pos' tpos : Pos} {td ty tv : TE}
theorem pc_din (hu : X.A.units + 1 < cLine) (hi : PE X i ty) (ho : PE X o td) : PC X .In i o (tDIn ty td) := by
  intro pins s σ H Q I h
  refine thn (hi pins s σ H _ I h) fun iv s1 ⟨y, H1, I1, ry, q1⟩ => thn (ho pins s1 σ H1 _ I1 q1) fun u s2 ⟨x, H2, I2, rx, a, ov, ex, g, q2⟩ => ?_
  subst ex
  obtain rfl : u = Value.ref a := rx
  exact d_in hu I2 g ry fun s3 I3 => ⟨.bl ov.isSome, H2, I3, rfl, q2⟩
theorem pc_dnotin (hu : X.A.units + 1 < cLine) (hi : PE X i ty) (ho : PE X o td) : PC X .NotIn i o (tDNotIn ty td) := by
  intro pins s σ H Q I h
  refine thn (hi pins s σ H _ I h) fun iv s1 ⟨y, H1, I1, ry, q1⟩ => thn (ho pins s1 σ H1 _ I1 q1) fun u s2 ⟨x, H2, I2, rx, a, ov, ex, g, q2⟩ => ?_
  subst ex
  obtain rfl : u = Value.ref a := rx
  exact d_notIn hu I2 g ry fun s3 I3 => ⟨.bl (!ov.isSome), H2, I3, rfl, q2⟩
theorem ps_dput (hu : X.A.units + 1 < cLine) (ho : PE X o td) (hi : PE X i ty) (hv : PE X value tv) (hs : swapsWith value (some (.Subscript o i pos')) pos.line X.env = pure false) :
    PS X (.Assign [.Subscript o i pos'] value pos) (sDPut td ty tv) := by
  intro pins s σ H D I h
  refine wpAny_Assign_Subscript (thn (hv pins s σ H _ I h) fun r s1 ⟨v, H1, I1, rv, q1⟩ => thn (ho pins s1 σ H1 _ I1 q1) fun u s2 ⟨x, H2, I2, rx, q2⟩ => thn (hi pins s2 σ H2 _ I2 q2) fun iv s3 ⟨y, H3, I3, ry, a, H4, ex, g, q3⟩ => ?_) hs
  subst ex
  obtain rfl : u = Value.ref a := rx
  exact d_setItem hu I3 g ry rv fun s4 I4 => ⟨σ, H4, I4, q3⟩
end


theorem dk_empty {P : Program} {w : World} {H : Hp} (h : Heap) (hb : sysModules < h.objs.size) : ObjOk P w H (h.push { cls := .type "dict", data := .dict #[] }) h.objs.size (.dK []) :=
  ⟨Nat.zero_le _, beq_eq_false_iff_ne.mpr (Ne.symm (Nat.ne_of_lt hb)), [], .nil, Heap.DictOf.new h⟩
/-- {}, to be a dict of the kind that is wanted -/
def tDNewK : TE := fun _ H Q => ∀ p, H p = none → Q (.ref p) (upd H p (.dK []))
section
variable {X : Cx} {pos : Pos}
theorem pe_dnewK : PE X (.Dict [] [] pos) tDNewK := fun pins s σ H Q I h =>
  wpAny_Dict_empty ⟨.ref s.heap.objs.size, _, I.laid (a := s.heap.objs.size) (o := .dK []) (t' := s.toks) (fun _ _ q => Heap.get?_push_of_some _ q) (Nat.le_refl _) (dk_empty s.heap I.big), rfl, h _ (I.hok.fresh (Nat.le_refl _))⟩
end

/-- a method call o.m(e) of a built-in, with one argument: what must be seen of the text -/
structure M1 (X : Cx) (o : Expr) (m : Str) (apos : Pos) (e : Expr) (cpos : Pos) : Prop where
  base : attributeBase o m X.env (eval o X.env) = eval o X.env
  few : ((backTo cpos (starEach [e] X.env)).all (fun x => !x.1) && (backToKw cpos (keywordEach [] X.env)).all (fun x => x.1.isSome)
    && decide (([e] : List Expr).length + ([] : List Keyword).length + (if ([] : List Keyword).isEmpty then 0 else 1) < 30)) = true
  line : (apos.endLine == cpos.line) = true
  trees : backTo cpos (starEach [e] X.env) = [(false, eval e X.env)]
/-- a is a dict, whatever its keys -/
def IsD (H : Hp) (a : Addr) : Prop := (∃ kvs, Rd H a (.dK kvs)) ∨ ∃ kvs, Rd H a (.dT kvs)
theorem isD_at {X : Cx} {pins : List (Addr × Obj)} {σ : St} {H : Hp} {s : Shared} {a : Addr} (I : Inv X pins σ H s) (d : IsD H a) :
    s.TypeIs (.ref a) "dict" ∧ (∀ b, Value.ref a = .ref b → ∃ ob, s.heap.get? b = some ob ∧ ob.dict = none) ∧ (a == sysModules) = false := by
  rcases d with ⟨kvs, e⟩ | ⟨kvs, e⟩
  · obtain ⟨_, hd, vs, _, dd⟩ := dk_rd I.hok e
    refine ⟨dd.typeIs, fun b q => ?_, hd⟩
    cases q
    obtain ⟨ob, _, _, h1, h2, _⟩ := dd
    exact ⟨ob, h1, h2.2.1⟩
  · obtain ⟨_, hd, xs, _, dd⟩ := dt_rd I.hok e
    refine ⟨dd.typeIs, fun b q => ?_, hd⟩
    cases q
    obtain ⟨ob, _, _, h1, h2, _⟩ := dd
    exact ⟨ob, h1, h2.2.1⟩

section
variable {X : Cx} {pins : List (Addr × Obj)} {σ : St} {H : Hp} {s : Shared} {a : Addr} {y d : V} {u r : Value} {o : Option V} {A : Around} {E : Value → Shared → Prop}
/-- d.get(y) -/
theorem d_get1 {Q : Value → Shared → Prop} (hu : A.units + 1 < cLine) (I : Inv X pins σ H s) (g : DGet H a y o) (ry : RelV y u) (h : ∀ w' s', Inv X pins σ H s' → RelV (o.getD .non) w' → Q w' s') :
    wpAny (model X.prog X.w) A (call (.builtin "dict.get") [.ref a, u]) Q E s := by
  rcases g with ⟨kvs, k, e, ey, l⟩ | ⟨kvs, k, b, e, ey, eb, l⟩
  · subst ey
    obtain ⟨z, hd, vs, rel, dd⟩ := dk_rd I.hok e
    refine call_meetsIn PySem.F.slot_dict_get dd.typeIs PySem.F.entry_dict_get (PySem.F.args_dict_get_2 _ _) (meets_dict_get (mixKind X.prog X.w) a (kV_is ry) hd) ⟨_, dd.mapOf, h _ _ (I.tok _) ?_⟩
    rw [l]
    exact (rel.val k).getD rfl
  · subst ey
    cases (show u = Value.ref b from ry)
    obtain ⟨z, hd, xs, rel, dd⟩ := dt_rd I.hok e
    refine call_meetsIn PySem.F.slot_dict_get dd.typeIs PySem.F.entry_dict_get (PySem.F.args_dict_get_2 _ _) (meetsH_dict_get (tupleKind (mixKind X.prog X.w)) a b hd) ⟨tupleKind_room_in1 hu, k, xs, key_of I.hok eb, dd, h _ _ (I.tok _) ?_⟩
    rw [l]
    exact (rel.val k).getD rfl
end

def tDGet1 (td ty : TE) : TE := fun σ H Q => td σ H fun x H1 => ∃ a, x = .ref a ∧ IsD H1 a ∧ ty σ H1 fun y H2 => ∃ o, DGet H2 a y o ∧ Q (o.getD .non) H2
section
variable {X : Cx} {o e f : Expr} {apos cpos : Pos} {td ty tx : TE}
theorem pe_dget1 (hu : X.A.units + 1 < cLine) (ho : PE X o td) (he : PE X e ty) (m : M1 X o "get" apos e cpos) : PE X (.Call (.Attribute o "get" apos) [e] [] cpos) (tDGet1 td ty) := by
  intro pins s σ H Q I h
  refine wpAny_Call_method m.base m.few m.line PySem.F.plainAttrs_dict PySem.F.slot_dict_get PySem.F.type_dict_get (thn (ho pins s σ H _ I h) fun u s1 ⟨x, H1, I1, rx, a, ex, d, q1⟩ => ?_)
  subst ex
  obtain rfl : u = Value.ref a := rx
  obtain ⟨t1, t2, _⟩ := isD_at I1 d
  refine ⟨t1, t2, ?_⟩
  rw [m.trees]
  refine Calls.callWith_builtin rfl (Calls.evalArgs_plain (Calls.spliced_cons (thn (he pins s1 σ H1 _ I1 q1) fun iv s2 ⟨y, H2, I2, ry, ov, g, q2⟩ => Calls.spliced_nil ?_)))
  exact d_get1 hu I2 g ry fun w' s3 I3 rw' => ⟨_, H2, I3, rw', q2⟩
end

section
variable {X : Cx} {pins : List (Addr × Obj)} {σ : St} {H : Hp} {s : Shared} {a : Addr} {kvs : List (Key × V)} {A : Around} {E : Value → Shared → Prop}
end


section
variable {X : Cx} {pins : List (Addr × Obj)} {σ : St} {H : Hp} {s : Shared} {a : Addr} {y : V} {u : Value} {A : Around} {E : Value → Shared → Prop}
end
section
variable {X : Cx}
/-- len of a dict -/
theorem call_lenD : CallR X (.builtin "len") (fun xs H Q => ∃ a kvs, xs = [V.ref a] ∧ H a = some (.dK kvs) ∧ Q (.int kvs.length) H) := by
  intro pins s σ H xs us Q I r h
  obtain ⟨a, kvs, rfl, ha, q⟩ := h
  obtain ⟨u, rfl, ru⟩ := vals1 r
  cases ru
  exact d_len I (.inl ha) fun t s' I' => ⟨.int kvs.length, H, I', ⟨t, rfl⟩, q⟩
end
section
variable {κ : Type} [DecidableEq κ]
end
end L2
namespace L2
open PySem PySem.Spec PyProof.Rows
section
variable {X : Cx}
def rSplit : V → List V → Hp → VK → Prop := fun x vs H Q => ∃ a b : Str, x = .str a ∧ vs = [.str b] ∧ (b.length == 0) = false ∧ a.length + 2 ≤ sizeLine ∧ ∀ p, H p = none → Q (.ref p) (upd H p (.lst ((PySem.Txt.split a b).map V.str)))
theorem vals_strs : ∀ (n : Nat) (ys : List Str), Vals (ys.map V.str) (strsFrom n ys) := by
  intro n ys
  rw [strsFrom_eq]
  have aux : ∀ (l : List (Str × Tok)), Vals ((l.map (·.1)).map V.str) (strValues l) := by
    intro l
    induction l with
    | nil => exact .nil
    | cons p r ih => exact .cons ⟨p.2, rfl⟩ ih
  have := aux (numbered n ys)
  rwa [numbered_texts] at this
theorem mt_split : MtR X "str.split" rSplit := by
  intro pins s σ H x vs v us Q I rx rv h
  obtain ⟨a, b, rfl, rfl, hb, hz, q⟩ := h
  obtain ⟨t, rfl⟩ := rx
  obtain ⟨u, rfl, ru⟩ := rv.one
  obtain ⟨t1, rfl⟩ := ru
  have q0 := q s.heap.objs.size (I.hok.fresh (Nat.le_refl _))
  have hle := PyProof.Rows.split_le a b
  cases h1 : (decide (a.length < b.length) || decide (Builtin.Str.strKind a < Builtin.Str.strKind b))
  · cases hf : (Builtin.Str.occurrences a b 0 a.length (a.length + 1)).isEmpty
    · have e : PySem.Txt.split a b = Builtin.Str.partsBetween a (Builtin.Str.occurrences a b 0 a.length (a.length + 1)) b.length := by
        unfold PySem.Txt.split
        rw [if_neg (ne_true_of_eq_false h1), if_neg (ne_true_of_eq_false hf)]
      rw [e] at q0 hle
      refine call_meets F.slot_str_split (typeIs_str _ _ _) F.entry_str_split (F.args_str_split_2 _ _) (meets_str_split_sep a b t t1 h1 hb hf (by omega) (by omega)) ?_
      exact ⟨.ref _, _, I.lnew (t' := _) (vals_strs s.toks _) (by rw [List.length_map]; omega), rfl, q0⟩
    · have e : PySem.Txt.split a b = [a] := by
        unfold PySem.Txt.split
        rw [if_neg (ne_true_of_eq_false h1), if_pos hf]
      rw [e] at q0
      refine call_meets F.slot_str_split (typeIs_str _ _ _) F.entry_str_split (F.args_str_split_2 _ _) (meets_str_split_not_found a b t t1 h1 hb hf) ?_
      exact ⟨.ref _, _, I.lnew (ys := [.str a]) (t' := s.toks) (.cons ⟨t, rfl⟩ .nil) (by show 1 ≤ sizeLine; decide), rfl, q0⟩
  · have e : PySem.Txt.split a b = [a] := by
      unfold PySem.Txt.split
      rw [if_pos h1]
    rw [e] at q0
    refine call_meets F.slot_str_split (typeIs_str _ _ _) F.entry_str_split (F.args_str_split_2 _ _) (meets_str_split_cannot_occur a b t t1 h1) ?_
    exact ⟨.ref _, _, I.lnew (ys := [.str a]) (t' := s.toks) (.cons ⟨t, rfl⟩ .nil) (by show 1 ≤ sizeLine; decide), rfl, q0⟩
theorem boolsAre_of {bs : List Bool} : ∀ {us : List Value}, Vals (bs.map V.bl) us → LSm.BoolsAre us bs := by
  induction bs with
  | nil => intro us r; cases r; exact .nil
  | cons y r ih =>
    intro us h
    cases h with
    | cons h t =>
      cases h
      exact .cons _ (ih t)
theorem call_allL (hc : X.calm = true) : CallR X (.builtin "all") (fun xs H Q => ∃ (p : Addr) (bs : List Bool), xs = [.ref p] ∧ SqL X.K H p (bs.map V.bl) ∧ Q (.bl (bs.all id)) H) := by
  intro pins s σ H xs us Q I r h
  obtain ⟨p, bs, rfl, hq, q⟩ := h
  obtain ⟨u, rfl, rx⟩ := vals1 r
  cases rx
  obtain ⟨its, r', pl, hz⟩ := I.list hq
  have hb := boolsAre_of r'
  have hl := pl.isList
  have hlt : p < s.heap.objs.size := by obtain ⟨_, e, _⟩ := hl; exact Heap.lt_size e
  refine call_all_walk (wpAny_pyIter_list hl ?_)
  refine ⟨s.heap.objs.size, [s.heap.objs.size, p], [s.heap.objs.size], its.toArray.size, _, _, fun i => (bs[i]?).getD true, rfl, Walks.list (A := X.A.in1) (I.ok.hd hc) _ p (Nat.ne_of_lt hlt) its.toArray,
    ⟨⟨_, Heap.get?_push_size _ rfl, rfl, rfl⟩, hl.push _⟩, fun i v s' Q' E' hP hQ => ?_, fun h' tk hk => ?_⟩
  · obtain ⟨b, e, rfl⟩ := hb.get i v (by simpa using hP)
    simp only [e, Option.getD_some] at hQ
    exact wpAny_truthy_bool hQ
  · have e : ((List.range its.toArray.size).all fun i => (bs[i]?).getD true) = bs.all id := by
      rw [List.size_toArray, hb.length]; exact LSm.range_all bs
    rw [e]
    exact ⟨.bl _, H, I.kept (t' := tk) (LSm.kept_iter hk), rfl, q⟩
end
def Its (z : Str) : It := ⟨fun i _ => i < z.length, fun i H x H' => H' = H ∧ ∃ c, z.cps.toList[i]? = some c ∧ x = .str ⟨#[c]⟩, fun i _ => z.length ≤ i⟩
section
variable {X : Cx} {tg : Expr}
theorem turn_walk {P : Program} {w : World} {K : PySem.W.Frag} {x : Str} {px : Pos} (z : Str) (it : Addr) (St : Nat → Heap → Prop) (cl : ∀ i h, St i h → ∃ o, h.get? it = some o ∧ ∀ v, o.data ≠ .cell v)
    (fr : ∀ i h h', St i h → (∀ o, h.get? it = some o → h'.get? it = some o) → St i h') (sf : ∀ (A : Around) (i : Nat) (s : Shared) (Q : Value → Shared → Prop) (E : Value → Shared → Prop), St i s.heap → Q (.ref it) s → wpAny (model P w) A (pyIter (.ref it)) Q E s)
    (W : ∀ A : Around, A.handled = none → Walks P w A it [it] [it] z.cps.size (SignAt z) St) : Turn P w K (.Name x px) (Its z) [it] it (fun i h => St i h ∧ i ≤ z.length) where
  mem := by simp
  obj := fun i h st b hb => by
    have e : b = it := by simpa using hb
    subst e
    exact cl i h st.1
  keep := fun i h h' st k => ⟨fr i h h' st.1 fun o e => k it (by simp) o e, st.2⟩
  item := by
    intro X hP hw hK hc i pins s σ H E I hf st hg
    subst hP hw hK
    obtain ⟨f0, f1, f2, f3, f4, f5⟩ := hf it (by simp)
    refine (W X.A (I.ok.hd hc)).item i s _ E hg st.1 fun v h' tk hP st' hk => ?_
    obtain ⟨c, u, e1, rfl⟩ := hP
    refine ⟨_, rfl, ?_⟩
    show wpAny _ _ (pure ()) _ _ _
    refine wpAny_pure ⟨.str ⟨#[c]⟩, H, I.turned (t' := tk) (fun b o hb e => hk b o (by simpa using hb) e) f0 f1 f3 f4 f5, ⟨u, rfl⟩, ⟨rfl, c, by simpa using e1, rfl⟩, ⟨st', hg⟩, fun b hb => (hf b hb).1⟩
  done := by
    intro X hP hw hK hc i pins s σ H E I hf st hg
    subst hP hw hK
    obtain ⟨f0, f1, f2, f3, f4, f5⟩ := hf it (by simp)
    have e : i = z.cps.size := Nat.le_antisymm st.2 hg
    subst e
    exact (W X.A (I.ok.hd hc)).done s _ E st.1 fun h' tk hk => ⟨rfl, I.turned (t' := tk) (fun b o hb e => hk b o (by simpa using hb) e) f0 f1 f3 f4 f5⟩
  self := fun A i s Q E st h => sf A i s Q E st.1 h
def iStr (te : TE) : TI := fun σ H R => te σ H fun x H1 => ∃ z : Str, x = .str z ∧ R (Its z) H1
theorem pi_str {e : Expr} {te : TE} {x : Str} {px : Pos} (he : PE X e te) : PI X (.Name x px) e (iStr te) := by
  intro pins s σ H R I h
  refine thn (he pins s σ H _ I h) fun v s1 ⟨y, H1, I1, r1, q1⟩ => ?_
  obtain ⟨z, rfl, q⟩ := q1
  obtain ⟨t, rfl⟩ := r1
  have fin : ∀ (o : Obj) (St : Nat → Heap → Prop), Turn X.prog X.w X.K (.Name x px) (Its z) [s1.heap.objs.size] s1.heap.objs.size St → St 0 (s1.heap.push o) → PIE X pins σ (.Name x px) R (.ref s1.heap.objs.size) { s1 with heap := s1.heap.push o } := fun o St T st => by
    refine ⟨s1.heap.objs.size, [s1.heap.objs.size], _, _, H1, rfl, I1.kept (t' := s1.toks) fun b o e => Heap.get?_push_of_some _ e, T, st, fun b hb => ?_, q⟩
    have e : b = s1.heap.objs.size := by simpa using hb
    subst e
    exact I1.fpOk (Nat.le_refl _) (I1.hok.fresh (Nat.le_refl _))
  have cl : ∀ ty (i : Nat) (h : Heap), h.IsStrIter s1.heap.objs.size ty z t i → ∃ o, h.get? s1.heap.objs.size = some o ∧ ∀ v, o.data ≠ .cell v := fun ty i h st => by
    obtain ⟨o, e, c, d⟩ := st
    exact ⟨o, e, fun v q => by rw [d] at q; cases q⟩
  have fr : ∀ ty (i : Nat) (h h' : Heap), h.IsStrIter s1.heap.objs.size ty z t i → (∀ o, h.get? s1.heap.objs.size = some o → h'.get? s1.heap.objs.size = some o) → h'.IsStrIter s1.heap.objs.size ty z t i := fun ty i h h' st k => by
    obtain ⟨o, e, r⟩ := st
    exact ⟨o, k o e, r⟩
  cases ha : z.cps.all (· < 128)
  · exact wpAny_pyIter_wide ha (fin _ _ (turn_walk z _ _ (cl _) (fr _) (fun A i s Q E st h => wpAny_pyIter_striter_wide st h) (fun A hA => Walks.strWide hA _ z t)) ⟨⟨_, Heap.get?_push_size _ rfl, rfl, rfl⟩, Nat.zero_le _⟩)
  · exact wpAny_pyIter_ascii ha (fin _ _ (turn_walk z _ _ (cl _) (fr _) (fun A i s Q E st h => wpAny_pyIter_striter_ascii st h) (fun A hA => Walks.strAscii hA _ z t)) ⟨⟨_, Heap.get?_push_size _ rfl, rfl, rfl⟩, Nat.zero_le _⟩)
def Ite (K : PySem.W.Frag) (a : Addr) : It :=
  ⟨fun i H => ∃ xs x, SqL K H a xs ∧ xs[i]? = some x, fun i H x H' => ∃ p v, H p = none ∧ x = .ref p ∧ H' = upd H p (.tup [.int i, v]) ∧ ∀ xs, SqL K H a xs → xs[i]? = some v, fun i H => ∃ xs, SqL K H a xs ∧ xs.length ≤ i⟩
theorem turn_enum {P : Program} {w : World} {K : PySem.W.Frag} {elts : List Expr} {x1} {pos : Pos} (a e it : Addr) (hne : e ≠ it) : Turn P w K (.Tuple elts x1 pos) (Ite K a) [e, it] e (fun i h => ∃ old, IsEnum h e it i old ∧ h.IsListIter it a i) where
  mem := by simp
  obj := fun i h st b hb => by
    obtain ⟨old, st, si⟩ := st
    rcases List.mem_cons.mp hb with z | z
    · subst z
      exact ⟨_, st, fun v q => by cases q⟩
    · have e : b = it := by simpa using z
      subst e
      obtain ⟨o, e, c, d⟩ := si
      exact ⟨o, e, fun v q => by rw [d] at q; cases q⟩
  keep := fun i h h' st k => by
    obtain ⟨old, st, si⟩ := st
    exact ⟨old, k e (by simp) _ st, si.at fun o q => k it (by simp) o q⟩
  item := by
    intro X hP hw hK hc i pins s σ H E I hf st hg
    subst hP hw hK
    obtain ⟨old, st, si⟩ := st
    obtain ⟨xs, x, hq, hx⟩ := hg
    obtain ⟨its, rv, p, hz⟩ := I.list hq
    obtain ⟨u, hu, ru⟩ := rv.get hx
    have f := hf e (by simp)
    have g := hf it (by simp)
    refine wpAny_pyNext_enum_item st si p.isList (x := u) (by simpa using hu) hne fun h1 eo si1 ht hsz hk => ?_
    refine ⟨_, rfl, wpAny_letOwnedTupleGo_enum (s := { s with heap := h1, toks := s.toks + 1 }) eo fun h2 en sb => ?_⟩
    have hs1 : e ≠ s.heap.objs.size := Nat.ne_of_lt (Heap.lt_size st)
    have hs2 : it ≠ s.heap.objs.size := by obtain ⟨o, q, _⟩ := si; exact Nat.ne_of_lt (Heap.lt_size q)
    have k2 : ∀ b o, b ≠ e → b ≠ it → s.heap.get? b = some o → h2.get? b = some o := fun b o n1 n2 q => (sb.2 b n1).trans (hk b o n1 n2 q)
    have fresh := I.hok.fresh (Nat.le_refl s.heap.objs.size)
    have I1 : Inv X pins σ (upd H s.heap.objs.size (.tup [.int i, x])) { s with heap := h2, toks := s.toks + 1 } := by
      refine I.step (g' := s.gens) (d' := s.drawn) (ch := [e, it]) (fun b hb => ?_) (fun b o _ _ hc q _ => ?_) (fun b o _ _ hc q _ => ?_) (fun b o hc q n => ?_) (fun b o hc q => ?_) (fun b ys q => ?_) (fun b o ys q => ?_) (fun b ps q => ?_) (fun m hm => ?_) (fun b u' q => ?_) I.bare
      · rcases List.mem_cons.mp hb with z | z
        · rw [z]; exact ⟨f.2.2.2.1, f.2.1, f.2.2.2.2.1, f.2.2.2.2.2⟩
        · have z : b = it := by simpa using z
          rw [z]; exact ⟨g.2.2.2.1, g.2.1, g.2.2.2.2.1, g.2.2.2.2.2⟩
      · exact k2 b o (fun z => hc (by simp [z])) (fun z => hc (by simp [z])) q
      · exact ⟨o.slots, k2 b o (fun z => hc (by simp [z])) (fun z => hc (by simp [z])) q⟩
      · rw [upd_ne (Nat.ne_of_lt (Heap.lt_size q))]; exact n
      · exact ⟨o, k2 b o (fun z => hc (by simp [z])) (fun z => hc (by simp [z])) q⟩
      · rw [upd_ne (ne_of_none q fresh)]; exact q
      · rw [upd_ne (ne_of_none q fresh)]; exact q
      · exact ⟨#[], by rw [upd_ne (ne_of_none q fresh), q]; simp⟩
      · obtain ⟨o, es, ep, ho, r⟩ := hm
        exact ⟨o, es, ep, k2 _ o (Ne.symm f.2.1) (Ne.symm g.2.1) ho, r⟩
      · by_cases hb : b = s.heap.objs.size
        · subst hb
          rw [upd_same] at q; cases q
          refine ⟨by show 2 ≤ sizeLine; decide, [_, u], .cons ⟨_, rfl⟩ (.cons ru .nil), ⟨_, (sb.2 _ (Ne.symm hs1)).trans ht, rfl, _, rfl⟩⟩
        · rw [upd_ne hb] at q
          refine (I.hok b u' q).stay (fun c v hc' r => k2 c v ?_ ?_ r) (fun c r => by rw [upd_ne (ne_of_none r fresh)]; exact r) fun c ys r => by rw [upd_ne (ne_of_none r fresh)]; exact r
          · rcases hc' with z | z
            · rw [z]; exact ne_of_none q f.1
            · exact ne_of_none z f.1
          · rcases hc' with z | z
            · rw [z]; exact ne_of_none q g.1
            · exact ne_of_none z g.1
    refine ⟨.ref s.heap.objs.size, _, I1, rfl, ⟨_, x, fresh, rfl, rfl, fun ys hy => by rw [I.list_inj hy hq]; exact hx⟩, ⟨_, en, ?_⟩, fun b hb => ?_⟩
    · obtain ⟨o, q, r⟩ := si1
      exact ⟨o, (sb.2 it (Ne.symm hne)).trans q, r⟩
    · have hb' := (hf b hb).1
      rcases List.mem_cons.mp hb with z | z
      · rw [upd_ne (by rw [z]; exact hs1)]; exact hb'
      · have z : b = it := by simpa using z
        rw [upd_ne (by rw [z]; exact hs2)]; exact hb'
  done := by
    intro X hP hw hK hc i pins s σ H E I hf st hg
    subst hP hw hK
    obtain ⟨old, st, si⟩ := st
    obtain ⟨xs, hq, hx⟩ := hg
    obtain ⟨its, rv, p, hz⟩ := I.list hq
    obtain ⟨f0, f1, f2, f3, f4, f5⟩ := hf it (by simp)
    have hl := rv.length
    exact wpAny_pyNext_enum_end (I.ok.hd hc) st si p.isList (by simp; omega) fun h' eb => ⟨rfl, I.turned (t' := s.toks) (fun b o hb e => eb b o hb e) f0 f1 f3 f4 f5⟩
  self := fun _ _ _ _ _ st h => by
    obtain ⟨old, st, si⟩ := st
    exact wpAny_pyIter_enum st h
def iEnum (K : PySem.W.Frag) (ta : TA) : TI := fun σ H R => ta σ H fun vs H1 => ∃ a xs, vs = [.ref a] ∧ SqL K H1 a xs ∧ R (Ite K a) H1
theorem pi_enum {a : Expr} {ta : TA} {p pos tp : Pos} {elts : List Expr} {x1} (hg : Gl X "enumerate") (hm : X.mg "enumerate" = none) (ha : PA X [a] ta) (hs : starEach [a] X.env = [(false, eval a X.env)] := by rfl) :
    PI X (.Tuple elts x1 tp) (.Call (.Name "enumerate" p) [a] [] pos) (iEnum X.K ta) := by
  intro pins s σ H R I h
  refine Call_ (ld_blt I hg hm (show bootBuiltins "enumerate" = some (.type "enumerate") by decide +kernel) (PyProof.Rows.callWith_type1 (thn (ha pos pins s σ H _ I h) fun us s1 ⟨vs, H1, I1, r1, q1⟩ => ?_) hs rfl))
  obtain ⟨l, xs, rfl, hq, q⟩ := q1
  obtain ⟨u, rfl, ru⟩ := r1.one
  cases ru
  obtain ⟨its, rv, pl, hz⟩ := I1.list hq
  refine call_enumerate_list pl.isList fun h' he hi hsz hk => ?_
  refine wpAny_pyIter_enum (s := { s1 with heap := h' }) he ?_
  refine ⟨s1.heap.objs.size + 1, [s1.heap.objs.size + 1, s1.heap.objs.size], _, _, H1, rfl, I1.kept (t' := s1.toks) hk, turn_enum l _ _ (Nat.succ_ne_self _), ⟨_, he, hi⟩, fun b hb => ?_, q⟩
  have hb' : s1.heap.objs.size ≤ b := by
    rcases List.mem_cons.mp hb with z | z
    · rw [z]; exact Nat.le_succ _
    · have z : b = s1.heap.objs.size := by simpa using z
      rw [z]; exact Nat.le_refl _
  exact I1.fpOk hb' (I1.hok.fresh hb')
end
end L2
namespace L2
open PySem PySem.Spec PyProof.Rows
theorem str_ext {x y : Str} (h : x.cps.toList = y.cps.toList) : x = y := by
  obtain ⟨a⟩ := x
  obtain ⟨b⟩ := y
  have : a = b := Array.toList_inj.mp h
  rw [this]
theorem cps_app (x y : Str) : (x ++ y).cps.toList = x.cps.toList ++ y.cps.toList := by
  show (x.cps ++ y.cps).toList = _
  simp
def joinL (c : Nat) : List (List Nat) → List Nat
  | [] => []
  | [x] => x
  | x :: y :: r => x ++ c :: joinL c (y :: r)
theorem join_cps (c : Nat) : ∀ ps : List Str, (Str.join ⟨#[c]⟩ ps).cps.toList = joinL c (ps.map fun p => p.cps.toList)
  | [] => rfl
  | [x] => rfl
  | x :: y :: r => by
    show (x ++ ⟨#[c]⟩ ++ Str.join ⟨#[c]⟩ (y :: r)).cps.toList = x.cps.toList ++ c :: joinL c ((y :: r).map fun p => p.cps.toList)
    rw [cps_app, cps_app, join_cps c (y :: r)]
    simp
theorem app_inj {c : Nat} : ∀ {a b r s : List Nat}, c ∉ a → c ∉ b → a ++ c :: r = b ++ c :: s → a = b ∧ r = s
  | [], [], r, s, _, _, h => ⟨rfl, by simpa using h⟩
  | [], y :: b, r, s, _, hb, h => by
    simp at h
    exact absurd (by simp [h.1]) hb
  | x :: a, [], r, s, ha, _, h => by
    simp at h
    exact absurd (by simp [h.1]) ha
  | x :: a, y :: b, r, s, ha, hb, h => by
    simp only [List.cons_append, List.cons.injEq] at h
    obtain ⟨e1, e2⟩ := app_inj (fun z => ha (List.mem_cons_of_mem _ z)) (fun z => hb (List.mem_cons_of_mem _ z)) h.2
    exact ⟨by rw [h.1, e1], e2⟩
theorem joinL_inj {c : Nat} : ∀ {ps qs : List (List Nat)}, ps ≠ [] → qs ≠ [] → (∀ p ∈ ps, c ∉ p) → (∀ q ∈ qs, c ∉ q) → joinL c ps = joinL c qs → ps = qs
  | [], _, h, _, _, _, _ => absurd rfl h
  | _ :: _, [], _, h, _, _, _ => absurd rfl h
  | [x], [y], _, _, _, _, h => by simp only [joinL] at h; rw [h]
  | [x], y :: z :: r, _, _, hx, _, h => by
    simp only [joinL] at h
    exact absurd (by rw [h]; simp) (hx x (by simp))
  | x :: z :: r, [y], _, _, _, hy, h => by
    simp only [joinL] at h
    exact absurd (by rw [← h]; simp) (hy y (by simp))
  | x :: x2 :: r, y :: y2 :: s, _, _, hx, hy, h => by
    simp only [joinL] at h
    obtain ⟨e1, e2⟩ := app_inj (hx x (by simp)) (hy y (by simp)) h
    have := joinL_inj (ps := x2 :: r) (qs := y2 :: s) (by simp) (by simp) (fun p hp => hx p (List.mem_cons_of_mem _ hp)) (fun q hq => hy q (List.mem_cons_of_mem _ hq)) e2
    rw [e1, this]
/-- what was joined is parted again -/
theorem split_join {c : Nat} {ps : List Str} (hn : ps ≠ []) (hf : ∀ p ∈ ps, c ∉ p.cps.toList) : PySem.Txt.split (Str.join ⟨#[c]⟩ ps) ⟨#[c]⟩ = ps := by
  have h1 := PySem.StrLaws.join_split (Str.join ⟨#[c]⟩ ps) ⟨#[c]⟩
  have h2 := PySem.StrLaws.split_free (Str.join ⟨#[c]⟩ ps) c
  have h3 := PyProof.Rows.split_pos (Str.join ⟨#[c]⟩ ps) ⟨#[c]⟩
  generalize PySem.Txt.split (Str.join ⟨#[c]⟩ ps) ⟨#[c]⟩ = qs at h1 h2 h3
  have h4 := congrArg (fun x : Str => x.cps.toList) h1
  simp only [join_cps] at h4
  have inj : ∀ {a b : List Str}, (a.map fun p => p.cps.toList) = (b.map fun p => p.cps.toList) → a = b := by
    intro a
    induction a with
    | nil => intro b h; cases b with
      | nil => rfl
      | cons _ _ => cases h
    | cons x r ih => 
      intro b h
      cases b with
      | nil => cases h
      | cons y s =>
        simp only [List.map_cons, List.cons.injEq] at h
        rw [str_ext h.1, ih h.2]
  refine inj (joinL_inj (c := c) ?_ ?_ ?_ ?_ h4)
  · intro z
    have := congrArg List.length z
    simp at this
    rw [this] at h3
    simp at h3
  · intro z
    have := congrArg List.length z
    simp at this
    exact hn this
  · intro p hp
    obtain ⟨q, hq, rfl⟩ := List.mem_map.mp hp
    exact h2 q hq
  · intro p hp
    obtain ⟨q, hq, rfl⟩ := List.mem_map.mp hp
    exact hf q hq
/-- one sign in the place of another -/
def subL (c d : Nat) (l : List Nat) : List Nat := l.map fun x => if x = c then d else x
theorem subL_free {c d : Nat} : ∀ {l : List Nat}, c ∉ l → subL c d l = l
  | [], _ => rfl
  | x :: r, h => by
    unfold subL
    rw [List.map_cons, if_neg (fun z => h (by simp [z]))]
    congr 1
    exact subL_free fun z => h (List.mem_cons_of_mem _ z)
theorem subL_join {c d : Nat} : ∀ {ps : List (List Nat)}, (∀ p ∈ ps, c ∉ p) → subL c d (joinL c ps) = joinL d ps
  | [], _ => rfl
  | [x], h => subL_free (h x (by simp))
  | x :: y :: r, h => by
    simp only [joinL]
    have e1 : subL c d (x ++ c :: joinL c (y :: r)) = subL c d x ++ d :: subL c d (joinL c (y :: r)) := by simp [subL]
    rw [e1, subL_free (h x (by simp)), subL_join (ps := y :: r) fun p hp => h p (List.mem_cons_of_mem _ hp)]
theorem replace_cps (x : Str) (c d : Nat) : (PySem.Txt.replace x ⟨#[c]⟩ ⟨#[d]⟩).cps.toList = subL c d x.cps.toList := by
  rw [PySem.StrLaws.replace_one, join_cps]
  have h1 := congrArg (fun x : Str => x.cps.toList) (PySem.StrLaws.join_split x ⟨#[c]⟩)
  simp only [join_cps] at h1
  conv => rhs; rw [← h1]
  rw [subL_join]
  intro p hp
  obtain ⟨q, hq, rfl⟩ := List.mem_map.mp hp
  exact PySem.StrLaws.split_free x c q hq
theorem subL_back {c d : Nat} {l : List Nat} (h : d ∉ l) : subL d c (subL c d l) = l := by
  induction l with
  | nil => rfl
  | cons x r ih =>
    have hx : x ≠ d := fun z => h (by simp [z])
    have ih' := ih fun z => h (List.mem_cons_of_mem _ z)
    unfold subL at *
    simp only [List.map_cons]
    rw [ih']
    by_cases e : x = c
    · subst e; simp
    · rw [if_neg e, if_neg hx]
end L2
namespace L2
open PySem PySem.Spec PyProof.Rows
theorem thnE {α : Type} {t : Sem α} {Q Q' : α → Shared → Prop} {M : Model} {A : Around} {E E' : Value → Shared → Prop} {s : Shared} (h : wpAny M A t Q E s) (hQ : ∀ a s, Q a s → Q' a s) (hE : ∀ a s, E a s → E' a s) : wpAny M A t Q' E' s := wpAny_mono h hQ hE
section
variable {X : Cx} {o e : Expr} {to te : TE} {apos cpos pos p1 p2 p3 p4 p5 : Pos} {j1 j2 j3 : Nat}
/-- what x.replace(y, z) asks, y and z written and unlike -/
def rRepl (y z : Str) : V → Hp → VK → Prop := fun x H Q => ∃ a : Str, x = .str a ∧ a.length + (a.length + 1) * z.length ≤ 16777216 ∧ Q (.str (PySem.Txt.replace a y z)) H
theorem repl_core {y z : Str} (hyz : (y == z) = false) {pins : List (Addr × Obj)} {s : Shared} {σ : St} {H : Hp} {Q : VK} (I : Inv X pins σ H s)
    (ho : wpAny (model X.prog X.w) X.A (eval o X.env) (fun u s' => 1 ≤ s'.toks ∧ EP X pins σ (fun x H1 => rRepl y z x H1 Q) u s') X.xe s)
    (hbase : attributeBase o "replace" X.env (eval o X.env) = eval o X.env := by rfl) (hline : (apos.endLine == cpos.line) = true := by rfl) :
    wpAny (model X.prog X.w) X.A (eval (.Call (.Attribute o "replace" apos) [.Constant (.str y) j1 p1, .Constant (.str z) j2 p2] [] cpos) X.env) (EP X pins σ Q) X.xe s := by
  refine wpAny_Call_method_late hbase rfl hline rfl (thn ho fun v s1 ⟨hk, x, H1, I1, r1, q1⟩ => ?_)
  obtain ⟨a, rfl, hz, q⟩ := q1
  obtain ⟨t, rfl⟩ := r1
  refine ⟨"str", "str.replace", F.plainAttrs_str, F.slot_str_replace, F.type_str_replace, typeIs_str _ _ _, (fun _ e => nomatch e), ?_⟩
  refine Calls.callWith_builtin rfl (Calls.evalArgs_plain ?_)
  refine Calls.spliced_cons (Calls.Constant_str (k := j1) (pos := p1) (Calls.spliced_cons (Calls.Constant_str (k := j2) (pos := p2) (Calls.spliced_nil ?_))))
  exact SC.replace (u := s1.toks) (v := s1.toks + 1) (Nat.ne_of_gt hk) (Nat.succ_ne_zero _) ns1 hyz hz fun t' k => ⟨.str _, H1, I1.tok _, ⟨t', rfl⟩, q⟩
/-- e[k:].replace(y, z) -/
theorem pe_repl_sl {y z : Str} {k : Int} (hyz : (y == z) = false) (he : PE X e te)
    (hbase : attributeBase (.Subscript e (.Slice (some (.Constant (.int k) j3 p4)) none none p3) p5) "replace" X.env (eval (.Subscript e (.Slice (some (.Constant (.int k) j3 p4)) none none p3) p5) X.env) = eval (.Subscript e (.Slice (some (.Constant (.int k) j3 p4)) none none p3) p5) X.env := by rfl)
    (hline : (apos.endLine == cpos.line) = true := by rfl) :
    PE X (.Call (.Attribute (.Subscript e (.Slice (some (.Constant (.int k) j3 p4)) none none p3) p5) "replace" apos) [.Constant (.str y) j1 p1, .Constant (.str z) j2 p2] [] cpos) (fun σ H Q => te σ H fun x H1 => ∃ w : Str, x = .str w ∧ w.length ≤ sizeLine ∧ rRepl y z (.str (PySem.Txt.slice w (some k) none)) H1 Q) := by
  intro pins s σ H Q I h
  refine repl_core hyz I ?_ hbase hline
  refine Subscript_ (thn (he pins s σ H _ I h) fun v s1 ⟨x, H1, I1, r1, w, hx, hw, q1⟩ => ?_)
  subst hx
  obtain ⟨t, rfl⟩ := r1
  refine wpAny_Slice ?_
  rw [evalPart_some]
  refine wpAny_Constant_int ?_
  rw [evalPart_none]
  refine wpAny_pure ?_
  refine wpAny_pure ?_
  have I2 : Inv X pins σ H1 { s1 with toks := s1.toks + 1 } := I1.tok _
  have I4 : Inv X pins σ H1 { s1 with toks := s1.toks + 1, heap := s1.heap.push { cls := .type "slice", data := .fields #[.int k s1.toks, .none, .none] } } := I2.kept (t' := s1.toks + 1) fun b ob q => Heap.get?_push_of_some _ q
  obtain ⟨T, id, hT, ht, hg⟩ := sl_str (X := X) pins { s1 with toks := s1.toks + 1, heap := s1.heap.push { cls := .type "slice", data := .fields #[.int k s1.toks, .none, .none] } } σ H1 (.str w) (.str w t) (.int k s1.toks) .none (some k) none s1.heap.objs.size (fun x H1 => rRepl y z x H1 Q) I4 ⟨t, rfl⟩ (Heap.IsSliceOf.new ..) (.int k _) .none ⟨w, rfl, hw, q1⟩
  have fin := tail_any (value := e) (slice := .Slice (some (.Constant (.int k) j3 p4)) none none p3) (ops := [.ref s1.heap.objs.size, .str w t]) ht hT hg (by with_unfolding_all rfl)
  exact thnE (wpAny_toks_of (n := 1) (show 1 ≤ s1.toks + 1 by omega) fin) (fun _ _ q => q) fun _ _ q => q.2
/-- q + o.replace(y, z), q written -/
theorem pe_add_repl {q y z : Str} (hyz : (y == z) = false) (ho : PE X o to) (hbase : attributeBase o "replace" X.env (eval o X.env) = eval o X.env := by rfl) (hline : (apos.endLine == cpos.line) = true := by rfl) :
    PE X (.BinOp (.Constant (.str q) j3 p3) .Add (.Call (.Attribute o "replace" apos) [.Constant (.str y) j1 p1, .Constant (.str z) j2 p2] [] cpos) pos)
      (fun σ H Q => to σ H fun x H1 => rRepl y z x H1 fun v H2 => ∃ b : Str, v = .str b ∧ q.length + b.length ≤ sizeLine ∧ Q (.str (q ++ b)) H2) := by
  intro pins s σ H Q I h
  refine wpAny_BinOp (Calls.Constant_str ?_)
  have I2 : Inv X pins σ H { s with toks := s.toks + 1 } := I.tok _
  refine thn (repl_core (j1 := j1) (j2 := j2) (p1 := p1) (p2 := p2) (apos := apos) (cpos := cpos) hyz I2 (Q := fun v H2 => ∃ b : Str, v = .str b ∧ q.length + b.length ≤ sizeLine ∧ Q (.str (q ++ b)) H2)
    (thnE (wpAny_toks_of (n := 1) (show 1 ≤ s.toks + 1 by omega) (ho pins _ σ H _ I2 h)) (fun _ _ q => q) fun _ _ q => q.2) hbase hline) fun u s2 ⟨x, H2, I3, r, b, hx, hz, q2⟩ => ?_
  subst hx
  obtain ⟨t, rfl⟩ := r
  exact add_str (fun t' tk => ⟨.str (q ++ b), H2, I3.tok _, ⟨_, rfl⟩, q2⟩) hz
end
end L2
namespace L2
open PySem PySem.Spec PyProof.Rows
section
variable {X : Cx}
/-- a module's constant that is known up to its token -/
theorem pe_globE {x : Str} {v : V} {pos : Pos} (hg : Gl X x) (h : ∃ u, X.mg x = some u ∧ RelV v u) (hd : (x == ("__debug__" : Str)) = false := by decide) : PE X (.Name x pos) (tC v) := by
  obtain ⟨u, e, r⟩ := h
  exact pe_glob hg e r hd
/-- for x in a text, by what holds -/
theorem comp_str {caps : List (Str × Nat)} {z : Str} {te : TE} {σ : St} {H : Hp} {Q : VK} (Pv : Nat → List V → Hp → Prop) (h0 : Pv 0 [] H) (hn : z.length < sizeLine)
    (hs : ∀ i c ys H, z.cps.toList[i]? = some c → ys.length = i → Pv i ys H → te (capV caps σ ++ [some (.str ⟨#[c]⟩)]) H fun y H2 => ∃ m', m' < z.length - i ∧ m' = z.length - (i + 1) ∧ i + 1 ≤ z.length ∧ (ys ++ [y]).length = i + 1 ∧ Pv (i + 1) (ys ++ [y]) H2) (hd : ∀ ys H, ys.length = z.length → Pv z.length ys H → ∀ D, H D = none → Q (.ref D) (upd H D (.lst ys))) :
    CompW (Its z) caps te σ H Q := by
  refine ⟨fun i m ys H => m = z.length - i ∧ i ≤ z.length ∧ ys.length = i ∧ Pv i ys H, ⟨z.length, by simp, Nat.zero_le _, rfl, h0⟩, ?_⟩
  rintro i m ys H ⟨rfl, hi, hl, p⟩
  by_cases hlt : i < z.length
  · refine .inr ⟨hlt, by omega, fun x H' y => ?_⟩
    obtain ⟨e, c, e1, rfl⟩ := y
    subst e
    exact hs i c ys _ e1 hl p
  · have e : i = z.length := by omega
    subst e
    exact .inl ⟨Nat.le_refl _, hd ys H hl p⟩
theorem forW_enum {K : PySem.W.Frag} {a : Addr} {xs : List V} {g : TG} {tb : TS} {D : Ends} {σ : St} {H : Hp} (Pv : Nat → St → Hp → Prop) (h0 : Pv 0 σ H) (hl : ∀ i σ H, i ≤ xs.length → Pv i σ H → SqL K H a xs)
    (hs : ∀ i x p σ H, xs[i]? = some x → H p = none → Pv i σ H → g (.ref p) σ (upd H p (.tup [.int i, x])) fun σ2 H2 => tb { D with nx := Pv (i + 1), ct := Pv (i + 1), bk := D.nx } σ2 H2) (hd : ∀ σ H, Pv xs.length σ H → D.nx σ H) : ForW (Ite K a) g tb D σ H := by
  refine ⟨fun i m σ H => m = xs.length - i ∧ i ≤ xs.length ∧ Pv i σ H, ⟨xs.length, by simp, Nat.zero_le _, h0⟩, ?_⟩
  rintro i m σ H ⟨rfl, hi, p⟩
  have q := hl i σ H hi p
  by_cases hlt : i < xs.length
  · refine .inr ⟨⟨xs, xs[i], q, by simp [hlt]⟩, Pv (i + 1), fun σ' H' p' => ⟨xs.length - (i + 1), by omega, rfl, hlt, p'⟩, fun x H' y => ?_⟩
    obtain ⟨pp, v, h1, rfl, rfl, h2⟩ := y
    exact hs i v pp σ H (h2 xs q) h1 p
  · have e : i = xs.length := by omega
    subst e
    exact .inl ⟨⟨xs, q, Nat.le_refl _⟩, hd σ H p⟩
end
/-- all that was tracked is as it was, but at p -/
def Adv (H H' : Hp) (p : Addr) : Prop := ∀ b o, H b = some o → b ≠ p → H' b = some o
theorem Adv.trans {H H1 H2 : Hp} {p : Addr} (a : Adv H H1 p) (b : Adv H1 H2 p) : Adv H H2 p := fun c o h n => b c o (a c o h n) n
theorem Adv.same {H H1 H2 : Hp} {p : Addr} (a : Adv H H1 p) (b : Same H1 H2) : Adv H H2 p := fun c o h n => b c o (a c o h n)
theorem Same.adv {H H1 H2 : Hp} {p : Addr} (a : Same H H1) (b : Adv H1 H2 p) : Adv H H2 p := fun c o h n => b c o (a c o h) n
theorem Adv.upd {H : Hp} {p : Addr} {o : HO} : Adv H (L2.upd H p o) p := fun b u h n => by rw [upd_ne n]; exact h
end L2
namespace L2
open PySem PySem.Spec PyProof.Rows
section
variable {X : Cx}
theorem pe_fldK {K : PySem.W.Frag} {e : Expr} {ta : TE} {f : Str} {pos : Pos} (he : PE X e ta) (hb : attributeBase e f X.env (eval e X.env) = eval e X.env) (hK : X.K = K := by rfl) : PE X (.Attribute e f pos) (tFld K ta f) := by
  subst hK; exact pe_fld he hb
theorem ix_tupK {K : PySem.W.Frag} (hK : X.K = K) : IxR X (rIxT K) := by subst hK; exact ix_tup
end
end L2
namespace L2
open PySem PySem.Spec PyProof.Rows
section
variable {X : Cx}
def strsOf : List Expr → Option (List Str)
  | [] => some []
  | e :: r => match e with
    | .Constant (.str x) _ _ => (strsOf r).map (x :: ·)
    | _ => none
theorem pa_strs : ∀ {es : List Expr} {xs : List Str}, strsOf es = some xs → PA X es (fun _ H Q => Q (xs.map V.str) H)
  | [], xs, h => by
    have e : xs = [] := (Option.some.inj h).symm
    subst e
    exact pa_nil
  | e :: r, xs, h => by
    unfold strsOf at h
    split at h
    · rename_i x j p
      obtain ⟨ys, h1, h2⟩ := Option.map_eq_some_iff.mp h
      subst h2
      exact pa_cons (te := tC (.str x)) (t := fun _ H Q => Q (ys.map V.str) H) pe_str (pa_strs h1) rfl
    · cases h
end
end L2
namespace L2
open PySem PySem.Spec PyProof.Rows
section
variable {X : Cx} {pins : List (Addr × Obj)} {σ : St} {H : Hp} {s : Shared}
def PlainV (xs ys : List V) : Prop := ∀ x ∈ xs, ∀ y ∈ ys, flatV x = true ∧ flatV y = true ∧ eqV x y = decide (x = y)
theorem plain_items {xs ys : List V} {is js : List Value} {A : Around} (p : PlainV xs ys) (r1 : Vals xs is) (r2 : Vals ys js) :
    ∀ j (h1 : j < is.toArray.size) (h2 : j < js.toArray.size), SeqAt.EqAt A s is.toArray[j] js.toArray[j] ((fun j => decide (xs[j]? = ys[j]?)) j) := by
  intro j h1 h2
  have l1 := r1.length
  have l2 := r2.length
  have j1 : j < xs.length := by simpa [l1] using h1
  have j2 : j < ys.length := by simpa [l2] using h2
  have e1 := List.getElem?_eq_getElem j1
  have e2 := List.getElem?_eq_getElem j2
  obtain ⟨u1, g1, q1⟩ := r1.get e1
  obtain ⟨u2, g2, q2⟩ := r2.get e2
  have g1' : is.toArray[j] = u1 := by simpa [List.getElem?_eq_some_iff] using (List.getElem?_eq_some_iff.mp g1).2
  have g2' : js.toArray[j] = u2 := by simpa [List.getElem?_eq_some_iff] using (List.getElem?_eq_some_iff.mp g2).2
  rw [g1', g2']
  obtain ⟨f1, f2, f3⟩ := p _ (List.getElem_mem j1) _ (List.getElem_mem j2)
  have := eqAt_V (A := A) (s := s) q1 q2 f1 f2
  rw [f3] at this
  have e : decide (xs[j]? = ys[j]?) = decide (xs[j] = ys[j]) := by rw [e1, e2]; simp
  show SeqAt.EqAt A s u1 u2 (decide (xs[j]? = ys[j]?))
  rw [e]
  exact this
theorem all_same {xs ys : List V} (h : xs.length = ys.length) : ((List.range xs.length).all fun j => decide (xs[j]? = ys[j]?)) = decide (xs = ys) := by
  rw [Bool.eq_iff_iff, List.all_eq_true, decide_eq_true_eq]
  constructor
  · intro z
    refine List.ext_getElem? fun j => ?_
    by_cases hj : j < xs.length
    · simpa using z j (List.mem_range.mpr hj)
    · rw [List.getElem?_eq_none (by omega), List.getElem?_eq_none (by omega)]
  · intro z j _
    rw [z]; simp
def rNeLs (K : PySem.W.Frag) : R2 := fun x y H Q => ∃ a b xs ys, x = .ref a ∧ y = .ref b ∧ SqL K H a xs ∧ SqL K H b ys ∧ PlainV xs ys ∧ Q (.bl (!decide (xs = ys))) H
theorem op_neLs (hu : X.A.units < cLine) : OpR X (compareOp .NotEq) (rNeLs X.K) := by
  intro pins s σ H x y v u Q I rx ry h
  obtain ⟨a, b, xs, ys, rfl, rfl, ha, hb, hp, q⟩ := h
  cases rx
  cases ry
  obtain ⟨is, r1, p1, _⟩ := I.list ha
  obtain ⟨js, r2, p2, _⟩ := I.list hb
  obtain ⟨o1, n1, e1, c1, _, d1⟩ := p1
  obtain ⟨o2, n2, e2, c2, _, d2⟩ := p2
  have l1 := r1.length
  have l2 := r2.length
  by_cases hl : xs.length = ys.length
  · refine PySem.SeqAt.RcNeAt.lists (e := fun j => decide (xs[j]? = ys[j]?)) ⟨o1, e1, c1, n1, d1⟩ ⟨o2, e2, c2, n2, d2⟩ (by simp [← l1, ← l2, hl]) hu (plain_items hp r1 r2) _ _ _ _ ?_
    have z : is.toArray.size = xs.length := by simp [← l1]
    rw [z, all_same hl]
    exact ⟨.bl _, H, I, rfl, q⟩
  · refine PySem.SeqAt.RcNeAt.lists_lengths ⟨o1, e1, c1, n1, d1⟩ ⟨o2, e2, c2, n2, d2⟩ (by simpa [← l1, ← l2] using hl) hu _ _ _ _ ?_
    rw [decide_eq_false (fun z => hl (by rw [z]))] at q
    exact ⟨.bl true, H, I, rfl, q⟩
end
end L2
namespace L2
open PySem PySem.Spec PyProof.Rows
/-- the loop of a comprehension with a test -/
theorem compIfLoop_go {prog : Program} {w : World} {A : Around} {R : Result → Shared → Prop} {s : Shared} {elt target iter c : Expr} {scope : Scope} {pos : Pos} {it acc : Value} {env : Env} (J : Nat → Shared → Prop)
    (turn : ∀ n s, J n s → wpAny (model prog w) A (pyNext it) (fun r s₁ => match r with
      | none => R (.ok .next) s₁
      | some v => wpAny (model prog w) A (letOwnedTupleGo target it v) (fun _ s₁ => wpAny (model prog w) A (assign target env v) (fun _ s₂ => wpAny (model prog w) A (isTrue c env (eval c env)) (fun ok s₂ => if ok = true then wpAny (model prog w) A (eval elt env) (fun x s₃ =>
          wpAny (model prog w) A (call (.builtin "list.append") [acc, x]) (fun _ s₄ => ∃ m, m < n ∧ J m s₄) (fun _ _ => False) s₃)
          (fun _ _ => False) s₂ else ∃ m, m < n ∧ J m s₂) (fun _ _ => False) s₂) (fun _ _ => False) s₁) (fun _ _ => False) s₁) (fun _ _ => False) s)
    (n : Nat) (h : J n s) :
    codeAny (model prog w) A (.compLoop (.ListComp elt [⟨target, iter, [c], 0⟩] scope pos) 0 it acc env) R s := by
  refine codeAny_loop rfl J (fun n s hI => ?_) n h
  show wpAny _ _ ((compTurn (.ListComp elt [⟨target, iter, [c], 0⟩] scope pos) 0 it acc env).onRaise (fun x => do noteFrame x env; theTreesLotGoes x)) _ _ s
  refine wpAny_noted ?_
  rw [compTurn_list]
  refine wpAny_bind (wpAny_standAt (wpAny_bind (wpAny_mono (turn n s hI) (fun r s₁ h₁ => ?_) fun _ _ h' => h'.elim)))
  cases r with
  | none => exact wpAny_pure h₁
  | some v =>
    refine wpAny_bind (wpAny_mono h₁ (fun _ s₁' h₁ => ?_) fun _ _ h' => h'.elim)
    refine wpAny_bind (wpAny_mono h₁ (fun _ s₂ h₂ => wpAny_bind (wpAny_tests_one (wpAny_mono h₂ (fun ok s₃ h₃ => ?_) fun _ _ h' => h'.elim))) fun _ _ h' => h'.elim)
    cases ok with
    | false =>
      rw [if_neg (by decide)] at h₃
      exact wpAny_pure ⟨rfl, h₃⟩
    | true =>
      rw [if_pos rfl] at h₃
      refine wpAny_bind (wpAny_bind (wpAny_mono h₃ (fun x s₃ h₃ => wpAny_bind (wpAny_mono h₃
        (fun _ s₄ h₄ => wpAny_pure (wpAny_pure ⟨rfl, h₄⟩)) fun _ _ h' => h'.elim)) fun _ _ h' => h'.elim))
section
variable {X : Cx}
def CompIfW (J : It) (caps : List (Str × Nat)) (tt : TT) (te : TE) (σ : St) (H1 : Hp) (Q : VK) : Prop := ∃ W : Nat → Nat → List V → Hp → Prop, (∃ m, W 0 m [] H1) ∧ ∀ i m ys H, W i m ys H →
  (J.stop i H ∧ ∀ D, H D = none → Q (.ref D) (upd H D (.lst ys))) ∨ (J.go i H ∧ ys.length < sizeLine ∧ ∀ x H', J.yld i H x H' → tt (capV caps σ ++ [some x]) H' fun b H2 => if b = true then te (capV caps σ ++ [some x]) H2 fun y H3 => ∃ m', m' < m ∧ W (i + 1) m' (ys ++ [y]) H3 else ∃ m', m' < m ∧ W (i + 1) m' ys H2)
def tCompIf (caps : List (Str × Nat)) (wi : TI) (tt : TT) (te : TE) : TE := fun σ H Q => wi σ H fun J H1 => CompIfW J caps tt te σ H1 Q
theorem pe_compIf {sc csc : Scope} {N : List Str} {elt iter c : Expr} {x : Str} {px pos : Pos} {caps : List (Str × Nat)} {wi : TI} {te : TE} {tt : TT} (ck : CompOk sc csc N x caps) (hi : PI X (.Name x px) iter wi)
    (ht : ∀ C s2 H2 fp, PT (compCx X (caps.map (·.1) ++ [x]) csc C s2 H2 fp) c tt) (he : ∀ C s2 H2 fp, PE (compCx X (caps.map (·.1) ++ [x]) csc C s2 H2 fp) elt te) (hc : X.calm = true := by rfl) (hsc : X.env.scope = sc := by rfl) (hXN : X.N = N := by rfl) (hs : ∀ x, foldedSetIterable iter X.env x = pure x := by intro _; rfl) :
    PE X (.ListComp elt [⟨.Name x px, iter, [c], 0⟩] csc pos) (tCompIf caps wi tt te) := by
  subst hsc hXN
  intro pins s σ H Q I h
  rw [eval_ListComp]
  have cellsOk : ∀ p ∈ csc.names, p.2 = .free → ∃ c, X.env.cells.lookup p.1 = some c := fun p hp e => I.ok.has p.1 (.inl (ck.free p hp e))
  refine wpAny_comprehension_free (use := none) rfl hs (closureFor_eq cellsOk) ck.kind ck.loc (thn (hi pins s σ H _ I h) fun v s1 h1 => thn h1 fun itv s2 h2 => ?_)
  obtain ⟨it, fp, tn, J, H2, e, I2, T, st2, f2, W, ⟨m0, w0⟩, turn⟩ := h2
  subst e
  refine wpAny_newObj_type (wpAny_newFunctionEnv ck.cell (by intro y hy; simp at hy) (fun h4 hns4 hsb4 => ?_) ck.kind)
  dsimp only at hns4 hsb4 ⊢
  generalize hD : s2.heap.objs.size = D at hns4 hsb4 ⊢
  generalize hH2 : s2.heap.push { cls := .type "list", dict := none, data := .seq ([] : List Value).toArray } = G at hns4 hsb4 ⊢
  have hGs : G.objs.size = D + 1 := by rw [← hH2, Heap.size_push, hD]
  rw [hGs] at hns4 hsb4 ⊢
  have lt2 : ∀ b o, s2.heap.get? b = some o → b < D := fun b o e => hD ▸ Heap.lt_size e
  have old : ∀ b o, s2.heap.get? b = some o → b ≠ D + 1 ∧ b ≠ D := fun b o e => ⟨nlt1 (lt2 b o e), nlt (lt2 b o e)⟩
  have leD : s2.heap.objs.size ≤ D := Nat.le_of_eq hD
  have leD1 : s2.heap.objs.size ≤ D + 1 := Nat.le_succ_of_le leD
  have keep4 : ∀ b o, s2.heap.get? b = some o → h4.get? b = some o := fun b o e => hsb4.extBut b o (old b o e).1 (Heap.get?_push_of_some _ (hH2 ▸ Heap.get?_push_of_some _ e))
  have hDo : h4.get? D = some { cls := .type "list", data := .seq ([] : List Value).toArray 0 } := by
    refine hsb4.extBut D _ ns1 (Heap.get?_push_of_some _ ?_)
    rw [← hH2, ← hD]
    exact Heap.get?_push_size _ rfl
  have fps : ∀ b ∈ fp, b < s2.heap.objs.size := fun b hb => by
    obtain ⟨o, e, _⟩ := T.obj _ _ st2 b hb
    exact Heap.lt_size e
  have I4 : ∀ t4, Inv (compCx X (caps.map (·.1) ++ [x]) csc (D + 1) s2 H2 fp) [] (capV caps σ ++ [none]) H2 { s2 with heap := h4, toks := t4 } := fun t4 => comp_start (m0 := fun x => [].reverse.lookup x) I2 ck f2 fps leD1 keep4 hns4
  have cellsLt : ∀ y c, (clFold X.env csc.names []).lookup y = some c → c < D := fun y c e => by
    obtain ⟨v, o, ho, _⟩ := I2.cell y c (clFold_in _ _ cellsOk (fun y c h => by simp at h) y c e)
    exact lt2 c o ho
  have fsLt : ∀ b ∈ frs X.stack, b < D := fun b hb => by
    obtain ⟨_, o, ho, _⟩ := I2.stack.mem hb
    exact lt2 b o ho
  -- the iterator's objects within the block
  have fpC : ∀ {pl : List (Addr × Obj)} {H' : Hp}, (∀ p ∈ pl, p.1 = D) → (∀ b ∈ fp, H' b = none) → ∀ b ∈ fp, FpOk (compCx X (caps.map (·.1) ++ [x]) csc (D + 1) s2 H2 fp) pl H' b := fun {pl H'} hpl hn b hb => by
    have hb' : b < D := hD ▸ fps b hb
    refine ⟨hn b hb, nlt1 hb', ?_, .inl hb, fun y c e => ?_, fun p hp => ?_⟩
    · intro z
      rcases List.mem_cons.mp (I2.stkSub b z) with e | e
      · exact (f2 b hb).2.1 e
      · exact (f2 b hb).2.2.1 e
    · exact (f2 b hb).2.2.2.2.1 y c (clFold_in _ _ cellsOk (fun y c h => by simp at h) y c e)
    · have : p.1 = D := hpl p (by simpa using hp)
      rw [this]; exact fun z => nlt hb' z.symm
  have loop : ∀ t4, codeAny (model X.prog X.w) X.A (.compLoop (.ListComp elt [⟨.Name x px, iter, [c], 0⟩] csc pos) 0 (.ref it) (.ref D) (compEnvC csc (clFold X.env csc.names []) (D + 1) X.env))
      (compPost (model X.prog X.w) X.A X.xe none (EP X pins σ Q) (.ref D) (D + 1)) { s2 with heap := h4, toks := t4 } := by
    intro t4
    refine compIfLoop_go (fun n s' => ∃ (i : Nat) (ys : List V) (its : List Value) (k : Nat) (σ' : St) (H' : Hp), Inv (compCx X (caps.map (·.1) ++ [x]) csc (D + 1) s2 H2 fp) [(D, { cls := .type "list", data := .seq its.toArray k })] σ' H' s' ∧ tn i s'.heap ∧ (∀ b ∈ fp, H' b = none) ∧ Vals ys its ∧ ys.length ≤ sizeLine ∧ W i n ys H' ∧ (∃ z, σ' = capV caps σ ++ [z])) ?_ m0 ?_
    · rintro n s3 ⟨i, ys, its, k, σ3, H3, I3, st3, fr3, hv, hz, w3, z3, rfl⟩
      have pl1 : ∀ p ∈ [((D, { cls := .type "list", data := .seq its.toArray k }) : Addr × Obj)], p.1 = D := fun p hp => by rw [List.mem_singleton.mp hp]
      rcases turn i n ys H3 w3 with ⟨stop, qn⟩ | ⟨go, hlt, step⟩
      · refine wpAny_mono (T.done (compCx X (caps.map (·.1) ++ [x]) csc (D + 1) s2 H2 fp) rfl rfl rfl hc i _ s3 _ H3 (fun _ _ => False) I3 (fpC pl1 fr3) st3 stop) (fun r s4 ⟨hr, I4'⟩ => ?_) fun _ _ f => f.elim
        subst hr
        obtain ⟨m, hn, _⟩ := id I4'.loc
        have pD := I4'.pin (D, { cls := .type "list", data := .seq its.toArray k }) (by simp)
        refine ⟨m, hn, fun h' hs' => ⟨.ref D, _, comp_done I2 I4' f2 leD1 leD ns1 hs' hv hz pD.1 pD.2.1, rfl, qn D pD.2.1⟩⟩
      · refine wpAny_mono (T.item (compCx X (caps.map (·.1) ++ [x]) csc (D + 1) s2 H2 fp) rfl rfl rfl hc i _ s3 _ H3 (fun _ _ => False) I3 (fpC pl1 fr3) st3 go) (fun r s4 ⟨u, hr, h4'⟩ => ?_) fun _ _ f => f.elim
        subst hr
        refine wpAny_mono h4' (fun _ s4 ⟨xv, H5, I5, r5, y5, st5, fr5⟩ => ?_) fun _ _ f => f.elim
        have I5' := I5.pinned (fpC pl1 fr5) (T.obj _ _ st5)
        have hiN : (caps.map (·.1) ++ [x])[caps.length]? = some x := by rw [List.getElem?_append_right (by simp)]; simp
        refine wpAny_mono (pg_name (X := compCx X (caps.map (·.1) ++ [x]) csc (D + 1) s2 H2 fp) (i := caps.length) ck.nd hiN (.inl (lookup_relabel_local ck.tg)) (.inr (lookup_relabel_local ck.tg)) _ s4 _ H5 xv u _ I5' r5 (show gName caps.length xv _ H5 (fun σ6 H6 => σ6 = capV caps σ ++ [some xv] ∧ H6 = H5) from ⟨?_, rfl⟩)) (fun _ s6 ⟨σ6, H6, I6, hσ, hH⟩ => ?_) fun _ _ f => f.elim
        · rw [List.set_append_right _ _ (by rw [capV_len]; exact Nat.le_refl _), capV_len, Nat.sub_self]; rfl
        subst hσ hH
        refine wpAny_mono (ht (D + 1) s2 H2 fp _ s6 _ H6 _ I6 (step xv H6 y5)) (fun ok s6 ⟨H6, I6, q6⟩ => ?_) fun _ _ f => f.elim
        cases ok with
        | false =>
          rw [if_neg (by decide)] at q6 ⊢
          obtain ⟨m', hm, w8⟩ := q6
          have pD := I6.pin (D, { cls := .type "list", data := .seq its.toArray k }) (by simp)
          refine ⟨m', hm, i + 1, ys, its, k, _, H6, I6.pins_of fun p hp => ?_, T.keep _ _ _ st5 fun b hb o e => (I6.pin (b, o) (List.mem_append_right _ (List.mem_append_right _ (mem_pinsAt hb e)))).1, fun b hb => ?_, hv, hz, w8, _, rfl⟩
          · rw [List.mem_singleton.mp hp]; exact pD
          · obtain ⟨o, e, d⟩ := T.obj _ _ st5 b hb
            exact (I6.pin (b, o) (List.mem_append_right _ (List.mem_append_right _ (mem_pinsAt hb e)))).2.1
        | true =>
        rw [if_pos rfl] at q6 ⊢
        refine wpAny_mono (he (D + 1) s2 H2 fp _ s6 _ H6 _ I6 q6) (fun w7 s7 ⟨y, H7, I7, r7, m', hm, w8⟩ => ?_) fun _ _ f => f.elim
        have pD := I7.pin (D, { cls := .type "list", data := .seq its.toArray k }) (by simp)
        have hll := hv.length
        refine call_meets F.slot_list_append ⟨_, pD.1, rfl⟩ F.entry_list_append (F.args_list_append_2 _ _) (PySem.list_append D its.toArray k w7 (by rw [List.size_toArray]; omega)) ⟨pD.1, ?_⟩
        have q := PySem.IsL.update pD.1 (·.push w7)
        have hpush : its.toArray.push w7 = (its ++ [w7]).toArray := by simp
        rw [hpush] at q
        obtain ⟨k', q⟩ : ∃ k', (s7.heap.update D (Obj.mapSeq (·.push w7))).get? D = some { cls := .type "list", data := .seq (its ++ [w7]).toArray k' } := ⟨_, q⟩
        have I7u : Inv (compCx X (caps.map (·.1) ++ [x]) csc (D + 1) s2 H2 fp) (pinsAt fp s4.heap) _ H7 s7 := I7.pins_of fun p hp => I7.pin p (List.mem_append_right _ (List.mem_append_right _ hp))
        have pfp : ∀ p ∈ pinsAt fp s4.heap, p.1 < D := fun p hp => hD ▸ fps p.1 (of_pinsAt hp).1
        have I8 := I7u.turned (h' := s7.heap.update D (Obj.mapSeq (·.push w7))) (t' := s7.toks) (it := D) (fun b o hb e => (Heap.get?_update_other s7.heap _ (Ne.symm hb)).trans e) pD.2.1 ns1 (.inr leD) (fun y c e => nlt (cellsLt y c e)) (fun p hp => nlt (pfp p (by simpa using hp)))
        refine ⟨m', hm, i + 1, ys ++ [y], its ++ [w7], k', _, H7, I8.pins_of fun p hp => ?_, T.keep _ _ _ st5 fun b hb o e => (I8.pin (b, o) (List.mem_append_right _ (mem_pinsAt hb e))).1, fun b hb => ?_, hv.append (.cons r7 .nil), ?_, w8, _, rfl⟩
        · rw [List.mem_singleton.mp hp]
          exact ⟨q, pD.2.1, pD.2.2.1, pD.2.2.2.1, fun v => by simp⟩
        · obtain ⟨o, e, d⟩ := T.obj _ _ st5 b hb
          exact (I8.pin (b, o) (List.mem_append_right _ (mem_pinsAt hb e))).2.1
        · rw [List.length_append, List.length_singleton]; omega
    · refine ⟨0, [], [], 0, _, H2, (I4 t4).pins_of fun p hp => ?_, T.keep _ _ _ st2 fun b hb o e => keep4 b o e, fun b hb => (f2 b hb).1, .nil, Nat.zero_le _, w0, _, rfl⟩
      rw [List.mem_singleton.mp hp]
      refine ⟨hDo, I2.hok.fresh leD, ns1, fun z => absurd (fsLt D z) (Nat.lt_irrefl _), fun v => by simp⟩
  exact codeAny_compStart_list (loop _) (T.self _ 0 _ _ _ (T.keep _ _ _ st2 fun b hb o e => keep4 b o e) (loop _))
theorem compIf_turn {n i : Nat} {ys : List V} {R : Prop} (hi : i < n) (hl : ys.length ≤ i + 1) (r : R) : ∃ m', m' < n - i ∧ m' = n - (i + 1) ∧ i + 1 ≤ n ∧ ys.length ≤ i + 1 ∧ R := ⟨n - (i + 1), by omega, rfl, hi, hl, r⟩
theorem compIf_list {K : PySem.W.Frag} {a : Addr} {xs : List V} {caps : List (Str × Nat)} {tt : TT} {te : TE} {σ : St} {H : Hp} {Q : VK} (Pv : Nat → List V → Hp → Prop) (h0 : Pv 0 [] H) (hn : xs.length < sizeLine)
    (hq : ∀ i ys H, i ≤ xs.length → Pv i ys H → SqL K H a xs)
    (hs : ∀ i x ys H, xs[i]? = some x → ys.length ≤ i → Pv i ys H → tt (capV caps σ ++ [some x]) H fun b H2 => if b = true then te (capV caps σ ++ [some x]) H2 fun y H3 => ∃ m', m' < xs.length - i ∧ m' = xs.length - (i + 1) ∧ i + 1 ≤ xs.length ∧ (ys ++ [y]).length ≤ i + 1 ∧ Pv (i + 1) (ys ++ [y]) H3
      else ∃ m', m' < xs.length - i ∧ m' = xs.length - (i + 1) ∧ i + 1 ≤ xs.length ∧ ys.length ≤ i + 1 ∧ Pv (i + 1) ys H2) (hd : ∀ ys H, ys.length ≤ xs.length → Pv xs.length ys H → ∀ D, H D = none → Q (.ref D) (upd H D (.lst ys))) :
    CompIfW (Itl K a) caps tt te σ H Q := by
  refine ⟨fun i m ys H => m = xs.length - i ∧ i ≤ xs.length ∧ ys.length ≤ i ∧ Pv i ys H, ⟨xs.length, by simp, Nat.zero_le _, Nat.zero_le _, h0⟩, ?_⟩
  rintro i m ys H ⟨rfl, hi, hl, p⟩
  have q := hq i ys H hi p
  by_cases hlt : i < xs.length
  · refine .inr ⟨⟨xs, xs[i], q, by simp [hlt]⟩, by omega, fun x H' y => ?_⟩
    obtain ⟨e, y⟩ := y
    subst e
    exact hs i x ys _ (y xs q) hl p
  · have e : i = xs.length := by omega
    subst e
    exact .inl ⟨⟨xs, q, Nat.le_refl _⟩, hd ys H hl p⟩
end
end L2
namespace L2
open PySem PySem.Spec PyProof.Rows
/-- for c in a text -/
theorem forW_str {z : Str} {g : TG} {tb : TS} {D : Ends} {σ : St} {H : Hp} (Pv : Nat → St → Hp → Prop) (h0 : Pv 0 σ H)
    (hs : ∀ i c σ H, z.cps.toList[i]? = some c → Pv i σ H → g (.str ⟨#[c]⟩) σ H fun σ2 H2 => tb { D with nx := Pv (i + 1), ct := Pv (i + 1), bk := D.nx } σ2 H2) (hd : ∀ σ H, Pv z.length σ H → D.nx σ H) : ForW (Its z) g tb D σ H := by
  refine ⟨fun i m σ H => m = z.length - i ∧ i ≤ z.length ∧ Pv i σ H, ⟨z.length, by simp, Nat.zero_le _, h0⟩, ?_⟩
  rintro i m σ H ⟨rfl, hi, p⟩
  by_cases hlt : i < z.length
  · refine .inr ⟨hlt, Pv (i + 1), fun σ' H' p' => ⟨z.length - (i + 1), by omega, rfl, hlt, p'⟩, fun x H' y => ?_⟩
    obtain ⟨rfl, c, h1, rfl⟩ := y
    exact hs i c σ _ h1 p
  · have e : i = z.length := by omega
    subst e
    exact .inl ⟨Nat.le_refl _, hd σ H p⟩
theorem compIf_str {z : Str} {caps : List (Str × Nat)} {tt : TT} {te : TE} {σ : St} {H : Hp} {Q : VK} (Pv : Nat → List V → Hp → Prop) (h0 : Pv 0 [] H) (hn : z.length < sizeLine)
    (hs : ∀ i c ys H, z.cps.toList[i]? = some c → ys.length ≤ i → Pv i ys H → tt (capV caps σ ++ [some (.str ⟨#[c]⟩)]) H fun b H2 => if b = true then te (capV caps σ ++ [some (.str ⟨#[c]⟩)]) H2 fun y H3 => ∃ m', m' < z.length - i ∧ m' = z.length - (i + 1) ∧ i + 1 ≤ z.length ∧ (ys ++ [y]).length ≤ i + 1 ∧ Pv (i + 1) (ys ++ [y]) H3
      else ∃ m', m' < z.length - i ∧ m' = z.length - (i + 1) ∧ i + 1 ≤ z.length ∧ ys.length ≤ i + 1 ∧ Pv (i + 1) ys H2) (hd : ∀ ys H, ys.length ≤ z.length → Pv z.length ys H → ∀ D, H D = none → Q (.ref D) (upd H D (.lst ys))) :
    CompIfW (Its z) caps tt te σ H Q := by
  refine ⟨fun i m ys H => m = z.length - i ∧ i ≤ z.length ∧ ys.length ≤ i ∧ Pv i ys H, ⟨z.length, by simp, Nat.zero_le _, Nat.zero_le _, h0⟩, ?_⟩
  rintro i m ys H ⟨rfl, hi, hl, p⟩
  by_cases hlt : i < z.length
  · refine .inr ⟨hlt, by omega, fun x H' y => ?_⟩
    obtain ⟨rfl, c, h1, rfl⟩ := y
    exact hs i c ys _ h1 hl p
  · have e : i = z.length := by omega
    subst e
    exact .inl ⟨Nat.le_refl _, hd ys H hl p⟩
section
variable {X : Cx}
/-- l.insert(k, y), k a place of the list or its end -/
def rInsert : V → List V → Hp → VK → Prop := fun x vs H Q => ∃ (l : Addr) (xs : List V) (i : Int) (k : Nat) (y : V), x = .ref l ∧ vs = [.int i, y] ∧ i = (k : Int) ∧ H l = some (.lst xs) ∧ k ≤ xs.length ∧ xs.length < 1000000 ∧ Q .non (upd H l (.lst (xs.take k ++ [y] ++ xs.drop k)))
theorem mt_insert : MtM X "list.insert" rInsert := by
  intro pins s σ H x vs v us Q I rx rv h
  obtain ⟨l, xs, i, k, y, rfl, rfl, hik, hH, hk, hz, q⟩ := h
  cases rx
  obtain ⟨u1, u, rfl, ru1, ru⟩ := rv.two
  obtain ⟨t1, rfl⟩ := ru1
  obtain ⟨z, its, n, r, hl, e⟩ := I.lstM hH
  have sz := sizeLine_eq
  have hil : its.length = xs.length := r.length.symm
  have hf : Builtin.List.listFitsIndex i = true := by
    unfold Builtin.List.listFitsIndex
    rw [Bool.and_eq_true, decide_eq_true_eq, decide_eq_true_eq]
    exact ⟨by omega, by omega⟩
  have hsz : its.toArray.size ≤ sizeLine := by rw [List.size_toArray]; omega
  have hf2 : ¬ (!Builtin.List.listFitsIndex i) = true := by rw [hf]; exact Bool.false_ne_true
  have M := PySem.AutoSeq1.list_insert_list_int_val_1 l its.toArray n i t1 u hf2 hsz
  refine call_meets PySem.F.slot_list_insert ⟨_, e, rfl⟩ PySem.F.entry_list_insert (PySem.F.args_list_insert_3 _ _ _) M ⟨e, ?_⟩
  have ek : (if i < 0 then (i + ((its.toArray.size : Nat) : Int)).toNat else min i.toNat its.toArray.size) = k := by
    rw [if_neg (by omega), hik, Int.toNat_natCast, List.size_toArray, Nat.min_eq_left (by omega)]
  refine ⟨.non, _, I.lset (its' := its.take k ++ u :: its.drop k) (ys := xs.take k ++ [y] ++ xs.drop k) hH e ?_ ?_ ?_, rfl, q⟩
  · show (its.toArray.extract 0 (if i < 0 then (i + ((its.toArray.size : Nat) : Int)).toNat else min i.toNat its.toArray.size)).push u ++ its.toArray.extract (if i < 0 then (i + ((its.toArray.size : Nat) : Int)).toNat else min i.toNat its.toArray.size) = _
    rw [ek]
    exact PySem.W.kl_ins_eq its k u
  · rw [List.append_assoc]
    exact (r.take k).append (.cons ru (r.drop k))
  · rw [List.length_append, List.length_append, List.length_take, List.length_drop]
    show _ + 1 + _ ≤ _
    omega
end
end L2
namespace K07
open PySem L2
def top (i : Nat) : Stmt := PySem.Challenge.pw_tintrow_k07_rules_that_never_come.main.body.getD i (.Pass ⟨0, 0, 0, 0⟩)
abbrev s_Pattern_eaten : Stmt := inClass (top 4) 0
theorem sc_Pattern_eaten : FnScope ["self", "row", "at"] ["self", "row", "at"] (defScope s_Pattern_eaten) := ⟨rfl, rfl, rfl, by decide +kernel, rfl, by decide +kernel, by decide +kernel⟩
abbrev s_Pattern_eats : Stmt := inClass (top 4) 1
theorem sc_Pattern_eats : FnScope ["self"] ["self"] (defScope s_Pattern_eats) := ⟨rfl, rfl, rfl, by decide +kernel, rfl, by decide +kernel, by decide +kernel⟩
abbrev s_Word___init__ : Stmt := inClass (top 5) 0
theorem sc_Word___init__ : FnScope ["self", "text"] ["self", "text"] (defScope s_Word___init__) := ⟨rfl, rfl, rfl, by decide +kernel, rfl, by decide +kernel, by decide +kernel⟩
abbrev s_Word_eaten : Stmt := inClass (top 5) 1
theorem sc_Word_eaten : FnScope ["self", "row", "at"] ["self", "row", "at"] (defScope s_Word_eaten) := ⟨rfl, rfl, rfl, by decide +kernel, rfl, by decide +kernel, by decide +kernel⟩
abbrev s_Word_eats : Stmt := inClass (top 5) 2
theorem sc_Word_eats : FnScope ["self"] ["self"] (defScope s_Word_eats) := ⟨rfl, rfl, rfl, by decide +kernel, rfl, by decide +kernel, by decide +kernel⟩
abbrev s_One___init__ : Stmt := inClass (top 6) 0
theorem sc_One___init__ : FnScope ["self", "signs"] ["self", "signs"] (defScope s_One___init__) := ⟨rfl, rfl, rfl, by decide +kernel, rfl, by decide +kernel, by decide +kernel⟩
abbrev s_One_eaten : Stmt := inClass (top 6) 1
theorem sc_One_eaten : FnScope ["self", "row", "at"] ["self", "row", "at"] (defScope s_One_eaten) := ⟨rfl, rfl, rfl, by decide +kernel, rfl, by decide +kernel, by decide +kernel⟩
abbrev s_One_eats : Stmt := inClass (top 6) 2
theorem sc_One_eats : FnScope ["self"] ["self"] (defScope s_One_eats) := ⟨rfl, rfl, rfl, by decide +kernel, rfl, by decide +kernel, by decide +kernel⟩
abbrev s_Without___init__ : Stmt := inClass (top 7) 0
theorem sc_Without___init__ : FnScope ["self", "signs"] ["self", "signs"] (defScope s_Without___init__) := ⟨rfl, rfl, rfl, by decide +kernel, rfl, by decide +kernel, by decide +kernel⟩
abbrev s_Without_eaten : Stmt := inClass (top 7) 1
theorem sc_Without_eaten : FnScope ["self", "row", "at"] ["self", "row", "at"] (defScope s_Without_eaten) := ⟨rfl, rfl, rfl, by decide +kernel, rfl, by decide +kernel, by decide +kernel⟩
abbrev s_Without_eats : Stmt := inClass (top 7) 2
theorem sc_Without_eats : FnScope ["self"] ["self"] (defScope s_Without_eats) := ⟨rfl, rfl, rfl, by decide +kernel, rfl, by decide +kernel, by decide +kernel⟩
abbrev s_Many___init__ : Stmt := inClass (top 8) 0
theorem sc_Many___init__ : FnScope ["self", "signs"] ["self", "signs"] (defScope s_Many___init__) := ⟨rfl, rfl, rfl, by decide +kernel, rfl, by decide +kernel, by decide +kernel⟩
abbrev s_Many_eaten : Stmt := inClass (top 8) 1
theorem sc_Many_eaten : FnScope ["self", "row", "at", "end"] ["self", "row", "at"] (defScope s_Many_eaten) := ⟨rfl, rfl, rfl, by decide +kernel, rfl, by decide +kernel, by decide +kernel⟩
abbrev s_Many_eats : Stmt := inClass (top 8) 2
theorem sc_Many_eats : FnScope ["self"] ["self"] (defScope s_Many_eats) := ⟨rfl, rfl, rfl, by decide +kernel, rfl, by decide +kernel, by decide +kernel⟩
abbrev s_Any_eaten : Stmt := inClass (top 9) 0
theorem sc_Any_eaten : FnScope ["self", "row", "at"] ["self", "row", "at"] (defScope s_Any_eaten) := ⟨rfl, rfl, rfl, by decide +kernel, rfl, by decide +kernel, by decide +kernel⟩
abbrev s_Any_eats : Stmt := inClass (top 9) 1
theorem sc_Any_eats : FnScope ["self"] ["self"] (defScope s_Any_eats) := ⟨rfl, rfl, rfl, by decide +kernel, rfl, by decide +kernel, by decide +kernel⟩
abbrev s_Still_eaten : Stmt := inClass (top 10) 0
theorem sc_Still_eaten : FnScope ["self", "row", "at"] ["self", "row", "at"] (defScope s_Still_eaten) := ⟨rfl, rfl, rfl, by decide +kernel, rfl, by decide +kernel, by decide +kernel⟩
abbrev s_End_eaten : Stmt := inClass (top 11) 0
theorem sc_End_eaten : FnScope ["self", "row", "at"] ["self", "row", "at"] (defScope s_End_eaten) := ⟨rfl, rfl, rfl, by decide +kernel, rfl, by decide +kernel, by decide +kernel⟩
abbrev s_is_name : Stmt := top 15
theorem sc_is_name : FnScope ["word"] ["word"] (defScope s_is_name) := ⟨rfl, rfl, rfl, by decide +kernel, rfl, by decide +kernel, by decide +kernel⟩
abbrev s_Rule___init__ : Stmt := inClass (top 16) 0
theorem sc_Rule___init__ : FnScope ["self", "pattern", "colour", "deed", "goal", "fold"] ["self", "pattern", "colour", "deed", "goal", "fold"] (defScope s_Rule___init__) := ⟨rfl, rfl, rfl, by decide +kernel, rfl, by decide +kernel, by decide +kernel⟩
abbrev s_Mode___init__ : Stmt := inClass (top 17) 0
theorem sc_Mode___init__ : FnScope ["self", "name", "colour", "rules"] ["self", "name", "colour", "rules"] (defScope s_Mode___init__) := ⟨rfl, rfl, rfl, by decide +kernel, rfl, by decide +kernel, by decide +kernel⟩
abbrev s_Rules___init__ : Stmt := inClass (top 18) 0
theorem sc_Rules___init__ : FnScope ["self", "modes"] ["self", "modes"] (defScope s_Rules___init__) := ⟨rfl, rfl, rfl, by decide +kernel, rfl, by decide +kernel, by decide +kernel⟩
abbrev s_first_rule : Stmt := top 21
theorem sc_first_rule : FnScope ["rules", "mode", "row", "at", "number", "rule"] ["rules", "mode", "row", "at"] (defScope s_first_rule) := ⟨rfl, rfl, rfl, by decide +kernel, rfl, by decide +kernel, by decide +kernel⟩
abbrev s_short_rows : Stmt := top 22
theorem sc_short_rows : FnScope [] [] (defScope s_short_rows) := ⟨rfl, rfl, rfl, by decide +kernel, rfl, by decide +kernel, by decide +kernel⟩
abbrev s_piece_of : Stmt := top 23
theorem sc_piece_of : FnScope ["rules", "mode", "rule", "pattern", "rows", "row"] ["rules", "mode", "rule"] (defScope s_piece_of) := ⟨rfl, rfl, rfl, by decide +kernel, rfl, by decide +kernel, by decide +kernel⟩
abbrev s_Cursor___init__ : Stmt := inClass (top 31) 0
theorem sc_Cursor___init__ : FnScope ["self", "row", "text"] ["self", "row", "text"] (defScope s_Cursor___init__) := ⟨rfl, rfl, rfl, by decide +kernel, rfl, by decide +kernel, by decide +kernel⟩
abbrev s_Cursor_more : Stmt := inClass (top 31) 1
theorem sc_Cursor_more : FnScope ["self"] ["self"] (defScope s_Cursor_more) := ⟨rfl, rfl, rfl, by decide +kernel, rfl, by decide +kernel, by decide +kernel⟩
abbrev s_Cursor_peek : Stmt := inClass (top 31) 2
theorem sc_Cursor_peek : FnScope ["self"] ["self"] (defScope s_Cursor_peek) := ⟨rfl, rfl, rfl, by decide +kernel, rfl, by decide +kernel, by decide +kernel⟩
abbrev s_Cursor_ask : Stmt := inClass (top 31) 3
theorem sc_Cursor_ask : FnScope ["self", "good"] ["self", "good"] (defScope s_Cursor_ask) := ⟨rfl, rfl, rfl, by decide +kernel, rfl, by decide +kernel, by decide +kernel⟩
abbrev s_Cursor_take : Stmt := inClass (top 31) 4
theorem sc_Cursor_take : FnScope ["self", "good", "word"] ["self", "good"] (defScope s_Cursor_take) := ⟨rfl, rfl, rfl, by decide +kernel, rfl, by decide +kernel, by decide +kernel⟩
abbrev s_Cursor_take_choice : Stmt := inClass (top 31) 5
theorem sc_Cursor_take_choice : FnScope ["self", "words"] ["self", "words"] (defScope s_Cursor_take_choice) := ⟨rfl, rfl, rfl, by decide +kernel, rfl, by decide +kernel, by decide +kernel⟩
abbrev s_Cursor_take_name : Stmt := inClass (top 31) 6
theorem sc_Cursor_take_name : FnScope ["self"] ["self"] (defScope s_Cursor_take_name) := ⟨rfl, rfl, rfl, by decide +kernel, rfl, by decide +kernel, by decide +kernel⟩
abbrev s_Cursor_take_signs : Stmt := inClass (top 31) 7
theorem sc_Cursor_take_signs : FnScope ["self", "word"] ["self"] (defScope s_Cursor_take_signs) := ⟨rfl, rfl, rfl, by decide +kernel, rfl, by decide +kernel, by decide +kernel⟩
abbrev s_read_rules : Stmt := top 32
theorem sc_read_rules : FnScope ["text", "rows", "numbers", "modes", "nowhere", "number", "row", "cursor", "rules"] ["text"] (defScope s_read_rules) := ⟨rfl, rfl, rfl, by decide +kernel, rfl, by decide +kernel, by decide +kernel⟩
abbrev s_mode_numbers : Stmt := top 33
theorem sc_mode_numbers : FnScope ["rows", "numbers", "row", "words"] ["rows"] (defScope s_mode_numbers) := ⟨rfl, rfl, rfl, by decide +kernel, rfl, by decide +kernel, by decide +kernel⟩
abbrev s_read_mode : Stmt := top 34
theorem sc_read_mode : FnScope ["cursor", "modes", "name", "colour"] ["cursor", "modes"] (defScope s_read_mode) := ⟨rfl, rfl, rfl, by decide +kernel, rfl, by decide +kernel, by decide +kernel⟩
abbrev s_read_rule : Stmt := top 35
theorem sc_read_rule : FnScope ["cursor", "numbers", "nowhere", "pattern", "colour", "deed", "goal", "fold"] ["cursor", "numbers", "nowhere"] (defScope s_read_rule) := ⟨rfl, rfl, rfl, by decide +kernel, rfl, by decide +kernel, by decide +kernel⟩
abbrev s_read_pattern : Stmt := top 36
theorem sc_read_pattern : FnScope ["cursor", "kind", "signs"] ["cursor"] (defScope s_read_pattern) := ⟨rfl, rfl, rfl, by decide +kernel, rfl, by decide +kernel, by decide +kernel⟩
abbrev s_read_goal : Stmt := top 37
theorem sc_read_goal : FnScope ["cursor", "numbers", "nowhere", "place", "name"] ["cursor", "numbers", "nowhere"] (defScope s_read_goal) := ⟨rfl, rfl, rfl, by decide +kernel, rfl, by decide +kernel, by decide +kernel⟩
abbrev s__law_draw : Stmt := top 39
theorem sc__law_draw : FnScope ["_law_script", "_law_k", "_law_many", "_law_cell", "_law_left", "_law_seed"] ["_law_script", "_law_k", "_law_many"] (defScope s__law_draw) := ⟨rfl, rfl, rfl, by decide +kernel, rfl, by decide +kernel, by decide +kernel⟩
abbrev s__law_all : Stmt := top 40
theorem sc__law_all : FnScope ["_law_some"] [] (defScope s__law_all) := ⟨rfl, rfl, rfl, by decide +kernel, rfl, by decide +kernel, by decide +kernel⟩
abbrev s__law_signs : Stmt := top 41
theorem sc__law_signs : FnScope ["_law_script", "_law_base", "_law_first_here", "_law_every", "_law_way", "_law_at"] ["_law_script", "_law_base", "_law_first_here"] (defScope s__law_signs) := ⟨rfl, rfl, rfl, by decide +kernel, rfl, by decide +kernel, by decide +kernel⟩
abbrev s__law_rules : Stmt := top 42
theorem sc__law_rules : FnScope ["_law_script", "_law_many", "_law_first_here", "_law_modes", "_law_k", "_law_i", "_law_base", "_law_sort", "_law_signs_here", "_law_size"] ["_law_script", "_law_many"] (defScope s__law_rules) := ⟨rfl, rfl, rfl, by decide +kernel, rfl, by decide +kernel, by decide +kernel⟩
abbrev s__law_text : Stmt := top 43
theorem sc__law_text : FnScope ["_law_names", "_law_modes", "_law_rows_here", "_law_k", "_law_sort", "_law_signs_here", "_law_words"] ["_law_names", "_law_modes"] (defScope s__law_text) := ⟨rfl, rfl, rfl, by decide +kernel, rfl, by decide +kernel, by decide +kernel⟩
abbrev s__law_first : Stmt := top 44
theorem sc__law_first : FnScope ["_law_rules_here", "_law_row", "_law_number", "_law_sort", "_law_signs_here", "_law_good_here"] ["_law_rules_here", "_law_row"] (defScope s__law_first) := ⟨rfl, rfl, rfl, by decide +kernel, rfl, by decide +kernel, by decide +kernel⟩
abbrev s__law_rows : Stmt := top 45
theorem sc__law_rows : FnScope ["_law_few", "_law_rows_here", "_law_first_here", "_law_second", "_law_third"] ["_law_few"] (defScope s__law_rows) := ⟨rfl, rfl, rfl, by decide +kernel, rfl, by decide +kernel, by decide +kernel⟩
abbrev s__law_good : Stmt := top 46
theorem sc__law_good : FnScope ["_law_rules_here", "_law_modes", "_law_mode", "_law_few", "_law_met", "_law_row", "_law_number", "_law_found"] ["_law_rules_here", "_law_modes", "_law_mode", "_law_few"] (defScope s__law_good) := ⟨rfl, rfl, rfl, by decide +kernel, rfl, by decide +kernel, by decide +kernel⟩
abbrev s_law : Stmt := top 47
theorem sc_law : FnScope ["_law_script", "_law_names", "_law_modes", "_law_few", "_law_rules_here", "_law_mode", "_law_again", "_law_piece"] ["_law_script"] (defScope s_law) := ⟨rfl, rfl, rfl, by decide +kernel, rfl, by decide +kernel, by decide +kernel⟩
set_option genInjectivity false in
structure Adr where
  c_TintError : Addr
  c_NoRules : Addr
  c_Pattern : Addr
  c_Word : Addr
  c_One : Addr
  c_Without : Addr
  c_Many : Addr
  c_Any : Addr
  c_Still : Addr
  c_End : Addr
  c_Rule : Addr
  c_Mode : Addr
  c_Rules : Addr
  c_Cursor : Addr
  f_Pattern_eaten : Addr
  d_Pattern_eaten : FuncData
  f_Pattern_eats : Addr
  d_Pattern_eats : FuncData
  f_Word___init__ : Addr
  d_Word___init__ : FuncData
  f_Word_eaten : Addr
  d_Word_eaten : FuncData
  f_Word_eats : Addr
  d_Word_eats : FuncData
  f_One___init__ : Addr
  d_One___init__ : FuncData
  f_One_eaten : Addr
  d_One_eaten : FuncData
  f_One_eats : Addr
  d_One_eats : FuncData
  f_Without___init__ : Addr
  d_Without___init__ : FuncData
  f_Without_eaten : Addr
  d_Without_eaten : FuncData
  f_Without_eats : Addr
  d_Without_eats : FuncData
  f_Many___init__ : Addr
  d_Many___init__ : FuncData
  f_Many_eaten : Addr
  d_Many_eaten : FuncData
  f_Many_eats : Addr
  d_Many_eats : FuncData
  f_Any_eaten : Addr
  d_Any_eaten : FuncData
  f_Any_eats : Addr
  d_Any_eats : FuncData
  f_Still_eaten : Addr
  d_Still_eaten : FuncData
  f_End_eaten : Addr
  d_End_eaten : FuncData
  f_is_name : Addr
  d_is_name : FuncData
  f_Rule___init__ : Addr
  d_Rule___init__ : FuncData
  f_Mode___init__ : Addr
  d_Mode___init__ : FuncData
  f_Rules___init__ : Addr
  d_Rules___init__ : FuncData
  f_first_rule : Addr
  d_first_rule : FuncData
  f_short_rows : Addr
  d_short_rows : FuncData
  f_piece_of : Addr
  d_piece_of : FuncData
  f_Cursor___init__ : Addr
  d_Cursor___init__ : FuncData
  f_Cursor_more : Addr
  d_Cursor_more : FuncData
  f_Cursor_peek : Addr
  d_Cursor_peek : FuncData
  f_Cursor_ask : Addr
  d_Cursor_ask : FuncData
  f_Cursor_take : Addr
  d_Cursor_take : FuncData
  f_Cursor_take_choice : Addr
  d_Cursor_take_choice : FuncData
  f_Cursor_take_name : Addr
  d_Cursor_take_name : FuncData
  f_Cursor_take_signs : Addr
  d_Cursor_take_signs : FuncData
  f_read_rules : Addr
  d_read_rules : FuncData
  f_mode_numbers : Addr
  d_mode_numbers : FuncData
  f_read_mode : Addr
  d_read_mode : FuncData
  f_read_rule : Addr
  d_read_rule : FuncData
  f_read_pattern : Addr
  d_read_pattern : FuncData
  f_read_goal : Addr
  d_read_goal : FuncData
  f__law_draw : Addr
  d__law_draw : FuncData
  f__law_all : Addr
  d__law_all : FuncData
  f__law_signs : Addr
  d__law_signs : FuncData
  f__law_rules : Addr
  d__law_rules : FuncData
  f__law_text : Addr
  d__law_text : FuncData
  f__law_first : Addr
  d__law_first : FuncData
  f__law_rows : Addr
  d__law_rows : FuncData
  f__law_good : Addr
  d__law_good : FuncData
  g_PATTERNS : Addr
  g_DEEDS : Addr
  g_GOING : Addr
  g_FOLDS : Addr
structure Txt (K : PySem.W.Frag) (mg : Str → Option Value) (t : Adr) : Prop where
  mgc_TintError : mg "TintError" = some (.ref t.c_TintError)
  mgc_NoRules : mg "NoRules" = some (.ref t.c_NoRules)
  mgc_Pattern : mg "Pattern" = some (.ref t.c_Pattern)
  mgc_Word : mg "Word" = some (.ref t.c_Word)
  mgc_One : mg "One" = some (.ref t.c_One)
  mgc_Without : mg "Without" = some (.ref t.c_Without)
  mgc_Many : mg "Many" = some (.ref t.c_Many)
  mgc_Any : mg "Any" = some (.ref t.c_Any)
  mgc_Still : mg "Still" = some (.ref t.c_Still)
  mgc_End : mg "End" = some (.ref t.c_End)
  mgc_Rule : mg "Rule" = some (.ref t.c_Rule)
  mgc_Mode : mg "Mode" = some (.ref t.c_Mode)
  mgc_Rules : mg "Rules" = some (.ref t.c_Rules)
  mgc_Cursor : mg "Cursor" = some (.ref t.c_Cursor)
  F_Pattern_eaten : Fun K "eaten" "Pattern.eaten" s_Pattern_eaten t.f_Pattern_eaten t.d_Pattern_eaten
  F_Pattern_eats : Fun K "eats" "Pattern.eats" s_Pattern_eats t.f_Pattern_eats t.d_Pattern_eats
  F_Word___init__ : Fun K "__init__" "Word.__init__" s_Word___init__ t.f_Word___init__ t.d_Word___init__
  F_Word_eaten : Fun K "eaten" "Word.eaten" s_Word_eaten t.f_Word_eaten t.d_Word_eaten
  F_Word_eats : Fun K "eats" "Word.eats" s_Word_eats t.f_Word_eats t.d_Word_eats
  F_One___init__ : Fun K "__init__" "One.__init__" s_One___init__ t.f_One___init__ t.d_One___init__
  F_One_eaten : Fun K "eaten" "One.eaten" s_One_eaten t.f_One_eaten t.d_One_eaten
  F_One_eats : Fun K "eats" "One.eats" s_One_eats t.f_One_eats t.d_One_eats
  F_Without___init__ : Fun K "__init__" "Without.__init__" s_Without___init__ t.f_Without___init__ t.d_Without___init__
  F_Without_eaten : Fun K "eaten" "Without.eaten" s_Without_eaten t.f_Without_eaten t.d_Without_eaten
  F_Without_eats : Fun K "eats" "Without.eats" s_Without_eats t.f_Without_eats t.d_Without_eats
  F_Many___init__ : Fun K "__init__" "Many.__init__" s_Many___init__ t.f_Many___init__ t.d_Many___init__
  F_Many_eaten : Fun K "eaten" "Many.eaten" s_Many_eaten t.f_Many_eaten t.d_Many_eaten
  F_Many_eats : Fun K "eats" "Many.eats" s_Many_eats t.f_Many_eats t.d_Many_eats
  F_Any_eaten : Fun K "eaten" "Any.eaten" s_Any_eaten t.f_Any_eaten t.d_Any_eaten
  F_Any_eats : Fun K "eats" "Any.eats" s_Any_eats t.f_Any_eats t.d_Any_eats
  F_Still_eaten : Fun K "eaten" "Still.eaten" s_Still_eaten t.f_Still_eaten t.d_Still_eaten
  F_End_eaten : Fun K "eaten" "End.eaten" s_End_eaten t.f_End_eaten t.d_End_eaten
  F_Rule___init__ : Fun K "__init__" "Rule.__init__" s_Rule___init__ t.f_Rule___init__ t.d_Rule___init__
  F_Mode___init__ : Fun K "__init__" "Mode.__init__" s_Mode___init__ t.f_Mode___init__ t.d_Mode___init__
  F_Rules___init__ : Fun K "__init__" "Rules.__init__" s_Rules___init__ t.f_Rules___init__ t.d_Rules___init__
  F_Cursor___init__ : Fun K "__init__" "Cursor.__init__" s_Cursor___init__ t.f_Cursor___init__ t.d_Cursor___init__
  F_Cursor_more : Fun K "more" "Cursor.more" s_Cursor_more t.f_Cursor_more t.d_Cursor_more
  F_Cursor_peek : Fun K "peek" "Cursor.peek" s_Cursor_peek t.f_Cursor_peek t.d_Cursor_peek
  F_Cursor_ask : Fun K "ask" "Cursor.ask" s_Cursor_ask t.f_Cursor_ask t.d_Cursor_ask
  F_Cursor_take : Fun K "take" "Cursor.take" s_Cursor_take t.f_Cursor_take t.d_Cursor_take
  F_Cursor_take_choice : Fun K "take_choice" "Cursor.take_choice" s_Cursor_take_choice t.f_Cursor_take_choice t.d_Cursor_take_choice
  F_Cursor_take_name : Fun K "take_name" "Cursor.take_name" s_Cursor_take_name t.f_Cursor_take_name t.d_Cursor_take_name
  F_Cursor_take_signs : Fun K "take_signs" "Cursor.take_signs" s_Cursor_take_signs t.f_Cursor_take_signs t.d_Cursor_take_signs
  F_is_name : Fun K "is_name" "is_name" s_is_name t.f_is_name t.d_is_name
  mg_is_name : mg "is_name" = some (.ref t.f_is_name)
  F_first_rule : Fun K "first_rule" "first_rule" s_first_rule t.f_first_rule t.d_first_rule
  mg_first_rule : mg "first_rule" = some (.ref t.f_first_rule)
  F_short_rows : Fun K "short_rows" "short_rows" s_short_rows t.f_short_rows t.d_short_rows
  mg_short_rows : mg "short_rows" = some (.ref t.f_short_rows)
  F_piece_of : Fun K "piece_of" "piece_of" s_piece_of t.f_piece_of t.d_piece_of
  mg_piece_of : mg "piece_of" = some (.ref t.f_piece_of)
  F_read_rules : Fun K "read_rules" "read_rules" s_read_rules t.f_read_rules t.d_read_rules
  mg_read_rules : mg "read_rules" = some (.ref t.f_read_rules)
  F_mode_numbers : Fun K "mode_numbers" "mode_numbers" s_mode_numbers t.f_mode_numbers t.d_mode_numbers
  mg_mode_numbers : mg "mode_numbers" = some (.ref t.f_mode_numbers)
  F_read_mode : Fun K "read_mode" "read_mode" s_read_mode t.f_read_mode t.d_read_mode
  mg_read_mode : mg "read_mode" = some (.ref t.f_read_mode)
  F_read_rule : Fun K "read_rule" "read_rule" s_read_rule t.f_read_rule t.d_read_rule
  mg_read_rule : mg "read_rule" = some (.ref t.f_read_rule)
  F_read_pattern : Fun K "read_pattern" "read_pattern" s_read_pattern t.f_read_pattern t.d_read_pattern
  mg_read_pattern : mg "read_pattern" = some (.ref t.f_read_pattern)
  F_read_goal : Fun K "read_goal" "read_goal" s_read_goal t.f_read_goal t.d_read_goal
  mg_read_goal : mg "read_goal" = some (.ref t.f_read_goal)
  F__law_draw : Fun K "_law_draw" "_law_draw" s__law_draw t.f__law_draw t.d__law_draw
  mg__law_draw : mg "_law_draw" = some (.ref t.f__law_draw)
  F__law_all : Fun K "_law_all" "_law_all" s__law_all t.f__law_all t.d__law_all
  mg__law_all : mg "_law_all" = some (.ref t.f__law_all)
  F__law_signs : Fun K "_law_signs" "_law_signs" s__law_signs t.f__law_signs t.d__law_signs
  mg__law_signs : mg "_law_signs" = some (.ref t.f__law_signs)
  F__law_rules : Fun K "_law_rules" "_law_rules" s__law_rules t.f__law_rules t.d__law_rules
  mg__law_rules : mg "_law_rules" = some (.ref t.f__law_rules)
  F__law_text : Fun K "_law_text" "_law_text" s__law_text t.f__law_text t.d__law_text
  mg__law_text : mg "_law_text" = some (.ref t.f__law_text)
  F__law_first : Fun K "_law_first" "_law_first" s__law_first t.f__law_first t.d__law_first
  mg__law_first : mg "_law_first" = some (.ref t.f__law_first)
  F__law_rows : Fun K "_law_rows" "_law_rows" s__law_rows t.f__law_rows t.d__law_rows
  mg__law_rows : mg "_law_rows" = some (.ref t.f__law_rows)
  F__law_good : Fun K "_law_good" "_law_good" s__law_good t.f__law_good t.d__law_good
  mg__law_good : mg "_law_good" = some (.ref t.f__law_good)
  cl_Word : Cls K t.c_Word
  mk_Word : Mk K t.c_Word t.f_Word___init__
  n_Word_wanted : NoAttr K t.c_Word "wanted"
  m_Word_eaten : Meth K t.c_Word "eaten" t.f_Word_eaten
  m_Word_eats : Meth K t.c_Word "eats" t.f_Word_eats
  cl_One : Cls K t.c_One
  mk_One : Mk K t.c_One t.f_One___init__
  n_One_signs : NoAttr K t.c_One "signs"
  m_One_eaten : Meth K t.c_One "eaten" t.f_One_eaten
  m_One_eats : Meth K t.c_One "eats" t.f_One_eats
  cl_Without : Cls K t.c_Without
  mk_Without : Mk K t.c_Without t.f_Without___init__
  n_Without_signs : NoAttr K t.c_Without "signs"
  m_Without_eaten : Meth K t.c_Without "eaten" t.f_Without_eaten
  m_Without_eats : Meth K t.c_Without "eats" t.f_Without_eats
  cl_Many : Cls K t.c_Many
  mk_Many : Mk K t.c_Many t.f_Many___init__
  n_Many_signs : NoAttr K t.c_Many "signs"
  m_Many_eaten : Meth K t.c_Many "eaten" t.f_Many_eaten
  m_Many_eats : Meth K t.c_Many "eats" t.f_Many_eats
  cl_Any : Cls K t.c_Any
  mk_Any : MkO K t.c_Any
  m_Any_eaten : Meth K t.c_Any "eaten" t.f_Any_eaten
  m_Any_eats : Meth K t.c_Any "eats" t.f_Any_eats
  cl_Still : Cls K t.c_Still
  mk_Still : MkO K t.c_Still
  m_Still_eaten : Meth K t.c_Still "eaten" t.f_Still_eaten
  m_Still_eats : Meth K t.c_Still "eats" t.f_Pattern_eats
  cl_End : Cls K t.c_End
  mk_End : MkO K t.c_End
  m_End_eaten : Meth K t.c_End "eaten" t.f_End_eaten
  m_End_eats : Meth K t.c_End "eats" t.f_Pattern_eats
  cl_Rule : Cls K t.c_Rule
  mk_Rule : Mk K t.c_Rule t.f_Rule___init__
  n_Rule_pattern : NoAttr K t.c_Rule "pattern"
  n_Rule_colour : NoAttr K t.c_Rule "colour"
  n_Rule_deed : NoAttr K t.c_Rule "deed"
  n_Rule_goal : NoAttr K t.c_Rule "goal"
  n_Rule_fold : NoAttr K t.c_Rule "fold"
  cl_Mode : Cls K t.c_Mode
  mk_Mode : Mk K t.c_Mode t.f_Mode___init__
  n_Mode_name : NoAttr K t.c_Mode "name"
  n_Mode_colour : NoAttr K t.c_Mode "colour"
  n_Mode_rules : NoAttr K t.c_Mode "rules"
  cl_Rules : Cls K t.c_Rules
  mk_Rules : Mk K t.c_Rules t.f_Rules___init__
  n_Rules_modes : NoAttr K t.c_Rules "modes"
  cl_Cursor : Cls K t.c_Cursor
  mk_Cursor : Mk K t.c_Cursor t.f_Cursor___init__
  n_Cursor_row : NoAttr K t.c_Cursor "row"
  n_Cursor_words : NoAttr K t.c_Cursor "words"
  n_Cursor_at : NoAttr K t.c_Cursor "at"
  m_Cursor_more : Meth K t.c_Cursor "more" t.f_Cursor_more
  m_Cursor_peek : Meth K t.c_Cursor "peek" t.f_Cursor_peek
  m_Cursor_ask : Meth K t.c_Cursor "ask" t.f_Cursor_ask
  m_Cursor_take : Meth K t.c_Cursor "take" t.f_Cursor_take
  m_Cursor_take_choice : Meth K t.c_Cursor "take_choice" t.f_Cursor_take_choice
  m_Cursor_take_name : Meth K t.c_Cursor "take_name" t.f_Cursor_take_name
  m_Cursor_take_signs : Meth K t.c_Cursor "take_signs" t.f_Cursor_take_signs
  cg : PySem.W.specialIn K (.builtin "object.__class__") "__get__" = some (some (.builtin "getset_descriptor.__get__"))
  ct : PySem.W.takesIn K (.builtin "object.__class__") = some true
  ty_Word : PySem.W.findIn K (.ref t.c_Word) "__class__" = some (some (.builtin "object.__class__"))
  mr_Word : PySem.W.mroIn K t.c_Word (.type "object") = some true
  ty_One : PySem.W.findIn K (.ref t.c_One) "__class__" = some (some (.builtin "object.__class__"))
  mr_One : PySem.W.mroIn K t.c_One (.type "object") = some true
  ty_Without : PySem.W.findIn K (.ref t.c_Without) "__class__" = some (some (.builtin "object.__class__"))
  mr_Without : PySem.W.mroIn K t.c_Without (.type "object") = some true
  ty_Many : PySem.W.findIn K (.ref t.c_Many) "__class__" = some (some (.builtin "object.__class__"))
  mr_Many : PySem.W.mroIn K t.c_Many (.type "object") = some true
  ty_Any : PySem.W.findIn K (.ref t.c_Any) "__class__" = some (some (.builtin "object.__class__"))
  mr_Any : PySem.W.mroIn K t.c_Any (.type "object") = some true
  ty_Still : PySem.W.findIn K (.ref t.c_Still) "__class__" = some (some (.builtin "object.__class__"))
  mr_Still : PySem.W.mroIn K t.c_Still (.type "object") = some true
  ty_End : PySem.W.findIn K (.ref t.c_End) "__class__" = some (some (.builtin "object.__class__"))
  mr_End : PySem.W.mroIn K t.c_End (.type "object") = some true
  kit_Word_Word : PySem.W.kitOne K (.ref t.c_Word) (.ref t.c_Word) = some true
  kit_One_Word : PySem.W.kitOne K (.ref t.c_One) (.ref t.c_Word) = some false
  kit_Without_Word : PySem.W.kitOne K (.ref t.c_Without) (.ref t.c_Word) = some false
  kit_Many_Word : PySem.W.kitOne K (.ref t.c_Many) (.ref t.c_Word) = some false
  kit_Any_Word : PySem.W.kitOne K (.ref t.c_Any) (.ref t.c_Word) = some false
  kit_Still_Word : PySem.W.kitOne K (.ref t.c_Still) (.ref t.c_Word) = some false
  kit_End_Word : PySem.W.kitOne K (.ref t.c_End) (.ref t.c_Word) = some false
  kb_str_str : PySem.W.kitOne K (.type "str") (.type "str") = some true
  mgv_LETTERS : ∃ u, mg "LETTERS" = some u ∧ RelV (.str "abcdefghijklmnopqrstuvwxyz") u
  mgv_LONGEST_NAME : ∃ u, mg "LONGEST_NAME" = some u ∧ RelV (.int 8) u
  mgv_SIGNS : ∃ u, mg "SIGNS" = some u ∧ RelV (.str " !\"#$&'()*+,-./0123456789:;<=>?@ABCDEFGHIJKLMNOPQRSTUVWXYZ[\\]^_`abcdefghijklmnopqrstuvwxyz{|}~") u
  mgv_MOST_MODES : ∃ u, mg "MOST_MODES" = some u ∧ RelV (.int 12) u
  mgv_MOST_RULES : ∃ u, mg "MOST_RULES" = some u ∧ RelV (.int 12) u
  mgv_PATTERNS : mg "PATTERNS" = some (.ref t.g_PATTERNS)
  tv_PATTERNS : ∀ H, SqT K H t.g_PATTERNS [.str "word", .str "one", .str "none", .str "many", .str "any", .str "still", .str "end"]
  mgv_DEEDS : mg "DEEDS" = some (.ref t.g_DEEDS)
  tv_DEEDS : ∀ H, SqT K H t.g_DEEDS [.str "stay", .str "push", .str "pop", .str "into"]
  mgv_GOING : mg "GOING" = some (.ref t.g_GOING)
  tv_GOING : ∀ H, SqT K H t.g_GOING [.str "push", .str "into"]
  mgv_FOLDS : mg "FOLDS" = some (.ref t.g_FOLDS)
  tv_FOLDS : ∀ H, SqT K H t.g_FOLDS [.str "open", .str "close"]
  z_all : mg "all" = none
  z_enumerate : mg "enumerate" = none
  z_isinstance : mg "isinstance" = none
  z_len : mg "len" = none
  z_list : mg "list" = none
  z_max : mg "max" = none
  z_range : mg "range" = none
  z_str : mg "str" = none
theorem ls0 : ∀ {us : List Value}, us.length = 0 → us = []
  | [], _ => rfl
theorem ls1 : ∀ {us : List Value}, us.length = 1 → ∃ a0, us = [a0]
  | [a0], _ => ⟨a0, rfl⟩
theorem ls2 : ∀ {us : List Value}, us.length = 2 → ∃ a0 a1, us = [a0, a1]
  | [a0, a1], _ => ⟨a0, a1, rfl⟩
theorem ls3 : ∀ {us : List Value}, us.length = 3 → ∃ a0 a1 a2, us = [a0, a1, a2]
  | [a0, a1, a2], _ => ⟨a0, a1, a2, rfl⟩
theorem ls4 : ∀ {us : List Value}, us.length = 4 → ∃ a0 a1 a2 a3, us = [a0, a1, a2, a3]
  | [a0, a1, a2, a3], _ => ⟨a0, a1, a2, a3, rfl⟩
theorem ls6 : ∀ {us : List Value}, us.length = 6 → ∃ a0 a1 a2 a3 a4 a5, us = [a0, a1, a2, a3, a4, a5]
  | [a0, a1, a2, a3, a4, a5], _ => ⟨a0, a1, a2, a3, a4, a5, rfl⟩
section
variable {P : Program} {w : World} {K : PySem.W.Frag} {mg : Str → Option Value} {base : Heap} {t : Adr}
theorem bd_Pattern_eaten (T : Txt K mg t) : Binds K t.d_Pattern_eaten ["self", "row", "at"] [] := T.F_Pattern_eaten.binds (by intro _ _ _ _ _ _ us hl; obtain ⟨_, _, _, rfl⟩ := ls3 hl; rfl)
theorem bd_Pattern_eats (T : Txt K mg t) : Binds K t.d_Pattern_eats ["self"] [] := T.F_Pattern_eats.binds (by intro _ _ _ _ _ _ us hl; obtain ⟨_, rfl⟩ := ls1 hl; rfl)
theorem bd_Word___init__ (T : Txt K mg t) : Binds K t.d_Word___init__ ["self", "text"] [] := T.F_Word___init__.binds (by intro _ _ _ _ _ _ us hl; obtain ⟨_, _, rfl⟩ := ls2 hl; rfl)
theorem bd_Word_eaten (T : Txt K mg t) : Binds K t.d_Word_eaten ["self", "row", "at"] [] := T.F_Word_eaten.binds (by intro _ _ _ _ _ _ us hl; obtain ⟨_, _, _, rfl⟩ := ls3 hl; rfl)
theorem bd_Word_eats (T : Txt K mg t) : Binds K t.d_Word_eats ["self"] [] := T.F_Word_eats.binds (by intro _ _ _ _ _ _ us hl; obtain ⟨_, rfl⟩ := ls1 hl; rfl)
theorem bd_One___init__ (T : Txt K mg t) : Binds K t.d_One___init__ ["self", "signs"] [] := T.F_One___init__.binds (by intro _ _ _ _ _ _ us hl; obtain ⟨_, _, rfl⟩ := ls2 hl; rfl)
theorem bd_One_eaten (T : Txt K mg t) : Binds K t.d_One_eaten ["self", "row", "at"] [] := T.F_One_eaten.binds (by intro _ _ _ _ _ _ us hl; obtain ⟨_, _, _, rfl⟩ := ls3 hl; rfl)
theorem bd_One_eats (T : Txt K mg t) : Binds K t.d_One_eats ["self"] [] := T.F_One_eats.binds (by intro _ _ _ _ _ _ us hl; obtain ⟨_, rfl⟩ := ls1 hl; rfl)
theorem bd_Without___init__ (T : Txt K mg t) : Binds K t.d_Without___init__ ["self", "signs"] [] := T.F_Without___init__.binds (by intro _ _ _ _ _ _ us hl; obtain ⟨_, _, rfl⟩ := ls2 hl; rfl)
theorem bd_Without_eaten (T : Txt K mg t) : Binds K t.d_Without_eaten ["self", "row", "at"] [] := T.F_Without_eaten.binds (by intro _ _ _ _ _ _ us hl; obtain ⟨_, _, _, rfl⟩ := ls3 hl; rfl)
theorem bd_Without_eats (T : Txt K mg t) : Binds K t.d_Without_eats ["self"] [] := T.F_Without_eats.binds (by intro _ _ _ _ _ _ us hl; obtain ⟨_, rfl⟩ := ls1 hl; rfl)
theorem bd_Many___init__ (T : Txt K mg t) : Binds K t.d_Many___init__ ["self", "signs"] [] := T.F_Many___init__.binds (by intro _ _ _ _ _ _ us hl; obtain ⟨_, _, rfl⟩ := ls2 hl; rfl)
theorem bd_Many_eaten (T : Txt K mg t) : Binds K t.d_Many_eaten ["self", "row", "at"] [] := T.F_Many_eaten.binds (by intro _ _ _ _ _ _ us hl; obtain ⟨_, _, _, rfl⟩ := ls3 hl; rfl)
theorem bd_Many_eats (T : Txt K mg t) : Binds K t.d_Many_eats ["self"] [] := T.F_Many_eats.binds (by intro _ _ _ _ _ _ us hl; obtain ⟨_, rfl⟩ := ls1 hl; rfl)
theorem bd_Any_eaten (T : Txt K mg t) : Binds K t.d_Any_eaten ["self", "row", "at"] [] := T.F_Any_eaten.binds (by intro _ _ _ _ _ _ us hl; obtain ⟨_, _, _, rfl⟩ := ls3 hl; rfl)
theorem bd_Any_eats (T : Txt K mg t) : Binds K t.d_Any_eats ["self"] [] := T.F_Any_eats.binds (by intro _ _ _ _ _ _ us hl; obtain ⟨_, rfl⟩ := ls1 hl; rfl)
theorem bd_Still_eaten (T : Txt K mg t) : Binds K t.d_Still_eaten ["self", "row", "at"] [] := T.F_Still_eaten.binds (by intro _ _ _ _ _ _ us hl; obtain ⟨_, _, _, rfl⟩ := ls3 hl; rfl)
theorem bd_End_eaten (T : Txt K mg t) : Binds K t.d_End_eaten ["self", "row", "at"] [] := T.F_End_eaten.binds (by intro _ _ _ _ _ _ us hl; obtain ⟨_, _, _, rfl⟩ := ls3 hl; rfl)
theorem bd_is_name (T : Txt K mg t) : Binds K t.d_is_name ["word"] [] := T.F_is_name.binds (by intro _ _ _ _ _ _ us hl; obtain ⟨_, rfl⟩ := ls1 hl; rfl)
theorem bd_Rule___init__ (T : Txt K mg t) : Binds K t.d_Rule___init__ ["self", "pattern", "colour", "deed", "goal", "fold"] [] := T.F_Rule___init__.binds (by intro _ _ _ _ _ _ us hl; obtain ⟨_, _, _, _, _, _, rfl⟩ := ls6 hl; rfl)
theorem bd_Mode___init__ (T : Txt K mg t) : Binds K t.d_Mode___init__ ["self", "name", "colour", "rules"] [] := T.F_Mode___init__.binds (by intro _ _ _ _ _ _ us hl; obtain ⟨_, _, _, _, rfl⟩ := ls4 hl; rfl)
theorem bd_Rules___init__ (T : Txt K mg t) : Binds K t.d_Rules___init__ ["self", "modes"] [] := T.F_Rules___init__.binds (by intro _ _ _ _ _ _ us hl; obtain ⟨_, _, rfl⟩ := ls2 hl; rfl)
theorem bd_first_rule (T : Txt K mg t) : Binds K t.d_first_rule ["rules", "mode", "row", "at"] [] := T.F_first_rule.binds (by intro _ _ _ _ _ _ us hl; obtain ⟨_, _, _, _, rfl⟩ := ls4 hl; rfl)
theorem bd_short_rows (T : Txt K mg t) : Binds K t.d_short_rows [] [] := T.F_short_rows.binds (by intro _ _ _ _ _ _ us hl; obtain rfl := ls0 hl; rfl)
theorem bd_piece_of (T : Txt K mg t) : Binds K t.d_piece_of ["rules", "mode", "rule"] [] := T.F_piece_of.binds (by intro _ _ _ _ _ _ us hl; obtain ⟨_, _, _, rfl⟩ := ls3 hl; rfl)
theorem bd_Cursor___init__ (T : Txt K mg t) : Binds K t.d_Cursor___init__ ["self", "row", "text"] [] := T.F_Cursor___init__.binds (by intro _ _ _ _ _ _ us hl; obtain ⟨_, _, _, rfl⟩ := ls3 hl; rfl)
theorem bd_Cursor_more (T : Txt K mg t) : Binds K t.d_Cursor_more ["self"] [] := T.F_Cursor_more.binds (by intro _ _ _ _ _ _ us hl; obtain ⟨_, rfl⟩ := ls1 hl; rfl)
theorem bd_Cursor_peek (T : Txt K mg t) : Binds K t.d_Cursor_peek ["self"] [] := T.F_Cursor_peek.binds (by intro _ _ _ _ _ _ us hl; obtain ⟨_, rfl⟩ := ls1 hl; rfl)
theorem bd_Cursor_ask (T : Txt K mg t) : Binds K t.d_Cursor_ask ["self", "good"] [] := T.F_Cursor_ask.binds (by intro _ _ _ _ _ _ us hl; obtain ⟨_, _, rfl⟩ := ls2 hl; rfl)
theorem bd_Cursor_take (T : Txt K mg t) : Binds K t.d_Cursor_take ["self", "good"] [] := T.F_Cursor_take.binds (by intro _ _ _ _ _ _ us hl; obtain ⟨_, _, rfl⟩ := ls2 hl; rfl)
theorem bd_Cursor_take_choice (T : Txt K mg t) : Binds K t.d_Cursor_take_choice ["self", "words"] [] := T.F_Cursor_take_choice.binds (by intro _ _ _ _ _ _ us hl; obtain ⟨_, _, rfl⟩ := ls2 hl; rfl)
theorem bd_Cursor_take_name (T : Txt K mg t) : Binds K t.d_Cursor_take_name ["self"] [] := T.F_Cursor_take_name.binds (by intro _ _ _ _ _ _ us hl; obtain ⟨_, rfl⟩ := ls1 hl; rfl)
theorem bd_Cursor_take_signs (T : Txt K mg t) : Binds K t.d_Cursor_take_signs ["self"] [] := T.F_Cursor_take_signs.binds (by intro _ _ _ _ _ _ us hl; obtain ⟨_, rfl⟩ := ls1 hl; rfl)
theorem bd_read_rules (T : Txt K mg t) : Binds K t.d_read_rules ["text"] [] := T.F_read_rules.binds (by intro _ _ _ _ _ _ us hl; obtain ⟨_, rfl⟩ := ls1 hl; rfl)
theorem bd_mode_numbers (T : Txt K mg t) : Binds K t.d_mode_numbers ["rows"] [] := T.F_mode_numbers.binds (by intro _ _ _ _ _ _ us hl; obtain ⟨_, rfl⟩ := ls1 hl; rfl)
theorem bd_read_mode (T : Txt K mg t) : Binds K t.d_read_mode ["cursor", "modes"] [] := T.F_read_mode.binds (by intro _ _ _ _ _ _ us hl; obtain ⟨_, _, rfl⟩ := ls2 hl; rfl)
theorem bd_read_rule (T : Txt K mg t) : Binds K t.d_read_rule ["cursor", "numbers", "nowhere"] [] := T.F_read_rule.binds (by intro _ _ _ _ _ _ us hl; obtain ⟨_, _, _, rfl⟩ := ls3 hl; rfl)
theorem bd_read_pattern (T : Txt K mg t) : Binds K t.d_read_pattern ["cursor"] [] := T.F_read_pattern.binds (by intro _ _ _ _ _ _ us hl; obtain ⟨_, rfl⟩ := ls1 hl; rfl)
theorem bd_read_goal (T : Txt K mg t) : Binds K t.d_read_goal ["cursor", "numbers", "nowhere"] [] := T.F_read_goal.binds (by intro _ _ _ _ _ _ us hl; obtain ⟨_, _, _, rfl⟩ := ls3 hl; rfl)
theorem bd__law_draw (T : Txt K mg t) : Binds K t.d__law_draw ["_law_script", "_law_k", "_law_many"] [] := T.F__law_draw.binds (by intro _ _ _ _ _ _ us hl; obtain ⟨_, _, _, rfl⟩ := ls3 hl; rfl)
theorem bd__law_all (T : Txt K mg t) : Binds K t.d__law_all [] [] := T.F__law_all.binds (by intro _ _ _ _ _ _ us hl; obtain rfl := ls0 hl; rfl)
theorem bd__law_signs (T : Txt K mg t) : Binds K t.d__law_signs ["_law_script", "_law_base", "_law_first_here"] [] := T.F__law_signs.binds (by intro _ _ _ _ _ _ us hl; obtain ⟨_, _, _, rfl⟩ := ls3 hl; rfl)
theorem bd__law_rules (T : Txt K mg t) : Binds K t.d__law_rules ["_law_script", "_law_many"] [] := T.F__law_rules.binds (by intro _ _ _ _ _ _ us hl; obtain ⟨_, _, rfl⟩ := ls2 hl; rfl)
theorem bd__law_text (T : Txt K mg t) : Binds K t.d__law_text ["_law_names", "_law_modes"] [] := T.F__law_text.binds (by intro _ _ _ _ _ _ us hl; obtain ⟨_, _, rfl⟩ := ls2 hl; rfl)
theorem bd__law_first (T : Txt K mg t) : Binds K t.d__law_first ["_law_rules_here", "_law_row"] [] := T.F__law_first.binds (by intro _ _ _ _ _ _ us hl; obtain ⟨_, _, rfl⟩ := ls2 hl; rfl)
theorem bd__law_rows (T : Txt K mg t) : Binds K t.d__law_rows ["_law_few"] [] := T.F__law_rows.binds (by intro _ _ _ _ _ _ us hl; obtain ⟨_, rfl⟩ := ls1 hl; rfl)
theorem bd__law_good (T : Txt K mg t) : Binds K t.d__law_good ["_law_rules_here", "_law_modes", "_law_mode", "_law_few"] [] := T.F__law_good.binds (by intro _ _ _ _ _ _ us hl; obtain ⟨_, _, _, _, rfl⟩ := ls4 hl; rfl)
end
local macro_rules | `(tactic| walk_at "rd") => `(tactic| simp only [tSeq, tAsg, tIf, tTest, tB, tOp, tCB, tCons, tNil, tVar, tC, L2.start, rI, rI0, gName, tIfS, tAnd, tOr, tNot, tTup, tLst, tUn, rU, rEq, rNe, rIn, tRet, tNext, rIxL, rIxT, rIxS, tCall, tMeth, tMake, tMakeO, tDrop, tBM, tBM0, tAug, ipI, tAndV, tOrV, tNotV, tSl, rSlS, tPart, tNoPart, rJoin, rStarts3, rStarts2, rSplit, cxOf_K, capV, Option.join_some, Option.join_none, if_true, if_false, Bool.false_eq_true, List.map_cons, List.map_nil, List.length_cons, List.length_nil, List.replicate, List.cons_append, List.nil_append, List.append_nil, List.getElem?_cons_zero, List.getElem?_cons_succ, List.set_cons_zero, List.set_cons_succ, Option.some.injEq, exists_eq_left', exists_eq_left, V.int.injEq, V.str.injEq, V.ref.injEq, V.bl.injEq, List.cons.injEq, and_true, true_and, and_assoc, exists_and_left, exists_eq, exists_const])
local macro_rules | `(tactic| walk_at "ck") => `(tactic| exact ⟨by decide +kernel, rfl, by decide +kernel, by decide +kernel, by decide +kernel, by decide +kernel, by decide +kernel⟩)

section
variable {P : Program} {w : World} {K : PySem.W.Frag} {mg : Str → Option Value} {base : Heap} {t : Adr}

def isName (z : Str) : Bool := decide (1 ≤ z.length) && decide (z.length ≤ 8) && z.cps.toList.all fun c => decide (c ∈ (Str.ofString "abcdefghijklmnopqrstuvwxyz").cps.toList)
def spIsName : Sp := fun vs H Q _ => ∃ z : Str, vs = [.str z] ∧ z.length ≤ 100000 ∧ ∀ H', Same H H' → Q (.bl (isName z)) H'
theorem ok_is_name (T : Txt K mg t) : FnOk P w K mg base CX0 1 t.f_is_name t.d_is_name ["word"] spIsName := by
  refine T.F_is_name.ok sc_is_name (fun vs H Q E h => ?_) (fun cdv A outer s H vs Q E hr h => at_body ?_)
  · obtain ⟨z, rfl, _⟩ := h
    rfl
  · obtain ⟨z, rfl, hz, q⟩ := h
    refine at_consR (fun σ' H' => σ' = [some (.str z)] ∧ H' = H ∧ 1 ≤ z.length ∧ z.length ≤ 8) (ps_if (PW.pt (pw_or (pt_cmpR op_lt (pe_callB call_len_str (by rfl) T.z_len (by decide +kernel) (pa_cons (pv 0) pa_nil)) pe_int (nomark _)) (pw_or1 (pt_cmpR op_gt (pe_callB call_len_str (by rfl) T.z_len (by decide +kernel) (pa_cons (pv 0) pa_nil)) (pe_globE rfl T.mgv_LONGEST_NAME) (nomark _))))) pss_at pss_at) ?_ ?_
    · walk_at "rd"
      refine ⟨sl_le (by omega), ifd (fun h => ?_) (fun h => ?_)⟩
      · refine at_one (ps_ret pe_bl) ?_
        have := q H (Same.refl H)
        rw [isName, decide_eq_false (by omega)] at this
        exact this
      · refine ⟨sl_le (by omega), ifd (fun h => ?_) (fun h => at_nil ⟨rfl, rfl, by omega, by omega⟩)⟩
        refine at_one (ps_ret pe_bl) ?_
        have := q H (Same.refl H)
        rw [isName, decide_eq_false (p := z.length ≤ 8) (by omega), Bool.and_false] at this
        exact this
    rintro σ' H' ⟨rfl, e, h1, h2⟩
    rw [e]
    clear e H'
    refine at_one (ps_ret (pe_callB (call_allL rfl) (by rfl) T.z_all (by decide +kernel) (pa_cons (pe_comp (sc := defScope s_is_name) (N := ["word"]) (x := "sign") (caps := []) (by walk_at "ck") (pi_str (pv 0)) (fun _ _ _ _ => (pe_cmpR op_in_str (pv 0) (pe_globE rfl T.mgv_LETTERS) rfl))) pa_nil))) ?_
    refine ⟨_, rfl, z, rfl, comp_str (fun i ys H2 => H2 = H ∧ ys = (z.cps.toList.take i).map fun c => V.bl (decide (c ∈ (Str.ofString "abcdefghijklmnopqrstuvwxyz").cps.toList))) ⟨rfl, rfl⟩ (sl_lt (by omega)) ?_ ?_⟩
    · rintro i c ys H2 hc hl ⟨rfl, rfl⟩
      have hi : i < z.length := by
        have := (List.getElem?_eq_some_iff.mp hc).1
        simpa [Str.length] using this
      refine ⟨_, rfl, _, _, rfl, rfl, ?_⟩
      rw [PySem.StrLaws.found_one]
      refine comp_turn hi hl ⟨rfl, ?_⟩
      rw [List.take_succ, hc, List.map_append]
      rfl
    · rintro ys H2 hl ⟨rfl, rfl⟩ D hD
      refine ⟨D, (z.cps.toList.map fun c => decide (c ∈ (Str.ofString "abcdefghijklmnopqrstuvwxyz").cps.toList)), rfl, SqL.of (by rw [upd_same, List.take_of_length_le (by simp [Str.length]), List.map_map]; rfl), ?_⟩
      have := q _ (Same.upd (o := .lst (((z.cps.toList.take z.length)).map fun c => V.bl (decide (c ∈ (Str.ofString "abcdefghijklmnopqrstuvwxyz").cps.toList)))) hD)
      rw [isName, decide_eq_true h1, decide_eq_true h2] at this
      rw [List.all_map]
      exact this
def cf (row : Int) (lw : Addr) (i : Nat) : List (Str × V) := [("row", .int row), ("words", .ref lw), ("at", .int i)]
structure Cur (t : Adr) (H : Hp) (p dx lw : Addr) (row : Int) (ws : List Str) (i : Nat) : Prop where
  ob : H p = some (.ins t.c_Cursor dx (cf row lw i))
  ls : H lw = some (.lst (ws.map V.str))
  sz : ws.length ≤ 1000 ∧ ∀ w ∈ ws, w.length ≤ 100000
theorem Cur.ne {H : Hp} {p dx lw : Addr} {row : Int} {ws : List Str} {i : Nat} (c : Cur t H p dx lw row ws i) : p ≠ lw := ne_of c.ob c.ls (by intro z; cases z)
theorem Cur.same {H H' : Hp} {p dx lw : Addr} {row : Int} {ws : List Str} {i : Nat} (c : Cur t H p dx lw row ws i) (s : Same H H') : Cur t H' p dx lw row ws i := ⟨s _ _ c.ob, s _ _ c.ls, c.sz⟩
def pk (ws : List Str) (i : Nat) : Str := ws.getD i ""
theorem pk_lt {ws : List Str} {i : Nat} (h : i < ws.length) : pk ws i = ws[i] := by simp [pk, h]
theorem pk_ge {ws : List Str} {i : Nat} (h : ws.length ≤ i) : pk ws i = "" := by
  unfold pk
  rw [List.getD_eq_getElem?_getD, List.getElem?_eq_none h]
  rfl
theorem Cur.pkl {H : Hp} {p dx lw : Addr} {row : Int} {ws : List Str} {i : Nat} (c : Cur t H p dx lw row ws i) : (pk ws i).length ≤ 100000 := by
  by_cases h : i < ws.length
  · rw [pk_lt h]; exact c.sz.2 _ (List.getElem_mem h)
  · rw [pk_ge (by omega)]; decide
def spCInit (t : Adr) : Sp := fun vs H Q _ => ∃ (p dx : Addr) (row : Int) (text : Str), vs = [.ref p, .int row, .str text] ∧ H p = some (.ins t.c_Cursor dx []) ∧ text.length ≤ 100000 ∧ (PySem.Txt.split text ⟨#[32]⟩).length ≤ 1000 ∧
  ∀ lw H', H lw = none → Cur t H' p dx lw row (PySem.Txt.split text ⟨#[32]⟩) 0 → Adv H H' p → Q .non H'
theorem ok_Cursor___init__ (T : Txt K mg t) : FnOk P w K mg base CX0 1 t.f_Cursor___init__ t.d_Cursor___init__ ["self", "row", "text"] (spCInit t) := by
  refine T.F_Cursor___init__.ok sc_Cursor___init__ (fun vs H Q E h => ?_) (fun cdv A outer s H vs Q E hr h => at_body ?_)
  · obtain ⟨p, dx, row, text, rfl, _⟩ := h
    rfl
  · obtain ⟨p, dx, row, text, rfl, hp, hz, hn, q⟩ := h
    refine at_cons (ps_fld (pv 0) (pv 1) rfl) ⟨_, rfl, _, rfl, p, _, dx, [], rfl, hp, T.cl_Cursor, T.n_Cursor_row, by decide, ?_⟩
    refine at_cons (ps_fld (pv 0) (pe_bm PySem.F.plainAttrs_str PySem.F.slot_str_split PySem.F.type_str_split mt_split (pv 2) (pa_cons pe_str pa_nil)) rfl) ?_
    refine ⟨_, rfl, rfl, _, _, rfl, rfl, by decide, sl_le (by omega), fun lw hl => ⟨_, rfl, p, _, dx, [("row", .int row)], rfl, ?_, T.cl_Cursor, T.n_Cursor_words, by show 1 < 1000; decide, ?_⟩⟩
    · rw [upd_ne (ne_of_none upd_same hl)]; exact upd_same
    have npl : p ≠ lw := ne_of_none upd_same hl
    refine at_one (ps_fld (pv 0) pe_int rfl) ⟨_, rfl, p, _, dx, [("row", .int row), ("words", .ref lw)], rfl, upd_same, T.cl_Cursor, T.n_Cursor_at, by show 2 < 1000; decide, ?_⟩
    have hl0 : H lw = none := by rw [upd_ne (Ne.symm npl)] at hl; exact hl
    refine q lw _ hl0 ⟨upd_same, ?_, hn, fun w hw => Nat.le_trans (PyProof.Rows.part_short hw) hz⟩ fun b o hb nb => ?_
    · rw [upd_ne (Ne.symm npl), upd_ne (Ne.symm npl), upd_same]; rfl
    · rw [upd_ne nb, upd_ne nb, upd_ne (ne_of_none hb hl0), upd_ne nb]; exact hb
def spMore (t : Adr) : Sp := fun vs H Q _ => ∃ (p dx lw : Addr) (row : Int) (ws : List Str) (i : Nat), vs = [.ref p] ∧ Cur t H p dx lw row ws i ∧ Q (.bl (decide (i < ws.length))) H
theorem ok_Cursor_more (T : Txt K mg t) : FnOk P w K mg base CX0 1 t.f_Cursor_more t.d_Cursor_more ["self"] (spMore t) := by
  refine T.F_Cursor_more.ok sc_Cursor_more (fun vs H Q E h => ?_) (fun cdv A outer s H vs Q E hr h => at_body ?_)
  · obtain ⟨p, dx, lw, row, ws, i, rfl, _⟩ := h
    rfl
  · obtain ⟨p, dx, lw, row, ws, i, rfl, C, q⟩ := h
    refine at_one (ps_ret (pe_cmpR op_lt (pe_fld (pv 0) rfl) (pe_callB call_len_seq (by rfl) T.z_len (by decide +kernel) (pa_cons (pe_fld (pv 0) rfl) pa_nil)) (nomark _))) ?_
    simp only [tRet, tOp, tCB, tCons, tNil]
    refine fldv rfl C.ob T.cl_Cursor T.n_Cursor_at rfl ?_
    refine fldv rfl C.ob T.cl_Cursor T.n_Cursor_words rfl ?_
    refine ⟨_, _, rfl, .inl (SqL.of C.ls), _, _, rfl, rfl, ?_⟩
    rw [List.length_map]
    have e : decide ((i : Int) < (ws.length : Int)) = decide (i < ws.length) := by simp
    show Q (.bl (decide ((i : Int) < (ws.length : Int)))) H
    rw [e]
    exact q
def spPeek (t : Adr) : Sp := fun vs H Q _ => ∃ (p dx lw : Addr) (row : Int) (ws : List Str) (i : Nat), vs = [.ref p] ∧ Cur t H p dx lw row ws i ∧ Q (.str (pk ws i)) H
theorem ok_Cursor_peek (T : Txt K mg t) : FnOk P w K mg base CX0 2 t.f_Cursor_peek t.d_Cursor_peek ["self"] (spPeek t) := by
  refine T.F_Cursor_peek.ok sc_Cursor_peek (fun vs H Q E h => ?_) (fun cdv A outer s H vs Q E hr h => at_body ?_)
  · obtain ⟨p, dx, lw, row, ws, i, rfl, _⟩ := h
    rfl
  · obtain ⟨p, dx, lw, row, ws, i, rfl, C, q⟩ := h
    refine at_one (ps_ret (pe_ifExp (pt_val (pe_meth0 (pv 0) T.cl_Cursor T.m_Cursor_more (ok_Cursor_more T) (hr.mono (by decide)) (bd_Cursor_more T) .nil pass0)) (pe_ix ix_list (pe_fld (pv 0) rfl) (pe_fld (pv 0) rfl) (fun _ _ => rfl)) pe_str)) ?_
    refine ⟨_, rfl, p, dx, _, rfl, C.ob, rfl, p, dx, lw, row, ws, i, rfl, C, _, rfl, ifd (fun h => ?_) (fun h => ?_)⟩
    · refine fldv rfl C.ob T.cl_Cursor T.n_Cursor_words rfl ?_
      refine fldv rfl C.ob T.cl_Cursor T.n_Cursor_at rfl ?_
      refine ⟨_, _, _, .str (pk ws i), rfl, rfl, SqL.of C.ls, atI_nat ?_, q⟩
      rw [List.getElem?_map, List.getElem?_eq_getElem h, pk_lt h]
      rfl
    · rw [pk_ge (by omega)] at q
      exact q
def spAsk : Sp := fun vs H Q _ => ∃ p : V, vs = [p, .bl true] ∧ Q .non H
theorem ok_Cursor_ask (T : Txt K mg t) : FnOk P w K mg base CX0 1 t.f_Cursor_ask t.d_Cursor_ask ["self", "good"] spAsk := by
  refine T.F_Cursor_ask.ok sc_Cursor_ask (fun vs H Q E h => ?_) (fun cdv A outer s H vs Q E hr h => at_body ?_)
  · obtain ⟨p, rfl, _⟩ := h
    rfl
  · obtain ⟨p, rfl, q⟩ := h
    refine at_one (ps_if (pt_not (pt_val (pv 1))) pss_at pss_at) ⟨_, rfl, true, rfl, iteF (at_nil q)⟩
/-- one word taken -/
def spTake (t : Adr) : Sp := fun vs H Q _ => ∃ (p dx lw : Addr) (row : Int) (ws : List Str) (i : Nat), vs = [.ref p, .bl true] ∧ Cur t H p dx lw row ws i ∧ ∀ H', Cur t H' p dx lw row ws (i + 1) → Adv H H' p → Q (.str (pk ws i)) H'
theorem ok_Cursor_take (T : Txt K mg t) : FnOk P w K mg base CX0 3 t.f_Cursor_take t.d_Cursor_take ["self", "good"] (spTake t) := by
  refine T.F_Cursor_take.ok sc_Cursor_take (fun vs H Q E h => ?_) (fun cdv A outer s H vs Q E hr h => at_body ?_)
  · obtain ⟨p, dx, lw, row, ws, i, rfl, _⟩ := h
    rfl
  · obtain ⟨p, dx, lw, row, ws, i, rfl, C, q⟩ := h
    refine at_cons (ps_expr (pe_meth (pv 0) T.cl_Cursor T.m_Cursor_ask (ok_Cursor_ask T) (hr.mono (by decide)) (bd_Cursor_ask T) .nil pass0 (pa_cons (pv 1) pa_nil))) ⟨_, rfl, p, dx, _, rfl, C.ob, rfl, _, rfl, _, rfl, ?_⟩
    refine at_cons (ps_set (i := 2) sc_Cursor_take.nd rfl (Or.inl rfl) (pe_meth0 (pv 0) T.cl_Cursor T.m_Cursor_peek (ok_Cursor_peek T) (hr.mono (by decide)) (bd_Cursor_peek T) .nil pass0)) ⟨_, rfl, p, dx, _, rfl, C.ob, rfl, p, dx, lw, row, ws, i, rfl, C, ?_⟩
    refine at_cons (ps_fldaug (pv 0) pe_int in_add) ⟨_, rfl, p, _, dx, _, _, rfl, C.ob, T.cl_Cursor, T.n_Cursor_at, rfl, ?_⟩
    refine ⟨_, _, rfl, rfl, dx, _, C.ob, by show 3 < 1000; decide, ?_⟩
    refine at_one (ps_ret (pv 2)) ⟨_, rfl, ?_⟩
    have C' : Cur t (upd H p (.ins t.c_Cursor dx (cf row lw (i + 1)))) p dx lw row ws (i + 1) := ⟨upd_same, by rw [upd_ne (Ne.symm C.ne)]; exact C.ls, C.sz⟩
    exact q _ C' Adv.upd
/-- a word out of some -/
def spChoice (K : PySem.W.Frag) (t : Adr) : Sp := fun vs H Q _ => ∃ (p dx lw c : Addr) (cs : List Str) (row : Int) (ws : List Str) (i : Nat), vs = [.ref p, .ref c] ∧ Cur t H p dx lw row ws i ∧ SqT K H c (cs.map V.str) ∧ pk ws i ∈ cs ∧ ∀ H', Cur t H' p dx lw row ws (i + 1) → Adv H H' p → Q (.str (pk ws i)) H'
theorem inV_strs {x : Str} {cs : List Str} : inV (.str x) (cs.map V.str) = decide (x ∈ cs) := by
  unfold inV
  rw [List.any_map, Bool.eq_iff_iff, List.any_eq_true, decide_eq_true_eq]
  constructor
  · rintro ⟨y, hy, e⟩
    have : (y == x) = true := e
    rw [← eq_of_beq this]; exact hy
  · intro h
    exact ⟨x, h, by show (x == x) = true; simp⟩
theorem flat_strs {cs : List Str} : (cs.map V.str).all flatV = true := by
  rw [List.all_map, List.all_eq_true]
  intro _ _
  rfl
theorem ok_Cursor_take_choice (T : Txt K mg t) : FnOk P w K mg base CX0 4 t.f_Cursor_take_choice t.d_Cursor_take_choice ["self", "words"] (spChoice K t) := by
  refine T.F_Cursor_take_choice.ok sc_Cursor_take_choice (fun vs H Q E h => ?_) (fun cdv A outer s H vs Q E hr h => at_body ?_)
  · obtain ⟨p, dx, lw, c, cs, row, ws, i, rfl, _⟩ := h
    rfl
  · obtain ⟨p, dx, lw, c, cs, row, ws, i, rfl, C, hc, hin, q⟩ := h
    refine at_one (ps_ret (pe_meth (pv 0) T.cl_Cursor T.m_Cursor_take (ok_Cursor_take T) (hr.mono (by decide)) (bd_Cursor_take T) .nil pass0 (pa_cons (pe_cmpR op_in_seq (pe_meth0 (pv 0) T.cl_Cursor T.m_Cursor_peek (ok_Cursor_peek T) (hr.mono (by decide)) (bd_Cursor_peek T) .nil pass0) (pv 1) rfl) pa_nil))) ?_
    refine ⟨_, rfl, p, dx, _, rfl, C.ob, rfl, ?_⟩
    refine ⟨_, rfl, p, dx, _, rfl, C.ob, rfl, p, dx, lw, row, ws, i, rfl, C, _, rfl, _, _, rfl, .inr hc, rfl, flat_strs, ?_⟩
    rw [inV_strs, decide_eq_true hin]
    exact ⟨p, dx, lw, row, ws, i, rfl, C, q⟩
def spName (t : Adr) : Sp := fun vs H Q _ => ∃ (p dx lw : Addr) (row : Int) (ws : List Str) (i : Nat), vs = [.ref p] ∧ Cur t H p dx lw row ws i ∧ isName (pk ws i) = true ∧ ∀ H', Cur t H' p dx lw row ws (i + 1) → Adv H H' p → Q (.str (pk ws i)) H'
theorem ok_Cursor_take_name (T : Txt K mg t) : FnOk P w K mg base CX0 4 t.f_Cursor_take_name t.d_Cursor_take_name ["self"] (spName t) := by
  refine T.F_Cursor_take_name.ok sc_Cursor_take_name (fun vs H Q E h => ?_) (fun cdv A outer s H vs Q E hr h => at_body ?_)
  · obtain ⟨p, dx, lw, row, ws, i, rfl, _⟩ := h
    rfl
  · obtain ⟨p, dx, lw, row, ws, i, rfl, C, hin, q⟩ := h
    refine at_one (ps_ret (pe_meth (pv 0) T.cl_Cursor T.m_Cursor_take (ok_Cursor_take T) (hr.mono (by decide)) (bd_Cursor_take T) .nil pass0 (pa_cons (pe_call (ok_is_name T) (hr.mono (by decide)) rfl T.mg_is_name T.F_is_name.kp (bd_is_name T) .nil pass0 (pa_cons (pe_meth0 (pv 0) T.cl_Cursor T.m_Cursor_peek (ok_Cursor_peek T) (hr.mono (by decide)) (bd_Cursor_peek T) .nil pass0) pa_nil)) pa_nil))) ?_
    refine ⟨_, rfl, p, dx, _, rfl, C.ob, rfl, ?_⟩
    refine ⟨_, rfl, p, dx, _, rfl, C.ob, rfl, p, dx, lw, row, ws, i, rfl, C, pk ws i, rfl, C.pkl, fun H1 s1 => ?_⟩
    rw [hin]
    exact ⟨p, dx, lw, row, ws, i, rfl, C.same s1, fun H2 C2 a2 => q H2 C2 (s1.adv a2)⟩
/-- the word that tells some signs -/
def wSigns (z : Str) : Str := "'" ++ PySem.Txt.replace z " " "_"
theorem wSigns_cps (z : Str) : (wSigns z).cps.toList = 39 :: subL 32 95 z.cps.toList := by
  unfold wSigns
  rw [cps_app, show ((" " : Str)) = ⟨#[32]⟩ from by decide +kernel, show (("_" : Str)) = ⟨#[95]⟩ from by decide +kernel, replace_cps]
  rfl
def spSigns (t : Adr) : Sp := fun vs H Q _ => ∃ (p dx lw : Addr) (row : Int) (ws : List Str) (i : Nat) (z : Str), vs = [.ref p] ∧ Cur t H p dx lw row ws i ∧ pk ws i = wSigns z ∧ 1 ≤ z.length ∧ z.length ≤ 1000 ∧ 95 ∉ z.cps.toList ∧ ∀ H', Cur t H' p dx lw row ws (i + 1) → Adv H H' p → Q (.str z) H'
theorem slice1 {w : Str} (h : 1 ≤ w.length) : (PySem.Txt.slice w (some 1) none).cps.toList = w.cps.toList.drop 1 := by
  rw [PyProof.Rows.slice_from_eq (b := (w.length : Int)) (by decide) (by omega) rfl]
  show (w.cps.toList.drop 1).take _ = _
  refine List.take_of_length_le ?_
  rw [List.length_drop, Array.length_toList]
  show w.length - 1 ≤ _
  omega
theorem ok_Cursor_take_signs (T : Txt K mg t) : FnOk P w K mg base CX0 4 t.f_Cursor_take_signs t.d_Cursor_take_signs ["self"] (spSigns t) := by
  refine T.F_Cursor_take_signs.ok sc_Cursor_take_signs (fun vs H Q E h => ?_) (fun cdv A outer s H vs Q E hr h => at_body ?_)
  · obtain ⟨p, dx, lw, row, ws, i, z, rfl, _⟩ := h
    rfl
  · obtain ⟨p, dx, lw, row, ws, i, z, rfl, C, hw, hz1, hz2, hz3, q⟩ := h
    have hlen : (wSigns z).length = z.length + 1 := by
      have := congrArg List.length (wSigns_cps z)
      simpa [Str.length, subL] using this
    refine at_cons (ps_set (i := 1) sc_Cursor_take_signs.nd rfl (Or.inl rfl) (pe_meth0 (pv 0) T.cl_Cursor T.m_Cursor_peek (ok_Cursor_peek T) (hr.mono (by decide)) (bd_Cursor_peek T) .nil pass0)) ⟨_, rfl, p, dx, _, rfl, C.ob, rfl, p, dx, lw, row, ws, i, rfl, C, ?_⟩
    rw [hw]
    refine at_cons (ps_expr (pe_meth (pv 0) T.cl_Cursor T.m_Cursor_take (ok_Cursor_take T) (hr.mono (by decide)) (bd_Cursor_take T) .nil pass0 (pa_cons (pe_and (pe_cmpR op_gt (pe_callB call_len_str (by rfl) T.z_len (by decide +kernel) (pa_cons (pv 1) pa_nil)) pe_int (nomark _)) (pe_one (pe_bm PySem.F.plainAttrs_str PySem.F.slot_str_startswith PySem.F.type_str_startswith mt_starts2 (pv 1) (pa_cons pe_str pa_nil)))) pa_nil))) ?_
    refine ⟨_, rfl, p, dx, _, rfl, C.ob, rfl, ?_⟩
    refine ⟨_, rfl, _, rfl, sl_le (by omega), _, _, rfl, rfl, _, rfl, ?_⟩
    rw [decide_eq_true (by omega), if_pos rfl]
    refine ⟨_, rfl, rfl, _, _, rfl, rfl, ?_⟩
    have hst : (decide (0 + ("'" : Str).length ≤ (wSigns z).length) && Builtin.Str.subAt (wSigns z) "'" 0) = true := by
      have e1 : ("'" : Str).length = 1 := by decide +kernel
      rw [Bool.and_eq_true, decide_eq_true_eq, e1]
      refine ⟨by omega, ?_⟩
      unfold Builtin.Str.subAt
      rw [beq_iff_eq, ← Array.toList_inj, e1]
      have e2 := wSigns_cps z
      simp only [Array.toList_extract, List.extract_eq_take_drop, e2]
      rfl
    rw [hst]
    refine ⟨p, dx, lw, row, ws, i, rfl, C, fun H1 C1 a1 => ?_⟩
    refine at_one (ps_ret (pe_repl_sl (by decide +kernel) (pv 1))) ⟨_, rfl, _, rfl, sl_le (by omega), _, rfl, ?_, ?_⟩
    · have h1 : (PySem.Txt.slice (wSigns z) (some 1) none).length ≤ 1001 := Nat.le_trans (PySem.Txt.slice_le _ _ _) (by omega)
      have h2 : (" " : Str).length = 1 := by decide +kernel
      rw [h2]
      omega
    · have e : PySem.Txt.replace (PySem.Txt.slice (wSigns z) (some 1) none) "_" " " = z := by
        refine str_ext ?_
        rw [show ((" " : Str)) = ⟨#[32]⟩ from by decide +kernel, show (("_" : Str)) = ⟨#[95]⟩ from by decide +kernel, replace_cps, slice1 (by omega), wSigns_cps]
        exact subL_back hz3
      rw [e]
      exact q H1 C1 a1
end
local macro_rules | `(tactic| walk_at "u") => `(tactic| first | rfl | decide | exact Or.inl rfl | exact Or.inr rfl | exact Or.inr (Or.inl rfl) | exact Or.inr (Or.inr rfl) | assumption | (intro _; rfl) | exact nobehind _ (by decide) (by decide))
section
variable {P : Program} {w : World} {K : PySem.W.Frag} {mg : Str → Option Value} {base : Heap} {t : Adr}
def runL (sg : List Nat) : List Nat → Nat
  | [] => 0
  | c :: r => if c ∈ sg then 1 + runL sg r else 0
def dueV (sort signs row : Str) (i : Nat) : V :=
  if sort = "end" then (if i = row.length then .int 0 else .non)
  else if sort = "word" then (if (row.cps.toList.drop i).take signs.length = signs.cps.toList then .int signs.length else .non)
  else match row.cps.toList[i]? with
    | none => .non
    | some c =>
      if sort = "any" ∨ sort = "still" then .int (if sort = "any" then 1 else 0)
      else if sort = "none" then (if c ∈ signs.cps.toList then .non else .int 1)
      else if c ∈ signs.cps.toList then .int (if sort = "many" then 1 + runL signs.cps.toList (row.cps.toList.drop (i + 1)) else 1) else .non

theorem getL {row : Str} {i : Nat} : row.cps.toList.length = row.length := by simp [Str.length]
/-- one sign of a text at a place in it -/
theorem strAt {row : Str} {i : Int} (h0 : 0 ≤ i) (h1 : i < row.length) : ∃ c, row.cps.toList[i.toNat]? = some c ∧ atI row.cps.toList i = some c := atI_in _ h0 (by rw [getL (i := 0)]; exact h1)
/-- what eaten promises: an instance of C with the attributes that fl tells -/
def spEat (C : Addr) (fl : Str → List (Str × V)) (sort : Str) : Sp := fun vs H Q _ => ∃ (p dx : Addr) (signs row : Str) (i : Nat), vs = [.ref p, .str row, .int i] ∧ H p = some (.ins C dx (fl signs)) ∧ signs.length ≤ 1000 ∧ row.length ≤ 1000 ∧ i ≤ row.length ∧ Q (dueV sort signs row i) H
def spEats (b : Bool) : Sp := fun vs H Q _ => ∃ p : V, vs = [p] ∧ Q (.bl b) H
def spInit (C : Addr) (f : Str) : Sp := fun vs H Q _ => ∃ (p dx : Addr) (z : Str), vs = [.ref p, .str z] ∧ H p = some (.ins C dx []) ∧ Q .non (upd H p (.ins C dx [(f, .str z)]))
theorem ok_Word___init__ (T : Txt K mg t) : FnOk P w K mg base CX0 1 t.f_Word___init__ t.d_Word___init__ ["self", "text"] (spInit t.c_Word "wanted") := by
  refine T.F_Word___init__.ok sc_Word___init__ (fun vs H Q E h => ?_) (fun cdv A outer s H vs Q E hr h => at_body ?_)
  · obtain ⟨p, dx, z, rfl, _⟩ := h
    rfl
  · obtain ⟨p, dx, z, rfl, hp, q⟩ := h
    refine @at_one _ _ _ _ _ _ (ps_fld (pv 0) (pv 1) rfl) ?_
    exact ⟨_, rfl, _, rfl, p, _, dx, [], rfl, hp, T.cl_Word, T.n_Word_wanted, by decide, q⟩
theorem ok_One___init__ (T : Txt K mg t) : FnOk P w K mg base CX0 1 t.f_One___init__ t.d_One___init__ ["self", "signs"] (spInit t.c_One "signs") := by
  refine T.F_One___init__.ok sc_One___init__ (fun vs H Q E h => ?_) (fun cdv A outer s H vs Q E hr h => at_body ?_)
  · obtain ⟨p, dx, z, rfl, _⟩ := h
    rfl
  · obtain ⟨p, dx, z, rfl, hp, q⟩ := h
    refine @at_one _ _ _ _ _ _ (ps_fld (pv 0) (pv 1) rfl) ?_
    exact ⟨_, rfl, _, rfl, p, _, dx, [], rfl, hp, T.cl_One, T.n_One_signs, by decide, q⟩
theorem ok_Without___init__ (T : Txt K mg t) : FnOk P w K mg base CX0 1 t.f_Without___init__ t.d_Without___init__ ["self", "signs"] (spInit t.c_Without "signs") := by
  refine T.F_Without___init__.ok sc_Without___init__ (fun vs H Q E h => ?_) (fun cdv A outer s H vs Q E hr h => at_body ?_)
  · obtain ⟨p, dx, z, rfl, _⟩ := h
    rfl
  · obtain ⟨p, dx, z, rfl, hp, q⟩ := h
    refine @at_one _ _ _ _ _ _ (ps_fld (pv 0) (pv 1) rfl) ?_
    exact ⟨_, rfl, _, rfl, p, _, dx, [], rfl, hp, T.cl_Without, T.n_Without_signs, by decide, q⟩
theorem ok_Many___init__ (T : Txt K mg t) : FnOk P w K mg base CX0 1 t.f_Many___init__ t.d_Many___init__ ["self", "signs"] (spInit t.c_Many "signs") := by
  refine T.F_Many___init__.ok sc_Many___init__ (fun vs H Q E h => ?_) (fun cdv A outer s H vs Q E hr h => at_body ?_)
  · obtain ⟨p, dx, z, rfl, _⟩ := h
    rfl
  · obtain ⟨p, dx, z, rfl, hp, q⟩ := h
    refine @at_one _ _ _ _ _ _ (ps_fld (pv 0) (pv 1) rfl) ?_
    exact ⟨_, rfl, _, rfl, p, _, dx, [], rfl, hp, T.cl_Many, T.n_Many_signs, by decide, q⟩
theorem ok_Pattern_eats (T : Txt K mg t) : FnOk P w K mg base CX0 1 t.f_Pattern_eats t.d_Pattern_eats ["self"] (spEats false) := by
  refine T.F_Pattern_eats.ok sc_Pattern_eats (fun vs H Q E h => ?_) (fun cdv A outer s H vs Q E hr h => at_body ?_)
  · obtain ⟨p, rfl, _⟩ := h
    rfl
  · obtain ⟨p, rfl, q⟩ := h
    exact @at_one _ _ _ _ _ _ (ps_ret pe_bl) q
theorem ok_Word_eats (T : Txt K mg t) : FnOk P w K mg base CX0 1 t.f_Word_eats t.d_Word_eats ["self"] (spEats true) := by
  refine T.F_Word_eats.ok sc_Word_eats (fun vs H Q E h => ?_) (fun cdv A outer s H vs Q E hr h => at_body ?_)
  · obtain ⟨p, rfl, _⟩ := h
    rfl
  · obtain ⟨p, rfl, q⟩ := h
    exact @at_one _ _ _ _ _ _ (ps_ret pe_bl) q
theorem ok_One_eats (T : Txt K mg t) : FnOk P w K mg base CX0 1 t.f_One_eats t.d_One_eats ["self"] (spEats true) := by
  refine T.F_One_eats.ok sc_One_eats (fun vs H Q E h => ?_) (fun cdv A outer s H vs Q E hr h => at_body ?_)
  · obtain ⟨p, rfl, _⟩ := h
    rfl
  · obtain ⟨p, rfl, q⟩ := h
    exact @at_one _ _ _ _ _ _ (ps_ret pe_bl) q
theorem ok_Without_eats (T : Txt K mg t) : FnOk P w K mg base CX0 1 t.f_Without_eats t.d_Without_eats ["self"] (spEats true) := by
  refine T.F_Without_eats.ok sc_Without_eats (fun vs H Q E h => ?_) (fun cdv A outer s H vs Q E hr h => at_body ?_)
  · obtain ⟨p, rfl, _⟩ := h
    rfl
  · obtain ⟨p, rfl, q⟩ := h
    exact @at_one _ _ _ _ _ _ (ps_ret pe_bl) q
theorem ok_Many_eats (T : Txt K mg t) : FnOk P w K mg base CX0 1 t.f_Many_eats t.d_Many_eats ["self"] (spEats true) := by
  refine T.F_Many_eats.ok sc_Many_eats (fun vs H Q E h => ?_) (fun cdv A outer s H vs Q E hr h => at_body ?_)
  · obtain ⟨p, rfl, _⟩ := h
    rfl
  · obtain ⟨p, rfl, q⟩ := h
    exact @at_one _ _ _ _ _ _ (ps_ret pe_bl) q
theorem ok_Any_eats (T : Txt K mg t) : FnOk P w K mg base CX0 1 t.f_Any_eats t.d_Any_eats ["self"] (spEats true) := by
  refine T.F_Any_eats.ok sc_Any_eats (fun vs H Q E h => ?_) (fun cdv A outer s H vs Q E hr h => at_body ?_)
  · obtain ⟨p, rfl, _⟩ := h
    rfl
  · obtain ⟨p, rfl, q⟩ := h
    exact @at_one _ _ _ _ _ _ (ps_ret pe_bl) q

theorem subAt_iff {row sg : Str} {i : Nat} (hi : i ≤ row.length) : (decide (fromIndex row.length (i : Int) + sg.length ≤ row.length) && Builtin.Str.subAt row sg (fromIndex row.length (i : Int))) = decide ((row.cps.toList.drop i).take sg.length = sg.cps.toList) := by
  have e : fromIndex row.length (i : Int) = i := by unfold fromIndex; rw [if_neg (by omega)]; omega
  rw [e]
  have e2 : Builtin.Str.subAt row sg i = decide ((row.cps.toList.drop i).take sg.length = sg.cps.toList) := by
    unfold Builtin.Str.subAt
    rw [Bool.eq_iff_iff, beq_iff_eq, decide_eq_true_eq]
    rw [← Array.toList_inj]
    simp [Array.toList_extract, List.extract_eq_take_drop]
  rw [e2, Bool.eq_iff_iff, Bool.and_eq_true, decide_eq_true_eq, decide_eq_true_eq]
  refine ⟨fun z => z.2, fun z => ⟨?_, z⟩⟩
  have := congrArg List.length z
  rw [List.length_take, List.length_drop, getL (i := 0), getL (i := 0)] at this
  omega
theorem ok_Word_eaten (T : Txt K mg t) : FnOk P w K mg base CX0 1 t.f_Word_eaten t.d_Word_eaten ["self", "row", "at"] (spEat t.c_Word (fun z => [("wanted", .str z)]) "word") := by
  refine T.F_Word_eaten.ok sc_Word_eaten (fun vs H Q E h => ?_) (fun cdv A outer s H vs Q E hr h => at_body ?_)
  · obtain ⟨p, dx, sg, row, i, rfl, _⟩ := h
    rfl
  · obtain ⟨p, dx, sg, row, i, rfl, hp, hs, hw, hi, q⟩ := h
    refine @at_one _ _ _ _ _ _ (ps_ret (pe_ifExp (pt_val (pe_bm PySem.F.plainAttrs_str PySem.F.slot_str_startswith PySem.F.type_str_startswith mt_starts3 (pv 1) (pa_cons (pe_fld (pv 0) rfl) (pa_cons (pv 2) pa_nil)))) (pe_callB call_len_str (by rfl) T.z_len (by decide +kernel) (pa_cons (pe_fld (pv 0) rfl) pa_nil)) pe_non)) ?_
    rw [dueV, if_neg (by decide), if_pos rfl] at q
    refine ⟨_, rfl, rfl, _, rfl, p, _, dx, _, _, rfl, hp, T.cl_Word, T.n_Word_wanted, rfl, _, rfl, _, _, _, rfl, rfl, _, rfl, ?_⟩
    rw [subAt_iff hi]
    refine ifd (fun h => ?_) (fun h => ?_)
    · rw [if_pos h] at q
      exact ⟨_, rfl, p, _, dx, _, _, rfl, hp, T.cl_Word, T.n_Word_wanted, rfl, _, rfl, sl_le (by omega), q⟩
    · rw [if_neg h] at q
      exact q
theorem dueV_at {sort sg row : Str} {i c : Nat} (h1 : sort ≠ "end") (h2 : sort ≠ "word") (e : row.cps.toList[i]? = some c) : dueV sort sg row i = if sort = "any" ∨ sort = "still" then .int (if sort = "any" then 1 else 0)
      else if sort = "none" then (if c ∈ sg.cps.toList then .non else .int 1)
      else if c ∈ sg.cps.toList then .int (if sort = "many" then 1 + runL sg.cps.toList (row.cps.toList.drop (i + 1)) else 1) else .non := by
  rw [dueV, if_neg h1, if_neg h2, e]
theorem dueV_out {sort sg row : Str} {i : Nat} (h1 : sort ≠ "end") (h2 : sort ≠ "word") (h : row.length ≤ i) : dueV sort sg row i = .non := by
  rw [dueV, if_neg h1, if_neg h2, List.getElem?_eq_none (by rw [getL (i := 0)]; exact h)]
theorem ok_One_eaten (T : Txt K mg t) : FnOk P w K mg base CX0 1 t.f_One_eaten t.d_One_eaten ["self", "row", "at"] (spEat t.c_One (fun z => [("signs", .str z)]) "one") := by
  refine T.F_One_eaten.ok sc_One_eaten (fun vs H Q E h => ?_) (fun cdv A outer s H vs Q E hr h => at_body ?_)
  · obtain ⟨p, dx, sg, row, i, rfl, _⟩ := h
    rfl
  · obtain ⟨p, dx, sg, row, i, rfl, hp, hs, hw, hi, q⟩ := h
    refine @at_one _ _ _ _ _ _ (ps_ret (pe_ifExp (PW.pt (pw_and (pt_cmpR op_lt (pv 2) (pe_callB call_len_str (by rfl) T.z_len (by decide +kernel) (pa_cons (pv 1) pa_nil)) (nomark _)) (pw_and1 (pt_cmpR op_in_str (pe_ix ix_str (pv 1) (pv 2) (fun _ _ => rfl)) (pe_fld (pv 0) rfl) rfl)))) pe_int pe_non)) ?_
    walk_at "rd"
    refine ⟨sl_le (by omega), ifd (fun h => ?_) (fun h => ?_)⟩
    · obtain ⟨c, e1, e2⟩ := strAt (row := row) (i := (i : Int)) (by omega) h
      rw [Int.toNat_natCast] at e1
      refine ⟨sl_le (by omega), c, e2, ⟨_, rfl, _, _, _, _, _, rfl, hp, T.cl_One, T.n_One_signs, rfl, ⟨sg, rfl, ?_⟩⟩⟩
      rw [PySem.StrLaws.found_one]
      rw [dueV_at (by decide) (by decide) e1, if_neg (by decide), if_neg (by decide)] at q
      refine ifd (fun h => ?_) (fun h => ?_)
      · rw [if_pos h, if_neg (by decide)] at q
        exact q
      · rw [if_neg h] at q
        exact q
    · rw [dueV_out (by decide) (by decide) (by omega)] at q
      exact q
theorem ok_Without_eaten (T : Txt K mg t) : FnOk P w K mg base CX0 1 t.f_Without_eaten t.d_Without_eaten ["self", "row", "at"] (spEat t.c_Without (fun z => [("signs", .str z)]) "none") := by
  refine T.F_Without_eaten.ok sc_Without_eaten (fun vs H Q E h => ?_) (fun cdv A outer s H vs Q E hr h => at_body ?_)
  · obtain ⟨p, dx, sg, row, i, rfl, _⟩ := h
    rfl
  · obtain ⟨p, dx, sg, row, i, rfl, hp, hs, hw, hi, q⟩ := h
    refine @at_one _ _ _ _ _ _ (ps_ret (pe_ifExp (PW.pt (pw_and (pt_cmpR op_lt (pv 2) (pe_callB call_len_str (by rfl) T.z_len (by decide +kernel) (pa_cons (pv 1) pa_nil)) (nomark _)) (pw_and1 (pt_cmpR op_notin_str (pe_ix ix_str (pv 1) (pv 2) (fun _ _ => rfl)) (pe_fld (pv 0) rfl) rfl)))) pe_int pe_non)) ?_
    walk_at "rd"
    refine ⟨sl_le (by omega), ifd (fun h => ?_) (fun h => ?_)⟩
    · obtain ⟨c, e1, e2⟩ := strAt (row := row) (i := (i : Int)) (by omega) h
      rw [Int.toNat_natCast] at e1
      refine ⟨sl_le (by omega), c, e2, ⟨_, rfl, _, _, _, _, _, rfl, hp, T.cl_Without, T.n_Without_signs, rfl, ⟨sg, rfl, ?_⟩⟩⟩
      rw [PySem.StrLaws.found_one]
      rw [dueV_at (by decide) (by decide) e1, if_neg (by decide), if_pos rfl] at q
      refine ifnd (fun h => ?_) (fun h => ?_)
      · rw [if_neg h] at q
        exact q
      · rw [if_pos h] at q
        exact q
    · rw [dueV_out (by decide) (by decide) (by omega)] at q
      exact q
theorem ok_Any_eaten (T : Txt K mg t) : FnOk P w K mg base CX0 1 t.f_Any_eaten t.d_Any_eaten ["self", "row", "at"] (spEat t.c_Any (fun z => []) "any") := by
  refine T.F_Any_eaten.ok sc_Any_eaten (fun vs H Q E h => ?_) (fun cdv A outer s H vs Q E hr h => at_body ?_)
  · obtain ⟨p, dx, sg, row, i, rfl, _⟩ := h
    rfl
  · obtain ⟨p, dx, sg, row, i, rfl, hp, hs, hw, hi, q⟩ := h
    refine @at_one _ _ _ _ _ _ (ps_ret (pe_ifExp (pt_cmpR op_lt (pv 2) (pe_callB call_len_str (by rfl) T.z_len (by decide +kernel) (pa_cons (pv 1) pa_nil)) (nomark _)) pe_int pe_non)) ?_
    walk_at "rd"
    refine ⟨sl_le (by omega), ifd (fun h => ?_) (fun h => ?_)⟩
    · obtain ⟨c, e1, e2⟩ := strAt (row := row) (i := (i : Int)) (by omega) h
      rw [Int.toNat_natCast] at e1
      rw [dueV_at (by decide) (by decide) e1, if_pos (by decide), if_pos rfl] at q
      exact q
    · rw [dueV_out (by decide) (by decide) (by omega)] at q
      exact q
theorem ok_Still_eaten (T : Txt K mg t) : FnOk P w K mg base CX0 1 t.f_Still_eaten t.d_Still_eaten ["self", "row", "at"] (spEat t.c_Still (fun z => []) "still") := by
  refine T.F_Still_eaten.ok sc_Still_eaten (fun vs H Q E h => ?_) (fun cdv A outer s H vs Q E hr h => at_body ?_)
  · obtain ⟨p, dx, sg, row, i, rfl, _⟩ := h
    rfl
  · obtain ⟨p, dx, sg, row, i, rfl, hp, hs, hw, hi, q⟩ := h
    refine @at_one _ _ _ _ _ _ (ps_ret (pe_ifExp (pt_cmpR op_lt (pv 2) (pe_callB call_len_str (by rfl) T.z_len (by decide +kernel) (pa_cons (pv 1) pa_nil)) (nomark _)) pe_int pe_non)) ?_
    walk_at "rd"
    refine ⟨sl_le (by omega), ifd (fun h => ?_) (fun h => ?_)⟩
    · obtain ⟨c, e1, e2⟩ := strAt (row := row) (i := (i : Int)) (by omega) h
      rw [Int.toNat_natCast] at e1
      rw [dueV_at (by decide) (by decide) e1, if_pos (by decide), if_neg (by decide)] at q
      exact q
    · rw [dueV_out (by decide) (by decide) (by omega)] at q
      exact q
theorem ok_End_eaten (T : Txt K mg t) : FnOk P w K mg base CX0 1 t.f_End_eaten t.d_End_eaten ["self", "row", "at"] (spEat t.c_End (fun z => []) "end") := by
  refine T.F_End_eaten.ok sc_End_eaten (fun vs H Q E h => ?_) (fun cdv A outer s H vs Q E hr h => at_body ?_)
  · obtain ⟨p, dx, sg, row, i, rfl, _⟩ := h
    rfl
  · obtain ⟨p, dx, sg, row, i, rfl, hp, hs, hw, hi, q⟩ := h
    refine @at_one _ _ _ _ _ _ (ps_ret (pe_ifExp (pt_cmpR op_eq (pv 2) (pe_callB call_len_str (by rfl) T.z_len (by decide +kernel) (pa_cons (pv 1) pa_nil)) (nomark _)) pe_int pe_non)) ?_
    walk_at "rd"
    rw [dueV, if_pos rfl] at q
    refine ⟨sl_le (by omega), rfl, ifd (fun h => ?_) (fun h => ?_)⟩
    · rw [if_pos (by omega)] at q
      exact q
    · rw [if_neg (by omega)] at q
      exact q
theorem run_step {sg l : List Nat} {j c : Nat} (e : l[j]? = some c) : runL sg (l.drop j) = if c ∈ sg then 1 + runL sg (l.drop (j + 1)) else 0 := by
  have hdrop : l.drop j = c :: l.drop (j + 1) := by
    rw [List.drop_eq_getElem?_toList_append, e]; rfl
  rw [hdrop, runL]
theorem ok_Many_eaten (T : Txt K mg t) : FnOk P w K mg base CX0 1 t.f_Many_eaten t.d_Many_eaten ["self", "row", "at"] (spEat t.c_Many (fun z => [("signs", .str z)]) "many") := by
  refine T.F_Many_eaten.ok sc_Many_eaten (fun vs H Q E h => ?_) (fun cdv A outer s H vs Q E hr h => at_body ?_)
  · obtain ⟨p, dx, sg, row, i, rfl, _⟩ := h
    rfl
  · obtain ⟨p, dx, sg, row, i, rfl, hp, hs, hw, hi, q⟩ := h
    have q' : Q (if 0 < runL sg.cps.toList (row.cps.toList.drop i) then .int (runL sg.cps.toList (row.cps.toList.drop i)) else .non) H := by
      by_cases h : i < row.length
      · obtain ⟨c, e1, e2⟩ := strAt (row := row) (i := (i : Int)) (by omega) (by omega)
        rw [Int.toNat_natCast] at e1
        rw [dueV_at (by decide) (by decide) e1, if_neg (by decide), if_neg (by decide), if_pos rfl] at q
        rw [run_step e1]
        by_cases h2 : c ∈ sg.cps.toList
        · rw [if_pos h2] at q ⊢
          rw [if_pos (by omega)]
          exact q
        · rw [if_neg h2] at q ⊢
          exact q
      · rw [dueV_out (by decide) (by decide) (by omega)] at q
        have : row.cps.toList.drop i = [] := List.drop_eq_nil_of_le (by rw [getL (i := 0)]; omega)
        rw [this]
        exact q
    refine @at_cons _ _ _ _ _ _ _ (ps_set (i := 3) sc_Many_eaten.nd rfl (Or.inl rfl) (pv 2)) ?_
    walk_at "rd"
    refine at_consR (fun σ' H' => H' = H ∧ σ' = [some (.ref p), some (.str row), some (.int i), some (.int ((i : Int) + runL sg.cps.toList (row.cps.toList.drop i)))]) (ps_while PassesOwn.never (PW.pt (pw_and (pt_cmpR op_lt (pv 3) (pe_callB call_len_str (by rfl) T.z_len (by decide +kernel) (pa_cons (pv 1) pa_nil)) (nomark _)) (pw_and1 (pt_cmpR op_in_str (pe_ix ix_str (pv 1) (pv 3) (fun _ _ => rfl)) (pe_fld (pv 0) rfl) rfl)))) pss_at) ?_ ?_
    · refine ⟨fun m σ' H' => ∃ j : Nat, σ' = [some (.ref p), some (.str row), some (.int i), some (.int (j : Int))] ∧ H' = H ∧ j ≤ row.length ∧ m = row.length - j ∧ i + runL sg.cps.toList (row.cps.toList.drop i) = j + runL sg.cps.toList (row.cps.toList.drop j), ⟨_, i, rfl, rfl, hi, rfl, rfl⟩, ?_⟩
      rintro m σ' H' ⟨j, rfl, e, hj, rfl, hr⟩
      rw [e]
      clear e H'
      walk_at "rd"
      refine ⟨sl_le (by omega), ifd (fun h => ?_) (fun h => ?_)⟩
      · obtain ⟨c, e1, e2⟩ := strAt (row := row) (i := (j : Int)) (by omega) h
        rw [Int.toNat_natCast] at e1
        rw [run_step (j := j) e1] at hr
        refine ⟨sl_le (by omega), c, e2, ⟨_, rfl, _, _, _, _, _, rfl, hp, T.cl_Many, T.n_Many_signs, rfl, ⟨sg, rfl, ?_⟩⟩⟩
        rw [PySem.StrLaws.found_one]
        refine ifd (fun h2 => ?_) (fun h2 => ?_)
        · rw [if_pos h2] at hr
          refine ⟨_, fun σ' H' z => z, @at_one _ _ _ _ _ _ (ps_aug (i := 3) sc_Many_eaten.nd rfl (Or.inl rfl) pe_int ip_add) ?_⟩
          walk_at "rd"
          exact ⟨row.length - (j + 1), by omega, j + 1, by simp, by omega, rfl, by omega⟩
        · rw [if_neg h2] at hr
          refine ⟨rfl, ?_⟩
          rw [show (i : Int) + (runL sg.cps.toList (row.cps.toList.drop i) : Nat) = (j : Int) by omega]
      · have : row.cps.toList.drop j = [] := List.drop_eq_nil_of_le (by rw [getL (i := 0)]; omega)
        rw [this, runL] at hr
        omega
    rintro σ' H' ⟨e, rfl⟩
    rw [e]
    clear e H'
    refine @at_one _ _ _ _ _ _ (ps_ret (pe_ifExp (pt_cmpR op_gt (pv 3) (pv 2) (nomark _)) (pe_op op_sub (pv 3) (pv 2)) pe_non)) ?_
    walk_at "rd"
    refine ifd (fun h => ?_) (fun h => ?_)
    · rw [if_pos (by omega)] at q'
      rw [show (i : Int) + (runL sg.cps.toList (row.cps.toList.drop i) : Nat) - i = runL sg.cps.toList (row.cps.toList.drop i) by omega]
      exact q'
    · rw [if_neg (by omega)] at q'
      exact q'
def eatsB (sort : Str) : Bool := !decide (sort = "still" ∨ sort = "end")
structure PatK (P : Program) (w : World) (K : PySem.W.Frag) (mg : Str → Option Value) (base : Heap) (C fe fs : Addr) (de ds : FuncData) (sort : Str) (fl : Str → List (Str × V)) : Prop where
  cl : Cls K C
  me : Meth K C "eaten" fe
  ms : Meth K C "eats" fs
  ne : ∀ z, (fl z).lookup ("eaten" : Str) = none
  ns : ∀ z, (fl z).lookup ("eats" : Str) = none
  ge : FnOk P w K mg base CX0 1 fe de ["self", "row", "at"] (spEat C fl sort)
  be : Binds K de ["self", "row", "at"] []
  gs : FnOk P w K mg base CX0 1 fs ds ["self"] (spEats (eatsB sort))
  bs : Binds K ds ["self"] []
  ty : PySem.W.findIn K (.ref C) "__class__" = some (some (.builtin "object.__class__"))
  mr : PySem.W.mroIn K C (.type "object") = some true
theorem pk_Word (T : Txt K mg t) : PatK P w K mg base t.c_Word t.f_Word_eaten t.f_Word_eats t.d_Word_eaten t.d_Word_eats "word" (fun z => [("wanted", .str z)]) :=
  ⟨T.cl_Word, T.m_Word_eaten, T.m_Word_eats, fun _ => by rfl, fun _ => by rfl, ok_Word_eaten T, bd_Word_eaten T, by rw [show eatsB "word" = true by decide +kernel]; exact ok_Word_eats T, bd_Word_eats T, T.ty_Word, T.mr_Word⟩
theorem pk_One (T : Txt K mg t) : PatK P w K mg base t.c_One t.f_One_eaten t.f_One_eats t.d_One_eaten t.d_One_eats "one" (fun z => [("signs", .str z)]) :=
  ⟨T.cl_One, T.m_One_eaten, T.m_One_eats, fun _ => by rfl, fun _ => by rfl, ok_One_eaten T, bd_One_eaten T, by rw [show eatsB "one" = true by decide +kernel]; exact ok_One_eats T, bd_One_eats T, T.ty_One, T.mr_One⟩
theorem pk_Without (T : Txt K mg t) : PatK P w K mg base t.c_Without t.f_Without_eaten t.f_Without_eats t.d_Without_eaten t.d_Without_eats "none" (fun z => [("signs", .str z)]) :=
  ⟨T.cl_Without, T.m_Without_eaten, T.m_Without_eats, fun _ => by rfl, fun _ => by rfl, ok_Without_eaten T, bd_Without_eaten T, by rw [show eatsB "none" = true by decide +kernel]; exact ok_Without_eats T, bd_Without_eats T, T.ty_Without, T.mr_Without⟩
theorem pk_Many (T : Txt K mg t) : PatK P w K mg base t.c_Many t.f_Many_eaten t.f_Many_eats t.d_Many_eaten t.d_Many_eats "many" (fun z => [("signs", .str z)]) :=
  ⟨T.cl_Many, T.m_Many_eaten, T.m_Many_eats, fun _ => by rfl, fun _ => by rfl, ok_Many_eaten T, bd_Many_eaten T, by rw [show eatsB "many" = true by decide +kernel]; exact ok_Many_eats T, bd_Many_eats T, T.ty_Many, T.mr_Many⟩
theorem pk_Any (T : Txt K mg t) : PatK P w K mg base t.c_Any t.f_Any_eaten t.f_Any_eats t.d_Any_eaten t.d_Any_eats "any" (fun z => []) :=
  ⟨T.cl_Any, T.m_Any_eaten, T.m_Any_eats, fun _ => by rfl, fun _ => by rfl, ok_Any_eaten T, bd_Any_eaten T, by rw [show eatsB "any" = true by decide +kernel]; exact ok_Any_eats T, bd_Any_eats T, T.ty_Any, T.mr_Any⟩
theorem pk_Still (T : Txt K mg t) : PatK P w K mg base t.c_Still t.f_Still_eaten t.f_Pattern_eats t.d_Still_eaten t.d_Pattern_eats "still" (fun z => []) :=
  ⟨T.cl_Still, T.m_Still_eaten, T.m_Still_eats, fun _ => by rfl, fun _ => by rfl, ok_Still_eaten T, bd_Still_eaten T, by rw [show eatsB "still" = false by decide +kernel]; exact ok_Pattern_eats T, bd_Pattern_eats T, T.ty_Still, T.mr_Still⟩
theorem pk_End (T : Txt K mg t) : PatK P w K mg base t.c_End t.f_End_eaten t.f_Pattern_eats t.d_End_eaten t.d_Pattern_eats "end" (fun z => []) :=
  ⟨T.cl_End, T.m_End_eaten, T.m_End_eats, fun _ => by rfl, fun _ => by rfl, ok_End_eaten T, bd_End_eaten T, by rw [show eatsB "end" = false by decide +kernel]; exact ok_Pattern_eats T, bd_Pattern_eats T, T.ty_End, T.mr_End⟩

structure RuleM where
  sort : Str
  signs : Str
  colour : Str
  deed : Str
  goal : Option Nat
  fold : Str
structure ModeM where
  name : Str
  colour : Str
  rules : List RuleM
abbrev sorts : List Str := ["word", "one", "none", "many", "any", "still", "end"]
abbrev bare (s : Str) : Prop := s = "any" ∨ s = "still" ∨ s = "end"
def clsOf (t : Adr) (s : Str) : Addr := if s = "any" then t.c_Any else if s = "still" then t.c_Still else if s = "end" then t.c_End else if s = "word" then t.c_Word else if s = "one" then t.c_One else if s = "none" then t.c_Without else t.c_Many
def flOf (s z : Str) : List (Str × V) := if bare s then [] else if s = "word" then [("wanted", .str z)] else [("signs", .str z)]
theorem cls_any : clsOf t "any" = t.c_Any := by rw [clsOf, if_pos rfl]
theorem cls_still : clsOf t "still" = t.c_Still := by rw [clsOf, if_neg (by decide), if_pos rfl]
theorem cls_end : clsOf t "end" = t.c_End := by rw [clsOf, if_neg (by decide), if_neg (by decide), if_pos rfl]
theorem cls_word : clsOf t "word" = t.c_Word := by rw [clsOf, if_neg (by decide), if_neg (by decide), if_neg (by decide), if_pos rfl]
theorem cls_one : clsOf t "one" = t.c_One := by rw [clsOf, if_neg (by decide), if_neg (by decide), if_neg (by decide), if_neg (by decide), if_pos rfl]
theorem cls_none : clsOf t "none" = t.c_Without := by rw [clsOf, if_neg (by decide), if_neg (by decide), if_neg (by decide), if_neg (by decide), if_neg (by decide), if_pos rfl]
theorem cls_many : clsOf t "many" = t.c_Many := by rw [clsOf, if_neg (by decide), if_neg (by decide), if_neg (by decide), if_neg (by decide), if_neg (by decide), if_neg (by decide)]
theorem fl_any : flOf "any" = fun _ => [] := by funext z; rw [flOf, if_pos (by decide)]
theorem fl_still : flOf "still" = fun _ => [] := by funext z; rw [flOf, if_pos (by decide)]
theorem fl_end : flOf "end" = fun _ => [] := by funext z; rw [flOf, if_pos (by decide)]
theorem fl_word : flOf "word" = fun z => ([("wanted", .str z)] : List (Str × V)) := by funext z; rw [flOf, if_neg (by decide), if_pos rfl]
theorem fl_sg {s : Str} (h : ¬ bare s) (h2 : s ≠ "word") : flOf s = fun z => ([("signs", .str z)] : List (Str × V)) := by funext z; rw [flOf, if_neg h, if_neg h2]
theorem sorts_cases {s : Str} (h : s ∈ sorts) : s = "word" ∨ s = "one" ∨ s = "none" ∨ s = "many" ∨ s = "any" ∨ s = "still" ∨ s = "end" := by simpa using h
theorem patK (T : Txt K mg t) {s : Str} (h : s ∈ sorts) : ∃ fe fs de ds, PatK P w K mg base (clsOf t s) fe fs de ds s (flOf s) := by
  rcases sorts_cases h with rfl | rfl | rfl | rfl | rfl | rfl | rfl
  · rw [cls_word, fl_word]; exact ⟨_, _, _, _, pk_Word T⟩
  · rw [cls_one, fl_sg (by decide) (by decide)]; exact ⟨_, _, _, _, pk_One T⟩
  · rw [cls_none, fl_sg (by decide) (by decide)]; exact ⟨_, _, _, _, pk_Without T⟩
  · rw [cls_many, fl_sg (by decide) (by decide)]; exact ⟨_, _, _, _, pk_Many T⟩
  · rw [cls_any, fl_any]; exact ⟨_, _, _, _, pk_Any T⟩
  · rw [cls_still, fl_still]; exact ⟨_, _, _, _, pk_Still T⟩
  · rw [cls_end, fl_end]; exact ⟨_, _, _, _, pk_End T⟩
def IsPat (t : Adr) (H : Hp) (p : Addr) (s z : Str) : Prop := ∃ dx, H p = some (.ins (clsOf t s) dx (flOf s z))
def goalV : Option Nat → V
  | none => .non
  | some g => .int g
def rf (p : Addr) (R : RuleM) : List (Str × V) := [("pattern", .ref p), ("colour", .str R.colour), ("deed", .str R.deed), ("goal", goalV R.goal), ("fold", .str R.fold)]
def mf (M : ModeM) (l : Addr) : List (Str × V) := [("name", .str M.name), ("colour", .str M.colour), ("rules", .ref l)]
def IsRule (t : Adr) (H : Hp) (r : Addr) (R : RuleM) : Prop := ∃ dx p, H r = some (.ins t.c_Rule dx (rf p R)) ∧ IsPat t H p R.sort R.signs
theorem IsPat.same {H H' : Hp} {p : Addr} {s z : Str} (h : IsPat t H p s z) (e : Same H H') : IsPat t H' p s z := let ⟨dx, x⟩ := h; ⟨dx, e _ _ x⟩
theorem IsRule.same {H H' : Hp} {r : Addr} {R : RuleM} (h : IsRule t H r R) (e : Same H H') : IsRule t H' r R := let ⟨dx, p, x, y⟩ := h; ⟨dx, p, e _ _ x, y.same e⟩
/-- two lists, place by place -/
def All2 {α β : Type} (R : α → β → Prop) (as : List α) (bs : List β) : Prop := as.length = bs.length ∧ ∀ (i : Nat) a b, as[i]? = some a → bs[i]? = some b → R a b
theorem All2.nil {α β : Type} {R : α → β → Prop} : All2 R [] [] := ⟨rfl, fun i a b h => by simp at h⟩
theorem All2.mono {α β : Type} {R S : α → β → Prop} {as : List α} {bs : List β} (h : All2 R as bs) (f : ∀ a b, R a b → S a b) : All2 S as bs := ⟨h.1, fun i a b x y => f a b (h.2 i a b x y)⟩
theorem snoc_get {α : Type} {as : List α} {a x : α} {i : Nat} (h : (as ++ [a])[i]? = some x) : as[i]? = some x ∨ (i = as.length ∧ x = a) := by
  by_cases hi : i < as.length
  · rw [List.getElem?_append_left hi] at h; exact .inl h
  · rw [List.getElem?_append_right (by omega)] at h
    have : i - as.length = 0 := by
      cases e : i - as.length with
      | zero => rfl
      | succ n => rw [e] at h; simp at h
    rw [this] at h
    simp at h
    exact .inr ⟨by omega, h.symm⟩
theorem All2.snoc {α β : Type} {R : α → β → Prop} {as : List α} {bs : List β} {a : α} {b : β} (h : All2 R as bs) (r : R a b) : All2 R (as ++ [a]) (bs ++ [b]) := by
  refine ⟨by simp [h.1], fun i x y hx hy => ?_⟩
  have hl := h.1
  rcases snoc_get hx with h1 | ⟨e1, rfl⟩
  · rcases snoc_get hy with h2 | ⟨e2, rfl⟩
    · exact h.2 i x y h1 h2
    · have := (List.getElem?_eq_some_iff.mp h1).1; omega
  · rcases snoc_get hy with h2 | ⟨e2, rfl⟩
    · have := (List.getElem?_eq_some_iff.mp h2).1; omega
    · exact r
theorem All2.at {α β : Type} {R : α → β → Prop} {as : List α} {bs : List β} (h : All2 R as bs) {i : Nat} {b : β} (e : bs[i]? = some b) : ∃ a, as[i]? = some a ∧ R a b := by
  have hi := (List.getElem?_eq_some_iff.mp e).1
  have hi2 : i < as.length := by rw [h.1]; exact hi
  exact ⟨as[i], List.getElem?_eq_getElem hi2, h.2 i _ _ (List.getElem?_eq_getElem hi2) e⟩
/-- modes at their places: their objects, their rules' lists (each its own) -/
structure ModesAt (t : Adr) (H : Hp) (as ls : List Addr) (ms : List ModeM) : Prop where
  la : as.length = ms.length
  ll : ls.length = ms.length
  nd : ls.Nodup
  ob : ∀ (i : Nat) a l m, as[i]? = some a → ls[i]? = some l → ms[i]? = some m → ∃ dx rs, H a = some (.ins t.c_Mode dx (mf m l)) ∧ H l = some (.lst (rs.map V.ref)) ∧ All2 (IsRule t H) rs m.rules
theorem ModesAt.same {H H' : Hp} {as ls : List Addr} {ms : List ModeM} (h : ModesAt t H as ls ms) (e : Same H H') : ModesAt t H' as ls ms :=
  ⟨h.la, h.ll, h.nd, fun i a l m h1 h2 h3 => let ⟨dx, rs, x, y, z⟩ := h.ob i a l m h1 h2 h3; ⟨dx, rs, e _ _ x, e _ _ y, z.mono fun _ _ r => r.same e⟩⟩
def IsRules (t : Adr) (H : Hp) (a : Addr) (ms : List ModeM) : Prop := ∃ dx lm as ls, H a = some (.ins t.c_Rules dx [("modes", .ref lm)]) ∧ H lm = some (.lst (as.map V.ref)) ∧ ModesAt t H as ls ms
theorem IsRules.same {H H' : Hp} {a : Addr} {ms : List ModeM} (h : IsRules t H a ms) (e : Same H H') : IsRules t H' a ms := let ⟨dx, lm, as, ls, x, y, z⟩ := h; ⟨dx, lm, as, ls, e _ _ x, e _ _ y, z.same e⟩

theorem mk_same {H : Hp} {x dx : Addr} {o1 o2 o3 : HO} (h1 : H x = none) (h2 : H dx = none) : Same H (upd (upd (upd H dx o1) x o2) x o3) := fun b o e => by
  rw [upd_ne (ne_of_none e h1), upd_ne (ne_of_none e h1), upd_ne (ne_of_none e h2)]; exact e
theorem mk_same0 {H : Hp} {x dx : Addr} {o1 o2 : HO} (h1 : H x = none) (h2 : H dx = none) : Same H (upd (upd H dx o1) x o2) := fun b o e => by
  rw [upd_ne (ne_of_none e h1), upd_ne (ne_of_none e h2)]; exact e
def spRInit (t : Adr) : Sp := fun vs H Q _ => ∃ (x dx p : Addr) (R : RuleM), vs = [.ref x, .ref p, .str R.colour, .str R.deed, goalV R.goal, .str R.fold] ∧ H x = some (.ins t.c_Rule dx []) ∧ Q .non (upd H x (.ins t.c_Rule dx (rf p R)))
theorem ok_Rule___init__ (T : Txt K mg t) : FnOk P w K mg base CX0 1 t.f_Rule___init__ t.d_Rule___init__ ["self", "pattern", "colour", "deed", "goal", "fold"] (spRInit t) := by
  refine T.F_Rule___init__.ok sc_Rule___init__ (fun vs H Q E h => ?_) (fun cdv A outer s H vs Q E hr h => at_body ?_)
  · obtain ⟨x, dx, p, R, rfl, _⟩ := h
    rfl
  · obtain ⟨x, dx, p, R, rfl, hx, q⟩ := h
    refine @at_cons _ _ _ _ _ _ _ (ps_fld (pv 0) (pv 1) rfl) ⟨_, rfl, _, rfl, x, _, dx, [], rfl, hx, T.cl_Rule, T.n_Rule_pattern, by decide, ?_⟩
    refine @at_cons _ _ _ _ _ _ _ (ps_fld (pv 0) (pv 2) rfl) ⟨_, rfl, _, rfl, x, _, dx, [("pattern", .ref p)], rfl, upd_same, T.cl_Rule, T.n_Rule_colour, by show 1 < 1000; decide, ?_⟩
    refine @at_cons _ _ _ _ _ _ _ (ps_fld (pv 0) (pv 3) rfl) ⟨_, rfl, _, rfl, x, _, dx, [("pattern", .ref p), ("colour", .str R.colour)], rfl, upd_same, T.cl_Rule, T.n_Rule_deed, by show 2 < 1000; decide, ?_⟩
    refine @at_cons _ _ _ _ _ _ _ (ps_fld (pv 0) (pv 4) rfl) ⟨_, rfl, _, rfl, x, _, dx, [("pattern", .ref p), ("colour", .str R.colour), ("deed", .str R.deed)], rfl, upd_same, T.cl_Rule, T.n_Rule_goal, by show 3 < 1000; decide, ?_⟩
    refine @at_one _ _ _ _ _ _ (ps_fld (pv 0) (pv 5) rfl) ⟨_, rfl, _, rfl, x, _, dx, [("pattern", .ref p), ("colour", .str R.colour), ("deed", .str R.deed), ("goal", goalV R.goal)], rfl, upd_same, T.cl_Rule, T.n_Rule_fold, by show 4 < 1000; decide, ?_⟩
    rw [upd_upd, upd_upd, upd_upd, upd_upd]
    exact q
def spMInit (t : Adr) : Sp := fun vs H Q _ => ∃ (x dx l : Addr) (n c : Str) (rs : List V), vs = [.ref x, .str n, .str c, .ref l] ∧ H x = some (.ins t.c_Mode dx []) ∧ H l = some (.lst rs) ∧
  ∀ l2 H', H l2 = none → H' x = some (.ins t.c_Mode dx (mf ⟨n, c, []⟩ l2)) → H' l2 = some (.lst rs) → Adv H H' x → Q .non H'
theorem ok_Mode___init__ (T : Txt K mg t) : FnOk P w K mg base CX0 1 t.f_Mode___init__ t.d_Mode___init__ ["self", "name", "colour", "rules"] (spMInit t) := by
  refine T.F_Mode___init__.ok sc_Mode___init__ (fun vs H Q E h => ?_) (fun cdv A outer s H vs Q E hr h => at_body ?_)
  · obtain ⟨x, dx, l, n, c, rs, rfl, _⟩ := h
    rfl
  · obtain ⟨x, dx, l, n, c, rs, rfl, hx, hl, q⟩ := h
    have nlx : l ≠ x := ne_of hl hx (by intro z; cases z)
    refine @at_cons _ _ _ _ _ _ _ (ps_fld (pv 0) (pv 1) rfl) ⟨_, rfl, _, rfl, x, _, dx, [], rfl, hx, T.cl_Mode, T.n_Mode_name, by decide, ?_⟩
    refine @at_cons _ _ _ _ _ _ _ (ps_fld (pv 0) (pv 2) rfl) ⟨_, rfl, _, rfl, x, _, dx, [("name", .str n)], rfl, upd_same, T.cl_Mode, T.n_Mode_colour, by show 1 < 1000; decide, ?_⟩
    refine @at_one _ _ _ _ _ _ (ps_fld (pv 0) (pe_callTy call_list_of (by rfl) T.z_list (by decide +kernel) (pa_cons (pv 3) pa_nil)) rfl) ⟨_, rfl, l, rs, rfl, .inl (SqL.of (by rw [upd_ne nlx, upd_ne nlx]; exact hl)), fun l2 hl2 => ?_⟩
    have n2 : x ≠ l2 := ne_of_none upd_same hl2
    have hl0 : H l2 = none := by rw [upd_ne (Ne.symm n2), upd_ne (Ne.symm n2)] at hl2; exact hl2
    refine ⟨_, rfl, x, _, dx, [("name", .str n), ("colour", .str c)], rfl, by rw [upd_ne n2]; exact upd_same, T.cl_Mode, T.n_Mode_rules, by show 2 < 1000; decide, ?_⟩
    refine q l2 _ hl0 upd_same (by rw [upd_ne (Ne.symm n2)]; exact upd_same) fun b o hb nb => ?_
    rw [upd_ne nb, upd_ne (ne_of_none hb hl0), upd_ne nb, upd_ne nb]; exact hb
def spRsInit (t : Adr) : Sp := fun vs H Q _ => ∃ (x dx l : Addr) (rs : List V), vs = [.ref x, .ref l] ∧ H x = some (.ins t.c_Rules dx []) ∧ H l = some (.lst rs) ∧
  ∀ l2 H', H l2 = none → H' x = some (.ins t.c_Rules dx [("modes", .ref l2)]) → H' l2 = some (.lst rs) → Adv H H' x → Q .non H'
theorem ok_Rules___init__ (T : Txt K mg t) : FnOk P w K mg base CX0 1 t.f_Rules___init__ t.d_Rules___init__ ["self", "modes"] (spRsInit t) := by
  refine T.F_Rules___init__.ok sc_Rules___init__ (fun vs H Q E h => ?_) (fun cdv A outer s H vs Q E hr h => at_body ?_)
  · obtain ⟨x, dx, l, rs, rfl, _⟩ := h
    rfl
  · obtain ⟨x, dx, l, rs, rfl, hx, hl, q⟩ := h
    refine @at_one _ _ _ _ _ _ (ps_fld (pv 0) (pe_callTy call_list_of (by rfl) T.z_list (by decide +kernel) (pa_cons (pv 1) pa_nil)) rfl) ⟨_, rfl, l, rs, rfl, .inl (SqL.of hl), fun l2 hl2 => ?_⟩
    have n2 : x ≠ l2 := ne_of_none hx hl2
    refine ⟨_, rfl, x, _, dx, [], rfl, by rw [upd_ne n2]; exact hx, T.cl_Rules, T.n_Rules_modes, by decide, ?_⟩
    refine q l2 _ hl2 upd_same (by rw [upd_ne (Ne.symm n2)]; exact upd_same) fun b o hb nb => ?_
    rw [upd_ne nb, upd_ne (ne_of_none hb hl2)]; exact hb

abbrev patWords (s z : Str) : List Str := if bare s then [s] else [s, wSigns z]
structure GoodPat (s z : Str) : Prop where
  sort : s ∈ sorts
  nosg : bare s → z = ""
  sg : ¬ bare s → 1 ≤ z.length ∧ z.length ≤ 200 ∧ 95 ∉ z.cps.toList ∧ 10 ∉ z.cps.toList
theorem drop_cons {α : Type} {ws : List α} {i : Nat} {x : α} {r : List α} (h : ws.drop i = x :: r) : ws[i]? = some x ∧ ws.drop (i + 1) = r := by
  constructor
  · have := congrArg (fun l => l[0]?) h
    simpa [List.getElem?_drop] using this
  · rw [← List.drop_drop, h]; rfl
theorem pk_drop {ws : List Str} {i : Nat} {x : Str} {r : List Str} (h : ws.drop i = x :: r) : pk ws i = x := by
  unfold pk
  rw [List.getD_eq_getElem?_getD, (drop_cons h).1]
  rfl
theorem lt_drop {ws : List Str} {i : Nat} {x : Str} {r : List Str} (h : ws.drop i = x :: r) : i < ws.length := (List.getElem?_eq_some_iff.mp (drop_cons h).1).1
theorem nil_drop {ws : List Str} {i : Nat} (h : ws.drop i = []) : ws.length ≤ i := List.drop_eq_nil_iff.mp h
def spRdPat (t : Adr) : Sp := fun vs H Q _ => ∃ (p dx lw : Addr) (row : Int) (ws : List Str) (i : Nat) (s z : Str) (rest : List Str), vs = [.ref p] ∧ Cur t H p dx lw row ws i ∧ ws.drop i = patWords s z ++ rest ∧ GoodPat s z ∧
  ∀ a H' j, IsPat t H' a s z → Cur t H' p dx lw row ws j → ws.drop j = rest → Adv H H' p → Q (.ref a) H'
theorem ok_read_pattern (T : Txt K mg t) : FnOk P w K mg base CX0 5 t.f_read_pattern t.d_read_pattern ["cursor"] (spRdPat t) := by
  refine T.F_read_pattern.ok sc_read_pattern (fun vs H Q E h => ?_) (fun cdv A outer s H vs Q E hr h => at_body ?_)
  · obtain ⟨p, dx, lw, row, ws, i, s, z, rest, rfl, _⟩ := h
    rfl
  · obtain ⟨p, dx, lw, row, ws, i, s, z, rest, rfl, C, hd, G, q⟩ := h
    have hk : pk ws i = s := by
      by_cases hb : bare s
      · rw [patWords, if_pos hb] at hd; exact pk_drop hd
      · rw [patWords, if_neg hb] at hd; exact pk_drop hd
    refine @at_cons _ _ _ _ _ _ _ (ps_set (i := 1) sc_read_pattern.nd rfl (Or.inl rfl) (pe_meth (pv 0) T.cl_Cursor T.m_Cursor_take_choice (ok_Cursor_take_choice T) (hr.mono (by decide)) (bd_Cursor_take_choice T) .nil pass0 (pa_cons (pe_glob rfl T.mgv_PATTERNS (v := V.ref t.g_PATTERNS) rfl) pa_nil))) ⟨_, rfl, p, dx, _, rfl, C.ob, rfl, p, dx, lw, t.g_PATTERNS, sorts, row, ws, i, rfl, C, T.tv_PATTERNS _, by rw [hk]; exact G.sort, fun H1 C1 a1 => ?_⟩
    rw [hk]
    refine @at_cons _ _ _ _ _ _ _ (ps_if (pt_cmpR op_eq (pv 1) pe_str (nomark _)) pss_at pss_at) ⟨_, rfl, rfl, _, rfl, ifd (fun h => ?_) (fun h1 => at_nil ?_)⟩
    · have h := V.str.inj h
      subst h
      refine @at_one _ _ _ _ _ _ (ps_ret (pe_makeO T.mk_Any rfl T.mgc_Any)) fun x dx' nx ndx ne => ?_
      rw [patWords, if_pos (by decide)] at hd
      exact q x _ (i + 1) ⟨dx', by rw [cls_any, fl_any]; exact upd_same⟩ (C1.same (mk_same0 nx ndx)) (drop_cons hd).2 (a1.same (mk_same0 nx ndx))
    refine @at_cons _ _ _ _ _ _ _ (ps_if (pt_cmpR op_eq (pv 1) pe_str (nomark _)) pss_at pss_at) ⟨_, rfl, rfl, _, rfl, ifd (fun h => ?_) (fun h2 => at_nil ?_)⟩
    · have h := V.str.inj h
      subst h
      refine @at_one _ _ _ _ _ _ (ps_ret (pe_makeO T.mk_Still rfl T.mgc_Still)) fun x dx' nx ndx ne => ?_
      rw [patWords, if_pos (by decide)] at hd
      exact q x _ (i + 1) ⟨dx', by rw [cls_still, fl_still]; exact upd_same⟩ (C1.same (mk_same0 nx ndx)) (drop_cons hd).2 (a1.same (mk_same0 nx ndx))
    refine @at_cons _ _ _ _ _ _ _ (ps_if (pt_cmpR op_eq (pv 1) pe_str (nomark _)) pss_at pss_at) ⟨_, rfl, rfl, _, rfl, ifd (fun h => ?_) (fun h3 => at_nil ?_)⟩
    · have h := V.str.inj h
      subst h
      refine @at_one _ _ _ _ _ _ (ps_ret (pe_makeO T.mk_End rfl T.mgc_End)) fun x dx' nx ndx ne => ?_
      rw [patWords, if_pos (by decide)] at hd
      exact q x _ (i + 1) ⟨dx', by rw [cls_end, fl_end]; exact upd_same⟩ (C1.same (mk_same0 nx ndx)) (drop_cons hd).2 (a1.same (mk_same0 nx ndx))
    have nb : ¬ bare s := by
      rintro (e | e | e)
      · exact h1 (by rw [e])
      · exact h2 (by rw [e])
      · exact h3 (by rw [e])
    rw [patWords, if_neg nb] at hd
    have hd2 := (drop_cons hd).2
    obtain ⟨z1, z2, z3, z4⟩ := G.sg nb
    refine @at_cons _ _ _ _ _ _ _ (ps_set (i := 2) sc_read_pattern.nd rfl (Or.inl rfl) (pe_meth0 (pv 0) T.cl_Cursor T.m_Cursor_take_signs (ok_Cursor_take_signs T) (hr.mono (by decide)) (bd_Cursor_take_signs T) .nil pass0)) ⟨_, rfl, p, dx, _, rfl, C1.ob, rfl, p, dx, lw, row, ws, i + 1, z, rfl, C1, pk_drop hd2, z1, by omega, z3, fun H2 C2 a2 => ?_⟩
    have hd3 := (drop_cons hd2).2
    have a3 := a1.trans a2
    refine @at_cons _ _ _ _ _ _ _ (ps_if (pt_cmpR op_eq (pv 1) pe_str (nomark _)) pss_at pss_at) ⟨_, rfl, rfl, _, rfl, ifd (fun h => ?_) (fun h4 => at_nil ?_)⟩
    · have h := V.str.inj h
      subst h
      refine @at_one _ _ _ _ _ _ (ps_ret (pe_make T.mk_Word (ok_Word___init__ T) (hr.mono (by decide)) rfl T.mgc_Word (bd_Word___init__ T) .nil pass0 (pa_cons (pv 2) pa_nil))) ⟨_, rfl, fun x dx' nx ndx ne => ⟨x, dx', z, rfl, upd_same, rfl, ?_⟩⟩
      exact q x _ (i + 1 + 1) ⟨dx', by rw [cls_word, fl_word]; exact upd_same⟩ (C2.same (mk_same nx ndx)) hd3 (a3.same (mk_same nx ndx))
    refine @at_cons _ _ _ _ _ _ _ (ps_if (pt_cmpR op_eq (pv 1) pe_str (nomark _)) pss_at pss_at) ⟨_, rfl, rfl, _, rfl, ifd (fun h => ?_) (fun h5 => at_nil ?_)⟩
    · have h := V.str.inj h
      subst h
      refine @at_one _ _ _ _ _ _ (ps_ret (pe_make T.mk_One (ok_One___init__ T) (hr.mono (by decide)) rfl T.mgc_One (bd_One___init__ T) .nil pass0 (pa_cons (pv 2) pa_nil))) ⟨_, rfl, fun x dx' nx ndx ne => ⟨x, dx', z, rfl, upd_same, rfl, ?_⟩⟩
      exact q x _ (i + 1 + 1) ⟨dx', by rw [cls_one, fl_sg nb (by decide)]; exact upd_same⟩ (C2.same (mk_same nx ndx)) hd3 (a3.same (mk_same nx ndx))
    refine @at_cons _ _ _ _ _ _ _ (ps_if (pt_cmpR op_eq (pv 1) pe_str (nomark _)) pss_at pss_at) ⟨_, rfl, rfl, _, rfl, ifd (fun h => ?_) (fun h6 => at_nil ?_)⟩
    · have h := V.str.inj h
      subst h
      refine @at_one _ _ _ _ _ _ (ps_ret (pe_make T.mk_Without (ok_Without___init__ T) (hr.mono (by decide)) rfl T.mgc_Without (bd_Without___init__ T) .nil pass0 (pa_cons (pv 2) pa_nil))) ⟨_, rfl, fun x dx' nx ndx ne => ⟨x, dx', z, rfl, upd_same, rfl, ?_⟩⟩
      exact q x _ (i + 1 + 1) ⟨dx', by rw [cls_none, fl_sg nb (by decide)]; exact upd_same⟩ (C2.same (mk_same nx ndx)) hd3 (a3.same (mk_same nx ndx))
    have h : s = "many" := by
      rcases sorts_cases G.sort with e | e | e | e | e | e | e
      · exact absurd (by rw [e]) h4
      · exact absurd (by rw [e]) h5
      · exact absurd (by rw [e]) h6
      · exact e
      · exact absurd (by rw [e]) h1
      · exact absurd (by rw [e]) h2
      · exact absurd (by rw [e]) h3
    subst h
    refine @at_one _ _ _ _ _ _ (ps_ret (pe_make T.mk_Many (ok_Many___init__ T) (hr.mono (by decide)) rfl T.mgc_Many (bd_Many___init__ T) .nil pass0 (pa_cons (pv 2) pa_nil))) ⟨_, rfl, fun x dx' nx ndx ne => ⟨x, dx', z, rfl, upd_same, rfl, ?_⟩⟩
    exact q x _ (i + 1 + 1) ⟨dx', by rw [cls_many, fl_sg nb (by decide)]; exact upd_same⟩ (C2.same (mk_same nx ndx)) hd3 (a3.same (mk_same nx ndx))
def spRdGoal (t : Adr) : Sp := fun vs H Q _ => ∃ (p dx lw d : Addr) (nw : V) (row : Int) (ws : List Str) (i g : Nat) (kvs : List (Key × V)), vs = [.ref p, .ref d, nw] ∧ Cur t H p dx lw row ws i ∧ H d = some (.dK kvs) ∧ isName (pk ws i) = true ∧ valV kvs (.inr (pk ws i)) = some (.int g) ∧
  ∀ H', Cur t H' p dx lw row ws (i + 1) → Adv H H' p → Q (.int g) H'
theorem ok_read_goal (T : Txt K mg t) : FnOk P w K mg base CX0 5 t.f_read_goal t.d_read_goal ["cursor", "numbers", "nowhere"] (spRdGoal t) := by
  refine T.F_read_goal.ok sc_read_goal (fun vs H Q E h => ?_) (fun cdv A outer s H vs Q E hr h => at_body ?_)
  · obtain ⟨p, dx, lw, d, nw, row, ws, i, g, kvs, rfl, _⟩ := h
    rfl
  · obtain ⟨p, dx, lw, d, nw, row, ws, i, g, kvs, rfl, C, hd, hn, hv, q⟩ := h
    refine @at_cons _ _ _ _ _ _ _ (ps_set (i := 3) sc_read_goal.nd rfl (Or.inl rfl) (pe_tup (pa_cons (pe_fld (pv 0) rfl) (pa_cons (pe_fld (pv 0) rfl) pa_nil)))) ?_
    refine ⟨_, rfl, _, _, _, _, _, rfl, C.ob, T.cl_Cursor, T.n_Cursor_row, rfl, ?_⟩
    refine ⟨_, rfl, _, _, _, _, _, rfl, C.ob, T.cl_Cursor, T.n_Cursor_at, rfl, ?_⟩
    refine ⟨by show 2 ≤ sizeLine; decide, fun pt hpt => ?_⟩
    have s1 : Same H (upd H pt (.tup [.int row, .int i])) := Same.upd hpt
    have C1 := C.same s1
    refine @at_cons _ _ _ _ _ _ _ (ps_set (i := 4) sc_read_goal.nd rfl (Or.inl rfl) (pe_meth0 (pv 0) T.cl_Cursor T.m_Cursor_take_name (ok_Cursor_take_name T) (hr.mono (by decide)) (bd_Cursor_take_name T) .nil pass0)) ⟨_, rfl, p, dx, _, rfl, C1.ob, rfl, p, dx, lw, row, ws, i, rfl, C1, hn, fun H2 C2 a2 => ?_⟩
    have npd : d ≠ p := ne_of hd C.ob (by intro z; cases z)
    have hd2 : H2 d = some (.dK kvs) := a2 _ _ (s1 _ _ hd) npd
    refine @at_cons _ _ _ _ _ _ _ (ps_if (pt_cmp (pc_dnotin (hu_of hr) (pv 4) (pv 1))) pss_at pss_at) ⟨_, rfl, _, rfl, d, _, rfl, DGet.k (k := .inr (pk ws i)) hd2, _, rfl, ?_⟩
    rw [hv]
    refine iteF (at_nil ?_)
    refine @at_one _ _ _ _ _ _ (ps_ret (pe_dget1 (hu_of hr) (pv 1) (pv 4) ⟨rfl, rfl, rfl, rfl⟩)) ⟨_, rfl, d, rfl, .inl ⟨kvs, .inl hd2⟩, _, rfl, _, DGet.k (k := .inr (pk ws i)) hd2, ?_⟩
    rw [hv]
    exact q H2 C2 (s1.adv a2)
abbrev deeds : List Str := ["stay", "push", "pop", "into"]
abbrev going (d : Str) : Prop := d = "push" ∨ d = "into"
def goalW (names : List Str) : Option Nat → List Str
  | some g => [names.getD g ""]
  | none => []
theorem goalW_len {names : List Str} {g : Option Nat} : (goalW names g).length ≤ 1 := by cases g <;> simp [goalW]
def ruleWords (names : List Str) (R : RuleM) : List Str := patWords R.sort R.signs ++ ((if eatsB R.sort = true then [R.colour] else []) ++ ([R.deed] ++ (goalW names R.goal ++ if R.fold = "" then [] else [R.fold])))
structure GoodRule (names : List Str) (R : RuleM) : Prop where
  pat : GoodPat R.sort R.signs
  col : eatsB R.sort = true → isName R.colour = true
  col0 : eatsB R.sort = false → R.colour = ""
  deed : R.deed ∈ deeds
  goal : going R.deed → ∃ g, R.goal = some g ∧ g < names.length
  goal0 : ¬ going R.deed → R.goal = none
  fold : R.fold = "" ∨ R.fold = "open" ∨ R.fold = "close"
/-- the modes' numbers by their names -/
def numsOf (names : List Str) (kvs : List (Key × V)) : Prop := ∀ (g : Nat) n, names[g]? = some n → valV kvs (.inr n) = some (.int g)
def spRdRule (t : Adr) : Sp := fun vs H Q _ => ∃ (p dx lw d : Addr) (nw : V) (row : Int) (ws : List Str) (kvs : List (Key × V)) (names : List Str) (R : RuleM), vs = [.ref p, .ref d, nw] ∧ Cur t H p dx lw row ws 0 ∧ ws = ruleWords names R ∧ H d = some (.dK kvs) ∧ numsOf names kvs ∧
  (∀ n ∈ names, isName n = true) ∧ GoodRule names R ∧ ∀ r H', IsRule t H' r R → Adv H H' p → Q (.ref r) H'
theorem IsPat.adv {H H' : Hp} {p a dx lw : Addr} {row : Int} {ws : List Str} {i : Nat} {s z : Str} (h : IsPat t H a s z) (C : Cur t H p dx lw row ws i) (e : Adv H H' p) : IsPat t H' a s z := by
  obtain ⟨d, x⟩ := h
  refine ⟨d, e _ _ x (ne_of x C.ob fun q => ?_)⟩
  injection q with _ _ q
  unfold flOf cf at q
  split at q
  · cases q
  · split at q <;> simp at q
theorem ok_read_rule (T : Txt K mg t) : FnOk P w K mg base CX0 6 t.f_read_rule t.d_read_rule ["cursor", "numbers", "nowhere"] (spRdRule t) := by
  refine T.F_read_rule.ok sc_read_rule (fun vs H Q E h => ?_) (fun cdv A outer s H vs Q E hr h => at_body ?_)
  · obtain ⟨p, dx, lw, d, nw, row, ws, kvs, names, R, rfl, _⟩ := h
    rfl
  · obtain ⟨p, dx, lw, d, nw, row, ws, kvs, names, R, rfl, C, hws, hd, hnum, hnm, G, q⟩ := h
    have npd : d ≠ p := ne_of hd C.ob (by intro z; cases z)
    obtain ⟨fe, fs, de, ds, PK⟩ := patK (P := P) (w := w) (base := base) T G.pat.sort
    refine @at_cons _ _ _ _ _ _ _ (ps_set (i := 3) sc_read_rule.nd rfl (Or.inl rfl) (pe_call (ok_read_pattern T) (hr.mono (by decide)) rfl T.mg_read_pattern T.F_read_pattern.kp (bd_read_pattern T) .nil pass0 (pa_cons (pv 0) pa_nil))) ⟨_, rfl, p, dx, lw, row, ws, 0, R.sort, R.signs, _, rfl, C, by rw [List.drop_zero, hws, ruleWords], G.pat, fun pa H1 j1 hp1 C1 hd1 a1 => ?_⟩
    -- colour
    refine at_consR (fun σ' H' => ∃ j, σ' = [some (.ref p), some (.ref d), some nw, some (.ref pa), some (.str R.colour), none, none, none] ∧ Cur t H' p dx lw row ws j ∧ IsPat t H' pa R.sort R.signs ∧ Adv H H' p ∧
      ws.drop j = R.deed :: (goalW names R.goal ++ if R.fold = "" then [] else [R.fold])) (ps_set (i := 4) sc_read_rule.nd rfl (Or.inl rfl) (pe_ifExp (pt_val (pe_meth0 (pv 3) PK.cl PK.ms PK.gs (hr.mono (by decide)) PK.bs .nil pass0)) (pe_meth0 (pv 0) T.cl_Cursor T.m_Cursor_take_name (ok_Cursor_take_name T) (hr.mono (by decide)) (bd_Cursor_take_name T) .nil pass0) pe_str)) ?_ ?_
    · obtain ⟨dpa, hpa⟩ := hp1
      refine ⟨_, rfl, pa, dpa, _, rfl, hpa, PK.ns _, _, rfl, _, rfl, ifb (fun h => ?_) (fun h => ?_)⟩
      · rw [if_pos h] at hd1
        refine ⟨_, rfl, p, dx, _, rfl, C1.ob, rfl, p, dx, lw, row, ws, j1, rfl, C1, by rw [pk_drop hd1]; exact G.col h, fun H2 C2 a2 => ?_⟩
        rw [pk_drop hd1]
        exact ⟨j1 + 1, rfl, C2, IsPat.adv ⟨dpa, hpa⟩ C1 a2, a1.trans a2, (drop_cons hd1).2⟩
      · rw [h, if_neg (by decide)] at hd1
        rw [G.col0 h]
        exact ⟨j1, rfl, C1, ⟨dpa, hpa⟩, a1, hd1⟩
    rintro σ' H2 ⟨j2, rfl, C2, hp2, a2, hd2⟩
    refine @at_cons _ _ _ _ _ _ _ (ps_set (i := 5) sc_read_rule.nd rfl (Or.inl rfl) (pe_meth (pv 0) T.cl_Cursor T.m_Cursor_take_choice (ok_Cursor_take_choice T) (hr.mono (by decide)) (bd_Cursor_take_choice T) .nil pass0 (pa_cons (pe_glob rfl T.mgv_DEEDS (v := V.ref t.g_DEEDS) rfl) pa_nil))) ⟨_, rfl, p, dx, _, rfl, C2.ob, rfl, p, dx, lw, t.g_DEEDS, deeds, row, ws, j2, rfl, C2, T.tv_DEEDS _, by rw [pk_drop hd2]; exact G.deed, fun H3 C3 a3 => ?_⟩
    rw [pk_drop hd2]
    have hp3 := hp2.adv C2 a3
    have a3 := a2.trans a3
    have hd3 := (drop_cons hd2).2
    -- goal
    refine at_consR (fun σ' H' => ∃ j, σ' = [some (.ref p), some (.ref d), some nw, some (.ref pa), some (.str R.colour), some (.str R.deed), some (goalV R.goal), none] ∧ Cur t H' p dx lw row ws j ∧ IsPat t H' pa R.sort R.signs ∧ Adv H H' p ∧
      ws.drop j = if R.fold = "" then [] else [R.fold]) (ps_set (i := 6) sc_read_rule.nd rfl (Or.inl rfl) (pe_ifExp (pt_cmpR op_in_seq (pv 5) (pe_glob rfl T.mgv_GOING (v := V.ref t.g_GOING) rfl) rfl) (pe_call (ok_read_goal T) (hr.mono (by decide)) rfl T.mg_read_goal T.F_read_goal.kp (bd_read_goal T) .nil pass0 (pa_cons (pv 0) (pa_cons (pv 1) (pa_cons (pv 2) pa_nil)))) pe_non)) ?_ ?_
    · refine ⟨_, rfl, _, _, rfl, .inr (T.tv_GOING _), rfl, rfl, _, rfl, ?_⟩
      rw [show ([.str "push", .str "into"] : List V) = (["push", "into"] : List Str).map V.str from rfl, inV_strs]
      refine ifd (fun h => ?_) (fun h => ?_)
      · have h : going R.deed := by simpa using h
        obtain ⟨g, eg, hg⟩ := G.goal h
        rw [eg] at hd3 ⊢
        have e := pk_drop hd3
        have hgn : names[g]? = some (names.getD g "") := by simp [hg]
        have hv := hnum g _ hgn
        have hin : isName (names.getD g "") = true := hnm _ (List.mem_of_getElem? hgn)
        refine ⟨_, rfl, _, rfl, _, rfl, p, dx, lw, d, nw, row, ws, j2 + 1, g, kvs, rfl, C3, a3 _ _ hd npd, by rw [e]; exact hin, by rw [e]; exact hv, fun H4 C4 a4 => ?_⟩
        exact ⟨_, rfl, C4, hp3.adv C3 a4, a3.trans a4, (drop_cons hd3).2⟩
      · have h : ¬ going R.deed := by simpa using h
        rw [G.goal0 h] at hd3 ⊢
        exact ⟨_, rfl, C3, hp3, a3, hd3⟩
    rintro σ' H4 ⟨j4, rfl, C4, hp4, a4, hd4⟩
    -- fold
    refine at_consR (fun σ' H' => ∃ j, σ' = [some (.ref p), some (.ref d), some nw, some (.ref pa), some (.str R.colour), some (.str R.deed), some (goalV R.goal), some (.str R.fold)] ∧ Cur t H' p dx lw row ws j ∧ IsPat t H' pa R.sort R.signs ∧ Adv H H' p ∧
      ws.drop j = []) (ps_set (i := 7) sc_read_rule.nd rfl (Or.inl rfl) (pe_ifExp (pt_val (pe_meth0 (pv 0) T.cl_Cursor T.m_Cursor_more (ok_Cursor_more T) (hr.mono (by decide)) (bd_Cursor_more T) .nil pass0)) (pe_meth (pv 0) T.cl_Cursor T.m_Cursor_take_choice (ok_Cursor_take_choice T) (hr.mono (by decide)) (bd_Cursor_take_choice T) .nil pass0 (pa_cons (pe_glob rfl T.mgv_FOLDS (v := V.ref t.g_FOLDS) rfl) pa_nil)) pe_str)) ?_ ?_
    · refine ⟨_, rfl, p, dx, _, rfl, C4.ob, rfl, p, dx, lw, row, ws, j4, rfl, C4, _, rfl, ifd (fun h => ?_) (fun h => ?_)⟩
      · have hf : R.fold ≠ "" := fun z => by rw [if_pos z] at hd4; have := nil_drop hd4; omega
        rw [if_neg hf] at hd4
        refine ⟨_, rfl, p, dx, _, rfl, C4.ob, rfl, p, dx, lw, t.g_FOLDS, ["open", "close"], row, ws, j4, rfl, C4, T.tv_FOLDS _, ?_, fun H5 C5 a5 => ?_⟩
        · rw [pk_drop hd4]
          rcases G.fold with z | z | z
          · exact absurd z hf
          · rw [z]; decide
          · rw [z]; decide
        · rw [pk_drop hd4]
          exact ⟨_, rfl, C5, hp4.adv C4 a5, a4.trans a5, (drop_cons hd4).2⟩
      · have hf : R.fold = "" := by
          by_cases z : R.fold = ""
          · exact z
          · rw [if_neg z] at hd4; exact absurd (lt_drop hd4) h
        rw [if_pos hf] at hd4
        rw [hf]
        exact ⟨_, rfl, C4, hp4, a4, hd4⟩
    rintro σ' H5 ⟨j5, rfl, C5, hp5, a5, hd5⟩
    have hj5 := nil_drop hd5
    refine @at_cons _ _ _ _ _ _ _ (ps_expr (pe_meth (pv 0) T.cl_Cursor T.m_Cursor_ask (ok_Cursor_ask T) (hr.mono (by decide)) (bd_Cursor_ask T) .nil pass0 (pa_cons (pe_not (pe_meth0 (pv 0) T.cl_Cursor T.m_Cursor_more (ok_Cursor_more T) (hr.mono (by decide)) (bd_Cursor_more T) .nil pass0)) pa_nil))) ⟨_, rfl, p, dx, _, rfl, C5.ob, rfl, ⟨_, rfl, p, dx, _, rfl, C5.ob, rfl, p, dx, lw, row, ws, j5, rfl, C5, _, rfl, ?_⟩⟩
    rw [decide_eq_false (by omega)]
    refine ⟨_, rfl, ?_⟩
    refine @at_one _ _ _ _ _ _ (ps_ret (pe_make T.mk_Rule (ok_Rule___init__ T) (hr.mono (by decide)) rfl T.mgc_Rule (bd_Rule___init__ T) .nil pass0 (pa_cons (pv 3) (pa_cons (pv 4) (pa_cons (pv 5) (pa_cons (pv 6) (pa_cons (pv 7) pa_nil))))))) ⟨_, rfl, _, rfl, _, rfl, _, rfl, _, rfl, fun x dx' nx ndx ne => ⟨x, dx', pa, R, rfl, upd_same, rfl, ?_⟩⟩
    exact q x _ ⟨dx', pa, upd_same, hp5.same (mk_same nx ndx)⟩ (a5.same (mk_same nx ndx))
end
section
variable {P : Program} {w : World} {K : PySem.W.Frag} {mg : Str → Option Value} {base : Heap} {t : Adr}
inductive Item where
  | mode (n c : Str)
  | rule (R : RuleM)
def Item.words (names : List Str) : Item → List Str
  | .mode n c => ["mode", n, c]
  | .rule R => ruleWords names R
def rowOf (names : List Str) (it : Item) : Str := Str.join ⟨#[32]⟩ (it.words names)
def addRule (R : RuleM) : List ModeM → List ModeM
  | [] => []
  | [m] => [{ m with rules := m.rules ++ [R] }]
  | m :: n :: r => m :: addRule R (n :: r)
def stepI (ms : List ModeM) : Item → List ModeM
  | .mode n c => ms ++ [⟨n, c, []⟩]
  | .rule R => addRule R ms
def foldI (its : List Item) : List ModeM := its.foldl stepI []
def nameI : Item → List Str
  | .mode n _ => [n]
  | .rule _ => []
def namesOf (its : List Item) : List Str := its.flatMap nameI
structure GoodItems (its : List Item) : Prop where
  ne : its ≠ []
  mode : ∀ (i : Nat) n c, its[i]? = some (.mode n c) → isName n = true ∧ isName c = true ∧ (namesOf (its.take i)).length < 12 ∧ n ∉ namesOf (its.take i)
  rule : ∀ (i : Nat) R, its[i]? = some (.rule R) → GoodRule (namesOf its) R ∧ ∃ ms m, foldI (its.take i) = ms ++ [m] ∧ m.rules.length < 12
theorem addRule_snoc (R : RuleM) (m : ModeM) : ∀ ms : List ModeM, addRule R (ms ++ [m]) = ms ++ [{ m with rules := m.rules ++ [R] }]
  | [] => rfl
  | [x] => rfl
  | x :: y :: r => by
    show x :: addRule R (y :: r ++ [m]) = _
    rw [addRule_snoc R m (y :: r)]
    rfl
theorem addRule_names (R : RuleM) : ∀ ms : List ModeM, (addRule R ms).map (·.name) = ms.map (·.name)
  | [] => rfl
  | [x] => rfl
  | x :: y :: r => by
    show x.name :: (addRule R (y :: r)).map (·.name) = _
    rw [addRule_names R (y :: r)]
    rfl
theorem take_snoc {α : Type} {l : List α} {i : Nat} {x : α} (h : l[i]? = some x) : l.take (i + 1) = l.take i ++ [x] := by rw [List.take_succ, h]; rfl
theorem foldI_snoc (its : List Item) (it : Item) : foldI (its ++ [it]) = stepI (foldI its) it := by unfold foldI; rw [List.foldl_append]; rfl
theorem namesOf_app (a b : List Item) : namesOf (a ++ b) = namesOf a ++ namesOf b := by unfold namesOf; rw [List.flatMap_append]
theorem names_fold_aux : ∀ (its : List Item) (ms : List ModeM), (its.foldl stepI ms).map (·.name) = ms.map (·.name) ++ namesOf its
  | [], ms => by simp [namesOf]
  | .mode n c :: r, ms => by
    rw [List.foldl_cons, names_fold_aux r]
    simp [stepI, namesOf, nameI]
  | .rule R :: r, ms => by
    rw [List.foldl_cons, names_fold_aux r]
    simp [stepI, namesOf, nameI, addRule_names]
theorem names_fold (its : List Item) : (foldI its).map (·.name) = namesOf its := by
  unfold foldI; rw [names_fold_aux]; rfl
structure GoodWord (x : Str) : Prop where
  b : 32 ∉ x.cps.toList
  n : 10 ∉ x.cps.toList
  l : x.length ≤ 202
theorem len_cps (x : Str) : x.cps.toList.length = x.length := by simp [Str.length]
theorem name_word {x : Str} (h : isName x = true) : GoodWord x := by
  unfold isName at h
  simp only [Bool.and_eq_true, decide_eq_true_eq, List.all_eq_true] at h
  obtain ⟨⟨h1, h2⟩, h3⟩ := h
  refine ⟨fun z => ?_, fun z => ?_, by omega⟩
  · exact absurd (h3 _ z) (by decide +kernel)
  · exact absurd (h3 _ z) (by decide +kernel)
theorem wSigns_word {z : Str} (h : z.length ≤ 200) (h2 : 10 ∉ z.cps.toList) : GoodWord (wSigns z) := by
  refine ⟨fun y => ?_, fun y => ?_, ?_⟩
  · rw [wSigns_cps] at y
    rcases List.mem_cons.mp y with y | y
    · exact absurd y (by decide)
    · unfold subL at y
      obtain ⟨c, _, e⟩ := List.mem_map.mp y
      split at e <;> omega
  · rw [wSigns_cps] at y
    rcases List.mem_cons.mp y with y | y
    · exact absurd y (by decide)
    · unfold subL at y
      obtain ⟨c, hc, e⟩ := List.mem_map.mp y
      split at e
      · omega
      · exact h2 (e ▸ hc)
  · have := congrArg List.length (wSigns_cps z)
    rw [len_cps, List.length_cons, subL, List.length_map, len_cps] at this
    omega
theorem sort_word {s : Str} (h : s ∈ sorts) : GoodWord s ∧ s ≠ "mode" := by
  rcases sorts_cases h with rfl | rfl | rfl | rfl | rfl | rfl | rfl <;> exact ⟨⟨by decide +kernel, by decide +kernel, by decide +kernel⟩, by decide +kernel⟩
theorem pat_words {s z : Str} (G : GoodPat s z) : ∀ x ∈ patWords s z, GoodWord x := by
  intro x hx
  unfold patWords at hx
  split at hx
  · rw [List.mem_singleton.mp hx]; exact (sort_word G.sort).1
  · rename_i hb
    obtain ⟨z1, z2, z3, z4⟩ := G.sg hb
    rcases List.mem_cons.mp hx with e | e
    · rw [e]; exact (sort_word G.sort).1
    · rw [List.mem_singleton.mp e]; exact wSigns_word z2 z4
theorem rule_words {names : List Str} {R : RuleM} (hn : ∀ n ∈ names, isName n = true) (G : GoodRule names R) : ∀ x ∈ ruleWords names R, GoodWord x := by
  intro x hx
  unfold ruleWords at hx
  simp only [List.mem_append] at hx
  rcases hx with hx | hx | hx | hx | hx
  · exact pat_words G.pat x hx
  · split at hx
    · rename_i h; rw [List.mem_singleton.mp hx]; exact name_word (G.col h)
    · cases hx
  · rw [List.mem_singleton.mp hx]
    have := G.deed
    simp only [List.mem_cons, List.not_mem_nil, or_false] at this
    rcases this with e | e | e | e <;> rw [e] <;> exact ⟨by decide +kernel, by decide +kernel, by decide +kernel⟩
  · cases e : R.goal with
    | some g =>
      rw [e] at hx
      rw [List.mem_singleton.mp hx]
      have hg : g < names.length := by
        by_cases h : going R.deed
        · obtain ⟨g', e', h'⟩ := G.goal h
          rw [e] at e'; cases e'; exact h'
        · rw [G.goal0 h] at e; cases e
      refine name_word (hn _ ?_)
      have : names.getD g "" = names[g] := by simp [hg]
      rw [this]; exact List.getElem_mem hg
    | none => rw [e] at hx; cases hx
  · split at hx
    · cases hx
    · rw [List.mem_singleton.mp hx]
      rcases G.fold with e | e | e <;> rw [e] <;> exact ⟨by decide +kernel, by decide +kernel, by decide +kernel⟩
theorem pat_len {s z : Str} : 1 ≤ (patWords s z).length ∧ (patWords s z).length ≤ 2 := by
  unfold patWords
  split
  · exact ⟨by show 1 ≤ 1; decide, by show 1 ≤ 2; decide⟩
  · exact ⟨by show 1 ≤ 2; decide, by show 2 ≤ 2; decide⟩
theorem rule_len {names : List Str} {R : RuleM} : 1 ≤ (ruleWords names R).length ∧ (ruleWords names R).length ≤ 7 := by
  have h1 := pat_len (s := R.sort) (z := R.signs)
  have h2 : (if eatsB R.sort = true then [R.colour] else []).length ≤ 1 := by split <;> simp
  have h3 := goalW_len (names := names) (g := R.goal)
  have h4 : (if R.fold = "" then [] else [R.fold]).length ≤ 1 := by split <;> simp
  unfold ruleWords
  simp only [List.length_append, List.length_cons, List.length_nil]
  omega
theorem good_names {its : List Item} (G : GoodItems its) : ∀ n ∈ namesOf its, isName n = true := by
  intro n hn
  unfold namesOf at hn
  obtain ⟨it, h1, h2⟩ := List.mem_flatMap.mp hn
  obtain ⟨i, h3⟩ := List.mem_iff_getElem?.mp h1
  cases it with
  | mode a c =>
    have e : n = a := List.mem_singleton.mp h2
    rw [e]
    exact (G.mode i a c h3).1
  | rule R => cases h2
theorem item_words {its : List Item} (G : GoodItems its) {i : Nat} {it : Item} (h : its[i]? = some it) : (∀ x ∈ it.words (namesOf its), GoodWord x) ∧ it.words (namesOf its) ≠ [] ∧ (it.words (namesOf its)).length ≤ 7 := by
  cases it with
  | mode n c =>
    obtain ⟨h1, h2, _⟩ := G.mode i n c h
    refine ⟨fun x hx => ?_, by simp [Item.words], by simp [Item.words]⟩
    simp only [Item.words, List.mem_cons, List.not_mem_nil, or_false] at hx
    rcases hx with e | e | e
    · rw [e]; exact ⟨by decide +kernel, by decide +kernel, by decide +kernel⟩
    · rw [e]; exact name_word h1
    · rw [e]; exact name_word h2
  | rule R =>
    obtain ⟨h1, _⟩ := G.rule i R h
    have hl := rule_len (names := namesOf its) (R := R)
    exact ⟨rule_words (good_names G) h1, fun z => by simp only [Item.words] at z; rw [z] at hl; simp at hl, hl.2⟩
theorem mem_joinL {c d : Nat} (hcd : d ≠ c) : ∀ {ps : List (List Nat)}, (∀ p ∈ ps, d ∉ p) → d ∉ joinL c ps
  | [], _, z => by cases z
  | [x], h, z => h x (by simp) z
  | x :: y :: r, h, z => by
    unfold joinL at z
    rcases List.mem_append.mp z with z | z
    · exact h x (by simp) z
    · rcases List.mem_cons.mp z with z | z
      · exact hcd z
      · exact mem_joinL hcd (fun p hp => h p (List.mem_cons_of_mem _ hp)) z
theorem len_joinL {c m : Nat} : ∀ {ps : List (List Nat)}, (∀ p ∈ ps, p.length ≤ m) → (joinL c ps).length ≤ ps.length * (m + 1)
  | [], _ => by simp [joinL]
  | [x], h => by have := h x (by simp); simp [joinL]; omega
  | x :: y :: r, h => by
    have h1 := h x (by simp)
    have h2 := len_joinL (c := c) (ps := y :: r) (fun p hp => h p (List.mem_cons_of_mem _ hp))
    unfold joinL
    rw [List.length_append, List.length_cons, List.length_cons, Nat.succ_mul]
    omega
theorem row_good {its : List Item} (G : GoodItems its) {i : Nat} {it : Item} (h : its[i]? = some it) : 10 ∉ (rowOf (namesOf its) it).cps.toList ∧ (rowOf (namesOf its) it).length ≤ 1421 ∧ PySem.Txt.split (rowOf (namesOf its) it) ⟨#[32]⟩ = it.words (namesOf its) := by
  obtain ⟨h1, h2, h3⟩ := item_words G h
  refine ⟨?_, ?_, split_join h2 fun p hp => (h1 p hp).b⟩
  · unfold rowOf
    rw [join_cps]
    refine mem_joinL (by decide) fun p hp => ?_
    obtain ⟨x, hx, rfl⟩ := List.mem_map.mp hp
    exact (h1 x hx).n
  · have h4 := len_joinL (c := 32) (m := 202) (ps := (it.words (namesOf its)).map fun p => p.cps.toList) (fun p hp => by
      obtain ⟨x, hx, rfl⟩ := List.mem_map.mp hp
      rw [len_cps]; exact (h1 x hx).l)
    rw [← join_cps, len_cps, List.length_map] at h4
    unfold rowOf
    omega
def rowsOf (its : List Item) : List Str := its.map (rowOf (namesOf its))
theorem rows_at {its : List Item} {i : Nat} {x : Str} (h : (rowsOf its)[i]? = some x) : ∃ it, its[i]? = some it ∧ x = rowOf (namesOf its) it := by
  unfold rowsOf at h
  rw [List.getElem?_map] at h
  obtain ⟨it, h1, h2⟩ := Option.map_eq_some_iff.mp h
  exact ⟨it, h1, h2.symm⟩
theorem rows_split {its : List Item} (G : GoodItems its) : PySem.Txt.split (Str.join ⟨#[10]⟩ (rowsOf its)) ⟨#[10]⟩ = rowsOf its := by
  refine split_join (by unfold rowsOf; simpa using G.ne) fun p hp => ?_
  obtain ⟨i, h⟩ := List.mem_iff_getElem?.mp hp
  obtain ⟨it, h1, rfl⟩ := rows_at h
  exact (row_good G h1).1
theorem text_len {its : List Item} (G : GoodItems its) (hl : its.length ≤ 200) : (Str.join ⟨#[10]⟩ (rowsOf its)).length ≤ 300000 := by
  have h4 := len_joinL (c := 10) (m := 1421) (ps := (rowsOf its).map fun p => p.cps.toList) (fun p hp => by
    obtain ⟨x, hx, rfl⟩ := List.mem_map.mp hp
    obtain ⟨i, h⟩ := List.mem_iff_getElem?.mp hx
    obtain ⟨it, h1, rfl⟩ := rows_at h
    rw [len_cps]; exact (row_good G h1).2.1)
  rw [← join_cps, len_cps, List.length_map, rowsOf, List.length_map] at h4
  unfold rowsOf
  omega
structure Nums (names : List Str) (kvs : List (Key × V)) : Prop where
  has : numsOf names kvs
  not : ∀ n, n ∉ names → valV kvs (.inr n) = none
  len : kvs.length = names.length
theorem Nums.nil : Nums [] [] := ⟨fun g n h => by simp at h, fun _ _ => rfl, rfl⟩
theorem Nums.put {names : List Str} {kvs : List (Key × V)} {n : Str} (N : Nums names kvs) (h : n ∉ names) : Nums (names ++ [n]) (putK kvs (.inr n) (.int names.length)) := by
  refine ⟨fun g m e => ?_, fun m hm => ?_, ?_⟩
  · rw [valV_put]
    rcases snoc_get e with e | ⟨e1, e2⟩
    · have : m ≠ n := fun z => h (z ▸ List.mem_of_getElem? e)
      rw [if_neg (fun z => this (Sum.inr.inj z))]
      exact N.has g m e
    · rw [e2, if_pos rfl, e1]
  · rw [valV_put, if_neg (fun z => hm (by rw [Sum.inr.inj z]; simp))]
    exact N.not m fun z => hm (List.mem_append_left _ z)
  · unfold putK
    rw [valV_any, N.not n h, if_neg (by decide), List.length_append, List.length_append, N.len]
    rfl
def spNums : Sp := fun vs H Q _ => ∃ (a : Addr) (its : List Item), vs = [.ref a] ∧ H a = some (.lst ((rowsOf its).map V.str)) ∧ GoodItems its ∧ its.length ≤ 200 ∧
  ∀ d kvs H', H' d = some (.dK kvs) → Nums (namesOf its) kvs → Same H H' → Q (.ref d) H'
theorem first_word {names : List Str} {R : RuleM} (G : GoodRule names R) : ∃ x r, ruleWords names R = x :: r ∧ x ≠ "mode" := by
  unfold ruleWords patWords
  split
  · exact ⟨R.sort, _, rfl, (sort_word G.pat.sort).2⟩
  · exact ⟨R.sort, _, rfl, (sort_word G.pat.sort).2⟩
theorem ok_mode_numbers (T : Txt K mg t) : FnOk P w K mg base CX0 1 t.f_mode_numbers t.d_mode_numbers ["rows"] spNums := by
  refine T.F_mode_numbers.ok sc_mode_numbers (fun vs H Q E h => ?_) (fun cdv A outer s H vs Q E hr h => at_body ?_)
  · obtain ⟨a, its, rfl, _⟩ := h
    rfl
  · obtain ⟨a, its, rfl, ha, G, hlen, q⟩ := h
    have sp1 : (" " : Str) = ⟨#[32]⟩ := by decide +kernel
    refine @at_cons _ _ _ _ _ _ _ (ps_set (i := 1) sc_mode_numbers.nd rfl (Or.inl rfl) pe_dnewK) fun d hd => ?_
    refine @at_consR _ _ _ _ _ _ _ (fun σ' H' => ∃ x y kvs, σ' = [some (.ref a), some (.ref d), x, y] ∧ H' d = some (.dK kvs) ∧ Nums (namesOf its) kvs ∧ Same H H') (ps_forA PassesOwn.never rfl (pi_list (pv 0)) (pg_name (i := 2) sc_mode_numbers.nd rfl (Or.inl rfl)) pss_at) ?_ ?_
    · refine ⟨_, rfl, a, rfl, ⟨_, SqL.of (by rw [upd_ne (ne_of_none ha hd)]; exact ha)⟩, forW_list (xs := (rowsOf its).map V.str) (fun i σ' H' => ∃ x y kvs, σ' = [some (.ref a), some (.ref d), x, y] ∧ H' d = some (.dK kvs) ∧ Nums (namesOf (its.take i)) kvs ∧ Same H H') ⟨_, _, [], rfl, upd_same, Nums.nil, Same.upd hd⟩ ?_ ?_ ?_⟩
      · rintro i σ' H' _ ⟨x, y, kvs, rfl, h1, h2, h3⟩
        exact SqL.of (h3 _ _ ha)
      · rintro i xv σ' H1 hx ⟨x, y, kvs, rfl, h1, h2, s1⟩
        rw [List.getElem?_map] at hx
        obtain ⟨row, hrow, rfl⟩ := Option.map_eq_some_iff.mp hx
        obtain ⟨it, hit, rfl⟩ := rows_at hrow
        obtain ⟨g1, g2, g3⟩ := row_good G hit
        refine @at_cons _ _ _ _ _ _ _ (ps_set (i := 3) sc_mode_numbers.nd rfl (Or.inl rfl) (pe_bm PySem.F.plainAttrs_str PySem.F.slot_str_split PySem.F.type_str_split mt_split (pv 2) (pa_cons pe_str pa_nil))) ⟨_, rfl, rfl, _, _, rfl, rfl, by decide, sl_le (by omega), fun lw hlw => ?_⟩
        rw [sp1, g3]
        have s2 : Same H1 (upd H1 lw (.lst ((it.words (namesOf its)).map V.str))) := Same.upd hlw
        have hw : upd H1 lw (.lst ((it.words (namesOf its)).map V.str)) lw = some (.lst ((it.words (namesOf its)).map V.str)) := upd_same
        have hd2 := s2 _ _ h1
        generalize upd H1 lw (.lst ((it.words (namesOf its)).map V.str)) = H2 at s2 hw hd2
        cases it with
        | mode n c =>
          obtain ⟨m1, m2, m3, m4⟩ := G.mode i n c hit
          refine @at_one _ _ _ _ _ _ (ps_if (PW.pt (pw_and (pt_cmpR op_eq (pe_ix ix_list (pv 3) pe_int (fun _ _ => rfl)) pe_str (nomark _)) (pw_and1 (pt_cmpR op_gt (pe_callB call_len_seq (by rfl) T.z_len (by decide +kernel) (pa_cons (pv 3) pa_nil)) pe_int (nomark _))))) pss_at pss_at) ⟨_, rfl, _, _, _, _, rfl, rfl, SqL.of hw, atI_nat (j := 0) rfl, rfl, _, rfl, ifd (fun _ => ?_) (fun h => absurd rfl h)⟩
          refine ⟨_, rfl, _, _, rfl, .inl (SqL.of hw), _, _, rfl, rfl, _, rfl, ifd (fun _ => ?_) (fun h => absurd (by simp [Item.words]) h)⟩
          refine @at_one _ _ _ _ _ _ (ps_dput (hu_of hr) (pv 1) (pe_ix ix_list (pv 3) pe_int (fun _ _ => rfl)) (pe_callB call_lenD (by rfl) T.z_len (by decide +kernel) (pa_cons (pv 1) pa_nil)) rfl) ⟨_, rfl, d, kvs, rfl, hd2, _, rfl, _, rfl, _, _, _, _, rfl, rfl, SqL.of hw, atI_nat (j := 1) rfl, d, _, rfl, DPut.k (k := .inr n) hd2 ?_, ?_⟩
          · rw [h2.len]; exact sl_lt (by omega)
          · refine ⟨_, _, _, rfl, upd_same, ?_, fun b o hb => ?_⟩
            · rw [take_snoc hit, namesOf_app, h2.len]
              exact h2.put m4
            · rw [upd_ne (ne_of_none hb hd)]; exact s2 _ _ (s1 _ _ hb)
        | rule R =>
          obtain ⟨r1, _⟩ := G.rule i R hit
          obtain ⟨fw, fr, e1, e2⟩ := first_word r1
          have hw' : H2 lw = some (.lst (V.str fw :: fr.map V.str)) := by rw [hw]; simp only [Item.words]; rw [e1]; rfl
          refine @at_one _ _ _ _ _ _ (ps_if (PW.pt (pw_and (pt_cmpR op_eq (pe_ix ix_list (pv 3) pe_int (fun _ _ => rfl)) pe_str (nomark _)) (pw_and1 (pt_cmpR op_gt (pe_callB call_len_seq (by rfl) T.z_len (by decide +kernel) (pa_cons (pv 3) pa_nil)) pe_int (nomark _))))) pss_at pss_at) ⟨_, rfl, _, _, _, _, rfl, rfl, SqL.of hw', atI_nat (j := 0) rfl, rfl, _, rfl, ifd (fun h => absurd (V.str.inj h) e2) (fun _ => at_nil ?_)⟩
          refine ⟨_, _, kvs, rfl, hd2, ?_, s1.trans s2⟩
          rw [take_snoc hit, namesOf_app]
          show Nums (namesOf (its.take i) ++ []) kvs
          rw [List.append_nil]
          exact h2
      · rintro σ' H' ⟨x, y, kvs, rfl, h1, h2, h3⟩
        refine ⟨x, y, kvs, rfl, h1, ?_, h3⟩
        rw [List.length_map, rowsOf, List.length_map, List.take_length] at h2
        exact h2
    rintro σ' H' ⟨x, y, kvs, rfl, h1, h2, h3⟩
    exact @at_one _ _ _ _ _ _ (ps_ret (pv 1)) ⟨_, rfl, q d kvs H' h1 h2 h3⟩
def spRdMode (t : Adr) : Sp := fun vs H Q _ => ∃ (p dx lw lm : Addr) (row : Int) (n c : Str) (as ls : List Addr) (ms : List ModeM), vs = [.ref p, .ref lm] ∧ Cur t H p dx lw row ["mode", n, c] 0 ∧ isName n = true ∧ isName c = true ∧ H lm = some (.lst (as.map V.ref)) ∧ ModesAt t H as ls ms ∧ ms.length < 12 ∧ n ∉ ms.map (·.name) ∧
  ∀ m l2 dm H', H' m = some (.ins t.c_Mode dm (mf ⟨n, c, []⟩ l2)) → H' l2 = some (.lst []) → H l2 = none → Adv H H' p → Q (.ref m) H'
theorem mode_ne {H : Hp} {m dm l p dx lw : Addr} {M : ModeM} {row : Int} {ws : List Str} {i : Nat} (h : H m = some (.ins t.c_Mode dm (mf M l))) (C : Cur t H p dx lw row ws i) : m ≠ p := ne_of h C.ob fun q => by
  injection q with _ _ q
  unfold mf cf at q
  simp at q
theorem ok_read_mode (T : Txt K mg t) : FnOk P w K mg base CX0 5 t.f_read_mode t.d_read_mode ["cursor", "modes"] (spRdMode t) := by
  refine T.F_read_mode.ok sc_read_mode (fun vs H Q E h => ?_) (fun cdv A outer s H vs Q E hr h => at_body ?_)
  · obtain ⟨p, dx, lw, lm, row, n, c, as, ls, ms, rfl, _⟩ := h
    rfl
  · obtain ⟨p, dx, lw, lm, row, n, c, as, ls, ms, rfl, C, hn, hc, hlm, hM, hl12, hnn, q⟩ := h
    have nlp : lm ≠ p := ne_of hlm C.ob (by intro z; cases z)
    refine @at_cons _ _ _ _ _ _ _ (ps_expr (pe_meth (pv 0) T.cl_Cursor T.m_Cursor_ask (ok_Cursor_ask T) (hr.mono (by decide)) (bd_Cursor_ask T) .nil pass0 (pa_cons (pe_cmpR op_lt (pe_callB call_len_seq (by rfl) T.z_len (by decide +kernel) (pa_cons (pv 1) pa_nil)) (pe_globE rfl T.mgv_MOST_MODES) (nomark _)) pa_nil))) ⟨_, rfl, p, dx, _, rfl, C.ob, rfl, _, rfl, _, _, rfl, .inl (SqL.of hlm), _, _, rfl, rfl, ?_⟩
    dsimp only
    rw [decide_eq_true (by rw [List.length_map, hM.la]; omega)]
    refine ⟨_, rfl, ?_⟩
    refine @at_cons _ _ _ _ _ _ _ (ps_expr (pe_meth (pv 0) T.cl_Cursor T.m_Cursor_take_choice (ok_Cursor_take_choice T) (hr.mono (by decide)) (bd_Cursor_take_choice T) .nil pass0 (pa_cons (pe_tup (pa_cons pe_str pa_nil)) pa_nil))) ⟨_, rfl, p, dx, _, rfl, C.ob, rfl, by show 1 ≤ sizeLine; decide, fun pt hpt => ?_⟩
    have s1 : Same H (upd H pt (.tup [.str "mode"])) := Same.upd hpt
    have C1 := C.same s1
    refine ⟨p, dx, lw, pt, ["mode"], row, _, 0, rfl, C1, SqT.of upd_same, List.mem_singleton.mpr rfl, fun H2 C2 a2 => ?_⟩
    have a2 := s1.adv a2
    have hlm2 : H2 lm = some (.lst (as.map V.ref)) := a2 _ _ hlm nlp
    refine @at_cons _ _ _ _ _ _ _ (@ps_expr _ _ _ _ (@pe_meth _ _ _ _ _ _ _ _ _ _ _ _ _ _ _ _ _ _ _ _ (pv 0) T.cl_Cursor T.m_Cursor_ask (ok_Cursor_ask T) (hr.mono (by decide)) (bd_Cursor_ask T) .nil pass0 (@pa_cons _ _ _ _ _ (@pe_cmpR _ _ _ _ _ _ _ _ op_notIn_seq (@pe_meth0 _ _ _ _ _ _ _ _ _ _ _ _ _ _ _ _ _ (pv 0) T.cl_Cursor T.m_Cursor_peek (ok_Cursor_peek T) (hr.mono (by decide)) (bd_Cursor_peek T) .nil pass0 (by walk_at "u")) (@pe_comp _ (defScope s_read_mode) _ ["cursor", "modes", "name", "colour"] _ _ ("mode") _ _ [] _ _ (by walk_at "ck") (@pi_list _ _ _ _ (pv 1)) (fun _ _ _ _ => by exact (@pe_fldK _ K _ _ _ _ (pv 0) rfl (by walk_at "u"))) (by walk_at "u") (by walk_at "u") (by walk_at "u") (by walk_at "u")) rfl) pa_nil (by walk_at "u")) (by walk_at "u") (by walk_at "u") (by walk_at "u")) (by walk_at "u")) ?_
    refine ⟨_, rfl, p, dx, _, rfl, C2.ob, rfl, ⟨_, rfl, p, dx, _, rfl, C2.ob, rfl, p, dx, lw, row, _, 0 + 1, rfl, C2, ?_⟩⟩
    refine ⟨_, rfl, lm, rfl, ⟨_, SqL.of hlm2⟩, comp_list (xs := as.map V.ref) (fun i ys H' => H' = H2 ∧ ys = ((ms.map (·.name)).take i).map V.str) ⟨rfl, rfl⟩ (sl_lt (by rw [List.length_map, hM.la]; omega)) ?_ ?_ ?_⟩
    · rintro i ys H' _ ⟨rfl, _⟩
      exact SqL.of hlm2
    · rintro i xv ys H' hx hyl ⟨rfl, rfl⟩
      rw [List.getElem?_map] at hx
      obtain ⟨a, ha, rfl⟩ := Option.map_eq_some_iff.mp hx
      have hi : i < as.length := (List.getElem?_eq_some_iff.mp ha).1
      obtain ⟨m, hm⟩ : ∃ m, ms[i]? = some m := ⟨ms[i]'(by rw [← hM.la]; exact hi), List.getElem?_eq_getElem _⟩
      obtain ⟨l, hll⟩ : ∃ l, ls[i]? = some l := ⟨ls[i]'(by rw [hM.ll, ← hM.la]; exact hi), List.getElem?_eq_getElem _⟩
      obtain ⟨dm, rs, o1, o2, o3⟩ := hM.ob i a l m ha hll hm
      refine ⟨_, rfl, a, t.c_Mode, dm, _, _, rfl, a2 _ _ o1 (mode_ne o1 C), T.cl_Mode, T.n_Mode_name, rfl, ?_⟩
      refine comp_turn (by rw [List.length_map]; exact hi) hyl ⟨rfl, ?_⟩
      rw [take_snoc (l := ms.map (·.name)) (x := m.name) (by rw [List.getElem?_map, hm]; rfl), List.map_append]
      rfl
    · rintro ys H' hyl ⟨rfl, rfl⟩ D hD
      have hall : (ms.map (·.name)).take (as.map V.ref).length = ms.map (·.name) := List.take_of_length_le (by rw [List.length_map, List.length_map, hM.la]; omega)
      rw [hall]
      have s3 : Same H' (upd H' D (.lst ((ms.map (·.name)).map V.str))) := Same.upd hD
      have C3 := C2.same s3
      refine ⟨D, _, rfl, .inl (SqL.of upd_same), rfl, flat_strs, ?_⟩
      rw [if_pos rfl, inV_strs, decide_eq_false (p := pk ["mode", n, c] (0 + 1) ∈ ms.map (·.name)) hnn]
      refine ⟨_, rfl, ?_⟩
      refine @at_cons _ _ _ _ _ _ _ (ps_set (i := 2) sc_read_mode.nd rfl (Or.inl rfl) (pe_meth0 (pv 0) T.cl_Cursor T.m_Cursor_take_name (ok_Cursor_take_name T) (hr.mono (by decide)) (bd_Cursor_take_name T) .nil pass0)) ⟨_, rfl, p, dx, _, rfl, C3.ob, rfl, p, dx, lw, row, _, 0 + 1, rfl, C3, hn, fun H4 C4 a4 => ?_⟩
      refine @at_cons _ _ _ _ _ _ _ (ps_set (i := 3) sc_read_mode.nd rfl (Or.inl rfl) (pe_meth0 (pv 0) T.cl_Cursor T.m_Cursor_take_name (ok_Cursor_take_name T) (hr.mono (by decide)) (bd_Cursor_take_name T) .nil pass0)) ⟨_, rfl, p, dx, _, rfl, C4.ob, rfl, p, dx, lw, row, _, 0 + 1 + 1, rfl, C4, hc, fun H5 C5 a5 => ?_⟩
      have a5 := (a2.same s3).trans (a4.trans a5)
      refine @at_cons _ _ _ _ _ _ _ (ps_expr (pe_meth (pv 0) T.cl_Cursor T.m_Cursor_ask (ok_Cursor_ask T) (hr.mono (by decide)) (bd_Cursor_ask T) .nil pass0 (pa_cons (pe_not (pe_meth0 (pv 0) T.cl_Cursor T.m_Cursor_more (ok_Cursor_more T) (hr.mono (by decide)) (bd_Cursor_more T) .nil pass0)) pa_nil))) ⟨_, rfl, p, dx, _, rfl, C5.ob, rfl, ⟨_, rfl, p, dx, _, rfl, C5.ob, rfl, p, dx, lw, row, _, 0 + 1 + 1 + 1, rfl, C5, _, rfl, ?_⟩⟩
      refine ⟨_, rfl, ?_⟩
      refine @at_one _ _ _ _ _ _ (ps_ret (pe_make T.mk_Mode (ok_Mode___init__ T) (hr.mono (by decide)) rfl T.mgc_Mode (bd_Mode___init__ T) .nil pass0 (pa_cons (pv 2) (pa_cons (pv 3) (pa_cons (pe_lst pa_nil) pa_nil))))) ⟨_, rfl, _, rfl, by show 0 ≤ sizeLine; decide, fun l1 hl1 => ?_⟩
      intro x dm nx ndm ne
      have nl1 : l1 ≠ x := ne_of_none upd_same nx
      have nl2 : l1 ≠ dm := ne_of_none upd_same ndm
      refine ⟨x, dm, l1, n, c, [], rfl, upd_same, by rw [upd_ne nl1, upd_ne nl2]; exact upd_same, fun l2 H6 h1 h2 h3 h4 => ⟨rfl, ?_⟩⟩
      have key : ∀ b o, H5 b = some o → b ≠ x ∧ b ≠ dm ∧ b ≠ l1 := fun b o hb => by
        have e1 : b ≠ l1 := ne_of_none hb hl1
        have hb' : upd H5 l1 (.lst []) b = some o := by rw [upd_ne e1]; exact hb
        exact ⟨ne_of_none hb' nx, ne_of_none hb' ndm, e1⟩
      have hadv : ∀ b o, H5 b = some o → H6 b = some o := fun b o hb => by
        obtain ⟨k1, k2, k3⟩ := key b o hb
        refine h4 b o ?_ k1
        rw [upd_ne k1, upd_ne k2, upd_ne k3]; exact hb
      refine q x l2 dm H6 h2 h3 ?_ fun b o hb nb => hadv b o (a5 b o hb nb)
      cases e : H l2 with
      | none => rfl
      | some o =>
        by_cases z : l2 = p
        · have h5 := hadv p _ C5.ob
          rw [z, h5] at h3
          cases h3
        · have h5 := a5 _ _ e z
          obtain ⟨k1, k2, k3⟩ := key _ _ h5
          rw [upd_ne k1, upd_ne k2, upd_ne k3, h5] at h1
          cases h1
def spRead (t : Adr) : Sp := fun vs H Q _ => ∃ (its : List Item), vs = [.str (Str.join ⟨#[10]⟩ (rowsOf its))] ∧ GoodItems its ∧ its.length ≤ 200 ∧ ∀ a H', IsRules t H' a (foldI its) → Same H H' → Q (.ref a) H'
theorem foldI_len (its : List Item) : (foldI its).length = (namesOf its).length := by rw [← names_fold, List.length_map]
theorem Adv.fresh {H H1 H2 : Hp} {p : Addr} (s : Same H H1) (h : H p = none) (a : Adv H1 H2 p) : Same H H2 := fun b o hb => a b o (s b o hb) (ne_of_none hb h)
theorem IsRule.updL {H : Hp} {r l : Addr} {R : RuleM} {xs : List V} {o : HO} (h : IsRule t H r R) (hl : H l = some (.lst xs)) : IsRule t (upd H l o) r R := by
  obtain ⟨dx, p, x, ⟨dp, y⟩⟩ := h
  exact ⟨dx, p, by rw [upd_ne (ne_of x hl (by intro z; cases z))]; exact x, dp, by rw [upd_ne (ne_of y hl (by intro z; cases z))]; exact y⟩
theorem ModesAt.updL {H : Hp} {as ls : List Addr} {ms : List ModeM} {l : Addr} {xs : List V} {o : HO} (h : ModesAt t H as ls ms) (hl : H l = some (.lst xs)) (hn : l ∉ ls) : ModesAt t (upd H l o) as ls ms :=
  ⟨h.la, h.ll, h.nd, fun i a l' m h1 h2 h3 => by
    obtain ⟨dx, rs, x, y, z⟩ := h.ob i a l' m h1 h2 h3
    exact ⟨dx, rs, by rw [upd_ne (ne_of x hl (by intro z; cases z))]; exact x, by rw [upd_ne (show l' ≠ l from fun e => hn (e ▸ List.mem_of_getElem? h2))]; exact y, z.mono fun _ _ r => r.updL hl⟩⟩
theorem ModesAt.alive {H : Hp} {as ls : List Addr} {ms : List ModeM} (h : ModesAt t H as ls ms) {l : Addr} (hl : l ∈ ls) : ∃ xs, H l = some (.lst xs) := by
  obtain ⟨i, e⟩ := List.mem_iff_getElem?.mp hl
  have hi := (List.getElem?_eq_some_iff.mp e).1
  obtain ⟨dx, rs, x, y, z⟩ := h.ob i _ l _ (List.getElem?_eq_getElem (by rw [h.la, ← h.ll]; exact hi)) e (List.getElem?_eq_getElem (by rw [← h.ll]; exact hi))
  exact ⟨_, y⟩
theorem ModesAt.addM {H : Hp} {as ls : List Addr} {ms : List ModeM} {m l dm : Addr} {n c : Str} (h : ModesAt t H as ls ms) (hm : H m = some (.ins t.c_Mode dm (mf ⟨n, c, []⟩ l))) (hl : H l = some (.lst [])) (hn : l ∉ ls) : ModesAt t H (as ++ [m]) (ls ++ [l]) (ms ++ [⟨n, c, []⟩]) := by
  refine ⟨by simp [h.la], by simp [h.ll], ?_, fun i a l' m' h1 h2 h3 => ?_⟩
  · refine List.nodup_append.mpr ⟨h.nd, by simp, fun a ha b hb => ?_⟩
    rw [List.mem_singleton.mp hb]
    exact fun e => hn (e ▸ ha)
  · have e1 := h.la
    have e2 := h.ll
    rcases snoc_get h1 with h1 | ⟨i1, rfl⟩
    · have := (List.getElem?_eq_some_iff.mp h1).1
      rcases snoc_get h2 with h2 | ⟨i2, rfl⟩
      · rcases snoc_get h3 with h3 | ⟨i3, rfl⟩
        · exact h.ob i a l' m' h1 h2 h3
        · omega
      · omega
    · rcases snoc_get h2 with h2 | ⟨i2, rfl⟩
      · have := (List.getElem?_eq_some_iff.mp h2).1; omega
      · rcases snoc_get h3 with h3 | ⟨i3, rfl⟩
        · have := (List.getElem?_eq_some_iff.mp h3).1; omega
        · exact ⟨dm, [], hm, hl, All2.nil⟩
theorem nodup_at {l : List Addr} (h : l.Nodup) {i j : Nat} {a : Addr} (h1 : l[i]? = some a) (h2 : l[j]? = some a) : i = j := by
  obtain ⟨i1, e1⟩ := List.getElem?_eq_some_iff.mp h1
  obtain ⟨j1, e2⟩ := List.getElem?_eq_some_iff.mp h2
  exact (List.getElem_inj h).mp (e1.trans e2.symm)
theorem ModesAt.addR {H : Hp} {as ls : List Addr} {ms : List ModeM} {m : ModeM} {l r : Addr} {rs : List Addr} {R : RuleM} (h : ModesAt t H as ls (ms ++ [m])) (hl : ls[ms.length]? = some l) (hH : H l = some (.lst (rs.map V.ref))) (hA : All2 (IsRule t H) rs m.rules) (hr : IsRule t H r R) :
    ModesAt t (upd H l (.lst (rs.map V.ref ++ [.ref r]))) as ls (ms ++ [{ m with rules := m.rules ++ [R] }]) := by
  refine ⟨by rw [h.la]; simp, by rw [h.ll]; simp, h.nd, fun i a l' m' h1 h2 h3 => ?_⟩
  rcases snoc_get h3 with h3 | ⟨i3, rfl⟩
  · have hi := (List.getElem?_eq_some_iff.mp h3).1
    obtain ⟨dx, rs', x, y, z⟩ := h.ob i a l' m' h1 h2 (by rw [List.getElem?_append_left hi]; exact h3)
    refine ⟨dx, rs', by rw [upd_ne (ne_of x hH (by intro z; cases z))]; exact x, ?_, z.mono fun _ _ r => r.updL hH⟩
    rw [upd_ne (fun e => ?_)]
    · exact y
    · subst e
      have := nodup_at h.nd h2 hl
      omega
  · subst i3
    rw [hl] at h2
    cases h2
    obtain ⟨dx, rs', x, y, z⟩ := h.ob _ a l m h1 hl (by simp)
    refine ⟨dx, rs ++ [r], by rw [upd_ne (ne_of x hH (by intro z; cases z))]; exact x, by rw [upd_same, List.map_append]; rfl, ?_⟩
    exact All2.snoc (hA.mono fun _ _ r => r.updL hH) (hr.updL hH)
theorem atI_lastM {α β : Type} {f : α → β} {as : List α} {k : Nat} {a : α} (hl : as.length = k + 1) (h : as[k]? = some a) : atI (as.map f) (-1) = some (f a) := by
  unfold atI ixN
  rw [List.length_map, hl]
  have e : ((-1 : Int) + ((k + 1 : Nat) : Int)).toNat = k := by omega
  first
    | (rw [if_neg (by omega), if_pos (by omega)]; simp only [Option.bind_some]; rw [show (((k + 1 : Nat) : Int) + (-1 : Int)).toNat = k by omega, List.getElem?_map, h]; rfl)
    | (rw [if_neg (by omega), if_pos (by omega)]; simp only [Option.bind_some]; rw [e, List.getElem?_map, h]; rfl)
theorem ok_read_rules (T : Txt K mg t) : FnOk P w K mg base CX0 7 t.f_read_rules t.d_read_rules ["text"] (spRead t) := by
  refine T.F_read_rules.ok sc_read_rules (fun vs H Q E h => ?_) (fun cdv A outer s H vs Q E hr h => at_body ?_)
  · obtain ⟨its, rfl, _⟩ := h
    rfl
  · obtain ⟨its, rfl, G, hlen, q⟩ := h
    have nl1 : ("\n" : Str) = ⟨#[10]⟩ := by decide +kernel
    refine @at_cons _ _ _ _ _ _ _ (ps_set (i := 1) sc_read_rules.nd rfl (Or.inl rfl) (pe_bm PySem.F.plainAttrs_str PySem.F.slot_str_split PySem.F.type_str_split mt_split (pv 0) (pa_cons pe_str pa_nil))) ⟨_, rfl, rfl, _, _, rfl, rfl, by decide, sl_le (by have := text_len G hlen; omega), fun lr hlr => ?_⟩
    rw [nl1, rows_split G]
    have s1 : Same H (upd H lr (.lst ((rowsOf its).map V.str))) := Same.upd hlr
    have hr1 : upd H lr (.lst ((rowsOf its).map V.str)) lr = some (.lst ((rowsOf its).map V.str)) := upd_same
    generalize upd H lr (.lst ((rowsOf its).map V.str)) = H1 at s1 hr1
    refine @at_cons _ _ _ _ _ _ _ (ps_set (i := 2) sc_read_rules.nd rfl (Or.inl rfl) (pe_call (ok_mode_numbers T) (hr.mono (by decide)) rfl T.mg_mode_numbers T.F_mode_numbers.kp (bd_mode_numbers T) .nil pass0 (pa_cons (pv 1) pa_nil))) ⟨_, rfl, lr, its, rfl, hr1, G, hlen, fun d kvs H2 hd2 hN s2 => ?_⟩
    have hr2 := s2 _ _ hr1
    have s2 := s1.trans s2
    refine @at_cons _ _ _ _ _ _ _ (ps_set (i := 3) sc_read_rules.nd rfl (Or.inl rfl) (pe_lst pa_nil)) ⟨by show 0 ≤ sizeLine; decide, fun lm hlm => ?_⟩
    have s3 : Same H2 (upd H2 lm (.lst [])) := Same.upd hlm
    have hm3 : upd H2 lm (.lst []) lm = some (.lst []) := upd_same
    generalize upd H2 lm (.lst []) = H3 at s3 hm3
    have hlm0 : H lm = none := s2.free hlm
    have hr3 := s3 _ _ hr2
    have hd3 := s3 _ _ hd2
    have s3 := s2.trans s3
    refine @at_cons _ _ _ _ _ _ _ (ps_set (i := 4) sc_read_rules.nd rfl (Or.inl rfl) (pe_lst pa_nil)) ⟨by show 0 ≤ sizeLine; decide, fun nw hnw => ?_⟩
    have s4 : Same H3 (upd H3 nw (.lst [])) := Same.upd hnw
    have hw4 : upd H3 nw (.lst []) nw = some (.lst []) := upd_same
    generalize upd H3 nw (.lst []) = H4 at s4 hw4
    have hr4 := s4 _ _ hr3
    have hd4 := s4 _ _ hd3
    have hm4 := s4 _ _ hm3
    have nmw : lm ≠ nw := ne_of_none hm3 hnw
    have s4 := s3.trans s4
    have nlr : lr ≠ lm := ne_of_none hr2 hlm
    have nlrw : lr ≠ nw := ne_of_none hr3 hnw
    refine @at_consR _ _ _ _ _ _ _ (fun σ' H' => ∃ x5 x6 x7 x8 as ls, σ' = [some (.str (Str.join ⟨#[10]⟩ (rowsOf its))), some (.ref lr), some (.ref d), some (.ref lm), some (.ref nw), x5, x6, x7, x8] ∧ H' lm = some (.lst (as.map V.ref)) ∧ H' nw = some (.lst []) ∧ ModesAt t H' as ls (foldI its) ∧ Same H H') (ps_forA PassesOwn.never rfl (pi_enum rfl T.z_enumerate (pa_cons (pv 1) pa_nil)) (pg_tup rfl (pgs_cons (pg_name (i := 5) sc_read_rules.nd rfl (Or.inl rfl)) (pgs_cons (pg_name (i := 6) sc_read_rules.nd rfl (Or.inl rfl)) pgs_nil))) pss_at) ?_ ?_
    · refine ⟨_, rfl, lr, _, rfl, SqL.of hr4, forW_enum (xs := (rowsOf its).map V.str) (fun i σ' H' => ∃ x5 x6 x7 x8 as ls, σ' = [some (.str (Str.join ⟨#[10]⟩ (rowsOf its))), some (.ref lr), some (.ref d), some (.ref lm), some (.ref nw), x5, x6, x7, x8] ∧ H' lm = some (.lst (as.map V.ref)) ∧ H' nw = some (.lst []) ∧ H' lr = some (.lst ((rowsOf its).map V.str)) ∧ H' d = some (.dK kvs) ∧ ModesAt t H' as ls (foldI (its.take i)) ∧ lm ∉ ls ∧ nw ∉ ls ∧ lr ∉ ls ∧ (∀ l ∈ ls, H l = none) ∧ Same H H') ?_ ?_ ?_ ?_⟩
      · exact ⟨_, _, _, _, [], [], rfl, hm4, hw4, hr4, hd4, ⟨rfl, rfl, List.nodup_nil, fun i a l m h => by simp at h⟩, by simp, by simp, by simp, by simp, s4⟩
      · rintro i σ' H' _ ⟨x5, x6, x7, x8, as, ls, rfl, h1, h2, h3, _⟩
        exact SqL.of h3
      · rintro i xv pt σ' H5 hx hpt ⟨x5, x6, x7, x8, as, ls, rfl, hm5, hw5, hr5, hd5, hM, nl1', nl2', nl3', hfr, s5⟩
        rw [List.getElem?_map] at hx
        obtain ⟨row, hrow, rfl⟩ := Option.map_eq_some_iff.mp hx
        obtain ⟨it, hit, rfl⟩ := rows_at hrow
        obtain ⟨g1, g2, g3⟩ := row_good G hit
        obtain ⟨w1, w2, w3⟩ := item_words G hit
        have s6 : Same H5 (upd H5 pt (.tup [.int i, .str (rowOf (namesOf its) it)])) := Same.upd hpt
        refine ⟨pt, [.int i, .str (rowOf (namesOf its) it)], rfl, SqT.of upd_same, rfl, _, _, rfl, _, _, rfl, rfl, ?_⟩
        generalize upd H5 pt (.tup [.int i, .str (rowOf (namesOf its) it)]) = H6 at s6
        refine @at_cons _ _ _ _ _ _ _ (ps_set (i := 7) sc_read_rules.nd rfl (Or.inl rfl) (pe_make T.mk_Cursor (ok_Cursor___init__ T) (hr.mono (by decide)) rfl T.mgc_Cursor (bd_Cursor___init__ T) .nil pass0 (pa_cons (pv 5) (pa_cons (pv 6) pa_nil)))) ⟨_, rfl, _, rfl, fun p dx np ndx ne => ⟨p, dx, i, _, rfl, upd_same, by omega, by rw [g3]; omega, fun lw H7 hlw C7 a7 => ⟨rfl, ?_⟩⟩⟩
        rw [g3] at C7
        have s7 : Same H5 H7 := fun b o hb => a7 b o (by rw [upd_ne (ne_of_none (s6 _ _ hb) np), upd_ne (ne_of_none (s6 _ _ hb) ndx)]; exact s6 _ _ hb) (ne_of_none (s6 _ _ hb) np)
        have hp5 : H5 p = none := s6.free np
        have hm7 := s7 _ _ hm5
        have hM7 := hM.same s7
        have hml : as.length = (foldI (its.take i)).length := hM.la
        cases it with
        | mode n c =>
          obtain ⟨m1, m2, m3, m4⟩ := G.mode i n c hit
          refine @at_one _ _ _ _ _ _ (ps_if (PW.pt (pw_or (pt_not (pt_truth (pv 3) (fun _ => rfl))) (pw_or1 (pt_cmpR op_eq (pe_meth0 (pv 7) T.cl_Cursor T.m_Cursor_peek (ok_Cursor_peek T) (hr.mono (by decide)) (bd_Cursor_peek T) .nil pass0) pe_str (nomark _))))) pss_at pss_at) ⟨_, rfl, _, .inl ⟨_, SqL.of hm7, rfl⟩, ?_⟩
          refine (fun hb => ifb (fun _ => iteT hb) (fun _ => ⟨_, rfl, p, dx, _, rfl, C7.ob, rfl, p, dx, lw, i, _, 0, rfl, C7, rfl, _, rfl, ifd (fun _ => hb) (fun h => absurd rfl h)⟩)) ?_
          refine @at_one _ _ _ _ _ _ (ps_expr (pe_bm PySem.F.plainAttrs_list PySem.F.slot_list_append PySem.F.type_list_append mt_append (pv 3) (pa_cons (pe_call (ok_read_mode T) (hr.mono (by decide)) rfl T.mg_read_mode T.F_read_mode.kp (bd_read_mode T) .nil pass0 (pa_cons (pv 7) (pa_cons (pv 3) pa_nil))) pa_nil))) ⟨_, rfl, .inl ⟨rfl, _, SqL.of hm7⟩, _, rfl, _, rfl, p, dx, lw, lm, i, n, c, as, ls, _, rfl, C7, m1, m2, hm7, hM7, by rw [foldI_len]; exact m3, by rw [names_fold]; exact m4, fun m l2 dm H8 e1 e2 e3 a8 => ?_⟩
          have s8 : Same H5 H8 := Adv.fresh s7 hp5 a8
          have hm8 := s8 _ _ hm5
          have n1 : lm ≠ l2 := ne_of_none hm7 e3
          have hn2 : l2 ∉ ls := fun z => by
            obtain ⟨xs, hx⟩ := hM7.alive z
            rw [hx] at e3; cases e3
          refine ⟨lm, _, _, rfl, rfl, hm8, sl_lt (by rw [List.length_map, hml, foldI_len]; omega), ?_⟩
          refine ⟨_, _, _, _, as ++ [m], ls ++ [l2], rfl, by rw [upd_same, List.map_append]; rfl, ?_, ?_, ?_, ?_, ?_, ?_, ?_, ?_, ?_⟩
          · rw [upd_ne (Ne.symm nmw)]; exact s8 _ _ hw5
          · rw [upd_ne nlr]; exact s8 _ _ hr5
          · rw [upd_ne (ne_of hd5 hm5 (by intro z; cases z))]; exact s8 _ _ hd5
          · rw [take_snoc hit, foldI_snoc]
            exact ModesAt.addM ((hM.same s8).updL hm8 nl1') (by rw [upd_ne (ne_of e1 hm8 (by intro z; cases z))]; exact e1) (by rw [upd_ne (Ne.symm n1)]; exact e2) hn2
          · intro z
            rcases List.mem_append.mp z with z | z
            · exact nl1' z
            · exact n1 (List.mem_singleton.mp z)
          · intro z
            rcases List.mem_append.mp z with z | z
            · exact nl2' z
            · exact ne_of_none (s7 _ _ hw5) e3 (List.mem_singleton.mp z)
          · intro z
            rcases List.mem_append.mp z with z | z
            · exact nl3' z
            · exact ne_of_none (s7 _ _ hr5) e3 (List.mem_singleton.mp z)
          · intro l hl
            rcases List.mem_append.mp hl with z | z
            · exact hfr l z
            · rw [List.mem_singleton.mp z]; exact (s5.trans s7).free e3
          · intro b o hb
            rw [upd_ne (ne_of_none hb hlm0)]
            exact s8 _ _ (s5 _ _ hb)
        | rule R =>
          obtain ⟨r1, ms, m, hms, hm12⟩ := G.rule i R hit
          obtain ⟨fw, fr, f1, f2⟩ := first_word r1
          rw [hms] at hM hM7 hml
          have hk : as.length = ms.length + 1 := by rw [hml]; simp
          obtain ⟨a, ha⟩ : ∃ a, as[ms.length]? = some a := ⟨as[ms.length]'(by omega), List.getElem?_eq_getElem _⟩
          obtain ⟨l, hl⟩ : ∃ l, ls[ms.length]? = some l := ⟨ls[ms.length]'(by rw [hM.ll]; simp), List.getElem?_eq_getElem _⟩
          obtain ⟨dm, rs, o1, o2, o3⟩ := hM.ob ms.length a l m ha hl (by simp)
          have o1' := s7 _ _ o1
          have o2' := s7 _ _ o2
          have hrl : rs.length < 12 := by rw [o3.1]; exact hm12
          have hl0 : H l = none := hfr l (List.mem_of_getElem? hl)
          have hnl : l ∈ ls := List.mem_of_getElem? hl
          refine @at_one _ _ _ _ _ _ (ps_if (PW.pt (pw_or (pt_not (pt_truth (pv 3) (fun _ => rfl))) (pw_or1 (pt_cmpR op_eq (pe_meth0 (pv 7) T.cl_Cursor T.m_Cursor_peek (ok_Cursor_peek T) (hr.mono (by decide)) (bd_Cursor_peek T) .nil pass0) pe_str (nomark _))))) pss_at pss_at) ⟨_, rfl, _, .inl ⟨_, SqL.of hm7, rfl⟩, ifb (fun h => ?_) (fun _ => ?_)⟩
          · exfalso
            have : as ≠ [] := fun z => by rw [z] at hk; simp at hk
            cases as with
            | nil => exact this rfl
            | cons _ _ => simp at h
          refine ⟨_, rfl, p, dx, _, rfl, C7.ob, rfl, p, dx, lw, i, _, 0, rfl, C7, rfl, _, rfl, ifd (fun h => ?_) (fun _ => ?_)⟩
          · exfalso
            refine f2 ?_
            have h := V.str.inj h
            simp only [Item.words, f1] at h
            exact h
          refine @at_cons _ _ _ _ _ _ _ (ps_set (i := 8) sc_read_rules.nd rfl (Or.inl rfl) (pe_fld (pe_ix ix_list (pv 3) (pe_un un_neg pe_int) (fun _ _ => rfl)) rfl)) ⟨_, rfl, _, rfl, _, _, _, _, rfl, rfl, SqL.of hm7, atI_lastM hk ha, a, t.c_Mode, dm, _, _, rfl, o1', T.cl_Mode, T.n_Mode_rules, rfl, ?_⟩
          refine @at_cons _ _ _ _ _ _ _ (ps_expr (pe_meth (pv 7) T.cl_Cursor T.m_Cursor_ask (ok_Cursor_ask T) (hr.mono (by decide)) (bd_Cursor_ask T) .nil pass0 (pa_cons (pe_cmpR op_lt (pe_callB call_len_seq (by rfl) T.z_len (by decide +kernel) (pa_cons (pv 8) pa_nil)) (pe_globE rfl T.mgv_MOST_RULES) (nomark _)) pa_nil))) ⟨_, rfl, p, dx, _, rfl, C7.ob, rfl, _, rfl, _, _, rfl, .inl (SqL.of o2'), _, _, rfl, rfl, ?_⟩
          dsimp only
          rw [decide_eq_true (by rw [List.length_map]; omega)]
          refine ⟨_, rfl, ?_⟩
          refine @at_one _ _ _ _ _ _ (ps_expr (pe_bm PySem.F.plainAttrs_list PySem.F.slot_list_append PySem.F.type_list_append mt_append (pv 8) (pa_cons (pe_call (ok_read_rule T) (hr.mono (by decide)) rfl T.mg_read_rule T.F_read_rule.kp (bd_read_rule T) .nil pass0 (pa_cons (pv 7) (pa_cons (pv 2) (pa_cons (pv 4) pa_nil)))) pa_nil))) ⟨_, rfl, .inl ⟨rfl, _, SqL.of o2'⟩, _, rfl, _, rfl, _, rfl, p, dx, lw, d, _, i, _, kvs, namesOf its, R, rfl, C7, rfl, s7 _ _ hd5, hN.has, good_names G, r1, fun r H8 hr8 a8 => ?_⟩
          have s8 : Same H5 H8 := Adv.fresh s7 hp5 a8
          have o2'' := s8 _ _ o2
          refine ⟨l, _, _, rfl, rfl, o2'', sl_lt (by rw [List.length_map]; omega), ?_⟩
          refine ⟨_, _, _, _, as, ls, rfl, ?_, ?_, ?_, ?_, ?_, nl1', nl2', nl3', hfr, ?_⟩
          · rw [upd_ne (show lm ≠ l from fun z => nl1' (z ▸ hnl))]; exact s8 _ _ hm5
          · rw [upd_ne (show nw ≠ l from fun z => nl2' (z ▸ hnl))]; exact s8 _ _ hw5
          · rw [upd_ne (show lr ≠ l from fun z => nl3' (z ▸ hnl))]; exact s8 _ _ hr5
          · rw [upd_ne (ne_of hd5 o2 (by intro z; cases z))]; exact s8 _ _ hd5
          · rw [take_snoc hit, foldI_snoc, hms]
            show ModesAt _ _ _ _ (addRule R (ms ++ [m]))
            rw [addRule_snoc]
            exact (hM.same s8).addR hl o2'' (o3.mono fun _ _ r => r.same s8) hr8
          · intro b o hb
            rw [upd_ne (ne_of_none hb hl0)]
            exact s8 _ _ (s5 _ _ hb)
      · rintro σ' H' ⟨x5, x6, x7, x8, as, ls, rfl, h1, h2, h3, h4, h5, _, _, _, _, h6⟩
        rw [List.length_map, rowsOf, List.length_map, List.take_length] at h5
        exact ⟨_, _, _, _, as, ls, rfl, h1, h2, h5, h6⟩
    rintro σ' H' ⟨x5, x6, x7, x8, as, ls, rfl, h1, h2, h5, h6⟩
    refine @at_cons _ _ _ _ _ _ _ (ps_if (pt_truth (pv 4) (fun _ => rfl)) pss_at pss_at) ⟨_, rfl, _, .inl ⟨_, SqL.of h2, rfl⟩, iteF (at_nil ?_)⟩
    refine @at_one _ _ _ _ _ _ (ps_ret (pe_make T.mk_Rules (ok_Rules___init__ T) (hr.mono (by decide)) rfl T.mgc_Rules (bd_Rules___init__ T) .nil pass0 (pa_cons (pv 3) pa_nil))) ⟨_, rfl, fun x dx nx ndx ne => ⟨x, dx, lm, _, rfl, upd_same, by rw [upd_ne (ne_of_none h1 nx), upd_ne (ne_of_none h1 ndx)]; exact h1, fun l2 H8 e1 e2 e3 e4 => ⟨rfl, ?_⟩⟩⟩
    have s8 : Same H' H8 := fun b o hb => e4 b o (by rw [upd_ne (ne_of_none hb nx), upd_ne (ne_of_none hb ndx)]; exact hb) (ne_of_none hb nx)
    exact q x H8 ⟨dx, l2, as, ls, e2, e3, h5.same s8⟩ (h6.trans s8)
end
section
variable {P : Program} {w : World} {K : PySem.W.Frag} {mg : Str → Option Value} {base : Heap} {t : Adr}
def fitsB (R : RuleM) (row : Str) (i : Nat) : Bool := decide (dueV R.sort R.signs row i ≠ .non)
def firstF (row : Str) (i : Nat) : Nat → List RuleM → Option Nat
  | _, [] => none
  | k, R :: r => if fitsB R row i = true then some k else firstF row i (k + 1) r
def firstM (rs : List RuleM) (row : Str) (i : Nat) : Option Nat := firstF row i 0 rs
def GoodR (R : RuleM) : Prop := R.sort ∈ sorts ∧ R.signs.length ≤ 200
def RulesOk (rs : List RuleM) : Prop := rs.length ≤ 200 ∧ ∀ R ∈ rs, GoodR R
theorem drop_at {α : Type} {l : List α} {i : Nat} {x : α} (h : l[i]? = some x) : l.drop i = x :: l.drop (i + 1) := by
  rw [List.drop_eq_getElem?_toList_append, h]; rfl
theorem firstF_at {row : Str} {i k : Nat} {rs : List RuleM} {R : RuleM} {n : Nat} (h : rs[n]? = some R) : firstF row i k (rs.drop n) = if fitsB R row i = true then some k else firstF row i (k + 1) (rs.drop (n + 1)) := by
  rw [drop_at h]; rfl
/-- a mode of rules: its object, its list, its rules -/
theorem IsRules.mode {H : Hp} {a : Addr} {ms : List ModeM} (h : IsRules t H a ms) {k : Nat} {m : ModeM} (hm : ms[k]? = some m) :
    ∃ (dx lm : Addr) (as : List Addr) (b lr dm : Addr) (rs : List Addr), H a = some (.ins t.c_Rules dx [("modes", .ref lm)]) ∧ H lm = some (.lst (as.map V.ref)) ∧ as.length = ms.length ∧ as[k]? = some b ∧ H b = some (.ins t.c_Mode dm (mf m lr)) ∧ H lr = some (.lst (rs.map V.ref)) ∧ All2 (IsRule t H) rs m.rules := by
  obtain ⟨dx, lm, as, ls, ha, hlm, hM⟩ := h
  have hk := (List.getElem?_eq_some_iff.mp hm).1
  obtain ⟨b, hb⟩ : ∃ b, as[k]? = some b := ⟨as[k]'(by rw [hM.la]; exact hk), List.getElem?_eq_getElem _⟩
  obtain ⟨lr, hlr⟩ : ∃ b, ls[k]? = some b := ⟨ls[k]'(by rw [hM.ll]; exact hk), List.getElem?_eq_getElem _⟩
  obtain ⟨dm, rs, o1, o2, o3⟩ := hM.ob k b lr m hb hlr hm
  exact ⟨dx, lm, as, b, lr, dm, rs, ha, hlm, hM.la, hb, o1, o2, o3⟩
theorem at_ref {as : List Addr} {k : Nat} {b : Addr} (h : as[k]? = some b) : atI (as.map V.ref) ((k : Nat) : Int) = some (.ref b) := atI_nat (by rw [List.getElem?_map, h]; rfl)
def spFirst (t : Adr) : Sp := fun vs H Q _ => ∃ (a : Addr) (ms : List ModeM) (m : ModeM) (k i : Nat) (row : Str), vs = [.ref a, .int k, .str row, .int i] ∧ IsRules t H a ms ∧ ms[k]? = some m ∧ RulesOk m.rules ∧ row.length ≤ 1000 ∧ i ≤ row.length ∧
  ∀ H', Same H H' → Q (goalV (firstM m.rules row i)) H'
theorem ok_first_rule (T : Txt K mg t) : FnOk P w K mg base CX0 2 t.f_first_rule t.d_first_rule ["rules", "mode", "row", "at"] (spFirst t) := by
  refine T.F_first_rule.ok sc_first_rule (fun vs H Q E h => ?_) (fun cdv A outer s H vs Q E hr h => at_body ?_)
  · obtain ⟨a, ms, m, k, i, row, rfl, _⟩ := h
    rfl
  · obtain ⟨a, ms, m, k, i, row, rfl, hR, hm, hok, hrow, hi, q⟩ := h
    obtain ⟨dx, lm, as, b, lr, dm, rs, ha, hlm, hal, hb, hmo, hlr, hA⟩ := hR.mode hm
    refine @at_consR _ _ _ _ _ _ _ (fun σ' H' => (∃ x y, σ' = [some (.ref a), some (.int k), some (.str row), some (.int i), x, y]) ∧ Same H H' ∧ firstM m.rules row i = none) (ps_forA PassesOwn.never rfl (pi_enum rfl T.z_enumerate (pa_cons (pe_fld (pe_ix ix_list (pe_fld (pv 0) rfl) (pv 1) (fun _ _ => rfl)) rfl) pa_nil)) (pg_tup rfl (pgs_cons (pg_name (i := 4) sc_first_rule.nd rfl (Or.inl rfl)) (pgs_cons (pg_name (i := 5) sc_first_rule.nd rfl (Or.inl rfl)) pgs_nil))) pss_at) ?_ ?_
    · refine ⟨_, rfl, _, _, _, _, _, rfl, ha, T.cl_Rules, T.n_Rules_modes, rfl, ⟨_, rfl, _, _, _, _, rfl, rfl, SqL.of hlm, at_ref hb, b, t.c_Mode, dm, _, _, rfl, hmo, T.cl_Mode, T.n_Mode_rules, rfl, lr, _, rfl, SqL.of hlr, forW_enum (xs := rs.map V.ref) (fun n σ' H' => (∃ x y, σ' = [some (.ref a), some (.int k), some (.str row), some (.int i), x, y]) ∧ Same H H' ∧ firstM m.rules row i = firstF row i n (m.rules.drop n)) ⟨⟨_, _, rfl⟩, Same.refl H, rfl⟩ ?_ ?_ ?_⟩⟩
      · rintro n σ' H' _ ⟨_, s1, _⟩
        exact SqL.of (s1 _ _ hlr)
      · rintro n xv pt σ' H1 hx hpt ⟨⟨x, y, rfl⟩, s1, hf⟩
        rw [List.getElem?_map] at hx
        obtain ⟨r, hr0, rfl⟩ := Option.map_eq_some_iff.mp hx
        obtain ⟨R, hR1⟩ : ∃ R, m.rules[n]? = some R := ⟨m.rules[n]'(by rw [← hA.1]; exact (List.getElem?_eq_some_iff.mp hr0).1), List.getElem?_eq_getElem _⟩
        obtain ⟨dr, pa, hr1, dp, hp1⟩ := hA.2 n r R hr0 hR1
        obtain ⟨g1, g2⟩ := hok.2 R (List.mem_of_getElem? hR1)
        obtain ⟨fe, fs, de, ds, PK⟩ := patK (P := P) (w := w) (base := base) T g1
        have s2 : Same H (upd H1 pt (.tup [.int n, .ref r])) := s1.trans (Same.upd hpt)
        refine ⟨pt, [.int n, .ref r], rfl, SqT.of upd_same, rfl, _, _, rfl, _, _, rfl, rfl, ?_⟩
        rw [firstF_at hR1] at hf
        generalize upd H1 pt (.tup [.int n, .ref r]) = H2 at s2
        refine @at_one _ _ _ _ _ _ (ps_if (pt_cmpR op_notN (pe_meth (pe_fld (pv 5) rfl) PK.cl PK.me PK.ge (hr.mono (by decide)) PK.be .nil pass0 (pa_cons (pv 2) (pa_cons (pv 3) pa_nil))) pe_non (nomark _)) pss_at pss_at) (⟨_, rfl, _, _, _, _, _, rfl, (s2 _ _ hr1), T.cl_Rule, T.n_Rule_pattern, rfl, ⟨pa, dp, _, rfl, s2 _ _ hp1, PK.ne _, _, rfl, _, rfl, pa, dp, R.signs, row, i, rfl, s2 _ _ hp1, by omega, hrow, hi, rfl, _, rfl, ifnd (fun h => ?_) (fun h => at_nil ⟨⟨_, _, rfl⟩, s2, ?_⟩)⟩⟩)
        · refine @at_one _ _ _ _ _ _ (ps_ret (pv 4)) ⟨_, rfl, ?_⟩
          rw [if_pos (show fitsB R row i = true from decide_eq_true h)] at hf
          have := q H2 s2
          rw [hf] at this
          exact this
        · rw [if_neg (by rw [fitsB, decide_eq_false (fun z => z h)]; decide)] at hf
          exact hf
      · rintro σ' H' ⟨h1, h2, h3⟩
        rw [List.length_map, hA.1, List.drop_length] at h3
        exact ⟨h1, h2, h3⟩
    rintro σ' H' ⟨⟨x, y, rfl⟩, s1, hn⟩
    refine @at_one _ _ _ _ _ _ (ps_ret pe_non) ?_
    have := q H' s1
    rw [hn] at this
    exact this
end
section
variable {P : Program} {w : World} {K : PySem.W.Frag} {mg : Str → Option Value} {base : Heap} {t : Adr}
structure Wds (H0 H : Hp) (l : Addr) (ws : List Str) : Prop where
  at_ : H l = some (.lst (ws.map V.str))
  new : H0 l = none
  same : Same H0 H
theorem Wds.add {H0 H : Hp} {l : Addr} {ws : List Str} {x : Str} (W : Wds H0 H l ws) : Wds H0 (upd H l (.lst (ws.map V.str ++ [.str x]))) l (ws ++ [x]) :=
  ⟨by rw [upd_same, List.map_append]; rfl, W.new, fun b o hb => by rw [upd_ne (ne_of_none hb W.new)]; exact W.same _ _ hb⟩
theorem Wds.to {H0 H H' : Hp} {l : Addr} {ws : List Str} (W : Wds H0 H l ws) (s : Same H H') : Wds H0 H' l ws := ⟨s _ _ W.at_, W.new, W.same.trans s⟩
theorem sum_le {m : Nat} : ∀ (ys : List Str), (∀ y ∈ ys, y.length ≤ m) → (ys.map (·.length)).sum ≤ ys.length * m
  | [], _ => by simp
  | x :: r, h => by
    have h1 := h x (by simp)
    have h2 := sum_le r (fun z hz => h z (List.mem_cons_of_mem _ hz))
    rw [List.map_cons, List.sum_cons, List.length_cons, Nat.succ_mul]
    omega
theorem repl_len (z : Str) : (PySem.Txt.replace z " " "_").length = z.length := by
  have := congrArg List.length (replace_cps z 32 95)
  rw [len_cps, subL, List.length_map, len_cps] at this
  rw [show ((" " : Str)) = ⟨#[32]⟩ from by decide +kernel, show (("_" : Str)) = ⟨#[95]⟩ from by decide +kernel]
  exact this
def itemsM (m : ModeM) : List Item := .mode m.name m.colour :: m.rules.map .rule
def itemsOf (ms : List ModeM) : List Item := ms.flatMap itemsM
theorem itemsOf_app (a b : List ModeM) : itemsOf (a ++ b) = itemsOf a ++ itemsOf b := by unfold itemsOf; rw [List.flatMap_append]
theorem itemsOf_one (m : ModeM) : itemsOf [m] = itemsM m := by unfold itemsOf; simp
theorem names_rules (rs : List RuleM) : namesOf (rs.map Item.rule) = [] := by
  induction rs with
  | nil => rfl
  | cons r t ih => show nameI (.rule r) ++ namesOf (t.map Item.rule) = []; rw [ih]; rfl
theorem names_M (m : ModeM) : namesOf (itemsM m) = [m.name] := by
  show nameI (.mode m.name m.colour) ++ namesOf (m.rules.map Item.rule) = _
  rw [names_rules]; rfl
theorem names_items (ms : List ModeM) : namesOf (itemsOf ms) = ms.map (·.name) := by
  induction ms with
  | nil => rfl
  | cons m r ih =>
    rw [show m :: r = [m] ++ r from rfl, itemsOf_app, namesOf_app, itemsOf_one, names_M, ih]
    rfl
theorem fold_rules_step (rs : List RuleM) : ∀ (ms : List ModeM) (m : ModeM), (rs.map Item.rule).foldl stepI (ms ++ [m]) = ms ++ [{ m with rules := m.rules ++ rs }] := by
  induction rs with
  | nil => intro ms m; simp
  | cons r t ih =>
    intro ms m
    rw [List.map_cons, List.foldl_cons, show stepI (ms ++ [m]) (Item.rule r) = addRule r (ms ++ [m]) from rfl, addRule_snoc, ih]
    simp
theorem fold_M (ms : List ModeM) (m : ModeM) : (itemsM m).foldl stepI ms = ms ++ [m] := by
  rw [itemsM, List.foldl_cons]
  show (m.rules.map Item.rule).foldl stepI (ms ++ [⟨m.name, m.colour, []⟩]) = _
  rw [fold_rules_step]
  simp
theorem fold_itemsOf (ms : List ModeM) : ∀ acc : List ModeM, (itemsOf ms).foldl stepI acc = acc ++ ms := by
  induction ms with
  | nil => intro acc; simp [itemsOf]
  | cons m r ih =>
    intro acc
    rw [show m :: r = [m] ++ r from rfl, itemsOf_app, List.foldl_append, itemsOf_one, fold_M, ih]
    simp
theorem fold_items (ms : List ModeM) : foldI (itemsOf ms) = ms := by
  have := fold_itemsOf ms []
  simpa [foldI] using this
structure Bt (ms : List ModeM) : Prop where
  pos : 0 < ms.length
  three : ms.length ≤ 3
  nd : (ms.map (·.name)).Nodup
  nm : ∀ m ∈ ms, isName m.name = true ∧ isName m.colour = true
  rules : ∀ (k : Nat) m, ms[k]? = some m → m.rules.length ≤ 12 ∧ ∀ R ∈ m.rules, GoodRule (ms.map (·.name)) R
/-- rules of modes of the law make good items -/
theorem good_upto {ms : List ModeM} (B : Bt ms) : ∀ n, n ≤ ms.length → ∀ (i : Nat) it, (itemsOf (ms.take n))[i]? = some it →
    (∀ nm c, it = .mode nm c → isName nm = true ∧ isName c = true ∧ (namesOf ((itemsOf (ms.take n)).take i)).length < 12 ∧ nm ∉ namesOf ((itemsOf (ms.take n)).take i)) ∧
    (∀ R, it = .rule R → GoodRule (ms.map (·.name)) R ∧ ∃ ms' m, foldI ((itemsOf (ms.take n)).take i) = ms' ++ [m] ∧ m.rules.length < 12)
  | 0, _, i, it, h => by simp [itemsOf] at h
  | n + 1, hn, i, it, h => by
    have hm : ms[n]? = some ms[n] := List.getElem?_eq_getElem hn
    have e : itemsOf (ms.take (n + 1)) = itemsOf (ms.take n) ++ itemsM ms[n] := by rw [take_snoc hm, itemsOf_app, itemsOf_one]
    rw [e] at h ⊢
    have hmm := List.getElem_mem hn
    obtain ⟨r6, rB⟩ := B.rules n _ hm
    have h4 := B.three
    by_cases hi : i < (itemsOf (ms.take n)).length
    · rw [List.getElem?_append_left hi] at h
      rw [List.take_append_of_le_length (by omega)]
      exact good_upto B n (by omega) i it h
    · rw [List.getElem?_append_right (by omega)] at h
      rw [show (itemsOf (ms.take n) ++ itemsM ms[n]).take i = itemsOf (ms.take n) ++ (itemsM ms[n]).take (i - (itemsOf (ms.take n)).length) by
        rw [List.take_append, List.take_of_length_le (by omega)]]
      generalize i - (itemsOf (ms.take n)).length = j at h
      cases j with
      | zero =>
        have h : Item.mode ms[n].name ms[n].colour = it := by simpa [itemsM] using h
        subst h
        refine ⟨fun nm c e => ?_, (fun R e => by cases e)⟩
        cases e
        obtain ⟨n1, n2⟩ := B.nm _ hmm
        rw [List.take_zero, List.append_nil, names_items]
        refine ⟨n1, n2, by rw [List.length_map, List.length_take]; omega, fun hmem => ?_⟩
        rw [List.map_take] at hmem
        have hnd := B.nd
        obtain ⟨j, hj⟩ := List.mem_iff_getElem?.mp hmem
        have hjn : j < n := by
          have := (List.getElem?_eq_some_iff.mp hj).1
          rw [List.length_take] at this
          omega
        rw [List.getElem?_take_of_lt hjn] at hj
        have hk : (ms.map (·.name))[n]? = some ms[n].name := by rw [List.getElem?_map, hm]; rfl
        obtain ⟨j1, e1⟩ := List.getElem?_eq_some_iff.mp hj
        obtain ⟨k1, e2⟩ := List.getElem?_eq_some_iff.mp hk
        have := (List.getElem_inj hnd).mp (e1.trans e2.symm)
        omega
      | succ j =>
        have h : (ms[n].rules.map Item.rule)[j]? = some it := by simpa [itemsM] using h
        rw [List.getElem?_map] at h
        obtain ⟨R0, hR0, rfl⟩ := Option.map_eq_some_iff.mp h
        refine ⟨(fun nm c e => by cases e), fun R e => ?_⟩
        cases e
        have hj0 := (List.getElem?_eq_some_iff.mp hR0).1
        refine ⟨rB _ (List.mem_of_getElem? hR0), ms.take n, ⟨ms[n].name, ms[n].colour, ms[n].rules.take j⟩, ?_, ?_⟩
        · unfold foldI
          rw [List.foldl_append, fold_itemsOf, List.nil_append]
          have := fold_M (ms.take n) ⟨ms[n].name, ms[n].colour, ms[n].rules.take j⟩
          rw [← this]
          congr 1
          rw [itemsM, itemsM, List.take_succ_cons, List.map_take]
        · show (ms[n].rules.take j).length < 12
          rw [List.length_take]
          omega
theorem Bt.items {ms : List ModeM} (B : Bt ms) : GoodItems (itemsOf ms) := by
  have h := good_upto B ms.length (Nat.le_refl _)
  rw [List.take_length] at h
  refine ⟨?_, fun i n c e => (h i _ e).1 n c rfl, fun i R e => ?_⟩
  · intro z
    have := names_items ms
    rw [z] at this
    have hl := congrArg List.length this
    rw [List.length_map] at hl
    have := B.pos
    simp [namesOf] at hl
    omega
  · rw [names_items]
    exact (h i _ e).2 R rfl
theorem Bt.len {ms : List ModeM} (B : Bt ms) : ∀ n, n ≤ ms.length → (itemsOf (ms.take n)).length ≤ n * 13
  | 0, _ => by simp [itemsOf]
  | n + 1, hn => by
    have hm : ms[n]? = some ms[n] := List.getElem?_eq_getElem hn
    have ih := B.len n (by omega)
    have h6 := (B.rules n _ hm).1
    rw [take_snoc hm, itemsOf_app, itemsOf_one, List.length_append, itemsM, List.length_cons, List.length_map]
    omega
theorem Bt.len39 {ms : List ModeM} (B : Bt ms) : (itemsOf ms).length ≤ 39 := by
  have := B.len ms.length (Nat.le_refl _)
  rw [List.take_length] at this
  have := B.three
  omega
theorem name_len {x : Str} (h : isName x = true) : x.length ≤ 8 ∧ x ≠ "" := by
  unfold isName at h
  simp only [Bool.and_eq_true, decide_eq_true_eq] at h
  refine ⟨h.1.2, fun z => ?_⟩
  rw [z] at h
  exact absurd h.1.1 (by decide)
abbrev signs94 : Str := " !\"#$&'()*+,-./0123456789:;<=>?@ABCDEFGHIJKLMNOPQRSTUVWXYZ[\\]^_`abcdefghijklmnopqrstuvwxyz{|}~"
def shortRows : List Str := "" :: signs94.cps.toList.map fun c => (⟨#[c]⟩ : Str)
def spShort : Sp := fun vs H Q _ => vs = [] ∧ ∀ l H', H' l = some (.lst (shortRows.map V.str)) → H l = none → Same H H' → Q (.ref l) H'
theorem ok_short_rows (T : Txt K mg t) : FnOk P w K mg base CX0 1 t.f_short_rows t.d_short_rows [] spShort := by
  refine T.F_short_rows.ok sc_short_rows (fun vs H Q E h => ?_) (fun cdv A outer s H vs Q E hr h => at_body ?_)
  · obtain ⟨rfl, _⟩ := h
    rfl
  · obtain ⟨rfl, q⟩ := h
    refine @at_one _ _ _ _ _ _ (@ps_ret _ _ _ _ (@pe_op _ _ _ _ _ _ _ _ op_cat (@pe_lst _ _ _ _ (@pa_cons _ _ _ _ _ pe_str pa_nil (by walk_at "u"))) (@pe_callTy _ _ _ _ _ _ _ _ _ (call_listS rfl) (by rfl) T.z_list (by decide +kernel) (@pa_cons _ _ _ _ _ (@pe_globE _ _ _ _ rfl T.mgv_SIGNS (by walk_at "u")) pa_nil (by walk_at "u")) (by walk_at "u") (by walk_at "u") (by walk_at "u") (by walk_at "u")))) ⟨by show 1 ≤ sizeLine; decide, fun l1 hl1 => ⟨_, rfl, by decide +kernel, fun l2 hl2 => ?_⟩⟩
    refine ⟨l1, l2, _, _, rfl, rfl, Same.upd hl2 _ _ upd_same, upd_same, sl_le (by simp only [signsV, List.length_map, List.length_cons, List.length_nil]; decide +kernel), fun l hl => ?_⟩
    refine q l _ ?_ (((Same.upd hl1).to hl2).free hl) (((Same.upd hl1).to hl2).to hl)
    rw [upd_same, shortRows, List.map_cons, List.map_map]
    rfl
theorem short_len : ∀ r ∈ shortRows, r.length ≤ 1 := by
  intro r hr
  rcases List.mem_cons.mp hr with e | e
  · rw [e]; decide
  · obtain ⟨c, _, rfl⟩ := List.mem_map.mp e
    exact Nat.le_refl 1
end
section
variable {P : Program} {w : World} {K : PySem.W.Frag} {mg : Str → Option Value} {base : Heap} {t : Adr}
theorem ifeq {b c : Bool} {A B : Prop} (h : b = c) (k : if c = true then A else B) : if b = true then A else B := by rw [h]; exact k
theorem kit_word (T : Txt K mg t) {s : Str} (h : s ∈ sorts) : PySem.W.kitOne K (.ref (clsOf t s)) (.ref t.c_Word) = some (decide (s = "word")) := by
  rcases sorts_cases h with rfl | rfl | rfl | rfl | rfl | rfl | rfl
  · rw [cls_word]; exact T.kit_Word_Word
  · rw [cls_one]; exact T.kit_One_Word
  · rw [cls_none]; exact T.kit_Without_Word
  · rw [cls_many]; exact T.kit_Many_Word
  · rw [cls_any]; exact T.kit_Any_Word
  · rw [cls_still]; exact T.kit_Still_Word
  · rw [cls_end]; exact T.kit_End_Word
def pieceM (rs : List RuleM) (n : Nat) : Option Str := (if (rs[n]?.map (·.sort)) = some ("word" : Str) then [(rs[n]?.map (·.signs)).getD ("" : Str)] else shortRows).find? fun row => decide (firstM rs row 0 = some n)
def pieceV : Option Str → V
  | none => .non
  | some x => .str x
theorem find_drop {p : Str → Bool} {xs : List Str} {i : Nat} {x : Str} (h : xs[i]? = some x) : (xs.drop i).find? p = if p x = true then some x else (xs.drop (i + 1)).find? p := by
  rw [drop_at h, List.find?_cons]
  cases p x <;> rfl
theorem goalV_scal (o : Option Nat) (n : Int) : scal (goalV o) (.int n) = true := by cases o <;> rfl
theorem goalV_eq {o : Option Nat} {n : Nat} : goalV o = .int n ↔ o = some n := by
  cases o with
  | none => exact ⟨(fun h => by cases h), (fun h => by cases h)⟩
  | some k =>
    constructor
    · intro h
      have : (k : Int) = (n : Int) := by injection h
      rw [show k = n by omega]
    · intro h; injection h with h; rw [h]; rfl
def spPiece (t : Adr) : Sp := fun vs H Q _ => ∃ (a : Addr) (ms : List ModeM) (m : ModeM) (k n : Nat), vs = [.ref a, .int k, .int n] ∧ IsRules t H a ms ∧ ms[k]? = some m ∧ n < m.rules.length ∧ RulesOk m.rules ∧ ∀ H', Same H H' → Q (pieceV (pieceM m.rules n)) H'
theorem ok_piece_of (T : Txt K mg t) : FnOk P w K mg base CX0 3 t.f_piece_of t.d_piece_of ["rules", "mode", "rule"] (spPiece t) := by
  refine T.F_piece_of.ok sc_piece_of (fun vs H Q E h => ?_) (fun cdv A outer s H vs Q E hr h => at_body ?_)
  · obtain ⟨a, ms, m, k, n, rfl, _⟩ := h
    rfl
  · obtain ⟨a, ms, m, k, n, rfl, hR, hm, hn, hok, q⟩ := h
    obtain ⟨dx, lm, as, b, lr, dm, rs, ha, hlm, hal, hb, hmo, hlr, hA⟩ := hR.mode hm
    have hRn : m.rules[n]? = some m.rules[n] := List.getElem?_eq_getElem hn
    generalize m.rules[n] = R at hRn
    obtain ⟨r, hr0, dr, pa, hr1, dp, hp1⟩ := hA.at hRn
    obtain ⟨g1, g2⟩ := hok.2 R (List.mem_of_getElem? hRn)
    obtain ⟨fe, fs, de, ds, PK⟩ := patK (P := P) (w := w) (base := base) T g1
    refine @at_cons _ _ _ _ _ _ _ (@ps_set _ _ 3 _ _ _ _ sc_piece_of.nd rfl (Or.inl rfl) (@pe_fld _ _ _ _ _ (@pe_ix _ _ _ _ _ _ _ ix_list (@pe_fld _ _ _ _ _ (@pe_ix _ _ _ _ _ _ _ ix_list (@pe_fld _ _ _ _ _ (pv 0) rfl) (pv 1) (fun _ _ => rfl)) rfl) (pv 2) (fun _ _ => rfl)) rfl) (by walk_at "u") (by walk_at "u")) (⟨_, rfl, _, _, _, _, _, rfl, ha, T.cl_Rules, T.n_Rules_modes, rfl, ⟨_, rfl, _, _, _, _, rfl, rfl, SqL.of hlm, at_ref hb, b, t.c_Mode, dm, _, _, rfl, hmo, T.cl_Mode, T.n_Mode_rules, rfl, _, rfl, _, _, _, _, rfl, rfl, SqL.of hlr, at_ref hr0, r, t.c_Rule, dr, _, _, rfl, hr1, T.cl_Rule, T.n_Rule_pattern, rfl, ?_⟩⟩)
    have ty : TyOf K H (.ref pa) (.ref (clsOf t R.sort)) := .ins hp1 PK.cl PK.ty T.cg T.ct PK.mr
    show At _ _ _ [some (.ref a), some (.int k), some (.int n), some (.ref pa), none, none] H
    refine @at_consR _ _ _ _ _ _ _ (fun σ' H' => ∃ (lx : Addr) (xs : List Str), σ' = [some (.ref a), some (.int k), some (.int n), some (.ref pa), some (.ref lx), none] ∧ H' lx = some (.lst (xs.map V.str)) ∧ Same H H' ∧ (∀ x ∈ xs, x.length ≤ 200) ∧ pieceM m.rules n = xs.find? fun row => decide (firstM m.rules row 0 = some n)) (@ps_set _ _ 4 _ _ _ _ sc_piece_of.nd rfl (Or.inl rfl) (@pe_ifExp _ _ _ _ _ _ _ _ (@pt_val _ _ _ (@pe_callB _ _ _ _ _ _ _ _ _ call_isiC (by rfl) T.z_isinstance (by decide +kernel) (@pa_cons _ _ _ _ _ (pv 3) (@pa_cons _ _ _ _ _ (@pe_glob _ _ (V.ref _) _ _ rfl T.mgc_Word rfl (by walk_at "u")) pa_nil (by walk_at "u")) (by walk_at "u")) (by walk_at "u") (by walk_at "u") (by walk_at "u") (by walk_at "u")) (by walk_at "u")) (@pe_lst _ _ _ _ (@pa_cons _ _ _ _ _ (@pe_fld _ _ _ _ _ (pv 3) rfl) pa_nil (by walk_at "u"))) (@pe_call0 _ _ _ _ _ _ _ _ _ _ _ _ _ (ok_short_rows T) (hr.mono (by decide)) rfl T.mg_short_rows T.F_short_rows.kp (bd_short_rows T) .nil pass0 (by walk_at "u"))) (by walk_at "u") (by walk_at "u")) ?_ ?_
    · refine ⟨_, rfl, _, _, _, _, rfl, ty, kit_word T g1, _, rfl, ?_⟩
      by_cases hw : R.sort = "word"
      · refine ifeq (c := true) (decide_eq_true hw) ?_
        rw [hw, cls_word, fl_word] at hp1
        refine ⟨_, rfl, _, _, _, _, _, rfl, hp1, T.cl_Word, T.n_Word_wanted, rfl, ⟨by show 1 ≤ sizeLine; decide, fun l1 h1 => ⟨l1, [R.signs], rfl, upd_same, Same.upd h1, (fun x hx => by rw [List.mem_singleton.mp hx]; exact g2), ?_⟩⟩⟩
        unfold pieceM
        rw [hRn, if_pos (by show some R.sort = _; rw [hw])]
        rfl
      · refine ifeq (c := false) (decide_eq_false hw) ?_
        refine ⟨rfl, fun l1 H1 h1 f1 s1 => ⟨l1, shortRows, rfl, h1, s1, (fun x hx => by have := short_len x hx; omega), ?_⟩⟩
        unfold pieceM
        rw [hRn, if_neg (by show ¬ some R.sort = _; intro z; injection z with z; exact hw z)]
    rintro σ' H1 ⟨lx, xs, rfl, hx1, s1, hxl, hp⟩
    refine @at_consR _ _ _ _ _ _ _ (fun σ' H' => Same H H' ∧ pieceM m.rules n = none) (@ps_forA _ _ _ _ _ _ _ _ PassesOwn.never rfl (@pi_list _ _ _ _ (pv 4)) (@pg_name _ _ 5 _ sc_piece_of.nd rfl (Or.inl rfl) (by walk_at "u")) pss_at (by walk_at "u")) ?_ ?_
    · refine ⟨_, rfl, lx, rfl, ⟨_, SqL.of hx1⟩, forW_list (xs := xs.map V.str) (fun i σ' H' => (∃ x, σ' = [some (.ref a), some (.int k), some (.int n), some (.ref pa), some (.ref lx), x]) ∧ Same H1 H' ∧ pieceM m.rules n = (xs.drop i).find? fun row => decide (firstM m.rules row 0 = some n)) ⟨⟨_, rfl⟩, Same.refl _, hp⟩ ?_ ?_ ?_⟩
      · rintro i σ' H2 _ ⟨_, s2, _⟩
        exact SqL.of (s2 _ _ hx1)
      · rintro i xv σ' H2 hx ⟨⟨x, rfl⟩, s2, hf⟩
        rw [List.getElem?_map] at hx
        obtain ⟨row, hrow, rfl⟩ := Option.map_eq_some_iff.mp hx
        have hrl := hxl row (List.mem_of_getElem? hrow)
        rw [find_drop hrow] at hf
        refine @at_one _ _ _ _ _ _ (@ps_if _ _ _ _ _ _ _ _ (@pt_cmpR _ _ _ _ _ _ _ _ op_eq (@pe_call _ _ _ _ _ _ _ _ _ _ _ _ _ _ _ _ (ok_first_rule T) (hr.mono (by decide)) rfl T.mg_first_rule T.F_first_rule.kp (bd_first_rule T) .nil pass0 (@pa_cons _ _ _ _ _ (pv 0) (@pa_cons _ _ _ _ _ (pv 1) (@pa_cons _ _ _ _ _ (pv 5) (@pa_cons _ _ _ _ _ pe_int pa_nil (by walk_at "u")) (by walk_at "u")) (by walk_at "u")) (by walk_at "u")) (by walk_at "u") (by walk_at "u") (by walk_at "u")) (pv 2) (nomark _)) pss_at pss_at) ⟨_, rfl, _, rfl, _, rfl, a, ms, m, k, 0, row, rfl, (hR.same s1).same s2, hm, hok, by omega, Nat.zero_le _, fun H3 s3 => ⟨_, rfl, goalV_scal _ _, _, rfl, ifd (fun h => ?_) (fun h => at_nil ⟨⟨_, rfl⟩, s2.trans s3, ?_⟩)⟩⟩
        · rw [if_pos (decide_eq_true (goalV_eq.mp h))] at hf
          have := q H3 (s1.trans (s2.trans s3))
          rw [hf] at this
          exact @at_one _ _ _ _ _ _ (@ps_ret _ _ _ _ (pv 5)) ⟨_, rfl, this⟩
        · rw [if_neg (fun z => h (goalV_eq.mpr (of_decide_eq_true z)))] at hf
          exact hf
      · rintro σ' H2 ⟨_, s2, hf⟩
        rw [List.length_map, List.drop_length] at hf
        exact ⟨s1.trans s2, hf⟩
    rintro σ' H2 ⟨s2, hf⟩
    have := q H2 s2
    rw [hf] at this
    exact @at_one _ _ _ _ _ _ (@ps_ret _ _ _ _ pe_non) this
end
section
variable {P : Program} {w : World} {K : PySem.W.Frag} {mg : Str → Option Value} {base : Heap} {t : Adr}
theorem due_bare {s z z' row : Str} {i : Nat} (h : bare s) : dueV s z row i = dueV s z' row i := by
  have key : ∀ s : Str, s ≠ "end" → s ≠ "word" → (s = "any" ∨ s = "still") → dueV s z row i = dueV s z' row i := by
    intro s h1 h2 h3
    cases e : row.cps.toList[i]? with
    | none =>
      have : row.length ≤ i := by
        have := List.getElem?_eq_none_iff.mp e
        rw [len_cps] at this
        exact this
      rw [dueV_out h1 h2 this, dueV_out h1 h2 this]
    | some c => rw [dueV_at h1 h2 e, dueV_at h1 h2 e, if_pos h3, if_pos h3]
  rcases h with h | h | h
  · exact key s (by rw [h]; decide) (by rw [h]; decide) (.inl h)
  · exact key s (by rw [h]; decide) (by rw [h]; decide) (.inr h)
  · unfold dueV; simp only [if_pos h]
def mkR (p : Str × Str) : RuleM := ⟨p.1, if bare p.1 then "" else p.2, if eatsB p.1 = true then "red" else "", "pop", none, ""⟩
def mkRs (ps : List (Str × Str)) : List RuleM := ps.map mkR
theorem fits_mk (s z row : Str) (i : Nat) : fitsB (mkR (s, z)) row i = decide (dueV s z row i ≠ .non) := by
  unfold fitsB mkR
  by_cases h : bare s
  · show decide (dueV s (if bare s then "" else z) row i ≠ .non) = _
    rw [due_bare (z' := z) h]
  · show decide (dueV s (if bare s then "" else z) row i ≠ .non) = _
    rw [if_neg h]
theorem firstF_some {row : Str} {i : Nat} : ∀ {rs : List RuleM} {k n : Nat}, firstF row i k rs = some n → k ≤ n ∧ (∃ R, rs[n - k]? = some R ∧ fitsB R row i = true) ∧ ∀ j R, j < n - k → rs[j]? = some R → fitsB R row i = false
  | [], k, n, h => by cases h
  | R :: rs, k, n, h => by
    rw [firstF] at h
    by_cases hf : fitsB R row i = true
    · rw [if_pos hf] at h
      cases h
      refine ⟨Nat.le_refl _, ⟨R, by rw [Nat.sub_self]; rfl, hf⟩, fun j R hj => by omega⟩
    · rw [if_neg hf] at h
      obtain ⟨h1, ⟨R', h2, h3⟩, h4⟩ := firstF_some h
      refine ⟨by omega, ⟨R', by rw [show n - k = (n - (k + 1)) + 1 by omega, List.getElem?_cons_succ]; exact h2, h3⟩, fun j R2 hj hR => ?_⟩
      cases j with
      | zero => cases hR; exact Bool.eq_false_iff.mpr hf
      | succ j => exact h4 j R2 (by omega) hR
theorem firstF_of {row : Str} {i : Nat} : ∀ {rs : List RuleM} {k m : Nat} {R : RuleM}, rs[m]? = some R → fitsB R row i = true → (∀ j R, j < m → rs[j]? = some R → fitsB R row i = false) → firstF row i k rs = some (k + m)
  | [], k, m, R, h, _, _ => by cases h
  | R0 :: rs, k, 0, R, h, hf, _ => by cases h; rw [firstF, if_pos hf]; rfl
  | R0 :: rs, k, m + 1, R, h, hf, hn => by
    rw [firstF, if_neg (by rw [hn 0 R0 (by omega) rfl]; exact Bool.false_ne_true), firstF_of (m := m) h hf (fun j R hj hR => hn (j + 1) R (by omega) hR)]
    congr 1
    omega
def Pre (x r : Str) : Prop := ∃ y, r.cps.toList = x.cps.toList ++ y
theorem Pre.head {x r : Str} (h : Pre x r) (hx : x.length ≠ 0) : r.cps.toList[0]? = x.cps.toList[0]? := by
  obtain ⟨y, h⟩ := h
  rw [h, List.getElem?_append_left (by rw [len_cps]; omega)]
/-- in a longer row no fewer rules fit -/
theorem fits_more {R : RuleM} {x r : Str} (hx : x.length ≠ 0) (p : Pre x r) (h : fitsB R x 0 = true) : fitsB R r 0 = true := by
  have h := of_decide_eq_true h
  refine decide_eq_true ?_
  by_cases h1 : R.sort = "end"
  · rw [dueV, if_pos h1, if_neg (fun z => hx z.symm)] at h
    exact absurd rfl h
  · by_cases h2 : R.sort = "word"
    · rw [dueV, if_neg h1, if_pos h2] at h ⊢
      obtain ⟨y, e⟩ := p
      by_cases hw : (x.cps.toList.drop 0).take R.signs.length = R.signs.cps.toList
      · have hl := congrArg List.length hw
        rw [List.drop_zero, List.length_take, len_cps, len_cps] at hl
        rw [if_pos (by
          rw [e, List.drop_zero, List.take_append_of_le_length (by rw [len_cps]; omega)]
          rw [List.drop_zero] at hw
          exact hw)]
        intro z; cases z
      · rw [if_neg hw] at h; exact absurd rfl h
    · have hh := p.head hx
      cases e : x.cps.toList[0]? with
      | none => rw [List.getElem?_eq_none_iff, len_cps] at e; omega
      | some c =>
        rw [e] at hh
        rw [dueV_at h1 h2 e] at h
        rw [dueV_at h1 h2 hh]
        intro z
        apply h
        split at z
        · rename_i q; cases z
        · rename_i q
          rw [if_neg q]
          split at z
          · rename_i q2
            rw [if_pos q2]
            split at z
            · rename_i q3; rw [if_pos q3]
            · cases z
          · rename_i q2
            rw [if_neg q2]
            split at z
            · cases z
            · rename_i q3; rw [if_neg q3]
theorem fits_less {R : RuleM} {x r : Str} (hx : x.length ≠ 0) (hw : R.sort ≠ "word") (p : Pre x r) (h : fitsB R r 0 = true) : fitsB R x 0 = true := by
  have h := of_decide_eq_true h
  refine decide_eq_true ?_
  by_cases h1 : R.sort = "end"
  · obtain ⟨y, e⟩ := p
    have hl := congrArg List.length e
    rw [List.length_append, len_cps, len_cps] at hl
    rw [dueV, if_pos h1, if_neg (by omega)] at h
    exact absurd rfl h
  · have hh := p.head hx
    cases e : x.cps.toList[0]? with
    | none => rw [List.getElem?_eq_none_iff, len_cps] at e; omega
    | some c =>
      rw [e] at hh
      rw [dueV_at h1 hw hh] at h
      rw [dueV_at h1 hw e]
      intro z
      apply h
      split at z
      · rename_i q; cases z
      · rename_i q
        rw [if_neg q]
        split at z
        · rename_i q2
          rw [if_pos q2]
          split at z
          · rename_i q3; rw [if_pos q3]
          · cases z
        · rename_i q2
          rw [if_neg q2]
          split at z
          · cases z
          · rename_i q3; rw [if_neg q3]
abbrev sg94 : List Nat := signs94.cps.toList
def FineRow (x : Str) : Prop := ∀ c ∈ x.cps.toList, c ∈ sg94
/-- a rule without a piece never comes -/
theorem never {rs : List RuleM} {n : Nat} (hw : ∀ R ∈ rs, R.sort = "word" → R.signs.length ≠ 0) (h : pieceM rs n = none) {row : Str} (hr : FineRow row) : firstM rs row 0 ≠ some n := by
  intro hf
  obtain ⟨_, ⟨R, h1, h2⟩, h3⟩ := firstF_some hf
  rw [Nat.sub_zero] at h1 h3
  have hmem := List.mem_of_getElem? h1
  have key : ∀ x : Str, x.length ≠ 0 → Pre x row → fitsB R x 0 = true → firstM rs x 0 = some n := fun x hx p hfx => by
    have := firstF_of (k := 0) h1 hfx (fun j R' hj hR' => by
      cases e : fitsB R' x 0 with
      | false => rfl
      | true =>
        have := fits_more hx p e
        rw [h3 j R' hj hR'] at this
        cases this)
    rw [Nat.zero_add] at this
    exact this
  unfold pieceM at h
  rw [h1] at h
  by_cases hs : R.sort = "word"
  · rw [if_pos (by show some R.sort = _; rw [hs])] at h
    have hx := hw R hmem hs
    have h2' := of_decide_eq_true h2
    rw [dueV, if_neg (by rw [hs]; decide), if_pos hs, List.drop_zero] at h2'
    have hp : row.cps.toList.take R.signs.length = R.signs.cps.toList := Decidable.byContradiction fun z => by rw [if_neg z] at h2'; exact h2' rfl
    have hP : Pre R.signs row := ⟨row.cps.toList.drop R.signs.length, by rw [← hp, List.take_append_drop]⟩
    have hself : fitsB R R.signs 0 = true := by
      refine decide_eq_true ?_
      rw [dueV, if_neg (by rw [hs]; decide), if_pos hs, List.drop_zero, if_pos (by rw [List.take_of_length_le (by rw [len_cps]; exact Nat.le_refl _)])]
      intro z; cases z
    have := key _ hx hP hself
    have h4 := List.find?_eq_none.mp h R.signs (by simp)
    exact h4 (decide_eq_true this)
  · rw [if_neg (by show ¬ some R.sort = _; intro z; injection z with z; exact hs z)] at h
    by_cases h0 : row.cps.toList = []
    · have : row = "" := str_ext (by rw [h0]; decide +kernel)
      have h4 := List.find?_eq_none.mp h row (by rw [this]; exact List.mem_cons_self ..)
      exact h4 (decide_eq_true hf)
    · obtain ⟨c, y, hcy⟩ : ∃ c y, row.cps.toList = c :: y := by
        cases e : row.cps.toList with
        | nil => exact absurd e h0
        | cons c y => exact ⟨c, y, rfl⟩
      have hP : Pre ⟨#[c]⟩ row := ⟨y, hcy⟩
      have := key ⟨#[c]⟩ (by show 1 ≠ 0; decide) hP (fits_less (by show 1 ≠ 0; decide) hs hP h2)
      have h4 := List.find?_eq_none.mp h ⟨#[c]⟩ (List.mem_cons_of_mem _ (List.mem_map.mpr ⟨c, hr c (by rw [hcy]; simp), rfl⟩))
      exact h4 (decide_eq_true this)
theorem piece_first {rs : List RuleM} {n : Nat} {x : Str} (h : pieceM rs n = some x) : firstM rs x 0 = some n := by
  have := List.find?_some h
  exact of_decide_eq_true this
theorem piece_fine {rs : List RuleM} {n : Nat} {x : Str} (hw : ∀ R ∈ rs, R.sort = "word" → FineRow R.signs ∧ R.signs.length ≤ 200) (h : pieceM rs n = some x) : FineRow x ∧ x.length ≤ 200 := by
  have hm := List.mem_of_find?_eq_some h
  unfold pieceM at h
  split at hm
  · rename_i e
    cases h1 : rs[n]? with
    | none => rw [h1] at e; cases e
    | some R =>
      rw [h1] at e hm
      have es : R.sort = "word" := by
        have : some R.sort = some ("word" : Str) := e
        injection this
      rw [List.mem_singleton.mp hm]
      exact hw R (List.mem_of_getElem? h1) es
  · rcases List.mem_cons.mp hm with rfl | hm
    · exact ⟨by intro c hc; rw [show (Str.ofString "").cps.toList = [] by decide +kernel] at hc; simp at hc, by decide⟩
    · obtain ⟨c, hc, rfl⟩ := List.mem_map.mp hm
      refine ⟨fun d hd => ?_, by show 1 ≤ 200; decide⟩
      have : d = c := by simpa using hd
      rw [this]; exact hc
end
section
variable {P : Program} {w : World} {K : PySem.W.Frag} {mg : Str → Option Value} {base : Heap} {t : Adr}
theorem join_eq (sep : Str) (ys : List Str) : PySem.Txt.join sep ys = Str.join sep ys := eq_of_beq (PyProof.Rows.join_plain_closes sep ys)
theorem pick {xs : List Str} {d : Int} (h0 : 0 ≤ d) (h1 : d < xs.length) : ∃ x ∈ xs, atI (xs.map V.str) d = some (.str x) := by
  obtain ⟨v, e1, e2⟩ := atI_in (xs.map V.str) h0 (by rw [List.length_map]; exact h1)
  rw [List.getElem?_map] at e1
  obtain ⟨x, e3, rfl⟩ := Option.map_eq_some_iff.mp e1
  exact ⟨x, List.mem_of_getElem? e3, e2⟩
def spDraw (K : PySem.W.Frag) : Sp := fun vs H Q _ => ∃ (a : Addr) (ns : List Int) (k m : Int), vs = [.ref a, .int k, .int m] ∧ SqL K H a (ns.map V.int) ∧ 0 ≤ k ∧ k ≤ 100000 ∧ 0 < m ∧ m ≤ 1000000 ∧ ns.length ≤ 63 ∧
  ∀ d H', 0 ≤ d → d < m → Same H H' → Q (.int d) H'
theorem ok__law_draw (T : Txt K mg t) : FnOk P w K mg base CX0 1 t.f__law_draw t.d__law_draw ["_law_script", "_law_k", "_law_many"] (spDraw K) := by
  refine T.F__law_draw.ok sc__law_draw (fun vs H Q E h => ?_) (fun cdv A outer s H vs Q E hr h => at_body ?_)
  · obtain ⟨a, ns, k, m, rfl, _⟩ := h
    rfl
  · obtain ⟨a, ns, k, m, rfl, hS, hk0, hk1, hm, hm1, hl, q⟩ := h
    refine @at_consR _ _ _ _ _ _ _ (fun σ' H' => ∃ c : Int, σ' = [some (.ref a), some (.int k), some (.int m), some (.int c), none, none] ∧ (ns = [] → c = 0) ∧ H' = H) (@ps_set _ _ 3 _ _ _ _ sc__law_draw.nd rfl (Or.inl rfl) (@pe_ifExp _ _ _ _ _ _ _ _ (@pt_cmpR _ _ _ _ _ _ _ _ op_gt (@pe_callB _ _ _ _ _ _ _ _ _ call_len_seq (by rfl) T.z_len (by decide +kernel) (@pa_cons _ _ _ _ _ (pv 0) pa_nil (by walk_at "u")) (by walk_at "u") (by walk_at "u") (by walk_at "u") (by walk_at "u")) pe_int (nomark _)) (@pe_ix _ _ _ _ _ _ _ ix_list (pv 0) (@pe_op _ _ _ _ _ _ _ _ op_mod (pv 1) (@pe_callB _ _ _ _ _ _ _ _ _ call_len_seq (by rfl) T.z_len (by decide +kernel) (@pa_cons _ _ _ _ _ (pv 0) pa_nil (by walk_at "u")) (by walk_at "u") (by walk_at "u") (by walk_at "u") (by walk_at "u"))) (fun _ _ => rfl)) pe_int) (by walk_at "u") (by walk_at "u")) ?_ ?_
    · refine ⟨_, rfl, _, _, rfl, .inl hS, _, _, rfl, rfl, _, rfl, ifd (fun h => ?_) (fun h => ⟨0, rfl, fun _ => rfl, rfl⟩)⟩
      refine ⟨_, rfl, _, rfl, _, rfl, _, _, rfl, .inl hS, _, _, rfl, rfl, h, ?_⟩
      obtain ⟨h1, h2⟩ := emod_rng k h
      obtain ⟨v, e1, e2⟩ := atI_in (ns.map V.int) h1 h2
      rw [List.getElem?_map] at e1
      obtain ⟨c, e3, rfl⟩ := Option.map_eq_some_iff.mp e1
      exact ⟨_, _, _, _, rfl, rfl, hS, e2, c, rfl, (fun z => by rw [z] at h; simp at h), rfl⟩
    rintro σ' H' ⟨c, rfl, hc0, e⟩
    rw [e]
    clear e H'
    refine @at_consR _ _ _ _ _ _ _ (fun σ' H' => ∃ x : Int, σ' = [some (.ref a), some (.int k), some (.int m), some (.int c), some (.int x), none] ∧ (ns = [] → x = 0) ∧ H' = H) (@ps_set _ _ 4 _ _ _ _ sc__law_draw.nd rfl (Or.inl rfl) (@pe_op _ _ _ _ _ _ _ _ op_shr (pv 3) (@pe_op _ _ _ _ _ _ _ _ op_add (@pe_op _ _ _ _ _ _ _ _ op_mul pe_int (@pe_op _ _ _ _ _ _ _ _ op_fdiv (pv 1) (@pe_callB _ _ _ _ _ _ _ _ _ (call_max2 rfl) (by rfl) T.z_max (by decide +kernel) (@pa_cons _ _ _ _ _ pe_int (@pa_cons _ _ _ _ _ (@pe_callB _ _ _ _ _ _ _ _ _ call_len_seq (by rfl) T.z_len (by decide +kernel) (@pa_cons _ _ _ _ _ (pv 0) pa_nil (by walk_at "u")) (by walk_at "u") (by walk_at "u") (by walk_at "u") (by walk_at "u")) pa_nil (by walk_at "u")) (by walk_at "u")) (by walk_at "u") (by walk_at "u") (by walk_at "u") (by walk_at "u")))) pe_int)) (by walk_at "u") (by walk_at "u")) ?_ ?_
    · refine ⟨_, rfl, _, rfl, _, rfl, _, _, rfl, .inl hS, _, _, rfl, _, _, rfl, rfl, ?_⟩
      have hmx : (1 : Int) ≤ (if ((ns.map V.int).length : Int) > 1 then ((ns.map V.int).length : Int) else 1) ∧ (if ((ns.map V.int).length : Int) > 1 then ((ns.map V.int).length : Int) else 1) < 1073741824 := by
        rw [List.length_map]; split <;> omega
      refine ⟨⟨by omega, hmx.2⟩, _, _, rfl, rfl, .inl ⟨by decide, by decide⟩, _, _, rfl, rfl, _, _, rfl, rfl, ?_, _, rfl, fun z => ?_, rfl⟩
      · have : 0 ≤ k / (if ((ns.map V.int).length : Int) > 1 then ((ns.map V.int).length : Int) else 1) := Int.ediv_nonneg hk0 (by omega)
        omega
      · rw [hc0 z, Int.zero_ediv]
    rintro σ' H' ⟨x, rfl, hx0, e⟩
    rw [e]
    clear e H'
    refine @at_consR _ _ _ _ _ _ _ (fun σ' H' => (σ' = [some (.ref a), some (.int k), some (.int m), some (.int c), some (.int x), none]) ∧ Same H H') (@ps_if _ _ _ _ _ _ _ _ (@PW.pt _ _ _ (@pw_and _ _ _ _ _ _ _ (@pt_cmpR _ _ _ _ _ _ _ _ op_notIn_seq (pv 4) (@pe_tup _ _ _ _ _ (@pa_cons _ _ _ _ _ pe_int (@pa_cons _ _ _ _ _ (@pe_un _ _ _ _ _ _ un_neg pe_int) pa_nil (by walk_at "u")) (by walk_at "u"))) rfl) (@pw_and1 _ _ _ _ (@pt_cmpR _ _ _ _ _ _ _ _ op_eq (@pe_op _ _ _ _ _ _ _ _ op_mod (@pe_ix _ _ _ _ _ _ _ ix_list (pv 0) pe_int (fun _ _ => rfl)) pe_int) pe_int (nomark _))))) pss_at pss_at) ?_ ?_
    · refine ⟨_, rfl, _, rfl, by show 2 ≤ sizeLine; decide, fun p hp => ⟨p, _, rfl, .inr (SqT.of upd_same), rfl, rfl, _, rfl, ?_⟩⟩
      have s1 : Same H (upd H p (.tup [.int 0, .int (-1)])) := Same.upd hp
      by_cases hin : inV (V.int x) [.int 0, .int (-1)] = true
      · refine ifeq (c := false) (by show (!inV (V.int x) [.int 0, .int (-1)]) = false; rw [hin]; rfl) ?_
        exact at_nil ⟨rfl, s1⟩
      · refine ifeq (c := true) (by show (!inV (V.int x) [.int 0, .int (-1)]) = true; rw [Bool.not_eq_true] at hin; rw [hin]; rfl) ?_
        obtain ⟨n0, r0, rfl⟩ : ∃ n0 r0, ns = n0 :: r0 := by
          cases ns with
          | nil => rw [hx0 rfl] at hin; exact absurd (by decide) hin
          | cons x r => exact ⟨x, r, rfl⟩
        have hS1 := hS.same s1
        refine ⟨_, rfl, _, _, _, _, rfl, rfl, hS1, atI_nat (j := 0) rfl, _, _, rfl, rfl, (by show (0 : Int) < 2; decide), rfl, _, rfl, ifd (fun h2 => ?_) (fun h2 => at_nil ⟨rfl, s1⟩)⟩
        have hd := emod_rng (x % 1048576) hm
        exact @at_one _ _ _ _ _ _ (@ps_ret _ _ _ _ (@pe_op _ _ _ _ _ _ _ _ op_mod (@pe_op _ _ _ _ _ _ _ _ op_mod (pv 4) pe_int) (pv 2))) ⟨_, rfl, _, _, rfl, rfl, (by show (0 : Int) < 1048576; decide), _, rfl, _, _, rfl, rfl, hm, q _ _ hd.1 hd.2 s1⟩
    rintro σ' H' ⟨rfl, s1⟩
    refine @at_cons _ _ _ _ _ _ _ (@ps_set _ _ 5 _ _ _ _ sc__law_draw.nd rfl (Or.inl rfl) (@pe_op _ _ _ _ _ _ _ _ op_add (@pe_op _ _ _ _ _ _ _ _ op_add (@pe_op _ _ _ _ _ _ _ _ op_mod (pv 3) pe_int) (@pe_op _ _ _ _ _ _ _ _ op_mul (@pe_op _ _ _ _ _ _ _ _ op_mul pe_int (pv 1)) (pv 1))) pe_int) (by walk_at "u") (by walk_at "u")) ?_
    walk_at "rd"
    refine ⟨by decide, .inl ⟨by decide, by decide⟩, .inr ⟨by omega, by omega⟩, ?_⟩
    refine @at_one _ _ _ _ _ _ (@ps_ret _ _ _ _ (@pe_op _ _ _ _ _ _ _ _ op_mod (@pe_op _ _ _ _ _ _ _ _ op_mod (@pe_op _ _ _ _ _ _ _ _ op_mul (@pe_op _ _ _ _ _ _ _ _ op_mod (@pe_op _ _ _ _ _ _ _ _ op_mul (pv 5) pe_int) pe_int) pe_int) pe_int) (pv 2))) ?_
    walk_at "rd"
    have hd := emod_rng ((c % 1000003 + 31 * k * k + 1) * 48271 % 999983 * 7919 % 524287) hm
    exact ⟨.inr ⟨by decide, by decide⟩, by decide, .inr ⟨by decide, by decide⟩, by decide, hm, q _ _ hd.1 hd.2 s1⟩
abbrev allA : Str := " abcdefghijklmnopqrstuvwxyz0123456789ABCDEFGHIJKLMNOPQRSTUVWXYZ"
abbrev allB : Str := "!\"#$&'()*+,-./:;<=>?\x40[\\]^`{|}~"
abbrev allS : Str := allA ++ allB
theorem all_len : allS.length = 93 := by decide +kernel
theorem all_ok : ∀ c ∈ allS.cps.toList, c ∈ sg94 ∧ c ≠ 95 ∧ c ≠ 10 := by decide +kernel
def spAll : Sp := fun vs H Q _ => vs = [] ∧ Q (.str allS) H
theorem ok__law_all (T : Txt K mg t) : FnOk P w K mg base CX0 1 t.f__law_all t.d__law_all [] spAll := by
  refine T.F__law_all.ok sc__law_all (fun vs H Q E h => ?_) (fun cdv A outer s H vs Q E hr h => at_body ?_)
  · obtain ⟨rfl, _⟩ := h
    rfl
  · obtain ⟨rfl, q⟩ := h
    refine @at_cons _ _ _ _ _ _ _ (@ps_set _ _ 0 _ _ _ _ sc__law_all.nd rfl (Or.inl rfl) pe_str (by walk_at "u") (by walk_at "u")) ?_
    exact @at_one _ _ _ _ _ _ (@ps_ret _ _ _ _ (@pe_op _ _ _ _ _ _ _ _ op_add_str (pv 0) pe_str)) ⟨_, rfl, _, _, rfl, rfl, sl_le (by decide +kernel), q⟩
/-- signs of the law: at least one, all of the ninety-three -/
structure Sg (z : Str) : Prop where
  pos : 1 ≤ z.length
  le : z.length ≤ 100
  all : ∀ c ∈ z.cps.toList, c ∈ allS.cps.toList
theorem sg_fixed : Sg (PySem.Txt.slice allS (some 1) (some 27)) ∧ Sg (PySem.Txt.slice allS (some 27) (some 37)) ∧ Sg (PySem.Txt.slice allS (some 1) (some 37)) :=
  ⟨⟨by decide +kernel, by decide +kernel, by decide +kernel⟩, ⟨by decide +kernel, by decide +kernel, by decide +kernel⟩, ⟨by decide +kernel, by decide +kernel, by decide +kernel⟩⟩
theorem slice_cps (x : Str) (n : Nat) : (PySem.Txt.slice x none (some (n : Int))).cps.toList = x.cps.toList.take n := by
  by_cases h : n ≤ x.length
  · have := eq_of_beq (PyProof.Rows.slice_closes_toL (x := x) (j := (n : Int)) (by omega) (by omega))
    rw [this]
    simp
  · have e : PySem.Txt.slice x none (some (n : Int)) = PySem.Txt.slice x none (some (x.length : Int)) := by
      have e2 : PySem.Builtin.Str.strSliceIndices none (some (n : Int)) 1 x.length = PySem.Builtin.Str.strSliceIndices none (some (x.length : Int)) 1 x.length := by
        have h0 : ¬ ((n : Int) < 0) := by omega
        have h1 : ¬ ((x.length : Int) < 0) := by omega
        have h2 : (1 : Int) > 0 := by decide
        have h3 : (x.length : Int) ≤ (n : Int) := by omega
        simp only [PySem.Builtin.Str.strSliceIndices, h0, h1, h2, if_false, if_true, Int.min_eq_right h3, Int.min_self]
      unfold PySem.Txt.slice
      rw [e2]
    have := eq_of_beq (PyProof.Rows.slice_closes_toL (x := x) (j := (x.length : Int)) (by omega) (by omega))
    rw [List.take_of_length_le (l := x.cps.toList) (i := n) (by rw [len_cps]; omega), e, this]
    show ((x.cps.toList.drop (0 : Int).toNat).take ((x.length : Int) - 0).toNat) = _
    exact List.take_of_length_le (by show x.cps.toList.length ≤ _; rw [len_cps]; omega)
theorem slice_from (x : Str) (i : Nat) (hi : i ≤ x.length) : (PySem.Txt.slice x (some (i : Int)) none).cps.toList = x.cps.toList.drop i := by
  have := eq_of_beq (PyProof.Rows.slice_closes_fromL (x := x) (i := (i : Int)) (b := (x.length : Int)) (by omega) (by omega) rfl)
  rw [this]
  show (x.cps.toList.drop (i : Int).toNat).take ((x.length : Int) - (i : Int)).toNat = _
  rw [Int.toNat_natCast, List.take_of_length_le (by rw [List.length_drop, len_cps]; omega)]
theorem sg_but (k : Nat) (hk : k < 93) : (1 ≤ (PySem.Txt.slice allS none (some (k : Int)) ++ PySem.Txt.slice allS (some ((k : Int) + 1)) none).length ∧ (PySem.Txt.slice allS none (some (k : Int)) ++ PySem.Txt.slice allS (some ((k : Int) + 1)) none).length ≤ 100 ∧ (PySem.Txt.slice allS none (some (k : Int))).length ≤ 93 ∧ (PySem.Txt.slice allS (some ((k : Int) + 1)) none).length ≤ 93) ∧ ∀ c ∈ (PySem.Txt.slice allS none (some (k : Int)) ++ PySem.Txt.slice allS (some ((k : Int) + 1)) none).cps.toList, c ∈ allS.cps.toList := by
  have aL := all_len
  have e1 := slice_cps allS k
  have e2 := slice_from allS (k + 1) (by omega)
  rw [show (((k + 1 : Nat) : Int)) = (k : Int) + 1 by omega] at e2
  have l1 := congrArg List.length e1
  have l2 := congrArg List.length e2
  rw [len_cps, List.length_take, len_cps] at l1
  rw [len_cps, List.length_drop, len_cps] at l2
  refine ⟨⟨by rw [Str.length_append]; omega, by rw [Str.length_append]; omega, by omega, by omega⟩, fun c hc => ?_⟩
  rw [cps_app, e1, e2] at hc
  rcases List.mem_append.mp hc with hc | hc
  · exact List.mem_of_mem_take hc
  · exact List.mem_of_mem_drop hc
theorem sg_two {c d : Nat} (hc : c ∈ allS.cps.toList) (hd : d ∈ allS.cps.toList) : Sg ((⟨#[c]⟩ : Str) ++ ⟨#[d]⟩) := by
  refine ⟨by show 1 ≤ 2; decide, by show 2 ≤ 100; decide, fun x hx => ?_⟩
  rw [cps_app] at hx
  rcases List.mem_append.mp hx with hx | hx
  · have : x = c := by simpa using hx
    rw [this]; exact hc
  · have : x = d := by simpa using hx
    rw [this]; exact hd
def spLSigns (K : PySem.W.Frag) : Sp := fun vs H Q _ => ∃ (a : Addr) (ns : List Int) (b f : Int), vs = [.ref a, .int b, .int f] ∧ SqL K H a (ns.map V.int) ∧ ns.length ≤ 63 ∧ 0 ≤ b ∧ b ≤ 50000 ∧ 0 ≤ f ∧ f < 89 ∧ ∀ z H', Sg z → Same H H' → Q (.str z) H'
theorem ok__law_signs (T : Txt K mg t) : FnOk P w K mg base CX0 2 t.f__law_signs t.d__law_signs ["_law_script", "_law_base", "_law_first_here"] (spLSigns K) := by
  refine T.F__law_signs.ok sc__law_signs (fun vs H Q E h => ?_) (fun cdv A outer s H vs Q E hr h => at_body ?_)
  · obtain ⟨a, ns, b, f, rfl, _⟩ := h
    rfl
  · obtain ⟨a, ns, b, f, rfl, hS, hl, hb0, hb1, hf0, hf1, q⟩ := h
    have aL := all_len
    have sz := sizeLine_eq
    refine @at_cons _ _ _ _ _ _ _ (@ps_set _ _ 3 _ _ _ _ sc__law_signs.nd rfl (Or.inl rfl) (@pe_call0 _ _ _ _ _ _ _ _ _ _ _ _ _ (ok__law_all T) (hr.mono (by decide)) rfl T.mg__law_all T.F__law_all.kp (bd__law_all T) .nil pass0 (by walk_at "u")) (by walk_at "u") (by walk_at "u")) ⟨rfl, ?_⟩
    refine @at_cons _ _ _ _ _ _ _ (@ps_set _ _ 4 _ _ _ _ sc__law_signs.nd rfl (Or.inl rfl) (@pe_call _ _ _ _ _ _ _ _ _ _ _ _ _ _ _ _ (ok__law_draw T) (hr.mono (by decide)) rfl T.mg__law_draw T.F__law_draw.kp (bd__law_draw T) .nil pass0 (@pa_cons _ _ _ _ _ (pv 0) (@pa_cons _ _ _ _ _ (@pe_op _ _ _ _ _ _ _ _ op_add (pv 1) pe_int) (@pa_cons _ _ _ _ _ pe_int pa_nil (by walk_at "u")) (by walk_at "u")) (by walk_at "u")) (by walk_at "u") (by walk_at "u") (by walk_at "u")) (by walk_at "u") (by walk_at "u")) ⟨_, rfl, _, rfl, _, _, rfl, rfl, a, ns, _, _, rfl, hS, (by omega), (by omega), (by decide), (by decide), hl, fun d H1 h0 h1 s1 => ?_⟩
    refine @at_cons _ _ _ _ _ _ _ (@ps_if _ _ _ _ _ _ _ _ (@pt_cmpR _ _ _ _ _ _ _ _ op_lt (pv 4) pe_int (nomark _)) pss_at pss_at) ⟨_, rfl, _, _, rfl, rfl, _, rfl, ifd (fun h => ?_) (fun h3 => at_nil ?_)⟩
    · obtain ⟨dn, rfl⟩ : ∃ dn : Nat, d = dn := ⟨d.toNat, by omega⟩
      obtain ⟨z, hz, hat⟩ : ∃ z, Sg z ∧ atI [V.str (PySem.Txt.slice allS (some 1) (some 27)), V.str (PySem.Txt.slice allS (some 27) (some 37)), V.str (PySem.Txt.slice allS (some 1) (some 37))] (dn : Int) = some (.str z) := by
        have : dn < 3 := by omega
        rcases dn with _ | _ | _ | dn
        · exact ⟨_, sg_fixed.1, rfl⟩
        · exact ⟨_, sg_fixed.2.1, rfl⟩
        · exact ⟨_, sg_fixed.2.2, rfl⟩
        · omega
      refine @at_one _ _ _ _ _ _ (@ps_ret _ _ _ _ (@pe_ix _ _ _ _ _ _ _ ix_list (@pe_lst _ _ _ _ (@pa_cons _ _ _ _ _ (@pe_slice _ _ _ _ _ _ _ _ _ _ sl_str (pv 3) (@po_some _ _ _ pe_int) (@po_some _ _ _ pe_int)) (@pa_cons _ _ _ _ _ (@pe_slice _ _ _ _ _ _ _ _ _ _ sl_str (pv 3) (@po_some _ _ _ pe_int) (@po_some _ _ _ pe_int)) (@pa_cons _ _ _ _ _ (@pe_slice _ _ _ _ _ _ _ _ _ _ sl_str (pv 3) (@po_some _ _ _ pe_int) (@po_some _ _ _ pe_int)) pa_nil (by walk_at "u")) (by walk_at "u")) (by walk_at "u"))) (pv 4) (fun _ _ => rfl))) ⟨_, rfl, 1, rfl, 27, rfl, _, rfl, sl_le (by omega), _, rfl, 27, rfl, 37, rfl, _, rfl, sl_le (by omega), _, rfl, 1, rfl, 37, rfl, _, rfl, sl_le (by omega), by show 3 ≤ sizeLine; decide, fun l0 hl0 => ⟨_, rfl, _, _, _, _, rfl, rfl, SqL.of upd_same, hat, q z _ hz (s1.to hl0)⟩⟩
    refine @at_cons _ _ _ _ _ _ _ (@ps_if _ _ _ _ _ _ _ _ (@pt_cmpR _ _ _ _ _ _ _ _ op_eq (pv 4) pe_int (nomark _)) pss_at pss_at) ⟨_, rfl, rfl, _, rfl, ifd (fun h => ?_) (fun h4 => at_nil ?_)⟩
    · refine @at_cons _ _ _ _ _ _ _ (@ps_set _ _ 5 _ _ _ _ sc__law_signs.nd rfl (Or.inl rfl) (@pe_call _ _ _ _ _ _ _ _ _ _ _ _ _ _ _ _ (ok__law_draw T) (hr.mono (by decide)) rfl T.mg__law_draw T.F__law_draw.kp (bd__law_draw T) .nil pass0 (@pa_cons _ _ _ _ _ (pv 0) (@pa_cons _ _ _ _ _ (@pe_op _ _ _ _ _ _ _ _ op_add (pv 1) pe_int) (@pa_cons _ _ _ _ _ (@pe_callB _ _ _ _ _ _ _ _ _ call_len_str (by rfl) T.z_len (by decide +kernel) (@pa_cons _ _ _ _ _ (pv 3) pa_nil (by walk_at "u")) (by walk_at "u") (by walk_at "u") (by walk_at "u") (by walk_at "u")) pa_nil (by walk_at "u")) (by walk_at "u")) (by walk_at "u")) (by walk_at "u") (by walk_at "u") (by walk_at "u")) (by walk_at "u") (by walk_at "u")) ⟨_, rfl, _, rfl, _, _, rfl, rfl, _, rfl, _, rfl, sl_le (by omega), a, ns, _, _, rfl, hS.same s1, (by omega), (by omega), (by omega), (by omega), hl, fun d2 H2 h5 h6 s2 => ?_⟩
      obtain ⟨dn, rfl⟩ : ∃ dn : Nat, d2 = dn := ⟨d2.toNat, by omega⟩
      obtain ⟨⟨p1, p2, p3, p4⟩, p5⟩ := sg_but dn (by omega)
      exact @at_one _ _ _ _ _ _ (@ps_ret _ _ _ _ (@pe_op _ _ _ _ _ _ _ _ op_add_str (@pe_slice _ _ _ _ _ _ _ _ _ _ sl_str (pv 3) po_none (@po_some _ _ _ (pv 5))) (@pe_slice _ _ _ _ _ _ _ _ _ _ sl_str (pv 3) (@po_some _ _ _ (@pe_op _ _ _ _ _ _ _ _ op_add (pv 5) pe_int)) po_none))) ⟨_, rfl, _, rfl, _, rfl, _, rfl, sl_le (by omega), _, rfl, _, rfl, _, _, rfl, rfl, _, rfl, _, rfl, sl_le (by omega), _, _, rfl, rfl, sl_le (by omega), q _ _ ⟨p1, p2, p5⟩ (s1.trans s2)⟩
    refine @at_one _ _ _ _ _ _ (@ps_ret _ _ _ _ (@pe_op _ _ _ _ _ _ _ _ op_add_str (@pe_ix _ _ _ _ _ _ _ ix_str (pv 3) (@pe_op _ _ _ _ _ _ _ _ op_add (pv 2) (@pe_call _ _ _ _ _ _ _ _ _ _ _ _ _ _ _ _ (ok__law_draw T) (hr.mono (by decide)) rfl T.mg__law_draw T.F__law_draw.kp (bd__law_draw T) .nil pass0 (@pa_cons _ _ _ _ _ (pv 0) (@pa_cons _ _ _ _ _ (@pe_op _ _ _ _ _ _ _ _ op_add (pv 1) pe_int) (@pa_cons _ _ _ _ _ pe_int pa_nil (by walk_at "u")) (by walk_at "u")) (by walk_at "u")) (by walk_at "u") (by walk_at "u") (by walk_at "u"))) (fun _ _ => rfl)) (@pe_ix _ _ _ _ _ _ _ ix_str (pv 3) (@pe_op _ _ _ _ _ _ _ _ op_add (pv 2) (@pe_call _ _ _ _ _ _ _ _ _ _ _ _ _ _ _ _ (ok__law_draw T) (hr.mono (by decide)) rfl T.mg__law_draw T.F__law_draw.kp (bd__law_draw T) .nil pass0 (@pa_cons _ _ _ _ _ (pv 0) (@pa_cons _ _ _ _ _ (@pe_op _ _ _ _ _ _ _ _ op_add (pv 1) pe_int) (@pa_cons _ _ _ _ _ pe_int pa_nil (by walk_at "u")) (by walk_at "u")) (by walk_at "u")) (by walk_at "u") (by walk_at "u") (by walk_at "u"))) (fun _ _ => rfl)))) ⟨_, rfl, _, rfl, _, rfl, _, rfl, _, _, rfl, rfl, a, ns, _, _, rfl, hS.same s1, (by omega), (by omega), (by decide), (by decide), hl, fun d2 H2 h5 h6 s2 => ?_⟩
    obtain ⟨c, e1, e2⟩ := strAt (row := allS) (i := f + d2) (by omega) (by omega)
    refine ⟨_, _, rfl, rfl, _, _, c, rfl, rfl, sl_le (by omega), e2, _, rfl, _, rfl, _, rfl, _, rfl, _, _, rfl, rfl, a, ns, _, _, rfl, (hS.same s1).same s2, (by omega), (by omega), (by decide), (by decide), hl, fun d3 H3 h7 h8 s3 => ?_⟩
    obtain ⟨c2, e3, e4⟩ := strAt (row := allS) (i := f + d3) (by omega) (by omega)
    exact ⟨_, _, rfl, rfl, _, _, c2, rfl, rfl, sl_le (by omega), e4, _, _, rfl, rfl, sl_le (by show 1 + 1 ≤ _; omega), q _ _ (sg_two (List.mem_of_getElem? e1) (List.mem_of_getElem? e3)) (s1.trans (s2.trans s3))⟩
end
section
variable {P : Program} {w : World} {K : PySem.W.Frag} {mg : Str → Option Value} {base : Heap} {t : Adr}
def PM1 (H : Hp) (u : Addr) (ps : List (Str × Str)) : Prop := ∃ ts : List Addr, H u = some (.lst (ts.map V.ref)) ∧ All2 (fun tr (p : Str × Str) => H tr = some (.tup [.str p.1, .str p.2])) ts ps
theorem PM1.same {H H' : Hp} {u : Addr} {ps : List (Str × Str)} (h : PM1 H u ps) (s : Same H H') : PM1 H' u ps := let ⟨ts, a, b⟩ := h; ⟨ts, s _ _ a, b.mono fun _ _ z => s _ _ z⟩
def PMs (H : Hp) (l : Addr) (pm : List (List (Str × Str))) : Prop := ∃ us : List Addr, H l = some (.lst (us.map V.ref)) ∧ us.Nodup ∧ All2 (PM1 H) us pm
theorem PMs.same {H H' : Hp} {l : Addr} {pm : List (List (Str × Str))} (h : PMs H l pm) (s : Same H H') : PMs H' l pm := let ⟨us, a, n, b⟩ := h; ⟨us, s _ _ a, n, b.mono fun _ _ z => z.same s⟩
def mkMs (names : List Str) (pm : List (List (Str × Str))) : List ModeM := List.zipWith (fun n ps => ⟨n, "blue", mkRs ps⟩) names pm
theorem mkMs_at {names : List Str} {pm : List (List (Str × Str))} {i : Nat} {n : Str} {ps : List (Str × Str)} (h1 : names[i]? = some n) (h2 : pm[i]? = some ps) : (mkMs names pm)[i]? = some ⟨n, "blue", mkRs ps⟩ := by
  unfold mkMs
  rw [List.getElem?_zipWith, h1, h2]
theorem mkMs_len {names : List Str} {pm : List (List (Str × Str))} (h : names.length = pm.length) : (mkMs names pm).length = pm.length := by
  unfold mkMs
  rw [List.length_zipWith, h, Nat.min_self]
theorem mkMs_names : ∀ {names : List Str} {pm : List (List (Str × Str))}, names.length = pm.length → (mkMs names pm).map (·.name) = names
  | [], [], _ => rfl
  | n :: ns, p :: pm, h => by
    show n :: (mkMs ns pm).map (·.name) = _
    rw [mkMs_names (by simpa using h)]
  | [], _ :: _, h => by simp at h
  | _ :: _, [], h => by simp at h
/-- a rule that the law may draw -/
structure GoodPr (p : Str × Str) : Prop where
  sort : p.1 ∈ sorts
  sg : Sg p.2
theorem GoodPr.rule {names : List Str} {p : Str × Str} (h : GoodPr p) : GoodRule names (mkR p) := by
  refine ⟨⟨h.sort, fun hb => if_pos hb, fun hb => ?_⟩, fun he => ?_, fun he => ?_, by show ("pop" : Str) ∈ deeds; decide, fun hg => ?_, fun _ => rfl, .inl rfl⟩
  · have hb : ¬ bare p.1 := hb
    rw [show (mkR p).signs = p.2 from if_neg hb]
    refine ⟨h.sg.pos, by have := h.sg.le; omega, fun z => (all_ok _ (h.sg.all _ z)).2.1 rfl, fun z => (all_ok _ (h.sg.all _ z)).2.2 rfl⟩
  · have he : eatsB p.1 = true := he
    show isName (if eatsB p.1 = true then ("red" : Str) else "") = true
    rw [if_pos he]; decide +kernel
  · show (if eatsB p.1 = true then ("red" : Str) else "") = ""
    rw [if_neg (by rw [show eatsB p.1 = false from he]; exact Bool.false_ne_true)]
  · exact absurd hg (by show ¬ going "pop"; decide)
structure Law7 (names : List Str) (pm : List (List (Str × Str))) : Prop where
  len : names.length = pm.length
  pos : 0 < pm.length
  three : pm.length ≤ 3
  nd : names.Nodup
  nm : ∀ n ∈ names, isName n = true
  twelve : ∀ ps ∈ pm, ps.length ≤ 12
  pr : ∀ ps ∈ pm, ∀ p ∈ ps, GoodPr p
theorem Law7.bt {names : List Str} {pm : List (List (Str × Str))} (L : Law7 names pm) : Bt (mkMs names pm) := by
  have hl := mkMs_len L.len
  have hn := mkMs_names L.len
  have look : ∀ (k : Nat) m, (mkMs names pm)[k]? = some m → ∃ n ps, n ∈ names ∧ ps ∈ pm ∧ m = ⟨n, "blue", mkRs ps⟩ := fun k m hm => by
    have hk := (List.getElem?_eq_some_iff.mp hm).1
    rw [hl] at hk
    have h1 : names[k]? = some (names[k]'(by rw [L.len]; exact hk)) := List.getElem?_eq_getElem _
    have h2 : pm[k]? = some pm[k] := List.getElem?_eq_getElem hk
    rw [mkMs_at h1 h2] at hm
    cases hm
    exact ⟨_, _, List.mem_of_getElem? h1, List.mem_of_getElem? h2, rfl⟩
  refine ⟨by rw [hl]; exact L.pos, by rw [hl]; exact L.three, by rw [hn]; exact L.nd, fun m hm => ?_, fun k m hm => ?_⟩
  · obtain ⟨k, hk⟩ := List.mem_iff_getElem?.mp hm
    obtain ⟨n, ps, h1, h2, rfl⟩ := look k m hk
    exact ⟨L.nm n h1, by show isName "blue" = true; decide +kernel⟩
  · obtain ⟨n, ps, h1, h2, rfl⟩ := look k m hm
    refine ⟨by show (ps.map mkR).length ≤ 12; rw [List.length_map]; exact L.twelve ps h2, fun R hR => ?_⟩
    obtain ⟨p, hp, rfl⟩ := List.mem_map.mp hR
    exact (L.pr ps h2 p hp).rule
def spText7 : Sp := fun vs H Q _ => ∃ (ln lm : Addr) (names : List Str) (pm : List (List (Str × Str))), vs = [.ref ln, .ref lm] ∧ H ln = some (.lst (names.map V.str)) ∧ PMs H lm pm ∧ Law7 names pm ∧ ∀ H', Same H H' → Q (.str (Str.join ⟨#[10]⟩ (rowsOf (itemsOf (mkMs names pm))))) H'
theorem mode_blue {names : List Str} {n : Str} : (Str.ofString "mode " ++ n ++ Str.ofString " blue" : Str) = rowOf names (.mode n "blue") := by
  refine str_ext ?_
  unfold rowOf
  rw [join_cps, cps_app, cps_app]
  show _ = (Str.ofString "mode").cps.toList ++ 32 :: (n.cps.toList ++ 32 :: (Str.ofString "blue").cps.toList)
  have e1 : (Str.ofString "mode ").cps.toList = (Str.ofString "mode").cps.toList ++ [32] := by decide +kernel
  have e2 : (Str.ofString " blue").cps.toList = 32 :: (Str.ofString "blue").cps.toList := by decide +kernel
  rw [e1, e2]
  simp
theorem words7 {names : List Str} {s z : Str} : ruleWords names (mkR (s, z)) = patWords s (if bare s then "" else z) ++ (if eatsB s = true then [("red" : Str)] else []) ++ [("pop" : Str)] := by
  unfold ruleWords
  show patWords s (if bare s then "" else z) ++ ((if eatsB s = true then [if eatsB s = true then ("red" : Str) else ""] else []) ++ ([("pop" : Str)] ++ (goalW names none ++ if ("" : Str) = "" then [] else [("" : Str)]))) = _
  rw [if_pos rfl, show goalW names none = [] from rfl, List.append_nil, List.append_nil, List.append_assoc]
  by_cases h : eatsB s = true
  · rw [if_pos h, if_pos h, if_pos h]
  · rw [if_neg h, if_neg h]
theorem ok__law_text (T : Txt K mg t) : FnOk P w K mg base CX0 1 t.f__law_text t.d__law_text ["_law_names", "_law_modes"] spText7 := by
  refine T.F__law_text.ok sc__law_text (fun vs H Q E h => ?_) (fun cdv A outer s H vs Q E hr h => at_body ?_)
  · obtain ⟨ln, lm, names, pm, rfl, _⟩ := h
    rfl
  · obtain ⟨ln, lm, names, pm, rfl, hln, ⟨us, hlm, hnd, hA⟩, L, q⟩ := h
    have B := L.bt
    have sz := sizeLine_eq
    have hn := mkMs_names L.len
    have hml := mkMs_len L.len
    have hitems := B.len39
    have h3 := L.three
    have hnm := L.nm
    refine @at_cons _ _ _ _ _ _ _ (@ps_set _ _ 2 _ _ _ _ sc__law_text.nd rfl (Or.inl rfl) (@pe_lst _ _ _ _ pa_nil) (by walk_at "u") (by walk_at "u")) ⟨by show 0 ≤ sizeLine; decide, fun lr hlr => ?_⟩
    have W0 : Wds H (upd H lr (.lst [])) lr [] := ⟨upd_same, hlr, Same.upd hlr⟩
    generalize upd H lr (.lst []) = H0 at W0
    show At _ _ _ [some (.ref ln), some (.ref lm), some (.ref lr), none, none, none, none] H0
    refine @at_consR _ _ _ _ _ _ _ (fun σ' H' => (∃ x3 x4 x5 x6, σ' = [some (.ref ln), some (.ref lm), some (.ref lr), x3, x4, x5, x6]) ∧ Wds H H' lr ((itemsOf (mkMs names pm)).map (rowOf names))) (@ps_forA _ _ _ _ _ _ _ _ PassesOwn.never rfl (@pi_range1 _ _ _ _ _ _ rfl T.z_range (@pa_cons _ _ _ _ _ (@pe_callB _ _ _ _ _ _ _ _ _ call_len_seq (by rfl) T.z_len (by decide +kernel) (@pa_cons _ _ _ _ _ (pv 1) pa_nil (by walk_at "u")) (by walk_at "u") (by walk_at "u") (by walk_at "u") (by walk_at "u")) pa_nil (by walk_at "u")) (by walk_at "u")) (@pg_name _ _ 3 _ sc__law_text.nd rfl (Or.inl rfl) (by walk_at "u")) pss_at (by walk_at "u")) ?_ ?_
    · refine ⟨_, rfl, _, _, rfl, .inl (SqL.of (W0.same _ _ hlm)), _, rfl, by rw [List.length_map, hA.1]; omega, by rw [List.length_map, hA.1]; omega, ?_⟩
      rw [show (((us.map V.ref).length : Nat) : Int).toNat = pm.length by rw [List.length_map, hA.1]; omega]
      refine forW_range (n := pm.length) (fun i σ' H' => (∃ x3 x4 x5 x6, σ' = [some (.ref ln), some (.ref lm), some (.ref lr), x3, x4, x5, x6]) ∧ Wds H H' lr ((itemsOf ((mkMs names pm).take i)).map (rowOf names))) ⟨⟨_, _, _, _, rfl⟩, W0⟩ ?_ ?_
      · rintro i σ' H1 hi ⟨⟨x3, x4, x5, x6, rfl⟩, W1⟩
        obtain ⟨nm, h1⟩ : ∃ n, names[i]? = some n := ⟨names[i]'(by rw [L.len]; exact hi), List.getElem?_eq_getElem _⟩
        obtain ⟨ps, h2⟩ : ∃ n, pm[i]? = some n := ⟨pm[i], List.getElem?_eq_getElem hi⟩
        have hm := mkMs_at h1 h2
        obtain ⟨u, hu, ts, t2, t3⟩ := hA.at h2
        have n1 := hnm nm (List.mem_of_getElem? h1)
        have hpsm := List.mem_of_getElem? h2
        have l1 := (name_len n1).1
        have r12 := L.twelve ps hpsm
        have hil := B.len i (by omega)
        have hat : atI (names.map V.str) ((0 : Int) + (i : Int)) = some (.str nm) := by
          rw [Int.zero_add]
          refine atI_nat ?_
          rw [List.getElem?_map, h1]
          rfl
        have e5 : (Str.ofString "mode ").length = 5 := by decide +kernel
        have e1 : (Str.ofString " blue").length = 5 := by decide +kernel
        refine @at_cons _ _ _ _ _ _ _ (@ps_expr _ _ _ _ (@pe_bm _ _ _ _ _ _ _ _ _ _ _ _ PySem.F.plainAttrs_list PySem.F.slot_list_append PySem.F.type_list_append mt_append (pv 2) (@pa_cons _ _ _ _ _ (@pe_op _ _ _ _ _ _ _ _ op_add_str (@pe_op _ _ _ _ _ _ _ _ op_add_str pe_str (@pe_ix _ _ _ _ _ _ _ ix_list (pv 0) (pv 3) (fun _ _ => rfl))) pe_str) pa_nil (by walk_at "u")) (by walk_at "u") (by walk_at "u") (by walk_at "u") (by walk_at "u") (by walk_at "u")) (by walk_at "u")) ⟨_, rfl, .inl ⟨rfl, _, SqL.of W1.at_⟩, _, rfl, _, rfl, _, _, _, _, rfl, rfl, SqL.of (W1.same _ _ hln), hat, _, _, rfl, rfl, sl_le (by show (Str.ofString "mode ").length + _ ≤ _; omega), _, _, rfl, rfl, sl_le (by rw [Str.length_append]; show (Str.ofString "mode ").length + _ + (Str.ofString " blue").length ≤ _; omega), lr, _, _, rfl, rfl, W1.at_, sl_lt (by rw [List.length_map, List.length_map]; omega), ?_⟩
        rw [show (Str.ofString "mode " ++ nm ++ Str.ofString " blue" : Str) = rowOf names (.mode nm "blue") from mode_blue]
        have W2 := W1.add (x := rowOf names (.mode nm "blue"))
        generalize upd H1 lr _ = H2 at W2
        have hatu : atI (us.map V.ref) ((0 : Int) + (i : Int)) = some (.ref u) := by rw [Int.zero_add]; exact at_ref hu
        refine @at_one _ _ _ _ _ _ (@ps_forA _ _ _ _ _ _ _ _ PassesOwn.never rfl (@pi_list _ _ _ _ (@pe_ix _ _ _ _ _ _ _ ix_list (pv 1) (pv 3) (fun _ _ => rfl))) (@pg_tup _ _ _ _ _ _ rfl (@pgs_cons _ _ _ _ _ (@pg_name _ _ 4 _ sc__law_text.nd rfl (Or.inl rfl) (by walk_at "u")) (@pgs_cons _ _ _ _ _ (@pg_name _ _ 5 _ sc__law_text.nd rfl (Or.inl rfl) (by walk_at "u")) pgs_nil (by walk_at "u")) (by walk_at "u")) (by walk_at "u") (by walk_at "u")) pss_at (by walk_at "u")) ⟨_, rfl, _, rfl, _, _, _, _, rfl, rfl, SqL.of (W2.same _ _ hlm), hatu, u, rfl, ⟨_, SqL.of (W2.same _ _ t2)⟩, forW_list (xs := ts.map V.ref) (fun j σ' H' => (∃ x4 x5 x6, σ' = [some (.ref ln), some (.ref lm), some (.ref lr), some (.int (0 + (i : Int))), x4, x5, x6]) ∧ Wds H H' lr ((itemsOf ((mkMs names pm).take i)).map (rowOf names) ++ [rowOf names (.mode nm "blue")] ++ ((mkRs ps).take j).map fun R => rowOf names (.rule R))) ⟨⟨_, _, _, rfl⟩, by rw [List.take_zero, List.map_nil, List.append_nil]; exact W2⟩ ?_ ?_ ?_⟩
        · rintro j σ' H' _ ⟨_, W⟩
          exact SqL.of (W.same _ _ t2)
        · rintro j xv σ' H3 hx ⟨⟨y4, y5, y6, rfl⟩, W3⟩
          rw [List.getElem?_map] at hx
          obtain ⟨tr, htr, rfl⟩ := Option.map_eq_some_iff.mp hx
          have hj : j < ps.length := by rw [← t3.1]; exact (List.getElem?_eq_some_iff.mp htr).1
          obtain ⟨pr, hpj⟩ : ∃ n, ps[j]? = some n := ⟨ps[j], List.getElem?_eq_getElem hj⟩
          obtain ⟨st, z⟩ := pr
          have u1 := t3.2 j tr _ htr hpj
          have hpm := List.mem_of_getElem? hpj
          have GP := L.pr ps hpsm _ hpm
          have GR : GoodRule names (mkR (st, z)) := GP.rule
          have hs : st ∈ sorts := GP.sort
          have hzl : z.length ≤ 100 := GP.sg.le
          have hRj : (mkRs ps)[j]? = some (mkR (st, z)) := by unfold mkRs; rw [List.getElem?_map, hpj]; rfl
          refine ⟨tr, [.str st, .str z], rfl, SqT.of (W3.same _ _ u1), rfl, _, _, rfl, _, _, rfl, rfl, ?_⟩
          show At _ _ _ [some (.ref ln), some (.ref lm), some (.ref lr), some (.int (0 + (i : Int))), some (.str st), some (.str z), y6] H3
          refine @at_cons _ _ _ _ _ _ _ (@ps_set _ _ 6 _ _ _ _ sc__law_text.nd rfl (Or.inl rfl) (@pe_lst _ _ _ _ (@pa_cons _ _ _ _ _ (pv 4) pa_nil (by walk_at "u"))) (by walk_at "u") (by walk_at "u")) ⟨_, rfl, by show 1 ≤ sizeLine; decide, fun l hl0 => ?_⟩
          have V0 : Wds H3 (upd H3 l (.lst [.str st])) l [st] := ⟨upd_same, hl0, Same.upd hl0⟩
          show At _ _ _ [some (.ref ln), some (.ref lm), some (.ref lr), some (.int (0 + (i : Int))), some (.str st), some (.str z), some (.ref l)] _
          generalize upd H3 l (.lst [.str st]) = H4 at V0
          refine @at_consR _ _ _ _ _ _ _ (fun σ' H' => σ' = [some (.ref ln), some (.ref lm), some (.ref lr), some (.int (0 + (i : Int))), some (.str st), some (.str z), some (.ref l)] ∧ Wds H3 H' l (patWords st (if bare st then "" else z))) (@ps_if _ _ _ _ _ _ _ _ (@pt_cmpR _ _ _ _ _ _ _ _ op_in_seq (pv 4) (@pe_tup _ _ _ _ _ (@pa_strs _ _ ["word", "one", "none", "many"] rfl)) rfl) pss_at pss_at) ?_ ?_
          · refine ⟨_, rfl, by show 4 ≤ sizeLine; decide, fun pt hpt => ⟨pt, _, rfl, .inr (SqT.of upd_same), rfl, rfl, _, rfl, ?_⟩⟩
            have V1 : Wds H3 (upd H4 pt (.tup ((["word", "one", "none", "many"] : List Str).map V.str))) l [st] := V0.to (Same.upd hpt)
            generalize upd H4 pt (.tup ((["word", "one", "none", "many"] : List Str).map V.str)) = H5 at V1
            have hin : inV (.str st) [.str "word", .str "one", .str "none", .str "many"] = decide (¬ bare st) := by
              rw [show ([.str "word", .str "one", .str "none", .str "many"] : List V) = (["word", "one", "none", "many"] : List Str).map V.str from rfl, inV_strs]
              rcases sorts_cases hs with rfl | rfl | rfl | rfl | rfl | rfl | rfl <;> decide +kernel
            refine ifeq hin (ifd (fun h => ?_) (fun h => at_nil ⟨rfl, ?_⟩))
            · refine @at_one _ _ _ _ _ _ (@ps_expr _ _ _ _ (@pe_bm _ _ _ _ _ _ _ _ _ _ _ _ PySem.F.plainAttrs_list PySem.F.slot_list_append PySem.F.type_list_append mt_append (pv 6) (@pa_cons _ _ _ _ _ (@pe_add_repl _ _ _ _ _ _ _ _ _ _ _ _ _ _ _ (by decide +kernel) (pv 5) (by walk_at "u") (by walk_at "u")) pa_nil (by walk_at "u")) (by walk_at "u") (by walk_at "u") (by walk_at "u") (by walk_at "u") (by walk_at "u")) (by walk_at "u")) ⟨_, rfl, .inl ⟨rfl, _, SqL.of V1.at_⟩, _, rfl, z, rfl, ?_, _, rfl, ?_, ?_⟩
              · rw [show ("_" : Str).length = 1 from by decide +kernel]
                omega
              · rw [repl_len, show ("'" : Str).length = 1 from by decide +kernel]
                exact sl_le (by omega)
              · refine ⟨l, _, _, rfl, rfl, V1.at_, by show 1 < sizeLine; decide, rfl, ?_⟩
                rw [patWords, if_neg h, if_neg h]
                exact V1.add (x := wSigns z)
            · rw [patWords, if_pos (Decidable.not_not.mp h)]
              exact V1
          rintro σ' H5 ⟨rfl, V5⟩
          have plen := pat_len (s := st) (z := if bare st then "" else z)
          refine @at_consR _ _ _ _ _ _ _ (fun σ' H' => σ' = [some (.ref ln), some (.ref lm), some (.ref lr), some (.int (0 + (i : Int))), some (.str st), some (.str z), some (.ref l)] ∧ Wds H3 H' l (patWords st (if bare st then "" else z) ++ (if eatsB st = true then [("red" : Str)] else []))) (@ps_if _ _ _ _ _ _ _ _ (@pt_cmpR _ _ _ _ _ _ _ _ op_notIn_seq (pv 4) (@pe_tup _ _ _ _ _ (@pa_cons _ _ _ _ _ pe_str (@pa_cons _ _ _ _ _ pe_str pa_nil (by walk_at "u")) (by walk_at "u"))) rfl) pss_at pss_at) ?_ ?_
          · refine ⟨_, rfl, by show 2 ≤ sizeLine; decide, fun pt hpt => ⟨pt, _, rfl, .inr (SqT.of upd_same), rfl, rfl, _, rfl, ?_⟩⟩
            have V6 : Wds H3 (upd H5 pt (.tup [.str "still", .str "end"])) l (patWords st (if bare st then "" else z)) := V5.to (Same.upd hpt)
            generalize upd H5 pt (.tup [.str "still", .str "end"]) = H6 at V6
            have hin : (!inV (.str st) [.str "still", .str "end"]) = eatsB st := by
              rw [show ([.str "still", .str "end"] : List V) = (["still", "end"] : List Str).map V.str from rfl, inV_strs]
              rcases sorts_cases hs with rfl | rfl | rfl | rfl | rfl | rfl | rfl <;> decide +kernel
            by_cases he : eatsB st = true
            · refine ifeq (c := true) (by show (!inV (.str st) [.str "still", .str "end"]) = true; rw [hin, he]) ?_
              refine @at_one _ _ _ _ _ _ (@ps_expr _ _ _ _ (@pe_bm _ _ _ _ _ _ _ _ _ _ _ _ PySem.F.plainAttrs_list PySem.F.slot_list_append PySem.F.type_list_append mt_append (pv 6) (@pa_cons _ _ _ _ _ pe_str pa_nil (by walk_at "u")) (by walk_at "u") (by walk_at "u") (by walk_at "u") (by walk_at "u") (by walk_at "u")) (by walk_at "u")) ⟨_, rfl, .inl ⟨rfl, _, SqL.of V6.at_⟩, l, _, _, rfl, rfl, V6.at_, sl_lt (by rw [List.length_map]; omega), rfl, ?_⟩
              rw [if_pos he]
              exact V6.add
            · refine ifeq (c := false) (by show (!inV (.str st) [.str "still", .str "end"]) = false; rw [hin]; exact Bool.eq_false_iff.mpr he) ?_
              refine at_nil ⟨rfl, ?_⟩
              rw [if_neg he, List.append_nil]
              exact V6
          rintro σ' H6 ⟨rfl, V6⟩
          have W6 := W3.to V6.same
          have l4 : (if eatsB st = true then [("red" : Str)] else []).length ≤ 1 := by split <;> simp
          have rl := rule_len (names := names) (R := mkR (st, z))
          refine @at_one _ _ _ _ _ _ (@ps_expr _ _ _ _ (@pe_bm _ _ _ _ _ _ _ _ _ _ _ _ PySem.F.plainAttrs_list PySem.F.slot_list_append PySem.F.type_list_append mt_append (pv 2) (@pa_cons _ _ _ _ _ (@pe_bm _ _ _ _ _ _ _ _ _ _ _ _ PySem.F.plainAttrs_str PySem.F.slot_str_join PySem.F.type_str_join mt_join pe_str (@pa_cons _ _ _ _ _ (@pe_op _ _ _ _ _ _ _ _ op_cat (pv 6) (@pe_lst _ _ _ _ (@pa_cons _ _ _ _ _ pe_str pa_nil (by walk_at "u")))) pa_nil (by walk_at "u")) (by walk_at "u") (by walk_at "u") (by walk_at "u") (by walk_at "u") (by walk_at "u")) pa_nil (by walk_at "u")) (by walk_at "u") (by walk_at "u") (by walk_at "u") (by walk_at "u") (by walk_at "u")) (by walk_at "u")) ⟨_, rfl, .inl ⟨rfl, _, SqL.of W6.at_⟩, rfl, _, rfl, by show 1 ≤ sizeLine; decide, fun l7 h7 => ⟨l, l7, _, _, rfl, rfl, Same.upd h7 _ _ V6.at_, upd_same, sl_le (by rw [List.length_map, List.length_append]; show _ + 1 ≤ _; omega), fun l8 h8 => ?_⟩⟩
          have e8 : ((patWords st (if bare st then "" else z) ++ (if eatsB st = true then [("red" : Str)] else [])).map V.str ++ [V.str "pop"]) = (ruleWords names (mkR (st, z))).map V.str := by
            rw [words7]; simp only [List.map_append]; rfl
          have W8 := W6.to ((Same.upd h7 (o := .lst [.str "pop"])).to h8 (o := .lst ((patWords st (if bare st then "" else z) ++ (if eatsB st = true then [("red" : Str)] else [])).map V.str ++ [V.str "pop"])))
          refine ⟨_, l8, ruleWords names (mkR (st, z)), rfl, rfl, SqL.of (by rw [upd_same, e8]), ?_, ?_⟩
          · have h1 := sum_le (m := 202) (ruleWords names (mkR (st, z))) (fun y hy => (rule_words hnm GR y hy).l)
            rw [show (" " : Str).length = 1 from by decide +kernel]
            have h2 : (ruleWords names (mkR (st, z))).length * 202 ≤ 7 * 202 := Nat.mul_le_mul_right _ rl.2
            omega
          · rw [join_eq, show ((" " : Str)) = ⟨#[32]⟩ from by decide +kernel]
            refine ⟨lr, _, _, rfl, rfl, W8.at_, sl_lt (by simp only [List.length_map, List.length_append, List.length_cons, List.length_nil, List.length_take]; omega), ⟨_, _, _, rfl⟩, ?_⟩
            have e : ((mkRs ps).take (j + 1)).map (fun R => rowOf names (.rule R)) = ((mkRs ps).take j).map (fun R => rowOf names (.rule R)) ++ [rowOf names (.rule (mkR (st, z)))] := by rw [take_snoc hRj, List.map_append]; rfl
            rw [e, ← List.append_assoc]
            exact W8.add (x := rowOf names (.rule (mkR (st, z))))
        · rintro σ' H3 ⟨⟨y4, y5, y6, rfl⟩, W3⟩
          refine ⟨⟨_, _, _, _, rfl⟩, ?_⟩
          have e9 : (mkRs ps).take (ts.map V.ref).length = mkRs ps := List.take_of_length_le (by unfold mkRs; rw [List.length_map, List.length_map, t3.1]; exact Nat.le_refl _)
          rw [e9] at W3
          rw [take_snoc hm, itemsOf_app, itemsOf_one, List.map_append, itemsM, List.map_cons, List.map_map]
          rw [List.append_assoc] at W3
          exact W3
      · rintro σ' H1 ⟨hσ, W1⟩
        rw [List.take_of_length_le (by rw [hml]; exact Nat.le_refl _)] at W1
        exact ⟨hσ, W1⟩
    rintro σ' H1 ⟨⟨x3, x4, x5, x6, rfl⟩, W1⟩
    have hGI := B.items
    have hrows : rowsOf (itemsOf (mkMs names pm)) = (itemsOf (mkMs names pm)).map (rowOf names) := by rw [rowsOf, names_items, hn]
    refine @at_one _ _ _ _ _ _ (@ps_ret _ _ _ _ (@pe_bm _ _ _ _ _ _ _ _ _ _ _ _ PySem.F.plainAttrs_str PySem.F.slot_str_join PySem.F.type_str_join mt_join pe_str (@pa_cons _ _ _ _ _ (pv 2) pa_nil (by walk_at "u")) (by walk_at "u") (by walk_at "u") (by walk_at "u") (by walk_at "u") (by walk_at "u"))) ⟨rfl, _, rfl, _, lr, _, rfl, rfl, SqL.of W1.at_, ?_, ?_⟩
    · have h5 := sum_le (m := 1421) ((itemsOf (mkMs names pm)).map (rowOf names)) (fun y hy => by
        obtain ⟨it, hi, rfl⟩ := List.mem_map.mp hy
        obtain ⟨i, e⟩ := List.mem_iff_getElem?.mp hi
        have := (row_good hGI e).2.1
        rw [names_items, hn] at this
        exact this)
      rw [show ("\n" : Str).length = 1 from by decide +kernel]
      rw [List.length_map] at h5 ⊢
      have h6 : (itemsOf (mkMs names pm)).length * 1421 ≤ 39 * 1421 := Nat.mul_le_mul_right _ hitems
      omega
    · rw [join_eq, show ((("\n" : Str))) = ⟨#[10]⟩ from by decide +kernel, ← hrows]
      exact q _ W1.same
end
section
variable {P : Program} {w : World} {K : PySem.W.Frag} {mg : Str → Option Value} {base : Heap} {t : Adr}
theorem due_word {z row : Str} : dueV "word" z row 0 = if (PySem.Txt.slice row none (some (z.length : Int))) = z then .int z.length else .non := by
  rw [dueV, if_neg (by decide), if_pos rfl, List.drop_zero]
  have : (row.cps.toList.take z.length = z.cps.toList) ↔ PySem.Txt.slice row none (some (z.length : Int)) = z := by
    rw [← slice_cps]
    exact ⟨str_ext, fun h => by rw [h]⟩
  by_cases h : PySem.Txt.slice row none (some (z.length : Int)) = z
  · rw [if_pos h, if_pos (this.mpr h)]
  · rw [if_neg h, if_neg (fun y => h (this.mp y))]
def headIn (z row : Str) : Bool := match row.cps.toList[0]? with
  | some c => decide (c ∈ z.cps.toList)
  | none => false
def goodL (st z row : Str) : Bool :=
  if row ≠ "" ∧ (st = "one" ∨ st = "none" ∨ st = "many") then (headIn z row != decide (st = "none"))
  else if row ≠ "" ∧ st = "word" then decide (PySem.Txt.slice row none (some (z.length : Int)) = z)
  else if row = "" then decide (st = "end") else decide (st = "any" ∨ st = "still")
theorem no_sign {row : Str} (h : row = "") : row.cps.toList = [] := by rw [h]; decide +kernel
theorem goodL_eq {st z row : Str} (hs : st ∈ sorts) (hz : 1 ≤ z.length) : goodL st z row = decide (dueV st z row 0 ≠ .non) := by
  unfold goodL
  by_cases hr : row = ""
  · have h0 := no_sign hr
    have hl : row.length = 0 := by rw [← len_cps, h0]; rfl
    rw [if_neg (fun z => z.1 hr), if_neg (fun z => z.1 hr), if_pos hr]
    by_cases h1 : st = "end"
    · rw [dueV, if_pos h1, if_pos hl.symm, decide_eq_true h1]; rfl
    · rw [decide_eq_false h1]
      refine (decide_eq_false ?_).symm
      rw [Decidable.not_not]
      by_cases h2 : st = "word"
      · rw [dueV, if_neg h1, if_pos h2, h0, if_neg]
        intro e
        have := congrArg List.length e
        rw [List.drop_nil, List.take_nil, len_cps] at this
        simp at this
        omega
      · exact dueV_out h1 h2 (by omega)
  · obtain ⟨c, y, hcy⟩ : ∃ c y, row.cps.toList = c :: y := by
      cases e : row.cps.toList with
      | nil => exact absurd (str_ext (by rw [e]; decide +kernel)) hr
      | cons c y => exact ⟨c, y, rfl⟩
    have hc : row.cps.toList[0]? = some c := by rw [hcy]; rfl
    have hh : headIn z row = decide (c ∈ z.cps.toList) := by unfold headIn; rw [hc]
    have key : ∀ (b : Bool) (p : Prop) [Decidable p], (b = true ↔ p) → b = decide p := fun b p _ h => by rw [Bool.eq_iff_iff, decide_eq_true_eq]; exact h
    rcases sorts_cases hs with rfl | rfl | rfl | rfl | rfl | rfl | rfl
    · rw [if_neg (by rintro ⟨_, h | h | h⟩ <;> exact absurd h (by decide)), if_pos ⟨hr, rfl⟩, due_word]
      refine key _ _ ?_
      rw [decide_eq_true_eq]
      constructor
      · intro e; rw [if_pos e]; intro z; cases z
      · intro e; exact Decidable.byContradiction fun z => e (if_neg z)
    · rw [if_pos ⟨hr, .inl rfl⟩, hh, dueV_at (by decide) (by decide) hc, if_neg (by decide), if_neg (by decide)]
      by_cases hm : c ∈ z.cps.toList
      · rw [if_pos hm, decide_eq_true hm]; rfl
      · rw [if_neg hm, decide_eq_false hm]; rfl
    · rw [if_pos ⟨hr, .inr (.inl rfl)⟩, hh, dueV_at (by decide) (by decide) hc, if_neg (by decide), if_pos rfl]
      by_cases hm : c ∈ z.cps.toList
      · rw [if_pos hm, decide_eq_true hm]; rfl
      · rw [if_neg hm, decide_eq_false hm]; rfl
    · rw [if_pos ⟨hr, .inr (.inr rfl)⟩, hh, dueV_at (by decide) (by decide) hc, if_neg (by decide), if_neg (by decide)]
      by_cases hm : c ∈ z.cps.toList
      · rw [if_pos hm, decide_eq_true hm]
        exact (show (true != decide (("many" : Str) = "none")) = true by decide).trans (decide_eq_true (by intro z; cases z)).symm
      · rw [if_neg hm, decide_eq_false hm]; rfl
    · rw [if_neg (by rintro ⟨_, h | h | h⟩ <;> exact absurd h (by decide)), if_neg (by rintro ⟨_, h⟩; exact absurd h (by decide)), if_neg hr, dueV_at (by decide) (by decide) hc, if_pos (by decide)]
      rfl
    · rw [if_neg (by rintro ⟨_, h | h | h⟩ <;> exact absurd h (by decide)), if_neg (by rintro ⟨_, h⟩; exact absurd h (by decide)), if_neg hr, dueV_at (by decide) (by decide) hc, if_pos (by decide)]
      rfl
    · rw [if_neg (by rintro ⟨_, h | h | h⟩ <;> exact absurd h (by decide)), if_neg (by rintro ⟨_, h⟩; exact absurd h (by decide)), if_neg hr, dueV, if_pos rfl, if_neg (by
        intro z
        have := congrArg List.length hcy
        rw [len_cps, ← z] at this
        cases this)]
      rfl
theorem dec_str (a b : Str) : decide (V.str a = V.str b) = decide (a = b) := by
  rw [Bool.eq_iff_iff, decide_eq_true_eq, decide_eq_true_eq]
  exact ⟨V.str.inj, fun z => by rw [z]⟩
def numL (ps : List (Str × Str)) (row : Str) : Int := match firstM (mkRs ps) row 0 with
  | some n => n
  | none => -1
def spFirst7 : Sp := fun vs H Q _ => ∃ (u : Addr) (ps : List (Str × Str)) (row : Str), vs = [.ref u, .str row] ∧ PM1 H u ps ∧ ps.length ≤ 200 ∧ (∀ p ∈ ps, GoodPr p) ∧ row.length ≤ 1000 ∧ ∀ H', Same H H' → Q (.int (numL ps row)) H'
theorem ok__law_first (T : Txt K mg t) : FnOk P w K mg base CX0 1 t.f__law_first t.d__law_first ["_law_rules_here", "_law_row"] spFirst7 := by
  refine T.F__law_first.ok sc__law_first (fun vs H Q E h => ?_) (fun cdv A outer s H vs Q E hr h => at_body ?_)
  · obtain ⟨u, ps, row, rfl, _⟩ := h
    rfl
  · obtain ⟨u, ps, row, rfl, ⟨ts, hu, hA⟩, hpl, hg, hrow, q⟩ := h
    have sz := sizeLine_eq
    refine @at_consR _ _ _ _ _ _ _ (fun σ' H' => Same H H' ∧ firstM (mkRs ps) row 0 = none) (@ps_forA _ _ _ _ _ _ _ _ PassesOwn.never rfl (@pi_range1 _ _ _ _ _ _ rfl T.z_range (@pa_cons _ _ _ _ _ (@pe_callB _ _ _ _ _ _ _ _ _ call_len_seq (by rfl) T.z_len (by decide +kernel) (@pa_cons _ _ _ _ _ (pv 0) pa_nil (by walk_at "u")) (by walk_at "u") (by walk_at "u") (by walk_at "u") (by walk_at "u")) pa_nil (by walk_at "u")) (by walk_at "u")) (@pg_name _ _ 2 _ sc__law_first.nd rfl (Or.inl rfl) (by walk_at "u")) pss_at (by walk_at "u")) ?_ ?_
    · refine ⟨_, rfl, _, _, rfl, .inl (SqL.of hu), _, rfl, by rw [List.length_map]; omega, by rw [List.length_map, hA.1]; omega, ?_⟩
      rw [show (((ts.map V.ref).length : Nat) : Int).toNat = ps.length by rw [List.length_map, hA.1]; omega]
      refine forW_range (n := ps.length) (fun i σ' H' => (∃ x2 x3 x4 x5, σ' = [some (.ref u), some (.str row), x2, x3, x4, x5]) ∧ Same H H' ∧ firstM (mkRs ps) row 0 = firstF row 0 i ((mkRs ps).drop i)) ⟨⟨_, _, _, _, rfl⟩, Same.refl _, rfl⟩ ?_ ?_
      · rintro i σ' H1 hi ⟨⟨x2, x3, x4, x5, rfl⟩, s1, hf⟩
        obtain ⟨pr, hpi⟩ : ∃ p, ps[i]? = some p := ⟨ps[i], List.getElem?_eq_getElem hi⟩
        obtain ⟨tr, htr, htup⟩ := hA.at hpi
        obtain ⟨st, z⟩ := pr
        have GP := hg _ (List.mem_of_getElem? hpi)
        have hs : st ∈ sorts := GP.sort
        have hz1 : 1 ≤ z.length := GP.sg.pos
        have hz2 : z.length ≤ 100 := GP.sg.le
        have hRi : (mkRs ps)[i]? = some (mkR (st, z)) := by unfold mkRs; rw [List.getElem?_map, hpi]; rfl
        have hat : atI (ts.map V.ref) ((0 : Int) + (i : Int)) = some (.ref tr) := by rw [Int.zero_add]; exact at_ref htr
        rw [firstF_at hRi, fits_mk, ← goodL_eq hs hz1] at hf
        refine @at_cons _ _ _ _ _ _ _ (@ps_asg _ _ _ _ _ _ (@pe_ix _ _ _ _ _ _ _ ix_list (pv 0) (pv 2) (fun _ _ => rfl)) (@pg_tup _ _ _ _ _ _ rfl (@pgs_cons _ _ _ _ _ (@pg_name _ _ 3 _ sc__law_first.nd rfl (Or.inl rfl) (by walk_at "u")) (@pgs_cons _ _ _ _ _ (@pg_name _ _ 4 _ sc__law_first.nd rfl (Or.inl rfl) (by walk_at "u")) pgs_nil (by walk_at "u")) (by walk_at "u")) (by walk_at "u") (by walk_at "u")) (by walk_at "u") (by walk_at "u") (by walk_at "u")) ⟨_, rfl, _, rfl, _, _, _, _, rfl, rfl, SqL.of (s1 _ _ hu), hat, tr, [.str st, .str z], rfl, SqT.of (s1 _ _ htup), rfl, _, _, rfl, _, _, rfl, rfl, ?_⟩
        show At _ _ _ [some (.ref u), some (.str row), some (.int (0 + (i : Int))), some (.str st), some (.str z), x5] H1
        -- good
        refine @at_consR _ _ _ _ _ _ _ (fun σ' H' => σ' = [some (.ref u), some (.str row), some (.int (0 + (i : Int))), some (.str st), some (.str z), some (.bl (if row = "" then decide (st = "end") else decide (st = "any" ∨ st = "still")))] ∧ Same H1 H') (@ps_set _ _ 5 _ _ _ _ sc__law_first.nd rfl (Or.inl rfl) (@pe_ifExp _ _ _ _ _ _ _ _ (@pt_cmpR _ _ _ _ _ _ _ _ op_eq (pv 1) pe_str (nomark _)) (@pe_cmpR _ _ _ _ _ _ _ _ op_eq (pv 3) pe_str (nomark _)) (@pe_cmpR _ _ _ _ _ _ _ _ op_in_seq (pv 3) (@pe_tup _ _ _ _ _ (@pa_cons _ _ _ _ _ pe_str (@pa_cons _ _ _ _ _ pe_str pa_nil (by walk_at "u")) (by walk_at "u"))) rfl)) (by walk_at "u") (by walk_at "u")) ?_ ?_
        · refine ⟨_, rfl, rfl, _, rfl, ifd (fun h => ?_) (fun h => ?_)⟩
          · refine ⟨_, rfl, rfl, ?_, Same.refl _⟩
            rw [if_pos (show row = "" from V.str.inj h), dec_str]
            rfl
          · refine ⟨_, rfl, by show 2 ≤ sizeLine; decide, fun pt hpt => ⟨pt, _, rfl, .inr (SqT.of upd_same), rfl, rfl, ?_, Same.upd hpt⟩⟩
            rw [if_neg (show ¬ row = "" from fun z => h (by rw [z]))]
            have hin : inV (.str st) [.str "any", .str "still"] = decide (st = "any" ∨ st = "still") := by
              rw [show ([.str "any", .str "still"] : List V) = (["any", "still"] : List Str).map V.str from rfl, inV_strs]
              simp only [List.mem_cons, List.not_mem_nil, or_false]
            show [_, _, _, _, _, some (V.bl (inV (.str st) [.str "any", .str "still"]))] = _
            rw [hin]
        rintro σ' H2 ⟨rfl, s2⟩
        have s2 := s1.trans s2
        refine @at_consR _ _ _ _ _ _ _ (fun σ' H' => σ' = [some (.ref u), some (.str row), some (.int (0 + (i : Int))), some (.str st), some (.str z), some (.bl (if row ≠ "" ∧ st = "word" then decide (PySem.Txt.slice row none (some (z.length : Int)) = z) else if row = "" then decide (st = "end") else decide (st = "any" ∨ st = "still")))] ∧ Same H H') (@ps_if _ _ _ _ _ _ _ _ (@PW.pt _ _ _ (@pw_and _ _ _ _ _ _ _ (@pt_cmpR _ _ _ _ _ _ _ _ op_ne (pv 1) pe_str (nomark _)) (@pw_and1 _ _ _ _ (@pt_cmpR _ _ _ _ _ _ _ _ op_eq (pv 3) pe_str (nomark _))))) pss_at pss_at) ?_ ?_
        · refine ⟨_, rfl, rfl, _, rfl, ifnd (fun h => ?_) (fun h => at_nil ⟨?_, s2⟩)⟩
          · have h : row ≠ "" := fun z => h (by rw [z])
            refine ⟨_, rfl, rfl, _, rfl, ifd (fun h2 => ?_) (fun h2 => at_nil ⟨?_, s2⟩)⟩
            · have h2 : st = "word" := V.str.inj h2
              refine @at_one _ _ _ _ _ _ (@ps_set _ _ 5 _ _ _ _ sc__law_first.nd rfl (Or.inl rfl) (@pe_cmpR _ _ _ _ _ _ _ _ op_eq (@pe_slice _ _ _ _ _ _ _ _ _ _ sl_str (pv 1) po_none (@po_some _ _ _ (@pe_callB _ _ _ _ _ _ _ _ _ call_len_str (by rfl) T.z_len (by decide +kernel) (@pa_cons _ _ _ _ _ (pv 4) pa_nil (by walk_at "u")) (by walk_at "u") (by walk_at "u") (by walk_at "u") (by walk_at "u")))) (pv 4) (nomark _)) (by walk_at "u") (by walk_at "u")) ⟨_, rfl, _, rfl, _, rfl, sl_le (by omega), _, rfl, _, rfl, sl_le (by omega), _, rfl, rfl, ?_, s2⟩
              rw [if_pos (show row ≠ "" ∧ st = "word" from ⟨h, h2⟩), dec_str]
              rfl
            · rw [if_neg (show ¬ (row ≠ "" ∧ st = "word") from fun z => h2 (by rw [z.2]))]
          · rw [if_neg (show ¬ (row ≠ "" ∧ st = "word") from fun z => z.1 (V.str.inj h))]
        rintro σ' H3 ⟨rfl, s3⟩
        refine @at_consR _ _ _ _ _ _ _ (fun σ' H' => σ' = [some (.ref u), some (.str row), some (.int (0 + (i : Int))), some (.str st), some (.str z), some (.bl (goodL st z row))] ∧ Same H H') (@ps_if _ _ _ _ _ _ _ _ (@PW.pt _ _ _ (@pw_and _ _ _ _ _ _ _ (@pt_cmpR _ _ _ _ _ _ _ _ op_ne (pv 1) pe_str (nomark _)) (@pw_and1 _ _ _ _ (@pt_cmpR _ _ _ _ _ _ _ _ op_in_seq (pv 3) (@pe_tup _ _ _ _ _ (@pa_strs _ _ ["one", "none", "many"] rfl)) rfl)))) pss_at pss_at) ?_ ?_
        · refine ⟨_, rfl, rfl, _, rfl, ifnd (fun h => ?_) (fun h => at_nil ⟨?_, s3⟩)⟩
          · have h : row ≠ "" := fun z => h (by rw [z])
            refine ⟨_, rfl, by show 3 ≤ sizeLine; decide, fun pt hpt => ⟨pt, _, rfl, .inr (SqT.of upd_same), rfl, rfl, _, rfl, ?_⟩⟩
            have s4 : Same H (upd H3 pt (.tup ((["one", "none", "many"] : List Str).map V.str))) := s3.to hpt
            generalize upd H3 pt (.tup ((["one", "none", "many"] : List Str).map V.str)) = H4 at s4
            have hin : inV (.str st) [.str "one", .str "none", .str "many"] = decide (st = "one" ∨ st = "none" ∨ st = "many") := by
              rw [show ([.str "one", .str "none", .str "many"] : List V) = (["one", "none", "many"] : List Str).map V.str from rfl, inV_strs]
              simp only [List.mem_cons, List.not_mem_nil, or_false]
            refine ifeq hin (ifd (fun h2 => ?_) (fun h2 => at_nil ⟨?_, s4⟩))
            · have hrl : 0 < row.length := by
                rw [← len_cps]
                cases e : row.cps.toList with
                | nil => exact absurd (str_ext (by rw [e]; decide +kernel)) h
                | cons c y => simp
              obtain ⟨c, e1, e2⟩ := strAt (row := row) (i := 0) (by omega) (by omega)
              refine @at_one _ _ _ _ _ _ (@ps_set _ _ 5 _ _ _ _ sc__law_first.nd rfl (Or.inl rfl) (@pe_cmpR _ _ _ _ _ _ _ _ op_ne (@pe_cmpR _ _ _ _ _ _ _ _ op_in_str (@pe_ix _ _ _ _ _ _ _ ix_str (pv 1) pe_int (fun _ _ => rfl)) (pv 4) rfl) (@pe_cmpR _ _ _ _ _ _ _ _ op_eq (pv 3) pe_str (nomark _)) (nomark _)) (by walk_at "u") (by walk_at "u")) ⟨_, rfl, _, _, c, rfl, rfl, sl_le (by omega), e2, _, rfl, _, _, rfl, rfl, _, rfl, rfl, rfl, ?_, s4⟩
              unfold goodL
              rw [if_pos (show row ≠ "" ∧ (st = "one" ∨ st = "none" ∨ st = "many") from ⟨h, h2⟩), PySem.StrLaws.found_one, dec_str]
              have e1' : row.cps.toList[0]? = some c := e1
              have hh : headIn z row = decide (c ∈ z.cps.toList) := by unfold headIn; rw [e1']
              rw [hh]
              by_cases hm : c ∈ z.cps.toList
              · by_cases hn : st = "none"
                · rw [decide_eq_true hm, decide_eq_true hn]; rfl
                · rw [decide_eq_true hm, decide_eq_false hn]; rfl
              · by_cases hn : st = "none"
                · rw [decide_eq_false hm, decide_eq_true hn]; rfl
                · rw [decide_eq_false hm, decide_eq_false hn]; rfl
            · unfold goodL
              rw [if_neg (show ¬ (row ≠ "" ∧ (st = "one" ∨ st = "none" ∨ st = "many")) from fun z => h2 z.2)]
          · unfold goodL
            rw [if_neg (show ¬ (row ≠ "" ∧ (st = "one" ∨ st = "none" ∨ st = "many")) from fun z => z.1 (V.str.inj h))]
        rintro σ' H4 ⟨rfl, s4⟩
        refine @at_one _ _ _ _ _ _ (@ps_if _ _ _ _ _ _ _ _ (@pt_val _ _ _ (pv 5) (by walk_at "u")) pss_at pss_at) ⟨_, rfl, _, rfl, ?_⟩
        by_cases hgd : goodL st z row = true
        · refine ifeq (c := true) hgd ?_
          rw [if_pos hgd] at hf
          have := q H4 s4
          unfold numL at this
          rw [hf] at this
          refine @at_one _ _ _ _ _ _ (@ps_ret _ _ _ _ (pv 2)) ⟨_, rfl, ?_⟩
          rw [Int.zero_add]
          exact this
        · refine ifeq (c := false) (Bool.eq_false_iff.mpr hgd) ?_
          rw [if_neg hgd] at hf
          exact at_nil ⟨⟨_, _, _, _, rfl⟩, s4, hf⟩
      · rintro σ' H1 ⟨_, s1, hf⟩
        rw [List.drop_eq_nil_of_le (by unfold mkRs; rw [List.length_map]; exact Nat.le_refl _)] at hf
        exact ⟨s1, hf⟩
    rintro σ' H1 ⟨s1, hf⟩
    have := q H1 s1
    unfold numL at this
    rw [hf] at this
    exact @at_one _ _ _ _ _ _ (@ps_ret _ _ _ _ (@pe_un _ _ _ _ _ _ un_neg pe_int)) ⟨_, rfl, this⟩
end
section
variable {P : Program} {w : World} {K : PySem.W.Frag} {mg : Str → Option Value} {base : Heap} {t : Adr}
theorem one_fine {c : Nat} (h : c ∈ sg94) : FineRow ⟨#[c]⟩ := fun d hd => by
  have : d = c := by simpa using hd
  rw [this]; exact h
theorem fine_app {x y : Str} (h1 : FineRow x) (h2 : FineRow y) : FineRow (x ++ y) := fun d hd => by
  rw [cps_app] at hd
  exact (List.mem_append.mp hd).elim (h1 d) (h2 d)
def FewOk (few : Str) : Prop := few.length ≤ 4 ∧ ∀ c ∈ few.cps.toList, c ∈ sg94
def Asked (xs : List Str) : Prop := ∀ x ∈ xs, FineRow x ∧ x.length ≤ 3
theorem Asked.snoc {xs : List Str} {x : Str} (h : Asked xs) (h1 : FineRow x) (h2 : x.length ≤ 3) : Asked (xs ++ [x]) := fun y hy => by
  rcases List.mem_append.mp hy with hy | hy
  · exact h y hy
  · rw [List.mem_singleton.mp hy]; exact ⟨h1, h2⟩
def spRows7 : Sp := fun vs H Q _ => ∃ few : Str, vs = [.str few] ∧ FewOk few ∧ ∀ (l : Addr) (xs : List Str) H', H' l = some (.lst (xs.map V.str)) → Asked xs → xs.length ≤ 300 → H l = none → Same H H' → Q (.ref l) H'
theorem ok__law_rows (T : Txt K mg t) : FnOk P w K mg base CX0 2 t.f__law_rows t.d__law_rows ["_law_few"] spRows7 := by
  refine T.F__law_rows.ok sc__law_rows (fun vs H Q E h => ?_) (fun cdv A outer s H vs Q E hr h => at_body ?_)
  · obtain ⟨few, rfl, _⟩ := h
    rfl
  · obtain ⟨few, rfl, ⟨hfl, hfc⟩, q⟩ := h
    have sz := sizeLine_eq
    have aL := all_len
    refine @at_consR _ _ _ _ _ _ _ (fun σ' H' => ∃ (l : Addr) (xs : List Str), σ' = [some (.str few), some (.ref l), none, none, none] ∧ H' l = some (.lst (xs.map V.str)) ∧ Asked xs ∧ xs.length = 95 ∧ H l = none ∧ Same H H') (@ps_set _ _ 1 _ _ _ _ sc__law_rows.nd rfl (Or.inl rfl) (@pe_op _ _ _ _ _ _ _ _ op_cat (@pe_lst _ _ _ _ (@pa_cons _ _ _ _ _ pe_str (@pa_cons _ _ _ _ _ pe_str pa_nil (by walk_at "u")) (by walk_at "u"))) (@pe_callTy _ _ _ _ _ _ _ _ _ (call_listS rfl) (by rfl) T.z_list (by decide +kernel) (@pa_cons _ _ _ _ _ (@pe_call0 _ _ _ _ _ _ _ _ _ _ _ _ _ (ok__law_all T) (hr.mono (by decide)) rfl T.mg__law_all T.F__law_all.kp (bd__law_all T) .nil pass0 (by walk_at "u")) pa_nil (by walk_at "u")) (by walk_at "u") (by walk_at "u") (by walk_at "u") (by walk_at "u"))) (by walk_at "u") (by walk_at "u")) ?_ ?_
    · refine ⟨by show 2 ≤ sizeLine; decide, fun l1 h1 => ⟨rfl, allS, rfl, by omega, fun l2 h2 => ?_⟩⟩
      refine ⟨l1, l2, _, _, rfl, rfl, Same.upd h2 _ _ upd_same, upd_same, sl_le (by simp only [signsV, List.length_map, List.length_cons, List.length_nil]; rw [len_cps]; omega), fun l hl => ⟨l, (["", "_"] : List Str) ++ allS.cps.toList.map (fun c => (⟨#[c]⟩ : Str)), rfl, ?_, ?_, ?_, ((Same.upd h1).to h2).free hl, ((Same.upd h1).to h2).to hl⟩⟩
      · rw [upd_same, List.map_append, List.map_map]
        rfl
      · intro x hx
        rcases List.mem_append.mp hx with hx | hx
        · have : ∀ y ∈ (["", "_"] : List Str), (∀ c ∈ y.cps.toList, c ∈ sg94) ∧ y.length ≤ 3 := by decide +kernel
          exact this x hx
        · obtain ⟨c, hc, rfl⟩ := List.mem_map.mp hx
          exact ⟨one_fine (all_ok c hc).1, by show 1 ≤ 3; decide⟩
      · rw [List.length_append, List.length_map, len_cps]
        show 2 + allS.length = 95
        omega
    rintro σ' H1 ⟨l, xs, rfl, hl1, hx1, hxl, hl0, s1⟩
    have two : (PySem.Txt.slice few none (some 2)).cps.toList = few.cps.toList.take 2 := slice_cps few 2
    have two2 : (PySem.Txt.slice few none (some 2)).length ≤ 2 := by rw [← len_cps, two, List.length_take]; omega
    refine @at_consR _ _ _ _ _ _ _ (fun σ' H' => (∃ x2 x3 x4, σ' = [some (.str few), some (.ref l), x2, x3, x4]) ∧ ∃ xs : List Str, H' l = some (.lst (xs.map V.str)) ∧ Asked xs ∧ xs.length ≤ 300 ∧ Same H H') (@ps_forA _ _ _ _ _ _ _ _ PassesOwn.never rfl (@pi_str _ _ _ _ _ (pv 0)) (@pg_name _ _ 2 _ sc__law_rows.nd rfl (Or.inl rfl) (by walk_at "u")) pss_at (by walk_at "u")) ?_ ?_
    · refine ⟨_, rfl, few, rfl, forW_str (fun i σ' H' => (∃ x2 x3 x4, σ' = [some (.str few), some (.ref l), x2, x3, x4]) ∧ ∃ xs : List Str, H' l = some (.lst (xs.map V.str)) ∧ Asked xs ∧ xs.length ≤ 95 + 12 * i ∧ Same H H') ⟨⟨_, _, _, rfl⟩, xs, hl1, hx1, by omega, s1⟩ ?_ ?_⟩
      · rintro i c σ' H2 hc ⟨⟨x2, x3, x4, rfl⟩, xs, hl2, hx2, hxl2, s2⟩
        have hi := (List.getElem?_eq_some_iff.mp hc).1
        rw [len_cps] at hi
        have c1 := hfc c (List.mem_of_getElem? hc)
        refine @at_one _ _ _ _ _ _ (@ps_forA _ _ _ _ _ _ _ _ PassesOwn.never rfl (@pi_str _ _ _ _ _ (pv 0)) (@pg_name _ _ 3 _ sc__law_rows.nd rfl (Or.inl rfl) (by walk_at "u")) pss_at (by walk_at "u")) ⟨_, rfl, few, rfl, forW_str (fun j σ' H' => (∃ x3 x4, σ' = [some (.str few), some (.ref l), some (.str ⟨#[c]⟩), x3, x4]) ∧ ∃ xs : List Str, H' l = some (.lst (xs.map V.str)) ∧ Asked xs ∧ xs.length ≤ 95 + 12 * i + 3 * j ∧ Same H H') ⟨⟨_, _, rfl⟩, xs, hl2, hx2, by omega, s2⟩ ?_ ?_⟩
        · rintro j d σ' H3 hd ⟨⟨x3, x4, rfl⟩, xs, hl3, hx3, hxl3, s3⟩
          have hj := (List.getElem?_eq_some_iff.mp hd).1
          rw [len_cps] at hj
          have d1 := hfc d (List.mem_of_getElem? hd)
          refine @at_cons _ _ _ _ _ _ _ (@ps_expr _ _ _ _ (@pe_bm _ _ _ _ _ _ _ _ _ _ _ _ PySem.F.plainAttrs_list PySem.F.slot_list_append PySem.F.type_list_append mt_append (pv 1) (@pa_cons _ _ _ _ _ (@pe_op _ _ _ _ _ _ _ _ op_add_str (pv 2) (pv 3)) pa_nil (by walk_at "u")) (by walk_at "u") (by walk_at "u") (by walk_at "u") (by walk_at "u") (by walk_at "u")) (by walk_at "u")) ⟨_, rfl, .inl ⟨rfl, _, SqL.of hl3⟩, _, rfl, _, rfl, _, _, rfl, rfl, sl_le (by show 1 + 1 ≤ _; omega), l, _, _, rfl, rfl, hl3, sl_lt (by rw [List.length_map]; omega), ?_⟩
          have hx4 : Asked (xs ++ [(⟨#[c]⟩ : Str) ++ ⟨#[d]⟩]) := hx3.snoc (fine_app (one_fine c1) (one_fine d1)) (by show 2 ≤ 3; decide)
          have hl4 : upd H3 l (.lst (xs.map V.str ++ [.str ((⟨#[c]⟩ : Str) ++ ⟨#[d]⟩)])) l = some (.lst ((xs ++ [(⟨#[c]⟩ : Str) ++ ⟨#[d]⟩]).map V.str)) := by rw [upd_same, List.map_append]; rfl
          have s4 : Same H (upd H3 l (.lst (xs.map V.str ++ [.str ((⟨#[c]⟩ : Str) ++ ⟨#[d]⟩)]))) := fun b o hb => by rw [upd_ne (ne_of_none hb hl0)]; exact s3 _ _ hb
          have hxl4 : (xs ++ [(⟨#[c]⟩ : Str) ++ ⟨#[d]⟩]).length ≤ 95 + 12 * i + 3 * j + 1 := by rw [List.length_append]; show _ + 1 ≤ _; omega
          generalize upd H3 l (.lst (xs.map V.str ++ [.str ((⟨#[c]⟩ : Str) ++ ⟨#[d]⟩)])) = H4 at hl4 s4
          generalize xs ++ [(⟨#[c]⟩ : Str) ++ ⟨#[d]⟩] = xs4 at hx4 hl4 hxl4
          refine @at_one _ _ _ _ _ _ (@ps_forA _ _ _ _ _ _ _ _ PassesOwn.never rfl (@pi_str _ _ _ _ _ (@pe_slice _ _ _ _ _ _ _ _ _ _ sl_str (pv 0) po_none (@po_some _ _ _ pe_int))) (@pg_name _ _ 4 _ sc__law_rows.nd rfl (Or.inl rfl) (by walk_at "u")) pss_at (by walk_at "u")) ⟨_, rfl, _, rfl, _, rfl, sl_le (by omega), _, rfl, forW_str (fun k σ' H' => (∃ x4, σ' = [some (.str few), some (.ref l), some (.str ⟨#[c]⟩), some (.str ⟨#[d]⟩), x4]) ∧ ∃ xs : List Str, H' l = some (.lst (xs.map V.str)) ∧ Asked xs ∧ xs.length ≤ 95 + 12 * i + 3 * j + 1 + k ∧ Same H H') ⟨⟨_, rfl⟩, xs4, hl4, hx4, by omega, s4⟩ ?_ ?_⟩
          · rintro k e σ' H5 he ⟨⟨x4, rfl⟩, xs5, hl5, hx5, hxl5, s5⟩
            have hk := (List.getElem?_eq_some_iff.mp he).1
            rw [len_cps] at hk
            have he2 : e ∈ few.cps.toList := by
              have := List.mem_of_getElem? he
              rw [two] at this
              exact List.mem_of_mem_take this
            have e1 := hfc e he2
            refine @at_one _ _ _ _ _ _ (@ps_expr _ _ _ _ (@pe_bm _ _ _ _ _ _ _ _ _ _ _ _ PySem.F.plainAttrs_list PySem.F.slot_list_append PySem.F.type_list_append mt_append (pv 1) (@pa_cons _ _ _ _ _ (@pe_op _ _ _ _ _ _ _ _ op_add_str (@pe_op _ _ _ _ _ _ _ _ op_add_str (pv 2) (pv 3)) (pv 4)) pa_nil (by walk_at "u")) (by walk_at "u") (by walk_at "u") (by walk_at "u") (by walk_at "u") (by walk_at "u")) (by walk_at "u")) ⟨_, rfl, .inl ⟨rfl, _, SqL.of hl5⟩, _, rfl, _, rfl, _, _, rfl, rfl, sl_le (by show 1 + 1 ≤ _; omega), _, rfl, _, _, rfl, rfl, sl_le (by show 2 + 1 ≤ _; omega), l, _, _, rfl, rfl, hl5, sl_lt (by rw [List.length_map]; omega), ⟨_, rfl⟩, xs5 ++ [(⟨#[c]⟩ : Str) ++ ⟨#[d]⟩ ++ ⟨#[e]⟩], by rw [upd_same, List.map_append]; rfl, hx5.snoc (fine_app (fine_app (one_fine c1) (one_fine d1)) (one_fine e1)) (by show 3 ≤ 3; decide), by rw [List.length_append]; show _ + 1 ≤ _; omega, fun b o hb => ?_⟩
            rw [upd_ne (ne_of_none hb hl0)]; exact s5 _ _ hb
          · rintro σ' H5 ⟨⟨x4, rfl⟩, xs5, hl5, hx5, hxl5, s5⟩
            exact ⟨⟨_, _, rfl⟩, xs5, hl5, hx5, by omega, s5⟩
        · rintro σ' H3 ⟨⟨x3, x4, rfl⟩, xs3, hl3, hx3, hxl3, s3⟩
          exact ⟨⟨_, _, _, rfl⟩, xs3, hl3, hx3, by omega, s3⟩
      · rintro σ' H2 ⟨h1, xs2, hl2, hx2, hxl2, s2⟩
        exact ⟨h1, xs2, hl2, hx2, by omega, s2⟩
    rintro σ' H2 ⟨⟨x2, x3, x4, rfl⟩, xs2, hl2, hx2, hxl2, s2⟩
    exact @at_one _ _ _ _ _ _ (@ps_ret _ _ _ _ (pv 1)) ⟨_, rfl, q l xs2 H2 hl2 hx2 hxl2 hl0 s2⟩
end
section
variable {P : Program} {w : World} {K : PySem.W.Frag} {mg : Str → Option Value} {base : Heap} {t : Adr}
theorem join_signs : ∀ (cs : List Nat), (Str.join "" (cs.map fun c => (⟨#[c]⟩ : Str))).cps.toList = cs
  | [] => by decide +kernel
  | [c] => rfl
  | c :: d :: r => by
    have ih := join_signs (d :: r)
    show ((⟨#[c]⟩ : Str) ++ "" ++ Str.join "" ((d :: r).map fun c => (⟨#[c]⟩ : Str))).cps.toList = _
    rw [cps_app, cps_app, ih, show (Str.ofString "").cps.toList = [] from by decide +kernel]
    rfl
theorem signs_sum : ∀ (cs : List Nat), ((cs.map fun c => (⟨#[c]⟩ : Str)).map (·.length)).sum = cs.length
  | [] => rfl
  | c :: r => by
    rw [List.map_cons, List.map_cons, List.sum_cons, signs_sum r, List.length_cons]
    show 1 + _ = _
    omega
open Classical in
noncomputable def hid (S : Addr → Prop) (H : Hp) : Hp := fun b => if S b then none else H b
theorem hid_same {S : Addr → Prop} {H : Hp} : Same (hid S H) H := fun b o h => by
  unfold hid at h
  split at h
  · cases h
  · exact h
theorem hid_of {S : Addr → Prop} {H : Hp} {b : Addr} {o : HO} (h : H b = some o) (n : ¬ S b) : hid S H b = some o := by
  unfold hid
  rw [if_neg n]
  exact h
theorem hid_no {S : Addr → Prop} {H : Hp} {b : Addr} {o : HO} (h : hid S H b = some o) : ¬ S b := fun z => by
  unfold hid at h
  rw [if_pos z] at h
  cases h
theorem hid_two {S : Addr → Prop} {H H' : Hp} (s : Same H H') : Same (hid S H) (hid S H') := fun b o h => hid_of (s _ _ (hid_same _ _ h)) (hid_no h)
theorem hid_upd {S : Addr → Prop} {H : Hp} {l : Addr} {o : HO} (hl : S l) : hid S (upd H l o) = hid S H := by
  funext b
  unfold hid
  split
  · rfl
  · rename_i h; rw [upd_ne (fun z => h (by rw [z]; exact hl))]
theorem hid_less {S S' : Addr → Prop} {H : Hp} (h : ∀ b, S b → S' b) : Same (hid S' H) (hid S H) := fun b o e => hid_of (hid_same _ _ e) (fun z => hid_no e (h b z))
theorem Same.up {G H : Hp} {x : Addr} {o : HO} (s : Same G H) (h : G x = none) : Same G (L2.upd H x o) := fun b u e => by rw [upd_ne (ne_of_none e h)]; exact s b u e
theorem tup_upd {H : Hp} {l : Addr} {xs ys : List V} (h : H l = some (.lst xs)) : ∀ b zs, H b = some (.tup zs) → upd H l (.lst ys) b = some (.tup zs) := fun b zs e => by
  rw [upd_ne (ne_of e h (by intro z; cases z))]; exact e
def Drawn (pm : List (List (Str × Str))) : Prop := ∀ ps ∈ pm, 1 ≤ ps.length ∧ ps.length ≤ 7 ∧ ∀ p ∈ ps, GoodPr p
theorem join_sg {cs : List Nat} (h1 : 1 ≤ cs.length) (h2 : cs.length ≤ 3) (h : ∀ c ∈ cs, c ∈ allS.cps.toList) : Sg (Str.join (Str.ofString "") (cs.map fun c => (⟨#[c]⟩ : Str))) := by
  have e : (Str.join (Str.ofString "") (cs.map fun c => (⟨#[c]⟩ : Str))).cps.toList = cs := join_signs cs
  have el : (Str.join (Str.ofString "") (cs.map fun c => (⟨#[c]⟩ : Str))).length = cs.length := by rw [← len_cps, e]
  exact ⟨by omega, by omega, fun c hc => by rw [e] at hc; exact h c hc⟩
theorem few_ok {f : Nat} (hf : f < 89) : FewOk (PySem.Txt.slice allS (some (f : Int)) (some ((f : Int) + 4))) := by
  have aL := all_len
  have := eq_of_beq (PyProof.Rows.slice_closesL (x := allS) (i := (f : Int)) (j := (f : Int) + 4) (by omega) (by omega) (by omega))
  rw [this]
  refine ⟨?_, fun c hc => ?_⟩
  · show ((allS.cps.toList.drop (f : Int).toNat).take ((f : Int) + 4 - (f : Int)).toNat).toArray.size ≤ 4
    rw [List.size_toArray, List.length_take]
    omega
  · have hc : c ∈ ((allS.cps.toList.drop (f : Int).toNat).take ((f : Int) + 4 - (f : Int)).toNat) := by simpa using hc
    exact (all_ok c (List.mem_of_mem_drop (List.mem_of_mem_take hc))).1
def spRules7 (K : PySem.W.Frag) : Sp := fun vs H Q _ => ∃ (a : Addr) (ns : List Int) (n : Nat), vs = [.ref a, .int n] ∧ SqL K H a (ns.map V.int) ∧ ns.length ≤ 63 ∧ n ≤ 3 ∧
  ∀ tp lm few pm H', H' tp = some (.tup [.ref lm, .str few]) → PMs H' lm pm → pm.length = n → Drawn pm → FewOk few → H lm = none → Same H H' → Q (.ref tp) H'
abbrev sorts9 : List Str := ["word", "word", "word", "one", "none", "many", "any", "still", "end"]
theorem ok__law_rules (T : Txt K mg t) : FnOk P w K mg base CX0 3 t.f__law_rules t.d__law_rules ["_law_script", "_law_many"] (spRules7 K) := by
  refine T.F__law_rules.ok sc__law_rules (fun vs H Q E h => ?_) (fun cdv A outer s H vs Q E hr h => at_body ?_)
  · obtain ⟨a, ns, n, rfl, _⟩ := h
    rfl
  · obtain ⟨a, ns, n, rfl, hS, hl, hn, q⟩ := h
    have sz := sizeLine_eq
    have aL := all_len
    refine @at_cons _ _ _ _ _ _ _ (@ps_set _ _ 2 _ _ _ _ sc__law_rules.nd rfl (Or.inr rfl) (@pe_call _ _ _ _ _ _ _ _ _ _ _ _ _ _ _ _ (ok__law_draw T) (hr.mono (by decide)) rfl T.mg__law_draw T.F__law_draw.kp (bd__law_draw T) .nil pass0 (@pa_cons _ _ _ _ _ (pv 0) (@pa_cons _ _ _ _ _ pe_int (@pa_cons _ _ _ _ _ (@pe_op _ _ _ _ _ _ _ _ op_sub (@pe_callB _ _ _ _ _ _ _ _ _ call_len_str (by rfl) T.z_len (by decide +kernel) (@pa_cons _ _ _ _ _ (@pe_call0 _ _ _ _ _ _ _ _ _ _ _ _ _ (ok__law_all T) (hr.mono (by decide)) rfl T.mg__law_all T.F__law_all.kp (bd__law_all T) .nil pass0 (by walk_at "u")) pa_nil (by walk_at "u")) (by walk_at "u") (by walk_at "u") (by walk_at "u") (by walk_at "u")) pe_int) pa_nil (by walk_at "u")) (by walk_at "u")) (by walk_at "u")) (by walk_at "u") (by walk_at "u") (by walk_at "u")) (by walk_at "u") (by walk_at "u")) ⟨_, rfl, rfl, _, rfl, sl_le (by omega), _, _, rfl, rfl, a, ns, _, _, rfl, hS, (by decide), (by decide), (by omega), (by omega), hl, fun d H1 h0 h1 s1 => ?_⟩
    obtain ⟨f, rfl⟩ : ∃ f : Nat, d = f := ⟨d.toNat, by omega⟩
    have hf : f < 89 := by omega
    refine @at_cons _ _ _ _ _ _ _ (@ps_set _ _ 3 _ _ _ _ sc__law_rules.nd rfl (Or.inl rfl) (@pe_lst _ _ _ _ pa_nil) (by walk_at "u") (by walk_at "u")) ⟨by show 0 ≤ sizeLine; decide, fun lm hlm => ?_⟩
    have s2 : Same H (upd H1 lm (.lst [])) := s1.to hlm
    have hm2 : upd H1 lm (.lst []) lm = some (.lst (([] : List Addr).map V.ref)) := upd_same
    have hlm0 : H lm = none := s1.free hlm
    generalize upd H1 lm (.lst []) = H2 at s2 hm2
    show At _ _ _ [some (.ref a), some (.int n), some (.int f), some (.ref lm), none, none, none, none, none, none] H2
    refine @at_consR _ _ _ _ _ _ _ (fun σ' H' => (∃ x4 x5 x6 x7 x8 x9, σ' = [some (.ref a), some (.int n), some (.int f), some (.ref lm), x4, x5, x6, x7, x8, x9]) ∧ ∃ pm, PMs H' lm pm ∧ pm.length = n ∧ Drawn pm ∧ Same H H') (@ps_forA _ _ _ _ _ _ _ _ PassesOwn.never rfl (@pi_range1 _ _ _ _ _ _ rfl T.z_range (@pa_cons _ _ _ _ _ (pv 1) pa_nil (by walk_at "u")) (by walk_at "u")) (@pg_name _ _ 4 _ sc__law_rules.nd rfl (Or.inl rfl) (by walk_at "u")) pss_at (by walk_at "u")) ?_ ?_
    · refine ⟨_, rfl, n, rfl, by omega, by omega, ?_⟩
      rw [Int.toNat_natCast]
      refine forW_range (n := n) (fun k σ' H' => (∃ x4 x5 x6 x7 x8 x9, σ' = [some (.ref a), some (.int n), some (.int f), some (.ref lm), x4, x5, x6, x7, x8, x9]) ∧ ∃ (us : List Addr) (pm : List (List (Str × Str))), H' lm = some (.lst (us.map V.ref)) ∧ us.Nodup ∧ All2 (PM1 (hid (fun c => c = lm) H')) us pm ∧ pm.length = k ∧ Drawn pm ∧ Same H H') ⟨⟨_, _, _, _, _, _, rfl⟩, [], [], hm2, List.nodup_nil, All2.nil, rfl, (fun ps hps => by simp at hps), s2⟩ ?_ ?_
      · rintro k σ' H3 hk ⟨⟨x4, x5, x6, x7, x8, x9, rfl⟩, us, pm, hm3, hnd, hA3, hpk, hD, s3⟩
        have hul : us.length = k := by rw [hA3.1, hpk]
        refine @at_cons _ _ _ _ _ _ _ (@ps_expr _ _ _ _ (@pe_bm _ _ _ _ _ _ _ _ _ _ _ _ PySem.F.plainAttrs_list PySem.F.slot_list_append PySem.F.type_list_append mt_append (pv 3) (@pa_cons _ _ _ _ _ (@pe_lst _ _ _ _ pa_nil) pa_nil (by walk_at "u")) (by walk_at "u") (by walk_at "u") (by walk_at "u") (by walk_at "u") (by walk_at "u")) (by walk_at "u")) ⟨_, rfl, .inl ⟨rfl, _, SqL.of hm3⟩, by show 0 ≤ sizeLine; decide, fun u hu => ⟨lm, _, _, rfl, rfl, Same.upd hu _ _ hm3, sl_lt (by rw [List.length_map]; omega), ?_⟩⟩
        have nul : u ≠ lm := Ne.symm (ne_of_none hm3 hu)
        have hu0 : H u = none := s3.free hu
        have nus : u ∉ us := fun z => by
          obtain ⟨i, hi⟩ := List.mem_iff_getElem?.mp z
          obtain ⟨ps, hps⟩ : ∃ p, pm[i]? = some p := ⟨pm[i]'(by rw [← hA3.1]; exact (List.getElem?_eq_some_iff.mp hi).1), List.getElem?_eq_getElem _⟩
          obtain ⟨ts, e, _⟩ := hA3.2 i u ps hi hps
          rw [hid_same _ _ e] at hu
          cases hu
        -- amid a mode
        have hm4 : upd (upd H3 u (.lst [])) lm (.lst (us.map V.ref ++ [.ref u])) lm = some (.lst ((us ++ [u]).map V.ref)) := by rw [upd_same, List.map_append]; rfl
        have hu4 : upd (upd H3 u (.lst [])) lm (.lst (us.map V.ref ++ [.ref u])) u = some (.lst (([] : List Addr).map V.ref)) := by rw [upd_ne nul, upd_same]; rfl
        have hA4 : All2 (PM1 (hid (fun c => c = lm ∨ c = u) (upd (upd H3 u (.lst [])) lm (.lst (us.map V.ref ++ [.ref u]))))) us pm := by
          rw [hid_upd (S := fun c => c = lm ∨ c = u) (.inl rfl), hid_upd (S := fun c => c = lm ∨ c = u) (.inr rfl)]
          refine hA3.mono fun x ps hx => hx.same fun b o hb => hid_of (hid_same _ _ hb) (fun z => z.elim (hid_no (S := fun c => c = lm) hb) (ne_of_none (hid_same _ _ hb) hu))
        have s4 : Same H (upd (upd H3 u (.lst [])) lm (.lst (us.map V.ref ++ [.ref u]))) := Same.up (s3.to hu) hlm0
        generalize upd (upd H3 u (.lst [])) lm (.lst (us.map V.ref ++ [.ref u])) = H4 at hm4 hu4 hA4 s4
        refine @at_one _ _ _ _ _ _ (@ps_forA _ _ _ _ _ _ _ _ PassesOwn.never rfl (@pi_range1 _ _ _ _ _ _ rfl T.z_range (@pa_cons _ _ _ _ _ (@pe_op _ _ _ _ _ _ _ _ op_add pe_int (@pe_call _ _ _ _ _ _ _ _ _ _ _ _ _ _ _ _ (ok__law_draw T) (hr.mono (by decide)) rfl T.mg__law_draw T.F__law_draw.kp (bd__law_draw T) .nil pass0 (@pa_cons _ _ _ _ _ (pv 0) (@pa_cons _ _ _ _ _ (@pe_op _ _ _ _ _ _ _ _ op_add pe_int (pv 4)) (@pa_cons _ _ _ _ _ pe_int pa_nil (by walk_at "u")) (by walk_at "u")) (by walk_at "u")) (by walk_at "u") (by walk_at "u") (by walk_at "u"))) pa_nil (by walk_at "u")) (by walk_at "u")) (@pg_name _ _ 5 _ sc__law_rules.nd rfl (Or.inl rfl) (by walk_at "u")) pss_at (by walk_at "u")) ⟨_, rfl, _, rfl, _, _, rfl, rfl, a, ns, _, _, rfl, hS.same s4, (by omega), (by omega), (by decide), (by decide), hl, fun d5 H5 h5 h6 s5 => ⟨_, _, rfl, rfl, 1 + d5, rfl, by omega, by omega, ?_⟩⟩
        refine forW_range (n := (1 + d5).toNat) (fun i σ' H' => (∃ x5 x6 x7 x8 x9, σ' = [some (.ref a), some (.int n), some (.int f), some (.ref lm), some (.int (0 + (k : Int))), x5, x6, x7, x8, x9]) ∧ ∃ (ts : List Addr) (ps : List (Str × Str)), H' lm = some (.lst ((us ++ [u]).map V.ref)) ∧ H' u = some (.lst (ts.map V.ref)) ∧ All2 (fun tr (p : Str × Str) => H' tr = some (.tup [.str p.1, .str p.2])) ts ps ∧ ps.length = i ∧ (∀ p ∈ ps, GoodPr p) ∧ All2 (PM1 (hid (fun c => c = lm ∨ c = u) H')) us pm ∧ Same H H') ⟨⟨_, _, _, _, _, rfl⟩, [], [], s5 _ _ hm4, s5 _ _ hu4, All2.nil, rfl, (fun p hp => by simp at hp), hA4.mono fun _ _ z => z.same (hid_two s5), s4.trans s5⟩ ?_ ?_
        · rintro i σ' H6 hi ⟨⟨x5, x6, x7, x8, x9, rfl⟩, ts, ps, hm6, hu6, hT6, hpi, hg6, hA6, s6⟩
          have hi8 : i < 8 := by omega
          have hS6 := hS.same s6
          refine @at_cons _ _ _ _ _ _ _ (@ps_set _ _ 6 _ _ _ _ sc__law_rules.nd rfl (Or.inr rfl) (@pe_op _ _ _ _ _ _ _ _ op_add (@pe_op _ _ _ _ _ _ _ _ op_add pe_int (@pe_op _ _ _ _ _ _ _ _ op_mul pe_int (pv 4))) (@pe_op _ _ _ _ _ _ _ _ op_mul pe_int (pv 5))) (by walk_at "u") (by walk_at "u")) ⟨_, rfl, _, _, rfl, rfl, .inl ⟨by decide, by decide⟩, _, _, rfl, rfl, _, rfl, _, _, rfl, rfl, .inl ⟨by decide, by decide⟩, _, _, rfl, rfl, ?_⟩
          obtain ⟨b, hb⟩ : ∃ b : Int, (100 : Int) + 80 * (0 + (k : Int)) + 10 * (0 + (i : Int)) = b := ⟨_, rfl⟩
          have hb0 : 0 ≤ b ∧ b ≤ 1000 := by omega
          show At _ _ _ [some (.ref a), some (.int n), some (.int f), some (.ref lm), some (.int (0 + (k : Int))), some (.int (0 + (i : Int))), some (.int (100 + 80 * (0 + (k : Int)) + 10 * (0 + (i : Int)))), x7, x8, x9] H6
          rw [hb]
          refine @at_consR _ _ _ _ _ _ _ (fun σ' H' => ∃ st : Str, st ∈ sorts ∧ σ' = [some (.ref a), some (.int n), some (.int f), some (.ref lm), some (.int (0 + (k : Int))), some (.int (0 + (i : Int))), some (.int b), some (.str st), x8, x9] ∧ Same H6 H') (@ps_set _ _ 7 _ _ _ _ sc__law_rules.nd rfl (Or.inl rfl) (@pe_ix _ _ _ _ _ _ _ ix_list (@pe_lst _ _ _ _ (@pa_strs _ _ ["word", "word", "word", "one", "none", "many", "any", "still", "end"] rfl)) (@pe_call _ _ _ _ _ _ _ _ _ _ _ _ _ _ _ _ (ok__law_draw T) (hr.mono (by decide)) rfl T.mg__law_draw T.F__law_draw.kp (bd__law_draw T) .nil pass0 (@pa_cons _ _ _ _ _ (pv 0) (@pa_cons _ _ _ _ _ (pv 6) (@pa_cons _ _ _ _ _ pe_int pa_nil (by walk_at "u")) (by walk_at "u")) (by walk_at "u")) (by walk_at "u") (by walk_at "u") (by walk_at "u")) (fun _ _ => rfl)) (by walk_at "u") (by walk_at "u")) ?_ ?_
          · refine ⟨by show 9 ≤ sizeLine; decide, fun l0 hl0 => ⟨_, rfl, _, rfl, a, ns, _, _, rfl, hS6.same (Same.upd hl0), (by omega), (by omega), (by decide), (by decide), hl, fun d7 H7 h7 h8 s7 => ?_⟩⟩
            obtain ⟨st, hst, hat⟩ := pick (xs := sorts9) h7 (by show d7 < 9; omega)
            have hst2 : st ∈ sorts := (by decide +kernel : ∀ x ∈ sorts9, x ∈ sorts) st hst
            exact ⟨_, _, _, _, rfl, rfl, SqL.of (s7 _ _ upd_same), hat, st, hst2, rfl, (Same.upd hl0).trans s7⟩
          rintro σ' H7 ⟨st, hst, rfl, s7⟩
          refine @at_cons _ _ _ _ _ _ _ (@ps_set _ _ 8 _ _ _ _ sc__law_rules.nd rfl (Or.inl rfl) (@pe_call _ _ _ _ _ _ _ _ _ _ _ _ _ _ _ _ (ok__law_signs T) (hr.mono (by decide)) rfl T.mg__law_signs T.F__law_signs.kp (bd__law_signs T) .nil pass0 (@pa_cons _ _ _ _ _ (pv 0) (@pa_cons _ _ _ _ _ (pv 6) (@pa_cons _ _ _ _ _ (pv 2) pa_nil (by walk_at "u")) (by walk_at "u")) (by walk_at "u")) (by walk_at "u") (by walk_at "u") (by walk_at "u")) (by walk_at "u") (by walk_at "u")) ⟨_, rfl, _, rfl, _, rfl, a, ns, _, _, rfl, hS6.same s7, hl, (by omega), (by omega), (by omega), (by omega), fun z H8 hz s8 => ?_⟩
          have s8 := s7.trans s8
          refine @at_consR _ _ _ _ _ _ _ (fun σ' H' => ∃ (z : Str) (x9 : Option V), Sg z ∧ σ' = [some (.ref a), some (.int n), some (.int f), some (.ref lm), some (.int (0 + (k : Int))), some (.int (0 + (i : Int))), some (.int b), some (.str st), some (.str z), x9] ∧ Same H6 H') (@ps_if _ _ _ _ _ _ _ _ (@pt_cmpR _ _ _ _ _ _ _ _ op_eq (pv 7) pe_str (nomark _)) pss_at pss_at) ?_ ?_
          · refine ⟨_, rfl, rfl, _, rfl, ifd (fun h => ?_) (fun h => at_nil ⟨z, _, hz, rfl, s8⟩)⟩
            refine @at_cons _ _ _ _ _ _ _ (@ps_set _ _ 9 _ _ _ _ sc__law_rules.nd rfl (Or.inl rfl) (@pe_op _ _ _ _ _ _ _ _ op_add pe_int (@pe_call _ _ _ _ _ _ _ _ _ _ _ _ _ _ _ _ (ok__law_draw T) (hr.mono (by decide)) rfl T.mg__law_draw T.F__law_draw.kp (bd__law_draw T) .nil pass0 (@pa_cons _ _ _ _ _ (pv 0) (@pa_cons _ _ _ _ _ (@pe_op _ _ _ _ _ _ _ _ op_add (pv 6) pe_int) (@pa_cons _ _ _ _ _ pe_int pa_nil (by walk_at "u")) (by walk_at "u")) (by walk_at "u")) (by walk_at "u") (by walk_at "u") (by walk_at "u"))) (by walk_at "u") (by walk_at "u")) ⟨_, rfl, _, rfl, _, _, rfl, rfl, a, ns, _, _, rfl, hS6.same s8, (by omega), (by omega), (by decide), (by decide), hl, fun d9 H9 h9 h10 s9 => ⟨_, _, rfl, rfl, ?_⟩⟩
            have s9 := s8.trans s9
            refine @at_one _ _ _ _ _ _ (@ps_set _ _ 8 _ _ _ _ sc__law_rules.nd rfl (Or.inl rfl) (@pe_bm _ _ _ _ _ _ _ _ _ _ _ _ PySem.F.plainAttrs_str PySem.F.slot_str_join PySem.F.type_str_join mt_join pe_str (@pa_cons _ _ _ _ _ (@pe_comp _ (defScope s__law_rules) _ ["_law_script", "_law_many", "_law_first_here", "_law_modes", "_law_k", "_law_i", "_law_base", "_law_sort", "_law_signs_here", "_law_size"] _ _ ("_law_j") _ _ [("_law_first_here", 2), ("_law_script", 0), ("_law_base", 6)] _ _ (by walk_at "ck") (@pi_range1 _ _ _ _ _ _ rfl T.z_range (@pa_cons _ _ _ _ _ (pv 9) pa_nil (by walk_at "u")) (by walk_at "u")) (fun _ _ _ _ => by exact (@pe_ix _ _ _ _ _ _ _ ix_str (@pe_call0 _ _ _ _ _ _ _ _ _ _ _ _ _ (ok__law_all T) (hr.mono (by decide)) rfl T.mg__law_all T.F__law_all.kp (bd__law_all T) .nil pass0 (by walk_at "u")) (@pe_op _ _ _ _ _ _ _ _ op_add (pv 0) (@pe_call _ _ _ _ _ _ _ _ _ _ _ _ _ _ _ _ (ok__law_draw T) (hr.mono (by decide)) rfl T.mg__law_draw T.F__law_draw.kp (bd__law_draw T) .nil pass0 (@pa_cons _ _ _ _ _ (pv 1) (@pa_cons _ _ _ _ _ (@pe_op _ _ _ _ _ _ _ _ op_add (@pe_op _ _ _ _ _ _ _ _ op_add (pv 2) pe_int) (pv 3)) (@pa_cons _ _ _ _ _ pe_int pa_nil (by walk_at "u")) (by walk_at "u")) (by walk_at "u")) (by walk_at "u") (by walk_at "u") (by walk_at "u"))) (fun _ _ => rfl))) (by walk_at "u") (by walk_at "u") (by walk_at "u") (by walk_at "u")) pa_nil (by walk_at "u")) (by walk_at "u") (by walk_at "u") (by walk_at "u") (by walk_at "u") (by walk_at "u")) (by walk_at "u") (by walk_at "u")) ⟨rfl, _, rfl, 1 + d9, rfl, by omega, by omega, comp_range (n := (1 + d9).toNat) (fun j ys H10 => ∃ cs : List Nat, ys = (cs.map fun c => (⟨#[c]⟩ : Str)).map V.str ∧ (∀ c ∈ cs, c ∈ allS.cps.toList) ∧ Same H6 H10) ⟨[], rfl, by simp, s9⟩ (sl_lt (by omega)) ?_ ?_⟩
            · rintro j ys H10 hj hyl ⟨cs, rfl, hz2, s10⟩
              refine ⟨rfl, _, rfl, _, rfl, _, rfl, _, _, rfl, rfl, _, rfl, _, _, rfl, rfl, a, ns, _, _, rfl, hS6.same s10, (by omega), (by omega), (by decide), (by decide), hl, fun d11 H11 h11 h12 s11 => ?_⟩
              obtain ⟨c, e1, e2⟩ := strAt (row := allS) (i := (f : Int) + d11) (by omega) (by omega)
              refine ⟨_, _, rfl, rfl, _, _, c, rfl, rfl, sl_le (by omega), e2, comp_turn hj hyl ⟨cs ++ [c], by simp, ?_, s10.trans s11⟩⟩
              intro x hx
              rcases List.mem_append.mp hx with hx | hx
              · exact hz2 x hx
              · rw [List.mem_singleton.mp hx]; exact List.mem_of_getElem? e1
            · rintro ys H10 hyl ⟨cs, rfl, hz2, s10⟩ D hD
              rw [List.length_map, List.length_map] at hyl
              refine ⟨_, D, _, rfl, rfl, SqL.of upd_same, ?_, _, some (.int (1 + d9)), join_sg (by omega) (by omega) hz2, ?_, s10.to hD⟩
              · rw [signs_sum, show ("" : Str).length = 0 from by decide]
                omega
              · rw [join_eq]
                rfl
          rintro σ' H9 ⟨z, x9, hz, rfl, s9⟩
          have hm9 := s9 _ _ hm6
          have hu9 := s9 _ _ hu6
          have hat : atI ((us ++ [u]).map V.ref) ((0 : Int) + (k : Int)) = some (.ref u) := by
            rw [Int.zero_add]
            refine at_ref ?_
            rw [List.getElem?_append_right (by omega), hul, Nat.sub_self]
            rfl
          refine @at_one _ _ _ _ _ _ (@ps_expr _ _ _ _ (@pe_bm _ _ _ _ _ _ _ _ _ _ _ _ PySem.F.plainAttrs_list PySem.F.slot_list_append PySem.F.type_list_append mt_append (@pe_ix _ _ _ _ _ _ _ ix_list (pv 3) (pv 4) (fun _ _ => rfl)) (@pa_cons _ _ _ _ _ (@pe_tup _ _ _ _ _ (@pa_cons _ _ _ _ _ (pv 7) (@pa_cons _ _ _ _ _ (pv 8) pa_nil (by walk_at "u")) (by walk_at "u"))) pa_nil (by walk_at "u")) (by walk_at "u") (by walk_at "u") (by walk_at "u") (by walk_at "u") (by walk_at "u")) (by walk_at "u")) ⟨_, rfl, _, rfl, _, _, _, _, rfl, rfl, SqL.of hm9, hat, .inl ⟨rfl, _, SqL.of hu9⟩, _, rfl, _, rfl, by show 2 ≤ sizeLine; decide, fun tr htr => ⟨u, _, _, rfl, rfl, Same.upd htr _ _ hu9, sl_lt (by rw [List.length_map, hT6.1]; omega), ?_⟩⟩
          have hut : upd H9 tr (.tup [.str st, .str z]) u = some (.lst (ts.map V.ref)) := Same.upd htr _ _ hu9
          have nmu : lm ≠ u := Ne.symm nul
          refine ⟨⟨_, _, _, _, _, rfl⟩, ts ++ [tr], ps ++ [(st, z)], by rw [upd_ne nmu]; exact Same.upd htr _ _ hm9, by rw [upd_same, List.map_append]; rfl, ?_, by rw [List.length_append, hpi]; rfl, fun p hp => ?_, ?_, ?_⟩
          · exact (hT6.mono fun q m y => tup_upd hut _ _ (Same.upd htr _ _ (s9 _ _ y))).snoc (tup_upd hut _ _ upd_same)
          · rcases List.mem_append.mp hp with hp | hp
            · exact hg6 p hp
            · rw [List.mem_singleton.mp hp]; exact ⟨hst, hz⟩
          · rw [hid_upd (S := fun c => c = lm ∨ c = u) (.inr rfl)]
            exact hA6.mono fun _ _ y => y.same (hid_two (s9.to htr))
          · exact Same.up (s6.trans (s9.to htr)) hu0
        · rintro σ' H6 ⟨⟨x5, x6, x7, x8, x9, rfl⟩, ts, ps, hm6, hu6, hT6, hpi, hg6, hA6, s6⟩
          refine ⟨⟨_, _, _, _, _, _, rfl⟩, us ++ [u], pm ++ [ps], hm6, List.nodup_append.mpr ⟨hnd, by simp, fun x hx y hy => by rw [List.mem_singleton.mp hy]; exact fun z => nus (z ▸ hx)⟩, ?_, by rw [List.length_append, hpk]; rfl, fun p hp => ?_, s6⟩
          · refine (hA6.mono fun _ _ y => y.same (hid_less fun b z => .inl z)).snoc ⟨ts, hid_of hu6 nul, hT6.mono fun q m y => hid_of y (ne_of y hm6 (by intro z; cases z))⟩
          · rcases List.mem_append.mp hp with hp | hp
            · exact hD p hp
            · rw [List.mem_singleton.mp hp]; exact ⟨by omega, by omega, hg6⟩
      · rintro σ' H3 ⟨h1, us, pm, hm3, hnd, hA3, hpk, hD, s3⟩
        exact ⟨h1, pm, ⟨us, hm3, hnd, hA3.mono fun _ _ y => y.same hid_same⟩, hpk, hD, s3⟩
    rintro σ' H3 ⟨⟨x4, x5, x6, x7, x8, x9, rfl⟩, pm, hP, hpn, hD, s3⟩
    refine @at_one _ _ _ _ _ _ (@ps_ret _ _ _ _ (@pe_tup _ _ _ _ _ (@pa_cons _ _ _ _ _ (pv 3) (@pa_cons _ _ _ _ _ (@pe_slice _ _ _ _ _ _ _ _ _ _ sl_str (@pe_call0 _ _ _ _ _ _ _ _ _ _ _ _ _ (ok__law_all T) (hr.mono (by decide)) rfl T.mg__law_all T.F__law_all.kp (bd__law_all T) .nil pass0 (by walk_at "u")) (@po_some _ _ _ (pv 2)) (@po_some _ _ _ (@pe_op _ _ _ _ _ _ _ _ op_add (pv 2) pe_int))) pa_nil (by walk_at "u")) (by walk_at "u")))) ⟨_, rfl, rfl, _, rfl, _, rfl, _, rfl, _, _, rfl, rfl, _, rfl, _, rfl, sl_le (by omega), by show 2 ≤ sizeLine; decide, fun tp htp => ?_⟩
    exact q tp lm _ pm _ upd_same (hP.same (Same.upd htp)) hpn hD (few_ok hf) hlm0 (s3.to htp)
end
section
variable {P : Program} {w : World} {K : PySem.W.Frag} {mg : Str → Option Value} {base : Heap} {t : Adr}
theorem rules_ok {ps : List (Str × Str)} (h : ∀ p ∈ ps, GoodPr p) (hl : ps.length ≤ 12) : RulesOk (mkRs ps) := by
  refine ⟨by unfold mkRs; rw [List.length_map]; omega, fun R hR => ?_⟩
  obtain ⟨p, hp, rfl⟩ := List.mem_map.mp hR
  have G := (h p hp).rule (names := [])
  refine ⟨G.pat.sort, ?_⟩
  by_cases hb : bare (mkR p).sort
  · rw [G.pat.nosg hb]; decide
  · exact (G.pat.sg hb).2.1
theorem rules_word {ps : List (Str × Str)} (h : ∀ p ∈ ps, GoodPr p) : ∀ R ∈ mkRs ps, R.sort = "word" → R.signs.length ≠ 0 ∧ FineRow R.signs ∧ R.signs.length ≤ 200 := by
  intro R hR hw
  obtain ⟨p, hp, rfl⟩ := List.mem_map.mp hR
  have hw : p.1 = "word" := hw
  have hb : ¬ bare p.1 := by rw [hw]; decide
  have e : (mkR p).signs = p.2 := if_neg hb
  rw [e]
  have S := (h p hp).sg
  exact ⟨by have := S.pos; omega, fun c hc => (all_ok c (S.all c hc)).1, by have := S.le; omega⟩
theorem numL_eq {ps : List (Str × Str)} {row : Str} {n : Nat} : numL ps row = (n : Int) ↔ firstM (mkRs ps) row 0 = some n := by
  unfold numL
  cases e : firstM (mkRs ps) row 0 with
  | none => exact ⟨fun h => by have : (-1 : Int) = (n : Int) := h; omega, fun h => by cases h⟩
  | some k =>
    constructor
    · intro h
      have : (k : Int) = (n : Int) := h
      rw [show k = n by omega]
    · intro h; injection h with h; rw [h]
theorem val_key {kvs : List (Key × V)} {k : Key} {v : V} (h : valV kvs k = some v) : ∃ kv ∈ kvs, kv.1 = k := by
  unfold valV at h
  obtain ⟨kv, h1, _⟩ := Option.map_eq_some_iff.mp h
  have h2 : decide (kv.1 = k) = true := List.find?_some (p := fun (kv : Key × V) => decide (kv.1 = k)) h1
  exact ⟨kv, List.mem_of_find?_eq_some h1, of_decide_eq_true h2⟩
theorem put_keys {kvs : List (Key × V)} {k : Key} {v : V} {p : Key → Prop} (h : ∀ kv ∈ kvs, p kv.1) (hk : p k) : ∀ kv ∈ putK kvs k v, p kv.1 := by
  unfold putK
  split
  · intro kv hkv
    obtain ⟨kv0, h0, rfl⟩ := List.mem_map.mp hkv
    split
    · exact h kv0 h0
    · exact h kv0 h0
  · intro kv hkv
    rcases List.mem_append.mp hkv with hkv | hkv
    · exact h kv hkv
    · rw [List.mem_singleton.mp hkv]; exact hk
theorem put_len {kvs : List (Key × V)} {k : Key} {v : V} : (putK kvs k v).length ≤ kvs.length + 1 := by
  unfold putK
  split
  · rw [List.length_map]; omega
  · rw [List.length_append]; exact Nat.le_refl _
theorem sg_all : ∀ c ∈ sg94, c ∈ (allS ++ Str.ofString "_").cps.toList := by decide +kernel
theorem sg_but95 : ∀ c ∈ sg94, c ≠ 95 → c ∈ allS.cps.toList := by decide +kernel
def spGood7 (t : Adr) : Sp := fun vs H Q _ => ∃ (a lm : Addr) (k : Nat) (few : Str) (names : List Str) (pm : List (List (Str × Str))), vs = [.ref a, .ref lm, .int k, .str few] ∧ IsRules t H a (mkMs names pm) ∧ PMs H lm pm ∧ Law7 names pm ∧ k < pm.length ∧ FewOk few ∧ ∀ H', Same H H' → Q (.bl true) H'
theorem ok__law_good (T : Txt K mg t) : FnOk P w K mg base CX0 4 t.f__law_good t.d__law_good ["_law_rules_here", "_law_modes", "_law_mode", "_law_few"] (spGood7 t) := by
  refine T.F__law_good.ok sc__law_good (fun vs H Q E h => ?_) (fun cdv A outer s H vs Q E hr h => at_body ?_)
  · obtain ⟨a, lm, k, few, names, pm, rfl, _⟩ := h
    rfl
  · obtain ⟨a, lm, k, few, names, pm, rfl, hR, ⟨us, hlm, hnd, hA⟩, L, hk, hfew, q⟩ := h
    have sz := sizeLine_eq
    have aL := all_len
    obtain ⟨ps, hps⟩ : ∃ n, pm[k]? = some n := ⟨pm[k], List.getElem?_eq_getElem hk⟩
    obtain ⟨nm, hnm⟩ : ∃ n, names[k]? = some n := ⟨names[k]'(by rw [L.len]; exact hk), List.getElem?_eq_getElem _⟩
    have hm := mkMs_at hnm hps
    obtain ⟨u, hu, hP⟩ := hA.at hps
    have hpm := List.mem_of_getElem? hps
    have hg := L.pr ps hpm
    have h12 := L.twelve ps hpm
    have hok := rules_ok hg h12
    have hwd := rules_word hg
    obtain ⟨ts, hut, hT⟩ := id hP
    have hau : atI (us.map V.ref) (k : Int) = some (.ref u) := at_ref hu
    refine @at_cons _ _ _ _ _ _ _ (@ps_set _ _ 4 _ _ _ _ sc__law_good.nd rfl (Or.inl rfl) pe_dnewK (by walk_at "u") (by walk_at "u")) fun d hd => ?_
    have s1 : Same H (upd H d (.dK [])) := Same.upd hd
    have hd1 : upd H d (.dK []) d = some (.dK []) := upd_same
    generalize upd H d (.dK []) = H1 at s1 hd1
    show At _ _ _ [some (.ref a), some (.ref lm), some (.int k), some (.str few), some (.ref d), none, none, none] H1
    refine @at_consR _ _ _ _ _ _ _ (fun σ' H' => (∃ x5, σ' = [some (.ref a), some (.ref lm), some (.int k), some (.str few), some (.ref d), x5, none, none]) ∧ ∃ kvs : List (Key × V), H' d = some (.dK kvs) ∧ (∀ kv ∈ kvs, ∃ row, FineRow row ∧ kv.1 = .inl (numL ps row)) ∧ Same H H') (@ps_forA _ _ _ _ _ _ _ _ PassesOwn.never rfl (@pi_list _ _ _ _ (@pe_op _ _ _ _ _ _ _ _ op_cat (@pe_call _ _ _ _ _ _ _ _ _ _ _ _ _ _ _ _ (ok__law_rows T) (hr.mono (by decide)) rfl T.mg__law_rows T.F__law_rows.kp (bd__law_rows T) .nil pass0 (@pa_cons _ _ _ _ _ (pv 3) pa_nil (by walk_at "u")) (by walk_at "u") (by walk_at "u") (by walk_at "u")) (@pe_compIf _ (defScope s__law_good) _ ["_law_rules_here", "_law_modes", "_law_mode", "_law_few", "_law_met", "_law_row", "_law_number", "_law_found"] _ _ _ ("_law_rule") _ _ [] _ _ _ (by walk_at "ck") (@pi_list _ _ _ _ (@pe_ix _ _ _ _ _ _ _ ix_list (pv 1) (pv 2) (fun _ _ => rfl))) (fun _ _ _ _ => by exact (@pt_cmpR _ _ _ _ _ _ _ _ op_eq (@pe_ix _ _ _ _ _ _ _ (ix_tupK (K := K) rfl) (pv 0) pe_int (fun _ _ => rfl)) pe_str (nomark _))) (fun _ _ _ _ => by exact (@pe_ix _ _ _ _ _ _ _ (ix_tupK (K := K) rfl) (pv 0) pe_int (fun _ _ => rfl))) (by walk_at "u") (by walk_at "u") (by walk_at "u") (by walk_at "u")))) (@pg_name _ _ 5 _ sc__law_good.nd rfl (Or.inl rfl) (by walk_at "u")) pss_at (by walk_at "u")) ?_ ?_
    · refine ⟨_, rfl, few, rfl, hfew, fun lx xs H2 hx2 hxs hxl hx0 s2 => ?_⟩
      have s2' := s1.trans s2
      refine ⟨_, rfl, _, rfl, _, _, _, _, rfl, rfl, SqL.of (s2' _ _ hlm), hau, u, rfl, ⟨_, SqL.of (s2' _ _ hut)⟩, compIf_list (xs := ts.map V.ref) (fun i ys H3 => ∃ ws : List Str, ys = ws.map V.str ∧ (∀ x ∈ ws, FineRow x ∧ x.length ≤ 100) ∧ H3 = H2) ⟨[], rfl, (fun x hx => by simp at hx), rfl⟩ (sl_lt (by rw [List.length_map, hT.1]; omega)) ?_ ?_ ?_⟩
      · rintro i ys H3 _ ⟨_, _, _, rfl⟩
        exact SqL.of (s2' _ _ hut)
      · rintro i xv ys H3 hx hyl ⟨ws, rfl, hws, rfl⟩
        rw [List.getElem?_map] at hx
        obtain ⟨tr, htr, rfl⟩ := Option.map_eq_some_iff.mp hx
        have hi := (List.getElem?_eq_some_iff.mp htr).1
        obtain ⟨p, hp⟩ : ∃ p, ps[i]? = some p := ⟨ps[i]'(by rw [← hT.1]; exact hi), List.getElem?_eq_getElem _⟩
        have htp := s2' _ _ (hT.2 i tr p htr hp)
        have S := (hg p (List.mem_of_getElem? hp)).sg
        rw [List.length_map] at hyl
        refine ⟨_, rfl, _, _, _, _, rfl, rfl, SqT.of htp, atI_nat (j := 0) rfl, rfl, _, rfl, ifd (fun h => ?_) (fun h => ?_)⟩
        · refine ⟨_, rfl, _, _, _, _, rfl, rfl, SqT.of htp, atI_nat (j := 1) rfl, compIf_turn (by rw [List.length_map]; exact hi) (by rw [List.length_append, List.length_map]; show _ + 1 ≤ _; omega) ⟨ws ++ [p.2], by rw [List.map_append]; rfl, fun x hx => ?_, rfl⟩⟩
          rcases List.mem_append.mp hx with hx | hx
          · exact hws x hx
          · rw [List.mem_singleton.mp hx]; exact ⟨fun c hc => (all_ok c (S.all c hc)).1, S.le⟩
        · exact compIf_turn (by rw [List.length_map]; exact hi) (by rw [List.length_map]; omega) ⟨ws, rfl, hws, rfl⟩
      · rintro ys H3 hyl ⟨ws, rfl, hws, rfl⟩ D hD
        rw [List.length_map, List.length_map, hT.1] at hyl
        refine ⟨lx, D, _, _, rfl, rfl, Same.upd hD _ _ hx2, upd_same, sl_le (by rw [List.length_map, List.length_map]; omega), fun l4 hl4 => ?_⟩
        have s4 : Same H1 (upd (upd H3 D (.lst (ws.map V.str))) l4 (.lst (xs.map V.str ++ ws.map V.str))) := (s2.to hD).to hl4
        have hx4 : upd (upd H3 D (.lst (ws.map V.str))) l4 (.lst (xs.map V.str ++ ws.map V.str)) l4 = some (.lst ((xs ++ ws).map V.str)) := by rw [upd_same, List.map_append]
        generalize upd (upd H3 D (.lst (ws.map V.str))) l4 (.lst (xs.map V.str ++ ws.map V.str)) = H4 at s4 hx4
        have hall : ∀ x ∈ xs ++ ws, FineRow x ∧ x.length ≤ 100 := fun x hx => by
          rcases List.mem_append.mp hx with hx | hx
          · exact ⟨(hxs x hx).1, by have := (hxs x hx).2; omega⟩
          · exact hws x hx
        have hal : (xs ++ ws).length ≤ 400 := by rw [List.length_append]; omega
        have nd4 : l4 ≠ d := fun z => by rw [z, s4 _ _ hd1] at hx4; cases hx4
        generalize xs ++ ws = zs at hx4 hall hal
        refine ⟨l4, rfl, ⟨_, SqL.of hx4⟩, forW_list (xs := zs.map V.str) (fun i σ' H' => (∃ x5, σ' = [some (.ref a), some (.ref lm), some (.int k), some (.str few), some (.ref d), x5, none, none]) ∧ H' l4 = some (.lst (zs.map V.str)) ∧ ∃ kvs : List (Key × V), H' d = some (.dK kvs) ∧ kvs.length ≤ i ∧ (∀ kv ∈ kvs, ∃ row, FineRow row ∧ kv.1 = .inl (numL ps row)) ∧ Same H H') ⟨⟨_, rfl⟩, hx4, [], s4 _ _ hd1, Nat.le_refl _, (fun kv hkv => by simp at hkv), s1.trans s4⟩ ?_ ?_ ?_⟩
        · rintro i σ' H5 _ ⟨_, h5, _⟩
          exact SqL.of h5
        · rintro i xv σ' H5 hx ⟨⟨x5, rfl⟩, hx5, kvs, hd5, hkl, hks, s5⟩
          rw [List.getElem?_map] at hx
          obtain ⟨row, hrow, rfl⟩ := Option.map_eq_some_iff.mp hx
          have hi := (List.getElem?_eq_some_iff.mp hrow).1
          obtain ⟨fr, fl⟩ := hall row (List.mem_of_getElem? hrow)
          refine @at_one _ _ _ _ _ _ (@ps_dput _ _ _ _ _ _ _ _ _ (hu_of hr) (pv 4) (@pe_call _ _ _ _ _ _ _ _ _ _ _ _ _ _ _ _ (ok__law_first T) (hr.mono (by decide)) rfl T.mg__law_first T.F__law_first.kp (bd__law_first T) .nil pass0 (@pa_cons _ _ _ _ _ (@pe_ix _ _ _ _ _ _ _ ix_list (pv 1) (pv 2) (fun _ _ => rfl)) (@pa_cons _ _ _ _ _ (pv 5) pa_nil (by walk_at "u")) (by walk_at "u")) (by walk_at "u") (by walk_at "u") (by walk_at "u")) pe_bl rfl) ⟨_, rfl, _, rfl, _, rfl, _, _, _, _, rfl, rfl, SqL.of (s5 _ _ hlm), hau, _, rfl, u, ps, row, rfl, hP.same s5, by omega, hg, by omega, fun H6 s6 => ?_⟩
          refine ⟨d, upd H6 d (.dK (putK kvs (.inl (numL ps row)) (.bl true))), rfl, DPut.k (k := .inl (numL ps row)) (s6 _ _ hd5) (by omega), ?_⟩
          exact ⟨⟨_, rfl⟩, by rw [upd_ne nd4]; exact s6 _ _ hx5, putK kvs (.inl (numL ps row)) (.bl true), upd_same, Nat.le_trans put_len (by omega), put_keys (p := fun k => ∃ row, FineRow row ∧ k = .inl (numL ps row)) hks ⟨row, fr, rfl⟩, Same.up (s5.trans s6) hd⟩
        · rintro σ' H5 ⟨h1, _, kvs, hd5, _, hks, s5⟩
          exact ⟨h1, kvs, hd5, hks, s5⟩
    rintro σ' H2 ⟨⟨x5, rfl⟩, kvs, hd2, hks, s2⟩
    refine @at_consR _ _ _ _ _ _ _ (fun σ' H' => Same H H') (@ps_forA _ _ _ _ _ _ _ _ PassesOwn.never rfl (@pi_range1 _ _ _ _ _ _ rfl T.z_range (@pa_cons _ _ _ _ _ (@pe_callB _ _ _ _ _ _ _ _ _ call_len_seq (by rfl) T.z_len (by decide +kernel) (@pa_cons _ _ _ _ _ (@pe_ix _ _ _ _ _ _ _ ix_list (pv 1) (pv 2) (fun _ _ => rfl)) pa_nil (by walk_at "u")) (by walk_at "u") (by walk_at "u") (by walk_at "u") (by walk_at "u")) pa_nil (by walk_at "u")) (by walk_at "u")) (@pg_name _ _ 6 _ sc__law_good.nd rfl (Or.inl rfl) (by walk_at "u")) pss_at (by walk_at "u")) ?_ ?_
    · refine ⟨_, rfl, _, rfl, _, _, _, _, rfl, rfl, SqL.of (s2 _ _ hlm), hau, _, _, rfl, .inl (SqL.of (s2 _ _ hut)), _, rfl, by rw [List.length_map]; omega, by rw [List.length_map, hT.1]; omega, ?_⟩
      rw [show (((ts.map V.ref).length : Nat) : Int).toNat = ps.length by rw [List.length_map, hT.1]; omega]
      refine forW_range (n := ps.length) (fun n σ' H' => (∃ x6 x7, σ' = [some (.ref a), some (.ref lm), some (.int k), some (.str few), some (.ref d), x5, x6, x7]) ∧ Same H2 H') ⟨⟨_, _, rfl⟩, Same.refl _⟩ ?_ ?_
      · rintro n σ' H3 hn ⟨⟨x6, x7, rfl⟩, s3⟩
        have s23 := s2.trans s3
        refine @at_cons _ _ _ _ _ _ _ (@ps_set _ _ 7 _ _ _ _ sc__law_good.nd rfl (Or.inl rfl) (@pe_call _ _ _ _ _ _ _ _ _ _ _ _ _ _ _ _ (ok_piece_of T) (hr.mono (by decide)) rfl T.mg_piece_of T.F_piece_of.kp (bd_piece_of T) .nil pass0 (@pa_cons _ _ _ _ _ (pv 0) (@pa_cons _ _ _ _ _ (pv 2) (@pa_cons _ _ _ _ _ (pv 6) pa_nil (by walk_at "u")) (by walk_at "u")) (by walk_at "u")) (by walk_at "u") (by walk_at "u") (by walk_at "u")) (by walk_at "u") (by walk_at "u")) ⟨_, rfl, _, rfl, _, rfl, a, mkMs names pm, _, k, n, by rw [Int.zero_add]; rfl, hR.same s23, hm, by show n < (ps.map mkR).length; rw [List.length_map]; exact hn, hok, fun H4 s4 => ?_⟩
        have s4' := s3.trans s4
        cases hp : pieceM (mkRs ps) n with
        | none =>
          have hno : valV kvs (.inl (n : Int)) = none := by
            cases e : valV kvs (.inl (n : Int)) with
            | none => rfl
            | some v =>
              obtain ⟨kv, hkv, e1⟩ := val_key e
              obtain ⟨row, fr, e2⟩ := hks kv hkv
              rw [e1] at e2
              injection e2 with e2
              exact absurd (numL_eq.mp e2.symm) (never (fun R hR hw => (hwd R hR hw).1) hp fr)
          show At _ _ _ [some (.ref a), some (.ref lm), some (.int k), some (.str few), some (.ref d), x5, some (.int (0 + (n : Int))), some .non] H4
          refine @at_cons _ _ _ _ _ _ _ (@ps_if _ _ _ _ _ _ _ _ (@PW.pt _ _ _ (@pw_and _ _ _ _ _ _ _ (@pt_cmpR _ _ _ _ _ _ _ _ op_isN (pv 7) pe_non (nomark _)) (@pw_and1 _ _ _ _ (@pt_cmp _ _ _ _ _ _ (@pc_din _ _ _ _ _ (hu_of hr) (pv 6) (pv 4)) (by walk_at "u"))))) pss_at pss_at) ⟨_, rfl, rfl, _, rfl, ifd (fun _ => ?_) (fun h => absurd rfl h)⟩
          refine ⟨_, rfl, _, rfl, d, _, rfl, DGet.k (k := .inl ((0 : Int) + (n : Int))) (s4' _ _ hd2), _, rfl, ?_⟩
          refine ifeq (c := false) (by rw [Int.zero_add, hno]; rfl) ?_
          refine at_nil ?_
          refine @at_cons _ _ _ _ _ _ _ (@ps_if _ _ _ _ _ _ _ _ (@PW.pt _ _ _ (@pw_and _ _ _ _ _ _ _ (@pt_cmpR _ _ _ _ _ _ _ _ op_notN (pv 7) pe_non (nomark _)) (@pw_and1 _ _ _ _ (@pt_not _ _ _ _ (@pt_val _ _ _ (@pe_callB _ _ _ _ _ _ _ _ _ call_isi (by rfl) T.z_isinstance (by decide +kernel) (@pa_cons _ _ _ _ _ (pv 7) (@pa_cons _ _ _ _ _ (@pe_bltn _ _ (V.ty "str") (Value.type "str") _ rfl T.z_str (by decide +kernel) rfl (by walk_at "u") (by walk_at "u")) pa_nil (by walk_at "u")) (by walk_at "u")) (by walk_at "u") (by walk_at "u") (by walk_at "u") (by walk_at "u")) (by walk_at "u")))))) pss_at pss_at) ⟨_, rfl, rfl, _, rfl, ifnd (fun h => absurd rfl h) (fun _ => at_nil ?_)⟩
          refine @at_cons _ _ _ _ _ _ _ (@ps_if _ _ _ _ _ _ _ _ (@PW.pt _ _ _ (@pw_and _ _ _ _ _ _ _ (@pt_cmpR _ _ _ _ _ _ _ _ op_notN (pv 7) pe_non (nomark _)) (@pw_and1 _ _ _ _ (@pt_cmpR _ _ _ _ _ _ _ _ (op_neLs (Nat.lt_of_succ_lt (hu_of hr))) (@pe_compIf _ (defScope s__law_good) _ ["_law_rules_here", "_law_modes", "_law_mode", "_law_few", "_law_met", "_law_row", "_law_number", "_law_found"] _ _ _ ("_law_sign") _ _ [] _ _ _ (by walk_at "ck") (@pi_str _ _ _ _ _ (pv 7)) (fun _ _ _ _ => by exact (@pt_cmpR _ _ _ _ _ _ _ _ op_notin_str (pv 0) (@pe_op _ _ _ _ _ _ _ _ op_add_str (@pe_call0 _ _ _ _ _ _ _ _ _ _ _ _ _ (ok__law_all T) (hr.mono (by decide)) rfl T.mg__law_all T.F__law_all.kp (bd__law_all T) .nil pass0 (by walk_at "u")) pe_str) rfl)) (fun _ _ _ _ => by exact (pv 0)) (by walk_at "u") (by walk_at "u") (by walk_at "u") (by walk_at "u")) (@pe_lst _ _ _ _ pa_nil) (nomark _))))) pss_at pss_at) ⟨_, rfl, rfl, _, rfl, ifnd (fun h => absurd rfl h) (fun _ => at_nil ?_)⟩
          exact @at_one _ _ _ _ _ _ (@ps_if _ _ _ _ _ _ _ _ (@PW.pt _ _ _ (@pw_and _ _ _ _ _ _ _ (@pt_cmpR _ _ _ _ _ _ _ _ op_notN (pv 7) pe_non (nomark _)) (@pw_and1 _ _ _ _ (@pt_cmpR _ _ _ _ _ _ _ _ op_ne (@pe_call _ _ _ _ _ _ _ _ _ _ _ _ _ _ _ _ (ok__law_first T) (hr.mono (by decide)) rfl T.mg__law_first T.F__law_first.kp (bd__law_first T) .nil pass0 (@pa_cons _ _ _ _ _ (@pe_ix _ _ _ _ _ _ _ ix_list (pv 1) (pv 2) (fun _ _ => rfl)) (@pa_cons _ _ _ _ _ (pv 7) pa_nil (by walk_at "u")) (by walk_at "u")) (by walk_at "u") (by walk_at "u") (by walk_at "u")) (pv 6) (nomark _))))) pss_at pss_at) ⟨_, rfl, rfl, _, rfl, ifnd (fun h => absurd rfl h) (fun _ => at_nil ⟨⟨_, _, rfl⟩, s4'⟩)⟩
        | some x =>
          obtain ⟨fx, lx⟩ := piece_fine (fun R hR hw => (hwd R hR hw).2) hp
          have hf1 := piece_first hp
          show At _ _ _ [some (.ref a), some (.ref lm), some (.int k), some (.str few), some (.ref d), x5, some (.int (0 + (n : Int))), some (.str x)] H4
          refine @at_cons _ _ _ _ _ _ _ (@ps_if _ _ _ _ _ _ _ _ (@PW.pt _ _ _ (@pw_and _ _ _ _ _ _ _ (@pt_cmpR _ _ _ _ _ _ _ _ op_isN (pv 7) pe_non (nomark _)) (@pw_and1 _ _ _ _ (@pt_cmp _ _ _ _ _ _ (@pc_din _ _ _ _ _ (hu_of hr) (pv 6) (pv 4)) (by walk_at "u"))))) pss_at pss_at) ⟨_, rfl, rfl, _, rfl, ifd (fun h => by cases h) (fun _ => at_nil ?_)⟩
          refine @at_cons _ _ _ _ _ _ _ (@ps_if _ _ _ _ _ _ _ _ (@PW.pt _ _ _ (@pw_and _ _ _ _ _ _ _ (@pt_cmpR _ _ _ _ _ _ _ _ op_notN (pv 7) pe_non (nomark _)) (@pw_and1 _ _ _ _ (@pt_not _ _ _ _ (@pt_val _ _ _ (@pe_callB _ _ _ _ _ _ _ _ _ call_isi (by rfl) T.z_isinstance (by decide +kernel) (@pa_cons _ _ _ _ _ (pv 7) (@pa_cons _ _ _ _ _ (@pe_bltn _ _ (V.ty "str") (Value.type "str") _ rfl T.z_str (by decide +kernel) rfl (by walk_at "u") (by walk_at "u")) pa_nil (by walk_at "u")) (by walk_at "u")) (by walk_at "u") (by walk_at "u") (by walk_at "u") (by walk_at "u")) (by walk_at "u")))))) pss_at pss_at) ⟨_, rfl, rfl, _, rfl, ifnd (fun _ => ⟨_, rfl, _, _, _, _, true, rfl, .inl rfl, .str _, T.kb_str_str, true, rfl, iteF (at_nil ?_)⟩) (fun h => by cases h)⟩
          refine @at_consR _ _ _ _ _ _ _ (fun σ' H' => Same H4 H' ∧ σ' = [some (.ref a), some (.ref lm), some (.int k), some (.str few), some (.ref d), x5, some (.int (0 + (n : Int))), some (.str x)]) (@ps_if _ _ _ _ _ _ _ _ (@PW.pt _ _ _ (@pw_and _ _ _ _ _ _ _ (@pt_cmpR _ _ _ _ _ _ _ _ op_notN (pv 7) pe_non (nomark _)) (@pw_and1 _ _ _ _ (@pt_cmpR _ _ _ _ _ _ _ _ (op_neLs (Nat.lt_of_succ_lt (hu_of hr))) (@pe_compIf _ (defScope s__law_good) _ ["_law_rules_here", "_law_modes", "_law_mode", "_law_few", "_law_met", "_law_row", "_law_number", "_law_found"] _ _ _ ("_law_sign") _ _ [] _ _ _ (by walk_at "ck") (@pi_str _ _ _ _ _ (pv 7)) (fun _ _ _ _ => by exact (@pt_cmpR _ _ _ _ _ _ _ _ op_notin_str (pv 0) (@pe_op _ _ _ _ _ _ _ _ op_add_str (@pe_call0 _ _ _ _ _ _ _ _ _ _ _ _ _ (ok__law_all T) (hr.mono (by decide)) rfl T.mg__law_all T.F__law_all.kp (bd__law_all T) .nil pass0 (by walk_at "u")) pe_str) rfl)) (fun _ _ _ _ => by exact (pv 0)) (by walk_at "u") (by walk_at "u") (by walk_at "u") (by walk_at "u")) (@pe_lst _ _ _ _ pa_nil) (nomark _))))) pss_at pss_at) ?_ ?_
          · refine ⟨_, rfl, rfl, _, rfl, ifnd (fun _ => ?_) (fun h => by cases h)⟩
            refine ⟨_, rfl, x, rfl, compIf_str (fun i ys H5 => ys = [] ∧ H5 = H4) ⟨rfl, rfl⟩ (sl_lt (by omega)) ?_ ?_⟩
            · rintro i c ys H5 hc hyl ⟨rfl, rfl⟩
              have hi := (List.getElem?_eq_some_iff.mp hc).1
              rw [len_cps] at hi
              have hcs := fx c (List.mem_of_getElem? hc)
              refine ⟨_, rfl, rfl, _, _, rfl, rfl, sl_le (by show allS.length + 1 ≤ _; omega), _, _, rfl, rfl, _, rfl, ?_⟩
              refine ifeq (c := false) ?_ (compIf_turn hi (Nat.zero_le _) ⟨rfl, rfl⟩)
              rw [PySem.StrLaws.found_one, decide_eq_true (sg_all c hcs)]
              rfl
            · rintro ys H5 hyl ⟨rfl, rfl⟩ D hD
              refine ⟨by show 0 ≤ sizeLine; decide, fun l6 hl6 => ⟨D, l6, [], [], rfl, rfl, SqL.of (Same.upd hl6 _ _ upd_same), SqL.of upd_same, (fun x hx => by simp at hx), _, rfl, ifnd (fun h => absurd rfl h) (fun _ => at_nil ⟨(Same.upd hD).to hl6, rfl⟩)⟩⟩
          rintro σ' H5 ⟨s5, rfl⟩
          have s25 := s23.trans (s4.trans s5)
          refine @at_one _ _ _ _ _ _ (@ps_if _ _ _ _ _ _ _ _ (@PW.pt _ _ _ (@pw_and _ _ _ _ _ _ _ (@pt_cmpR _ _ _ _ _ _ _ _ op_notN (pv 7) pe_non (nomark _)) (@pw_and1 _ _ _ _ (@pt_cmpR _ _ _ _ _ _ _ _ op_ne (@pe_call _ _ _ _ _ _ _ _ _ _ _ _ _ _ _ _ (ok__law_first T) (hr.mono (by decide)) rfl T.mg__law_first T.F__law_first.kp (bd__law_first T) .nil pass0 (@pa_cons _ _ _ _ _ (@pe_ix _ _ _ _ _ _ _ ix_list (pv 1) (pv 2) (fun _ _ => rfl)) (@pa_cons _ _ _ _ _ (pv 7) pa_nil (by walk_at "u")) (by walk_at "u")) (by walk_at "u") (by walk_at "u") (by walk_at "u")) (pv 6) (nomark _))))) pss_at pss_at) ⟨_, rfl, rfl, _, rfl, ifnd (fun _ => ?_) (fun h => by cases h)⟩
          refine ⟨_, rfl, _, rfl, _, _, _, _, rfl, rfl, SqL.of (s25 _ _ hlm), hau, _, rfl, u, ps, x, rfl, hP.same s25, by omega, hg, by omega, fun H6 s6 => ⟨_, rfl, rfl, _, rfl, ifnd (fun h => absurd ?_ h) (fun _ => at_nil ⟨⟨_, _, rfl⟩, (s4'.trans s5).trans s6⟩)⟩⟩
          rw [numL_eq.mpr hf1, Int.zero_add]
      · rintro σ' H3 ⟨_, s3⟩
        exact s2.trans s3
    rintro σ' H3 s3
    exact @at_one _ _ _ _ _ _ (@ps_ret _ _ _ _ pe_bl) (q H3 s3)
end
section
variable {P : Program} {w : World} {K : PySem.W.Frag} {mg : Str → Option Value} {base : Heap} {t : Adr}
theorem cut_to {xs : List V} {j : Nat} (hj : j ≤ xs.length) : cutV xs none (some (j : Int)) = xs.take j := by
  rw [cutV, HT.sIx_nat, HT.sIx_none, Nat.min_eq_left hj]; rfl
theorem ref_str {as : List Addr} {rs : List Str} (hne : rs ≠ []) : as.map V.ref ≠ rs.map V.str := fun h => by
  cases rs with
  | nil => exact hne rfl
  | cons a b =>
    cases as with
    | nil => cases h
    | cons c d => rw [List.map_cons, List.map_cons] at h; injection h with h1 _; cases h1
theorem map_ref_inj {as bs : List Addr} (h : as.map V.ref = bs.map V.ref) : as = bs := by
  induction as generalizing bs with
  | nil => cases bs with
    | nil => rfl
    | cons _ _ => cases h
  | cons a r ih =>
    cases bs with
    | nil => cases h
    | cons b s =>
      rw [List.map_cons, List.map_cons] at h
      injection h with h1 h2
      injection h1 with h1
      rw [h1, ih h2]
/-- a rule put in ahead in a mode -/
theorem PMs.ins {H : Hp} {lm u tr : Addr} {us ts : List Addr} {pm : List (List (Str × Str))} {k : Nat} {ps : List (Str × Str)} {p : Str × Str} (hl : H lm = some (.lst (us.map V.ref))) (hnd : us.Nodup) (hA : All2 (PM1 H) us pm) (hk : us[k]? = some u) (hps : pm[k]? = some ps)
    (hu : H u = some (.lst (ts.map V.ref))) (hT : All2 (fun tr (p : Str × Str) => H tr = some (.tup [.str p.1, .str p.2])) ts ps) (hne : ts ≠ []) (ht : H tr = some (.tup [.str p.1, .str p.2])) : PMs (upd H u (.lst ((tr :: ts).map V.ref))) lm (pm.set k (p :: ps)) := by
  have tk : ∀ b zs, H b = some (.tup zs) → upd H u (.lst ((tr :: ts).map V.ref)) b = some (.tup zs) := tup_upd hu
  have hkl := (List.getElem?_eq_some_iff.mp hk).1
  have nlu : lm ≠ u := fun z => by
    rw [z, hu] at hl
    injection hl with hl
    injection hl with hl
    have e := map_ref_inj hl
    obtain ⟨t0, r, rfl⟩ : ∃ t0 r, ts = t0 :: r := by
      cases ts with
      | nil => exact absurd rfl hne
      | cons a b => exact ⟨a, b, rfl⟩
    subst e
    obtain ⟨q0, hq0⟩ : ∃ q, ps[0]? = some q := ⟨ps[0]'(by rw [← hT.1]; simp), List.getElem?_eq_getElem _⟩
    obtain ⟨m0, hm0⟩ : ∃ q, pm[0]? = some q := ⟨pm[0]'(by rw [← hA.1]; simp), List.getElem?_eq_getElem _⟩
    have e1 := hT.2 0 t0 q0 rfl hq0
    obtain ⟨_, e2, _⟩ := hA.2 0 t0 m0 rfl hm0
    rw [e1] at e2
    cases e2
  refine ⟨us, by rw [upd_ne nlu]; exact hl, hnd, by rw [hA.1, List.length_set], fun i u' ps' h1 h2 => ?_⟩
  rw [List.getElem?_set] at h2
  by_cases hik : k = i
  · subst hik
    rw [hk] at h1
    cases h1
    rw [if_pos rfl] at h2
    split at h2
    · cases h2
      refine ⟨tr :: ts, upd_same, by rw [List.length_cons, List.length_cons, hT.1], fun j x y hx hy => ?_⟩
      cases j with
      | zero => cases hx; cases hy; exact tk _ _ ht
      | succ j => exact tk _ _ (hT.2 j x y hx hy)
    · cases h2
  · rw [if_neg hik] at h2
    obtain ⟨ts', e1, e2⟩ := hA.2 i u' ps' h1 h2
    have hne' : u' ≠ u := fun z => by
      rw [z] at h1
      obtain ⟨i1, e3⟩ := List.getElem?_eq_some_iff.mp h1
      obtain ⟨k1, e4⟩ := List.getElem?_eq_some_iff.mp hk
      exact hik ((List.getElem_inj hnd).mp (e4.trans e3.symm))
    exact ⟨ts', by rw [upd_ne hne']; exact e1, e2.mono fun _ _ z => tk _ _ z⟩
theorem Law7.ins {names : List Str} {pm : List (List (Str × Str))} {k : Nat} {ps : List (Str × Str)} {p : Str × Str} (L : Law7 names pm) (hps : pm[k]? = some ps) (h12 : ps.length ≤ 11) (hp : GoodPr p) : Law7 names (pm.set k (p :: ps)) := by
  have hm := List.mem_of_getElem? hps
  refine ⟨by rw [List.length_set]; exact L.len, by rw [List.length_set]; exact L.pos, by rw [List.length_set]; exact L.three, L.nd, L.nm, fun q hq => ?_, fun q hq r hr => ?_⟩
  · rcases List.mem_or_eq_of_mem_set hq with hq | rfl
    · exact L.twelve q hq
    · rw [List.length_cons]; omega
  · rcases List.mem_or_eq_of_mem_set hq with hq | rfl
    · exact L.pr q hq r hr
    · rcases List.mem_cons.mp hr with rfl | hr
      · exact hp
      · exact L.pr ps hm r hr
abbrev nm3 : List Str := ["a", "ab", "x"]
def spLaw (K : PySem.W.Frag) : Sp := fun vs H Q _ => ∃ (a : Addr) (ns : List Int), vs = [.ref a] ∧ SqL K H a (ns.map V.int) ∧ ns.length ≤ 63 ∧ ∀ H', Q (.bl true) H'
/-- what stands before each turn -/
structure St7 (t : Adr) (H : Hp) (r ln lm : Addr) (names : List Str) (pm : List (List (Str × Str))) : Prop where
  rl : IsRules t H r (mkMs names pm)
  ln : H ln = some (.lst (names.map V.str))
  pms : PMs H lm pm
  law : Law7 names pm
  ones : ∀ ps ∈ pm, 1 ≤ ps.length
theorem ok_law {f : Addr} {fd : FuncData} (F : Fun K "law" "law" s_law f fd) (T : Txt K mg t) : FnOk P w K mg base CX0 9 f fd ["_law_script"] (spLaw K) := by
  refine F.ok sc_law (fun vs H Q E h => ?_) (fun cdv A outer s H vs Q E hr h => at_body ?_)
  · obtain ⟨a, ns, rfl, _⟩ := h
    rfl
  · obtain ⟨a, ns, rfl, hS, hl, q⟩ := h
    have sz := sizeLine_eq
    -- the names
    refine @at_consR _ _ _ _ _ _ _ (fun σ' H' => ∃ ln n, 0 < n ∧ n ≤ 3 ∧ σ' = [some (.ref a), some (.ref ln), none, none, none, none, none, none] ∧ H' ln = some (.lst ((nm3.take n).map V.str)) ∧ Same H H') (@ps_set _ _ 1 _ _ _ _ sc_law.nd rfl (Or.inl rfl) (@pe_slice _ _ _ _ _ _ _ _ _ _ sl_list (@pe_lst _ _ _ _ (@pa_strs _ _ ["a", "ab", "x"] rfl)) po_none (@po_some _ _ _ (@pe_op _ _ _ _ _ _ _ _ op_add pe_int (@pe_call _ _ _ _ _ _ _ _ _ _ _ _ _ _ _ _ (ok__law_draw T) (hr.mono (by decide)) rfl T.mg__law_draw T.F__law_draw.kp (bd__law_draw T) .nil pass0 (@pa_cons _ _ _ _ _ (pv 0) (@pa_cons _ _ _ _ _ pe_int (@pa_cons _ _ _ _ _ pe_int pa_nil (by walk_at "u")) (by walk_at "u")) (by walk_at "u")) (by walk_at "u") (by walk_at "u") (by walk_at "u"))))) (by walk_at "u") (by walk_at "u")) ?_ ?_
    · refine ⟨by show 3 ≤ sizeLine; decide, fun l0 hl0 => ⟨_, rfl, a, ns, 1, 3, rfl, hS.same (Same.upd hl0), (by decide), (by decide), (by decide), (by decide), hl, fun d H1 h0 h1 s1 => ⟨_, _, rfl, rfl, _, rfl, l0, _, rfl, SqL.of (s1 _ _ upd_same), fun ln hln => ?_⟩⟩⟩
      refine ⟨ln, (1 + d).toNat, by omega, by omega, rfl, ?_, ((Same.upd hl0).trans s1).to hln⟩
      rw [upd_same, show (1 : Int) + d = (((1 + d).toNat : Nat) : Int) by omega, cut_to (by rw [List.length_map]; show _ ≤ 3; omega), List.map_take]
      rfl
    rintro σ' H1 ⟨ln, n, hn0, hn1, rfl, hln, s1⟩
    obtain ⟨names, hnames0⟩ : ∃ names, names = nm3.take n := ⟨_, rfl⟩
    have hnl : names.length = n := by rw [hnames0, List.length_take]; show min n 3 = n; omega
    have hnm : ∀ x ∈ names, isName x = true := fun x hx => by
      rw [hnames0] at hx
      exact (by decide +kernel : ∀ y ∈ nm3, isName y = true) x (List.mem_of_mem_take hx)
    have hnd : names.Nodup := by
      rw [hnames0]
      exact (by decide +kernel : nm3.Nodup).sublist (List.take_sublist _ _)
    rw [← hnames0] at hln
    clear hnames0
    have hne : names ≠ [] := fun z => by rw [z] at hnl; simp at hnl; omega
    refine @at_cons _ _ _ _ _ _ _ (@ps_asg _ _ _ _ _ _ (@pe_call _ _ _ _ _ _ _ _ _ _ _ _ _ _ _ _ (ok__law_rules T) (hr.mono (by decide)) rfl T.mg__law_rules T.F__law_rules.kp (bd__law_rules T) .nil pass0 (@pa_cons _ _ _ _ _ (pv 0) (@pa_cons _ _ _ _ _ (@pe_callB _ _ _ _ _ _ _ _ _ call_len_seq (by rfl) T.z_len (by decide +kernel) (@pa_cons _ _ _ _ _ (pv 1) pa_nil (by walk_at "u")) (by walk_at "u") (by walk_at "u") (by walk_at "u") (by walk_at "u")) pa_nil (by walk_at "u")) (by walk_at "u")) (by walk_at "u") (by walk_at "u") (by walk_at "u")) (@pg_tup _ _ _ _ _ _ rfl (@pgs_cons _ _ _ _ _ (@pg_name _ _ 2 _ sc_law.nd rfl (Or.inl rfl) (by walk_at "u")) (@pgs_cons _ _ _ _ _ (@pg_name _ _ 3 _ sc_law.nd rfl (Or.inl rfl) (by walk_at "u")) pgs_nil (by walk_at "u")) (by walk_at "u")) (by walk_at "u") (by walk_at "u")) (by walk_at "u") (by walk_at "u") (by walk_at "u")) ⟨_, rfl, _, rfl, _, _, rfl, .inl (SqL.of hln), a, ns, n, by rw [List.length_map, hnl]; rfl, hS.same s1, hl, hn1, fun tp lm few pm H2 htp hP hpn hD hfew hlm0 s2 => ⟨tp, [.ref lm, .str few], rfl, SqT.of htp, rfl, _, _, rfl, _, _, rfl, rfl, ?_⟩⟩
    show At _ _ _ [some (.ref a), some (.ref ln), some (.ref lm), some (.str few), none, none, none, none] H2
    have hln2 := s2 _ _ hln
    have s12 := s1.trans s2
    have L : Law7 names pm := ⟨by rw [hnl, hpn], by omega, by omega, hnd, hnm, fun ps hps => by have := (hD ps hps).2.1; omega, fun ps hps => (hD ps hps).2.2⟩
    refine @at_cons _ _ _ _ _ _ _ (@ps_set _ _ 4 _ _ _ _ sc_law.nd rfl (Or.inl rfl) (@pe_call _ _ _ _ _ _ _ _ _ _ _ _ _ _ _ _ (ok_read_rules T) (hr.mono (by decide)) rfl T.mg_read_rules T.F_read_rules.kp (bd_read_rules T) .nil pass0 (@pa_cons _ _ _ _ _ (@pe_call _ _ _ _ _ _ _ _ _ _ _ _ _ _ _ _ (ok__law_text T) (hr.mono (by decide)) rfl T.mg__law_text T.F__law_text.kp (bd__law_text T) .nil pass0 (@pa_cons _ _ _ _ _ (pv 1) (@pa_cons _ _ _ _ _ (pv 2) pa_nil (by walk_at "u")) (by walk_at "u")) (by walk_at "u") (by walk_at "u") (by walk_at "u")) pa_nil (by walk_at "u")) (by walk_at "u") (by walk_at "u") (by walk_at "u")) (by walk_at "u") (by walk_at "u")) ⟨_, rfl, _, rfl, ln, lm, names, pm, rfl, hln2, hP, L, fun H3 s3 => ⟨itemsOf (mkMs names pm), rfl, L.bt.items, (by have := L.bt.len39; omega), fun r H4 hR s4 => ?_⟩⟩
    rw [fold_items] at hR
    have s34 := s3.trans s4
    have S0 : St7 t H4 r ln lm names pm := ⟨hR, s34 _ _ hln2, hP.same s34, L, fun ps hps => (hD ps hps).1⟩
    have hS4 := hS.same (s12.trans s34)
    clear hR hP s34 s3 s4 s12 s1 s2 hln hln2 htp
    show At _ _ _ [some (.ref a), some (.ref ln), some (.ref lm), some (.str few), some (.ref r), none, none, none] H4
    refine @at_consR _ _ _ _ _ _ _ (fun σ' H' => (∃ x5, σ' = [some (.ref a), some (.ref ln), some (.ref lm), some (.str few), some (.ref r), x5, none, none]) ∧ Same H4 H') (@ps_forA _ _ _ _ _ _ _ _ PassesOwn.never rfl (@pi_range1 _ _ _ _ _ _ rfl T.z_range (@pa_cons _ _ _ _ _ (@pe_callB _ _ _ _ _ _ _ _ _ call_len_seq (by rfl) T.z_len (by decide +kernel) (@pa_cons _ _ _ _ _ (pv 2) pa_nil (by walk_at "u")) (by walk_at "u") (by walk_at "u") (by walk_at "u") (by walk_at "u")) pa_nil (by walk_at "u")) (by walk_at "u")) (@pg_name _ _ 5 _ sc_law.nd rfl (Or.inl rfl) (by walk_at "u")) pss_at (by walk_at "u")) ?_ ?_
    · obtain ⟨us, hlm, _, hA⟩ := S0.pms
      refine ⟨_, rfl, _, _, rfl, .inl (SqL.of hlm), _, rfl, by rw [List.length_map]; omega, by rw [List.length_map, hA.1]; omega, ?_⟩
      rw [show (((us.map V.ref).length : Nat) : Int).toNat = pm.length by rw [List.length_map, hA.1]; omega]
      refine forW_range (n := pm.length) (fun k σ' H' => (∃ x5, σ' = [some (.ref a), some (.ref ln), some (.ref lm), some (.str few), some (.ref r), x5, none, none]) ∧ Same H4 H') ⟨⟨_, rfl⟩, Same.refl _⟩ ?_ ?_
      · rintro k σ' H5 hk ⟨⟨x5, rfl⟩, s5⟩
        exact @at_one _ _ _ _ _ _ (@ps_if _ _ _ _ _ _ _ _ (@pt_not _ _ _ _ (@pt_val _ _ _ (@pe_call _ _ _ _ _ _ _ _ _ _ _ _ _ _ _ _ (ok__law_good T) (hr.mono (by decide)) rfl T.mg__law_good T.F__law_good.kp (bd__law_good T) .nil pass0 (@pa_cons _ _ _ _ _ (pv 4) (@pa_cons _ _ _ _ _ (pv 2) (@pa_cons _ _ _ _ _ (pv 5) (@pa_cons _ _ _ _ _ (pv 3) pa_nil (by walk_at "u")) (by walk_at "u")) (by walk_at "u")) (by walk_at "u")) (by walk_at "u") (by walk_at "u") (by walk_at "u")) (by walk_at "u"))) pss_at pss_at) ⟨_, rfl, _, rfl, _, rfl, _, rfl, r, lm, k, few, names, pm, by rw [Int.zero_add]; rfl, S0.rl.same s5, S0.pms.same s5, L, hk, hfew, fun H6 s6 => ⟨true, rfl, iteF (at_nil ⟨⟨_, rfl⟩, s5.trans s6⟩)⟩⟩
      · exact fun _ _ z => z
    rintro σ' H5 ⟨⟨x5, rfl⟩, s5⟩
    have S5 : St7 t H5 r ln lm names pm := ⟨S0.rl.same s5, s5 _ _ S0.ln, S0.pms.same s5, L, S0.ones⟩
    refine @at_consR _ _ _ _ _ _ _ (fun σ' H' => ∃ k : Nat, k < n ∧ σ' = [some (.ref a), some (.ref ln), some (.ref lm), some (.str few), some (.ref r), some (.int k), none, none] ∧ Same H5 H') (@ps_set _ _ 5 _ _ _ _ sc_law.nd rfl (Or.inl rfl) (@pe_call _ _ _ _ _ _ _ _ _ _ _ _ _ _ _ _ (ok__law_draw T) (hr.mono (by decide)) rfl T.mg__law_draw T.F__law_draw.kp (bd__law_draw T) .nil pass0 (@pa_cons _ _ _ _ _ (pv 0) (@pa_cons _ _ _ _ _ pe_int (@pa_cons _ _ _ _ _ (@pe_callB _ _ _ _ _ _ _ _ _ call_len_seq (by rfl) T.z_len (by decide +kernel) (@pa_cons _ _ _ _ _ (pv 2) pa_nil (by walk_at "u")) (by walk_at "u") (by walk_at "u") (by walk_at "u") (by walk_at "u")) pa_nil (by walk_at "u")) (by walk_at "u")) (by walk_at "u")) (by walk_at "u") (by walk_at "u") (by walk_at "u")) (by walk_at "u") (by walk_at "u")) ?_ ?_
    · obtain ⟨us, hlm, _, hA⟩ := S5.pms
      refine ⟨_, rfl, _, rfl, _, _, rfl, .inl (SqL.of hlm), a, ns, _, _, rfl, hS4.same s5, (by decide), (by decide), (by rw [List.length_map, hA.1]; omega), (by rw [List.length_map, hA.1]; omega), hl, fun d H6 h0 h1 s6 => ?_⟩
      rw [List.length_map, hA.1] at h1
      exact ⟨d.toNat, by omega, by rw [Int.toNat_of_nonneg h0]; rfl, s6⟩
    rintro σ' H6 ⟨k, hk, rfl, s6⟩
    have S6 : St7 t H6 r ln lm names pm := ⟨S5.rl.same s6, s6 _ _ S5.ln, S5.pms.same s6, L, S5.ones⟩
    clear S5 S0 hS4 s5 s6 hD hlm0
    refine @at_consR _ _ _ _ _ _ _ (fun σ' H' => True) (@ps_forA _ _ _ _ _ _ _ _ PassesOwn.never rfl (@pi_range1 _ _ _ _ _ _ rfl T.z_range (@pa_cons _ _ _ _ _ pe_int pa_nil (by walk_at "u")) (by walk_at "u")) (@pg_name _ _ 6 _ sc_law.nd rfl (Or.inl rfl) (by walk_at "u")) pss_at (by walk_at "u")) ?_ ?_
    · refine ⟨2, rfl, by decide, by decide, forW_range (n := 2) (fun j σ' H' => ∃ r pm, pm.length = n ∧ (∃ x6 x7, σ' = [some (.ref a), some (.ref ln), some (.ref lm), some (.str few), some (.ref r), some (.int k), x6, x7]) ∧ St7 t H' r ln lm names pm) ⟨r, pm, hpn, ⟨_, _, rfl⟩, S6⟩ ?_ ?_⟩
      · clear S6 L hpn
        rintro j σ' H7 hj ⟨r, pm, hpn, ⟨x6, x7, rfl⟩, S⟩
        have L := S.law
        obtain ⟨us, hlm, hnd2, hA⟩ := id S.pms
        obtain ⟨ps, hps⟩ : ∃ p, pm[k]? = some p := ⟨pm[k]'(by omega), List.getElem?_eq_getElem _⟩
        obtain ⟨nm, hnmk⟩ : ∃ p, names[k]? = some p := ⟨names[k]'(by omega), List.getElem?_eq_getElem _⟩
        obtain ⟨u, hu, ts, hut, hT⟩ := hA.at hps
        have hpm := List.mem_of_getElem? hps
        have h1 := S.ones ps hpm
        have h12 := L.twelve ps hpm
        have hg := L.pr ps hpm
        have hau : atI (us.map V.ref) (k : Int) = some (.ref u) := at_ref hu
        have hm := mkMs_at hnmk hps
        refine @at_cons _ _ _ _ _ _ _ (@ps_set _ _ 7 _ _ _ _ sc_law.nd rfl (Or.inl rfl) (@pe_call _ _ _ _ _ _ _ _ _ _ _ _ _ _ _ _ (ok_piece_of T) (hr.mono (by decide)) rfl T.mg_piece_of T.F_piece_of.kp (bd_piece_of T) .nil pass0 (@pa_cons _ _ _ _ _ (pv 4) (@pa_cons _ _ _ _ _ (pv 5) (@pa_cons _ _ _ _ _ (@pe_op _ _ _ _ _ _ _ _ op_sub (@pe_callB _ _ _ _ _ _ _ _ _ call_len_seq (by rfl) T.z_len (by decide +kernel) (@pa_cons _ _ _ _ _ (@pe_ix _ _ _ _ _ _ _ ix_list (pv 2) (pv 5) (fun _ _ => rfl)) pa_nil (by walk_at "u")) (by walk_at "u") (by walk_at "u") (by walk_at "u") (by walk_at "u")) pe_int) pa_nil (by walk_at "u")) (by walk_at "u")) (by walk_at "u")) (by walk_at "u") (by walk_at "u") (by walk_at "u")) (by walk_at "u") (by walk_at "u")) ⟨_, rfl, _, rfl, _, rfl, _, rfl, _, _, _, _, rfl, rfl, SqL.of hlm, hau, _, _, rfl, .inl (SqL.of hut), _, _, rfl, rfl, r, mkMs names pm, _, k, ps.length - 1, ?_, S.rl, hm, by show ps.length - 1 < (ps.map mkR).length; rw [List.length_map]; omega, rules_ok hg h12, fun H8 s8 => ?_⟩
        · rw [List.length_map, hT.1]
          show [V.ref r, V.int k, V.int ((ps.length : Int) - 1)] = [V.ref r, V.int k, V.int ((ps.length - 1 : Nat) : Int)]
          rw [show ((ps.length : Int) - 1) = ((ps.length - 1 : Nat) : Int) by omega]
        have S8 : St7 t H8 r ln lm names pm := ⟨S.rl.same s8, s8 _ _ S.ln, S.pms.same s8, L, S.ones⟩
        cases hp : pieceM (mkRs ps) (ps.length - 1) with
        | none =>
          show At _ _ _ [some (.ref a), some (.ref ln), some (.ref lm), some (.str few), some (.ref r), some (.int k), some (.int (0 + (j : Int))), some .non] H8
          exact @at_cons _ _ _ _ _ _ _ (@ps_if _ _ _ _ _ _ _ _ (@PW.pt _ _ _ (@pw_or _ _ _ _ _ _ _ (@pt_cmpR _ _ _ _ _ _ _ _ op_isN (pv 7) pe_non (nomark _)) (@pw_or _ _ _ _ _ _ _ (@pt_cmpR _ _ _ _ _ _ _ _ op_eq (pv 7) pe_str (nomark _)) (@pw_or _ _ _ _ _ _ _ (@pt_cmpR _ _ _ _ _ _ _ _ op_eq (@pe_ix _ _ _ _ _ _ _ ix_str (pv 7) pe_int (fun _ _ => rfl)) pe_str (nomark _)) (@pw_or1 _ _ _ _ (@pt_cmpR _ _ _ _ _ _ _ _ op_gt (@pe_callB _ _ _ _ _ _ _ _ _ call_len_seq (by rfl) T.z_len (by decide +kernel) (@pa_cons _ _ _ _ _ (@pe_ix _ _ _ _ _ _ _ ix_list (pv 2) (pv 5) (fun _ _ => rfl)) pa_nil (by walk_at "u")) (by walk_at "u") (by walk_at "u") (by walk_at "u") (by walk_at "u")) pe_int (nomark _))))))) pss_at pss_at) ⟨_, rfl, rfl, _, rfl, ifd (fun _ => @at_one _ _ _ _ _ _ (@ps_ret _ _ _ _ pe_bl) (q _)) (fun h => absurd rfl h)⟩
        | some x =>
          obtain ⟨fx, lx⟩ := piece_fine (fun R hR hw => (rules_word hg R hR hw).2) hp
          show At _ _ _ [some (.ref a), some (.ref ln), some (.ref lm), some (.str few), some (.ref r), some (.int k), some (.int (0 + (j : Int))), some (.str x)] H8
          refine @at_consR _ _ _ _ _ _ _ (fun σ' H' => H' = H8 ∧ σ' = [some (.ref a), some (.ref ln), some (.ref lm), some (.str few), some (.ref r), some (.int k), some (.int (0 + (j : Int))), some (.str x)] ∧ x.length ≠ 0 ∧ (∃ c, x.cps.toList[0]? = some c ∧ c ≠ 95) ∧ ps.length ≤ 11) (@ps_if _ _ _ _ _ _ _ _ (@PW.pt _ _ _ (@pw_or _ _ _ _ _ _ _ (@pt_cmpR _ _ _ _ _ _ _ _ op_isN (pv 7) pe_non (nomark _)) (@pw_or _ _ _ _ _ _ _ (@pt_cmpR _ _ _ _ _ _ _ _ op_eq (pv 7) pe_str (nomark _)) (@pw_or _ _ _ _ _ _ _ (@pt_cmpR _ _ _ _ _ _ _ _ op_eq (@pe_ix _ _ _ _ _ _ _ ix_str (pv 7) pe_int (fun _ _ => rfl)) pe_str (nomark _)) (@pw_or1 _ _ _ _ (@pt_cmpR _ _ _ _ _ _ _ _ op_gt (@pe_callB _ _ _ _ _ _ _ _ _ call_len_seq (by rfl) T.z_len (by decide +kernel) (@pa_cons _ _ _ _ _ (@pe_ix _ _ _ _ _ _ _ ix_list (pv 2) (pv 5) (fun _ _ => rfl)) pa_nil (by walk_at "u")) (by walk_at "u") (by walk_at "u") (by walk_at "u") (by walk_at "u")) pe_int (nomark _))))))) pss_at pss_at) ?_ ?_
          · refine ⟨_, rfl, rfl, _, rfl, ifd (fun h => by cases h) (fun _ => ?_)⟩
            refine ⟨_, rfl, rfl, _, rfl, ifd (fun _ => @at_one _ _ _ _ _ _ (@ps_ret _ _ _ _ pe_bl) (q _)) (fun hx => ?_)⟩
            have hx0 : 0 < x.length := by
              rw [← len_cps]
              cases e : x.cps.toList with
              | nil => exact absurd (by rw [str_ext (x := x) (y := "") (by rw [e]; decide +kernel)]) hx
              | cons c y => simp
            obtain ⟨c, e1, e2⟩ := strAt (row := x) (i := 0) (by omega) (by omega)
            refine ⟨_, rfl, _, _, c, rfl, rfl, sl_le (by omega), e2, rfl, _, rfl, ifd (fun _ => @at_one _ _ _ _ _ _ (@ps_ret _ _ _ _ pe_bl) (q _)) (fun hc => ?_)⟩
            refine ⟨_, rfl, _, rfl, _, _, _, _, rfl, rfl, SqL.of (s8 _ _ hlm), hau, _, _, rfl, .inl (SqL.of (s8 _ _ hut)), _, _, rfl, rfl, _, rfl, ifd (fun _ => @at_one _ _ _ _ _ _ (@ps_ret _ _ _ _ pe_bl) (q _)) (fun hlen => at_nil ⟨rfl, rfl, by omega, ⟨c, e1, fun z => hc ?_⟩, ?_⟩)⟩
            · rw [z]
              show V.str ⟨#[95]⟩ = V.str "_"
              decide +kernel
            · rw [List.length_map, hT.1] at hlen
              omega
          rintro σ' H8' ⟨rfl, rfl, hx0, ⟨c, hc0, hc95⟩, h11⟩
          have hcS : c ∈ allS.cps.toList := sg_but95 c (fx c (List.mem_of_getElem? hc0)) hc95
          have hone : ∀ d ∈ (⟨#[c]⟩ : Str).cps.toList, d ∈ allS.cps.toList := fun d hd => by
            have : d = c := by simpa using hd
            rw [this]; exact hcS
          have GP : GoodPr (("one" : Str), (⟨#[c]⟩ : Str)) := ⟨by show ("one" : Str) ∈ sorts; decide, ⟨by show 1 ≤ 1; decide, by show 1 ≤ 100; decide, hone⟩⟩
          obtain ⟨c', e1, e2⟩ := strAt (row := x) (i := 0) (by omega) (by omega)
          have e1 : x.cps.toList[0]? = some c' := e1
          rw [hc0] at e1
          cases e1
          have hlm8 := s8 _ _ hlm
          have hut8 := s8 _ _ hut
          refine @at_cons _ _ _ _ _ _ _ (@ps_expr _ _ _ _ (@pe_bm _ _ _ _ _ _ _ _ _ _ _ _ PySem.F.plainAttrs_list PySem.F.slot_list_insert PySem.F.type_list_insert mt_insert (@pe_ix _ _ _ _ _ _ _ ix_list (pv 2) (pv 5) (fun _ _ => rfl)) (@pa_cons _ _ _ _ _ pe_int (@pa_cons _ _ _ _ _ (@pe_tup _ _ _ _ _ (@pa_cons _ _ _ _ _ pe_str (@pa_cons _ _ _ _ _ (@pe_ix _ _ _ _ _ _ _ ix_str (pv 7) pe_int (fun _ _ => rfl)) pa_nil (by walk_at "u")) (by walk_at "u"))) pa_nil (by walk_at "u")) (by walk_at "u")) (by walk_at "u") (by walk_at "u") (by walk_at "u") (by walk_at "u") (by walk_at "u")) (by walk_at "u")) ⟨_, rfl, _, rfl, _, _, _, _, rfl, rfl, SqL.of hlm8, hau, .inl ⟨rfl, _, SqL.of hut8⟩, _, rfl, _, _, c, rfl, rfl, sl_le (by omega), e2, by show 2 ≤ sizeLine; decide, fun tr htr => ⟨u, _, 0, 0, .ref tr, rfl, rfl, rfl, Same.upd htr _ _ hut8, Nat.zero_le _, by rw [List.length_map, hT.1]; omega, ?_⟩⟩
          have sT := Same.upd htr (o := .tup [.str "one", .str ⟨#[c]⟩])
          have hut9 := sT _ _ hut8
          have htne : ts ≠ [] := fun z => by rw [z] at hT; have := hT.1; simp at this; omega
          have P9 : PMs (upd (upd H8' tr (.tup [.str "one", .str ⟨#[c]⟩])) u (.lst ((tr :: ts).map V.ref))) lm (pm.set k ((("one" : Str), (⟨#[c]⟩ : Str)) :: ps)) :=
            PMs.ins (p := (("one" : Str), (⟨#[c]⟩ : Str))) (sT _ _ hlm8) hnd2 ((hA.mono fun _ _ y => y.same s8).mono fun _ _ y => y.same sT) hu hps hut9 ((hT.mono fun _ _ y => s8 _ _ y).mono fun _ _ y => sT _ _ y) htne upd_same
          have L9 := L.ins hps h11 GP
          have nul : ln ≠ u := fun z => by
            have e := s8 _ _ S.ln
            rw [z, hut8] at e
            injection e with e
            injection e with e
            exact ref_str hne e
          have hln9 : upd (upd H8' tr (.tup [.str "one", .str ⟨#[c]⟩])) u (.lst ((tr :: ts).map V.ref)) ln = some (.lst (names.map V.str)) := by rw [upd_ne nul]; exact sT _ _ (s8 _ _ S.ln)
          have eU : (((ts.map V.ref).take 0 ++ [V.ref tr]) ++ (ts.map V.ref).drop 0) = (tr :: ts).map V.ref := rfl
          rw [eU]
          generalize upd (upd H8' tr (.tup [.str "one", .str ⟨#[c]⟩])) u (.lst ((tr :: ts).map V.ref)) = H9 at P9 hln9
          refine @at_cons _ _ _ _ _ _ _ (@ps_set _ _ 4 _ _ _ _ sc_law.nd rfl (Or.inl rfl) (@pe_call _ _ _ _ _ _ _ _ _ _ _ _ _ _ _ _ (ok_read_rules T) (hr.mono (by decide)) rfl T.mg_read_rules T.F_read_rules.kp (bd_read_rules T) .nil pass0 (@pa_cons _ _ _ _ _ (@pe_call _ _ _ _ _ _ _ _ _ _ _ _ _ _ _ _ (ok__law_text T) (hr.mono (by decide)) rfl T.mg__law_text T.F__law_text.kp (bd__law_text T) .nil pass0 (@pa_cons _ _ _ _ _ (pv 1) (@pa_cons _ _ _ _ _ (pv 2) pa_nil (by walk_at "u")) (by walk_at "u")) (by walk_at "u") (by walk_at "u") (by walk_at "u")) pa_nil (by walk_at "u")) (by walk_at "u") (by walk_at "u") (by walk_at "u")) (by walk_at "u") (by walk_at "u")) ⟨_, rfl, _, rfl, ln, lm, names, _, rfl, hln9, P9, L9, fun H10 s10 => ⟨itemsOf (mkMs names (pm.set k ((("one" : Str), (⟨#[c]⟩ : Str)) :: ps))), rfl, L9.bt.items, (by have := L9.bt.len39; omega), fun r' H11 hR s11 => ?_⟩⟩
          rw [fold_items] at hR
          have s911 := s10.trans s11
          refine @at_one _ _ _ _ _ _ (@ps_if _ _ _ _ _ _ _ _ (@pt_not _ _ _ _ (@pt_val _ _ _ (@pe_call _ _ _ _ _ _ _ _ _ _ _ _ _ _ _ _ (ok__law_good T) (hr.mono (by decide)) rfl T.mg__law_good T.F__law_good.kp (bd__law_good T) .nil pass0 (@pa_cons _ _ _ _ _ (pv 4) (@pa_cons _ _ _ _ _ (pv 2) (@pa_cons _ _ _ _ _ (pv 5) (@pa_cons _ _ _ _ _ (pv 3) pa_nil (by walk_at "u")) (by walk_at "u")) (by walk_at "u")) (by walk_at "u")) (by walk_at "u") (by walk_at "u") (by walk_at "u")) (by walk_at "u"))) pss_at pss_at) ⟨_, rfl, _, rfl, _, rfl, _, rfl, r', lm, k, few, names, _, rfl, hR, P9.same s911, L9, by rw [List.length_set]; omega, hfew, fun H12 s12 => ⟨true, rfl, iteF (at_nil ⟨r', _, by rw [List.length_set]; exact hpn, ⟨_, _, rfl⟩, hR.same s12, s12 _ _ (s911 _ _ hln9), (P9.same s911).same s12, L9, fun q hq => ?_⟩)⟩⟩
          rcases List.mem_or_eq_of_mem_set hq with hq | rfl
          · exact S.ones q hq
          · rw [List.length_cons]; omega
      · intros; trivial
    rintro σ' H8 _
    exact @at_one _ _ _ _ _ _ (@ps_ret _ _ _ _ pe_bl) (q H8)
end
theorem all_mk {l : PySem.W.OpenLaw} {w : World} {K : PySem.W.Frag} {h : Heap} {mg : Str → Option Value} {fa c_TintError c_NoRules c_Pattern c_Word c_One c_Without c_Many c_Any c_Still c_End c_Rule c_Mode c_Rules c_Cursor f_Pattern_eaten f_Pattern_eats f_Word___init__ f_Word_eaten f_Word_eats f_One___init__ f_One_eaten f_One_eats f_Without___init__ f_Without_eaten f_Without_eats f_Many___init__ f_Many_eaten f_Many_eats f_Any_eaten f_Any_eats f_Still_eaten f_End_eaten f_Rule___init__ f_Mode___init__ f_Rules___init__ f_Cursor___init__ f_Cursor_more f_Cursor_peek f_Cursor_ask f_Cursor_take f_Cursor_take_choice f_Cursor_take_name f_Cursor_take_signs f_is_name f_first_rule f_short_rows f_piece_of f_read_rules f_mode_numbers f_read_mode f_read_rule f_read_pattern f_read_goal f__law_draw f__law_all f__law_signs f__law_rules f__law_text f__law_first f__law_rows f__law_good f_law g_PATTERNS g_DEEDS g_GOING g_FOLDS : Addr} {d_Pattern_eaten : FuncData} {d_Pattern_eats : FuncData} {d_Word___init__ : FuncData} {d_Word_eaten : FuncData} {d_Word_eats : FuncData} {d_One___init__ : FuncData} {d_One_eaten : FuncData} {d_One_eats : FuncData} {d_Without___init__ : FuncData} {d_Without_eaten : FuncData} {d_Without_eats : FuncData} {d_Many___init__ : FuncData} {d_Many_eaten : FuncData} {d_Many_eats : FuncData} {d_Any_eaten : FuncData} {d_Any_eats : FuncData} {d_Still_eaten : FuncData} {d_End_eaten : FuncData} {d_Rule___init__ : FuncData} {d_Mode___init__ : FuncData} {d_Rules___init__ : FuncData} {d_Cursor___init__ : FuncData} {d_Cursor_more : FuncData} {d_Cursor_peek : FuncData} {d_Cursor_ask : FuncData} {d_Cursor_take : FuncData} {d_Cursor_take_choice : FuncData} {d_Cursor_take_name : FuncData} {d_Cursor_take_signs : FuncData} {d_is_name : FuncData} {d_first_rule : FuncData} {d_short_rows : FuncData} {d_piece_of : FuncData} {d_read_rules : FuncData} {d_mode_numbers : FuncData} {d_read_mode : FuncData} {d_read_rule : FuncData} {d_read_pattern : FuncData} {d_read_goal : FuncData} {d__law_draw : FuncData} {d__law_all : FuncData} {d__law_signs : FuncData} {d__law_rules : FuncData} {d__law_text : FuncData} {d__law_first : FuncData} {d__law_rows : FuncData} {d__law_good : FuncData} {d_law : FuncData} {u_LETTERS : Tok} {u_LONGEST_NAME : Tok} {u_SIGNS : Tok} {u_MOST_MODES : Tok} {u_MOST_RULES : Tok} {u0_PATTERNS u1_PATTERNS u2_PATTERNS u3_PATTERNS u4_PATTERNS u5_PATTERNS u6_PATTERNS : Tok} {od_PATTERNS : Option Addr} {n_PATTERNS : Nat} {sl_PATTERNS : Array (Option Value)} {u0_DEEDS u1_DEEDS u2_DEEDS u3_DEEDS : Tok} {od_DEEDS : Option Addr} {n_DEEDS : Nat} {sl_DEEDS : Array (Option Value)} {u0_GOING u1_GOING : Tok} {od_GOING : Option Addr} {n_GOING : Nat} {sl_GOING : Array (Option Value)} {u0_FOLDS u1_FOLDS : Tok} {od_FOLDS : Option Addr} {n_FOLDS : Nat} {sl_FOLDS : Array (Option Value)} (X : K.In h) (G : h.Ns mainGlobals mg) (hfa : mg "law" = some (.ref fa))
    (a_TintError : PySem.W.nsIn K mainGlobals "TintError" = some (some (.ref c_TintError)))
    (a_NoRules : PySem.W.nsIn K mainGlobals "NoRules" = some (some (.ref c_NoRules)))
    (a_Pattern : PySem.W.nsIn K mainGlobals "Pattern" = some (some (.ref c_Pattern)))
    (a_Word : PySem.W.nsIn K mainGlobals "Word" = some (some (.ref c_Word)))
    (a_One : PySem.W.nsIn K mainGlobals "One" = some (some (.ref c_One)))
    (a_Without : PySem.W.nsIn K mainGlobals "Without" = some (some (.ref c_Without)))
    (a_Many : PySem.W.nsIn K mainGlobals "Many" = some (some (.ref c_Many)))
    (a_Any : PySem.W.nsIn K mainGlobals "Any" = some (some (.ref c_Any)))
    (a_Still : PySem.W.nsIn K mainGlobals "Still" = some (some (.ref c_Still)))
    (a_End : PySem.W.nsIn K mainGlobals "End" = some (some (.ref c_End)))
    (a_Rule : PySem.W.nsIn K mainGlobals "Rule" = some (some (.ref c_Rule)))
    (a_Mode : PySem.W.nsIn K mainGlobals "Mode" = some (some (.ref c_Mode)))
    (a_Rules : PySem.W.nsIn K mainGlobals "Rules" = some (some (.ref c_Rules)))
    (a_Cursor : PySem.W.nsIn K mainGlobals "Cursor" = some (some (.ref c_Cursor)))
    (a_Pattern_eaten : PySem.W.findIn K (.ref c_Pattern) "eaten" = some (some (.ref f_Pattern_eaten)))
    (i_Pattern_eaten : PySem.W.isFn K (.ref f_Pattern_eaten) = true)
    (F_Pattern_eaten : Fun K "eaten" "Pattern.eaten" s_Pattern_eaten f_Pattern_eaten d_Pattern_eaten)
    (a_Pattern_eats : PySem.W.findIn K (.ref c_Pattern) "eats" = some (some (.ref f_Pattern_eats)))
    (i_Pattern_eats : PySem.W.isFn K (.ref f_Pattern_eats) = true)
    (F_Pattern_eats : Fun K "eats" "Pattern.eats" s_Pattern_eats f_Pattern_eats d_Pattern_eats)
    (a_Word___init__ : PySem.W.findIn K (.ref c_Word) "__init__" = some (some (.ref f_Word___init__)))
    (i_Word___init__ : PySem.W.isFn K (.ref f_Word___init__) = true)
    (F_Word___init__ : Fun K "__init__" "Word.__init__" s_Word___init__ f_Word___init__ d_Word___init__)
    (a_Word_eaten : PySem.W.findIn K (.ref c_Word) "eaten" = some (some (.ref f_Word_eaten)))
    (i_Word_eaten : PySem.W.isFn K (.ref f_Word_eaten) = true)
    (F_Word_eaten : Fun K "eaten" "Word.eaten" s_Word_eaten f_Word_eaten d_Word_eaten)
    (a_Word_eats : PySem.W.findIn K (.ref c_Word) "eats" = some (some (.ref f_Word_eats)))
    (i_Word_eats : PySem.W.isFn K (.ref f_Word_eats) = true)
    (F_Word_eats : Fun K "eats" "Word.eats" s_Word_eats f_Word_eats d_Word_eats)
    (a_One___init__ : PySem.W.findIn K (.ref c_One) "__init__" = some (some (.ref f_One___init__)))
    (i_One___init__ : PySem.W.isFn K (.ref f_One___init__) = true)
    (F_One___init__ : Fun K "__init__" "One.__init__" s_One___init__ f_One___init__ d_One___init__)
    (a_One_eaten : PySem.W.findIn K (.ref c_One) "eaten" = some (some (.ref f_One_eaten)))
    (i_One_eaten : PySem.W.isFn K (.ref f_One_eaten) = true)
    (F_One_eaten : Fun K "eaten" "One.eaten" s_One_eaten f_One_eaten d_One_eaten)
    (a_One_eats : PySem.W.findIn K (.ref c_One) "eats" = some (some (.ref f_One_eats)))
    (i_One_eats : PySem.W.isFn K (.ref f_One_eats) = true)
    (F_One_eats : Fun K "eats" "One.eats" s_One_eats f_One_eats d_One_eats)
    (a_Without___init__ : PySem.W.findIn K (.ref c_Without) "__init__" = some (some (.ref f_Without___init__)))
    (i_Without___init__ : PySem.W.isFn K (.ref f_Without___init__) = true)
    (F_Without___init__ : Fun K "__init__" "Without.__init__" s_Without___init__ f_Without___init__ d_Without___init__)
    (a_Without_eaten : PySem.W.findIn K (.ref c_Without) "eaten" = some (some (.ref f_Without_eaten)))
    (i_Without_eaten : PySem.W.isFn K (.ref f_Without_eaten) = true)
    (F_Without_eaten : Fun K "eaten" "Without.eaten" s_Without_eaten f_Without_eaten d_Without_eaten)
    (a_Without_eats : PySem.W.findIn K (.ref c_Without) "eats" = some (some (.ref f_Without_eats)))
    (i_Without_eats : PySem.W.isFn K (.ref f_Without_eats) = true)
    (F_Without_eats : Fun K "eats" "Without.eats" s_Without_eats f_Without_eats d_Without_eats)
    (a_Many___init__ : PySem.W.findIn K (.ref c_Many) "__init__" = some (some (.ref f_Many___init__)))
    (i_Many___init__ : PySem.W.isFn K (.ref f_Many___init__) = true)
    (F_Many___init__ : Fun K "__init__" "Many.__init__" s_Many___init__ f_Many___init__ d_Many___init__)
    (a_Many_eaten : PySem.W.findIn K (.ref c_Many) "eaten" = some (some (.ref f_Many_eaten)))
    (i_Many_eaten : PySem.W.isFn K (.ref f_Many_eaten) = true)
    (F_Many_eaten : Fun K "eaten" "Many.eaten" s_Many_eaten f_Many_eaten d_Many_eaten)
    (a_Many_eats : PySem.W.findIn K (.ref c_Many) "eats" = some (some (.ref f_Many_eats)))
    (i_Many_eats : PySem.W.isFn K (.ref f_Many_eats) = true)
    (F_Many_eats : Fun K "eats" "Many.eats" s_Many_eats f_Many_eats d_Many_eats)
    (a_Any_eaten : PySem.W.findIn K (.ref c_Any) "eaten" = some (some (.ref f_Any_eaten)))
    (i_Any_eaten : PySem.W.isFn K (.ref f_Any_eaten) = true)
    (F_Any_eaten : Fun K "eaten" "Any.eaten" s_Any_eaten f_Any_eaten d_Any_eaten)
    (a_Any_eats : PySem.W.findIn K (.ref c_Any) "eats" = some (some (.ref f_Any_eats)))
    (i_Any_eats : PySem.W.isFn K (.ref f_Any_eats) = true)
    (F_Any_eats : Fun K "eats" "Any.eats" s_Any_eats f_Any_eats d_Any_eats)
    (a_Still_eaten : PySem.W.findIn K (.ref c_Still) "eaten" = some (some (.ref f_Still_eaten)))
    (i_Still_eaten : PySem.W.isFn K (.ref f_Still_eaten) = true)
    (F_Still_eaten : Fun K "eaten" "Still.eaten" s_Still_eaten f_Still_eaten d_Still_eaten)
    (a_End_eaten : PySem.W.findIn K (.ref c_End) "eaten" = some (some (.ref f_End_eaten)))
    (i_End_eaten : PySem.W.isFn K (.ref f_End_eaten) = true)
    (F_End_eaten : Fun K "eaten" "End.eaten" s_End_eaten f_End_eaten d_End_eaten)
    (a_Rule___init__ : PySem.W.findIn K (.ref c_Rule) "__init__" = some (some (.ref f_Rule___init__)))
    (i_Rule___init__ : PySem.W.isFn K (.ref f_Rule___init__) = true)
    (F_Rule___init__ : Fun K "__init__" "Rule.__init__" s_Rule___init__ f_Rule___init__ d_Rule___init__)
    (a_Mode___init__ : PySem.W.findIn K (.ref c_Mode) "__init__" = some (some (.ref f_Mode___init__)))
    (i_Mode___init__ : PySem.W.isFn K (.ref f_Mode___init__) = true)
    (F_Mode___init__ : Fun K "__init__" "Mode.__init__" s_Mode___init__ f_Mode___init__ d_Mode___init__)
    (a_Rules___init__ : PySem.W.findIn K (.ref c_Rules) "__init__" = some (some (.ref f_Rules___init__)))
    (i_Rules___init__ : PySem.W.isFn K (.ref f_Rules___init__) = true)
    (F_Rules___init__ : Fun K "__init__" "Rules.__init__" s_Rules___init__ f_Rules___init__ d_Rules___init__)
    (a_Cursor___init__ : PySem.W.findIn K (.ref c_Cursor) "__init__" = some (some (.ref f_Cursor___init__)))
    (i_Cursor___init__ : PySem.W.isFn K (.ref f_Cursor___init__) = true)
    (F_Cursor___init__ : Fun K "__init__" "Cursor.__init__" s_Cursor___init__ f_Cursor___init__ d_Cursor___init__)
    (a_Cursor_more : PySem.W.findIn K (.ref c_Cursor) "more" = some (some (.ref f_Cursor_more)))
    (i_Cursor_more : PySem.W.isFn K (.ref f_Cursor_more) = true)
    (F_Cursor_more : Fun K "more" "Cursor.more" s_Cursor_more f_Cursor_more d_Cursor_more)
    (a_Cursor_peek : PySem.W.findIn K (.ref c_Cursor) "peek" = some (some (.ref f_Cursor_peek)))
    (i_Cursor_peek : PySem.W.isFn K (.ref f_Cursor_peek) = true)
    (F_Cursor_peek : Fun K "peek" "Cursor.peek" s_Cursor_peek f_Cursor_peek d_Cursor_peek)
    (a_Cursor_ask : PySem.W.findIn K (.ref c_Cursor) "ask" = some (some (.ref f_Cursor_ask)))
    (i_Cursor_ask : PySem.W.isFn K (.ref f_Cursor_ask) = true)
    (F_Cursor_ask : Fun K "ask" "Cursor.ask" s_Cursor_ask f_Cursor_ask d_Cursor_ask)
    (a_Cursor_take : PySem.W.findIn K (.ref c_Cursor) "take" = some (some (.ref f_Cursor_take)))
    (i_Cursor_take : PySem.W.isFn K (.ref f_Cursor_take) = true)
    (F_Cursor_take : Fun K "take" "Cursor.take" s_Cursor_take f_Cursor_take d_Cursor_take)
    (a_Cursor_take_choice : PySem.W.findIn K (.ref c_Cursor) "take_choice" = some (some (.ref f_Cursor_take_choice)))
    (i_Cursor_take_choice : PySem.W.isFn K (.ref f_Cursor_take_choice) = true)
    (F_Cursor_take_choice : Fun K "take_choice" "Cursor.take_choice" s_Cursor_take_choice f_Cursor_take_choice d_Cursor_take_choice)
    (a_Cursor_take_name : PySem.W.findIn K (.ref c_Cursor) "take_name" = some (some (.ref f_Cursor_take_name)))
    (i_Cursor_take_name : PySem.W.isFn K (.ref f_Cursor_take_name) = true)
    (F_Cursor_take_name : Fun K "take_name" "Cursor.take_name" s_Cursor_take_name f_Cursor_take_name d_Cursor_take_name)
    (a_Cursor_take_signs : PySem.W.findIn K (.ref c_Cursor) "take_signs" = some (some (.ref f_Cursor_take_signs)))
    (i_Cursor_take_signs : PySem.W.isFn K (.ref f_Cursor_take_signs) = true)
    (F_Cursor_take_signs : Fun K "take_signs" "Cursor.take_signs" s_Cursor_take_signs f_Cursor_take_signs d_Cursor_take_signs)
    (a_is_name : PySem.W.nsIn K mainGlobals "is_name" = some (some (.ref f_is_name)))
    (F_is_name : Fun K "is_name" "is_name" s_is_name f_is_name d_is_name)
    (a_first_rule : PySem.W.nsIn K mainGlobals "first_rule" = some (some (.ref f_first_rule)))
    (F_first_rule : Fun K "first_rule" "first_rule" s_first_rule f_first_rule d_first_rule)
    (a_short_rows : PySem.W.nsIn K mainGlobals "short_rows" = some (some (.ref f_short_rows)))
    (F_short_rows : Fun K "short_rows" "short_rows" s_short_rows f_short_rows d_short_rows)
    (a_piece_of : PySem.W.nsIn K mainGlobals "piece_of" = some (some (.ref f_piece_of)))
    (F_piece_of : Fun K "piece_of" "piece_of" s_piece_of f_piece_of d_piece_of)
    (a_read_rules : PySem.W.nsIn K mainGlobals "read_rules" = some (some (.ref f_read_rules)))
    (F_read_rules : Fun K "read_rules" "read_rules" s_read_rules f_read_rules d_read_rules)
    (a_mode_numbers : PySem.W.nsIn K mainGlobals "mode_numbers" = some (some (.ref f_mode_numbers)))
    (F_mode_numbers : Fun K "mode_numbers" "mode_numbers" s_mode_numbers f_mode_numbers d_mode_numbers)
    (a_read_mode : PySem.W.nsIn K mainGlobals "read_mode" = some (some (.ref f_read_mode)))
    (F_read_mode : Fun K "read_mode" "read_mode" s_read_mode f_read_mode d_read_mode)
    (a_read_rule : PySem.W.nsIn K mainGlobals "read_rule" = some (some (.ref f_read_rule)))
    (F_read_rule : Fun K "read_rule" "read_rule" s_read_rule f_read_rule d_read_rule)
    (a_read_pattern : PySem.W.nsIn K mainGlobals "read_pattern" = some (some (.ref f_read_pattern)))
    (F_read_pattern : Fun K "read_pattern" "read_pattern" s_read_pattern f_read_pattern d_read_pattern)
    (a_read_goal : PySem.W.nsIn K mainGlobals "read_goal" = some (some (.ref f_read_goal)))
    (F_read_goal : Fun K "read_goal" "read_goal" s_read_goal f_read_goal d_read_goal)
    (a__law_draw : PySem.W.nsIn K mainGlobals "_law_draw" = some (some (.ref f__law_draw)))
    (F__law_draw : Fun K "_law_draw" "_law_draw" s__law_draw f__law_draw d__law_draw)
    (a__law_all : PySem.W.nsIn K mainGlobals "_law_all" = some (some (.ref f__law_all)))
    (F__law_all : Fun K "_law_all" "_law_all" s__law_all f__law_all d__law_all)
    (a__law_signs : PySem.W.nsIn K mainGlobals "_law_signs" = some (some (.ref f__law_signs)))
    (F__law_signs : Fun K "_law_signs" "_law_signs" s__law_signs f__law_signs d__law_signs)
    (a__law_rules : PySem.W.nsIn K mainGlobals "_law_rules" = some (some (.ref f__law_rules)))
    (F__law_rules : Fun K "_law_rules" "_law_rules" s__law_rules f__law_rules d__law_rules)
    (a__law_text : PySem.W.nsIn K mainGlobals "_law_text" = some (some (.ref f__law_text)))
    (F__law_text : Fun K "_law_text" "_law_text" s__law_text f__law_text d__law_text)
    (a__law_first : PySem.W.nsIn K mainGlobals "_law_first" = some (some (.ref f__law_first)))
    (F__law_first : Fun K "_law_first" "_law_first" s__law_first f__law_first d__law_first)
    (a__law_rows : PySem.W.nsIn K mainGlobals "_law_rows" = some (some (.ref f__law_rows)))
    (F__law_rows : Fun K "_law_rows" "_law_rows" s__law_rows f__law_rows d__law_rows)
    (a__law_good : PySem.W.nsIn K mainGlobals "_law_good" = some (some (.ref f__law_good)))
    (F__law_good : Fun K "_law_good" "_law_good" s__law_good f__law_good d__law_good)
    (a_law : PySem.W.nsIn K mainGlobals "law" = some (some (.ref f_law)))
    (F_law : Fun K "law" "law" s_law f_law d_law)
    (pg_Word : PySem.W.plainGet K c_Word Str.empty = true)
    (hd_Word : PySem.W.hasDictIn K c_Word = true)
    (po_Word : PySem.W.plainOver K c_Word = true)
    (sa_Word : PySem.W.findIn K (.ref c_Word) "__setattr__" = some (some (.builtin "object.__setattr__")))
    (mk_Word : PySem.W.makesIn K c_Word = true)
    (kc_Word : PySem.W.keepIn K (.ref c_Word) = true)
    (n_Word_wanted : PySem.W.findIn K (.ref c_Word) "wanted" = some none)
    (pg_One : PySem.W.plainGet K c_One Str.empty = true)
    (hd_One : PySem.W.hasDictIn K c_One = true)
    (po_One : PySem.W.plainOver K c_One = true)
    (sa_One : PySem.W.findIn K (.ref c_One) "__setattr__" = some (some (.builtin "object.__setattr__")))
    (mk_One : PySem.W.makesIn K c_One = true)
    (kc_One : PySem.W.keepIn K (.ref c_One) = true)
    (n_One_signs : PySem.W.findIn K (.ref c_One) "signs" = some none)
    (pg_Without : PySem.W.plainGet K c_Without Str.empty = true)
    (hd_Without : PySem.W.hasDictIn K c_Without = true)
    (po_Without : PySem.W.plainOver K c_Without = true)
    (sa_Without : PySem.W.findIn K (.ref c_Without) "__setattr__" = some (some (.builtin "object.__setattr__")))
    (mk_Without : PySem.W.makesIn K c_Without = true)
    (kc_Without : PySem.W.keepIn K (.ref c_Without) = true)
    (n_Without_signs : PySem.W.findIn K (.ref c_Without) "signs" = some none)
    (pg_Many : PySem.W.plainGet K c_Many Str.empty = true)
    (hd_Many : PySem.W.hasDictIn K c_Many = true)
    (po_Many : PySem.W.plainOver K c_Many = true)
    (sa_Many : PySem.W.findIn K (.ref c_Many) "__setattr__" = some (some (.builtin "object.__setattr__")))
    (mk_Many : PySem.W.makesIn K c_Many = true)
    (kc_Many : PySem.W.keepIn K (.ref c_Many) = true)
    (n_Many_signs : PySem.W.findIn K (.ref c_Many) "signs" = some none)
    (pg_Any : PySem.W.plainGet K c_Any Str.empty = true)
    (hd_Any : PySem.W.hasDictIn K c_Any = true)
    (po_Any : PySem.W.plainOver K c_Any = true)
    (sa_Any : PySem.W.findIn K (.ref c_Any) "__setattr__" = some (some (.builtin "object.__setattr__")))
    (mk_Any : PySem.W.makesIn K c_Any = true)
    (kc_Any : PySem.W.keepIn K (.ref c_Any) = true)
    (oi_Any : PySem.W.findIn K (.ref c_Any) "__init__" = some (some (.builtin "object.__init__")))
    (pg_Still : PySem.W.plainGet K c_Still Str.empty = true)
    (hd_Still : PySem.W.hasDictIn K c_Still = true)
    (po_Still : PySem.W.plainOver K c_Still = true)
    (sa_Still : PySem.W.findIn K (.ref c_Still) "__setattr__" = some (some (.builtin "object.__setattr__")))
    (mk_Still : PySem.W.makesIn K c_Still = true)
    (kc_Still : PySem.W.keepIn K (.ref c_Still) = true)
    (oi_Still : PySem.W.findIn K (.ref c_Still) "__init__" = some (some (.builtin "object.__init__")))
    (h_Still_eats : PySem.W.findIn K (.ref c_Still) "eats" = some (some (.ref f_Pattern_eats)))
    (pg_End : PySem.W.plainGet K c_End Str.empty = true)
    (hd_End : PySem.W.hasDictIn K c_End = true)
    (po_End : PySem.W.plainOver K c_End = true)
    (sa_End : PySem.W.findIn K (.ref c_End) "__setattr__" = some (some (.builtin "object.__setattr__")))
    (mk_End : PySem.W.makesIn K c_End = true)
    (kc_End : PySem.W.keepIn K (.ref c_End) = true)
    (oi_End : PySem.W.findIn K (.ref c_End) "__init__" = some (some (.builtin "object.__init__")))
    (h_End_eats : PySem.W.findIn K (.ref c_End) "eats" = some (some (.ref f_Pattern_eats)))
    (pg_Rule : PySem.W.plainGet K c_Rule Str.empty = true)
    (hd_Rule : PySem.W.hasDictIn K c_Rule = true)
    (po_Rule : PySem.W.plainOver K c_Rule = true)
    (sa_Rule : PySem.W.findIn K (.ref c_Rule) "__setattr__" = some (some (.builtin "object.__setattr__")))
    (mk_Rule : PySem.W.makesIn K c_Rule = true)
    (kc_Rule : PySem.W.keepIn K (.ref c_Rule) = true)
    (n_Rule_pattern : PySem.W.findIn K (.ref c_Rule) "pattern" = some none)
    (n_Rule_colour : PySem.W.findIn K (.ref c_Rule) "colour" = some none)
    (n_Rule_deed : PySem.W.findIn K (.ref c_Rule) "deed" = some none)
    (n_Rule_goal : PySem.W.findIn K (.ref c_Rule) "goal" = some none)
    (n_Rule_fold : PySem.W.findIn K (.ref c_Rule) "fold" = some none)
    (pg_Mode : PySem.W.plainGet K c_Mode Str.empty = true)
    (hd_Mode : PySem.W.hasDictIn K c_Mode = true)
    (po_Mode : PySem.W.plainOver K c_Mode = true)
    (sa_Mode : PySem.W.findIn K (.ref c_Mode) "__setattr__" = some (some (.builtin "object.__setattr__")))
    (mk_Mode : PySem.W.makesIn K c_Mode = true)
    (kc_Mode : PySem.W.keepIn K (.ref c_Mode) = true)
    (n_Mode_name : PySem.W.findIn K (.ref c_Mode) "name" = some none)
    (n_Mode_colour : PySem.W.findIn K (.ref c_Mode) "colour" = some none)
    (n_Mode_rules : PySem.W.findIn K (.ref c_Mode) "rules" = some none)
    (pg_Rules : PySem.W.plainGet K c_Rules Str.empty = true)
    (hd_Rules : PySem.W.hasDictIn K c_Rules = true)
    (po_Rules : PySem.W.plainOver K c_Rules = true)
    (sa_Rules : PySem.W.findIn K (.ref c_Rules) "__setattr__" = some (some (.builtin "object.__setattr__")))
    (mk_Rules : PySem.W.makesIn K c_Rules = true)
    (kc_Rules : PySem.W.keepIn K (.ref c_Rules) = true)
    (n_Rules_modes : PySem.W.findIn K (.ref c_Rules) "modes" = some none)
    (pg_Cursor : PySem.W.plainGet K c_Cursor Str.empty = true)
    (hd_Cursor : PySem.W.hasDictIn K c_Cursor = true)
    (po_Cursor : PySem.W.plainOver K c_Cursor = true)
    (sa_Cursor : PySem.W.findIn K (.ref c_Cursor) "__setattr__" = some (some (.builtin "object.__setattr__")))
    (mk_Cursor : PySem.W.makesIn K c_Cursor = true)
    (kc_Cursor : PySem.W.keepIn K (.ref c_Cursor) = true)
    (n_Cursor_row : PySem.W.findIn K (.ref c_Cursor) "row" = some none)
    (n_Cursor_words : PySem.W.findIn K (.ref c_Cursor) "words" = some none)
    (n_Cursor_at : PySem.W.findIn K (.ref c_Cursor) "at" = some none)
    (cg : PySem.W.specialIn K (.builtin "object.__class__") "__get__" = some (some (.builtin "getset_descriptor.__get__")))
    (ct : PySem.W.takesIn K (.builtin "object.__class__") = some true)
    (ty_Word : PySem.W.findIn K (.ref c_Word) "__class__" = some (some (.builtin "object.__class__")))
    (mr_Word : PySem.W.mroIn K c_Word (.type "object") = some true)
    (ty_One : PySem.W.findIn K (.ref c_One) "__class__" = some (some (.builtin "object.__class__")))
    (mr_One : PySem.W.mroIn K c_One (.type "object") = some true)
    (ty_Without : PySem.W.findIn K (.ref c_Without) "__class__" = some (some (.builtin "object.__class__")))
    (mr_Without : PySem.W.mroIn K c_Without (.type "object") = some true)
    (ty_Many : PySem.W.findIn K (.ref c_Many) "__class__" = some (some (.builtin "object.__class__")))
    (mr_Many : PySem.W.mroIn K c_Many (.type "object") = some true)
    (ty_Any : PySem.W.findIn K (.ref c_Any) "__class__" = some (some (.builtin "object.__class__")))
    (mr_Any : PySem.W.mroIn K c_Any (.type "object") = some true)
    (ty_Still : PySem.W.findIn K (.ref c_Still) "__class__" = some (some (.builtin "object.__class__")))
    (mr_Still : PySem.W.mroIn K c_Still (.type "object") = some true)
    (ty_End : PySem.W.findIn K (.ref c_End) "__class__" = some (some (.builtin "object.__class__")))
    (mr_End : PySem.W.mroIn K c_End (.type "object") = some true)
    (kit_Word_Word : PySem.W.kitOne K (.ref c_Word) (.ref c_Word) = some true)
    (kit_One_Word : PySem.W.kitOne K (.ref c_One) (.ref c_Word) = some false)
    (kit_Without_Word : PySem.W.kitOne K (.ref c_Without) (.ref c_Word) = some false)
    (kit_Many_Word : PySem.W.kitOne K (.ref c_Many) (.ref c_Word) = some false)
    (kit_Any_Word : PySem.W.kitOne K (.ref c_Any) (.ref c_Word) = some false)
    (kit_Still_Word : PySem.W.kitOne K (.ref c_Still) (.ref c_Word) = some false)
    (kit_End_Word : PySem.W.kitOne K (.ref c_End) (.ref c_Word) = some false)
    (kb_str_str : PySem.W.kitOne K (.type "str") (.type "str") = some true)
    (v_LETTERS : PySem.W.nsIn K mainGlobals "LETTERS" = some (some (.str "abcdefghijklmnopqrstuvwxyz" u_LETTERS)))
    (v_LONGEST_NAME : PySem.W.nsIn K mainGlobals "LONGEST_NAME" = some (some (.int 8 u_LONGEST_NAME)))
    (v_SIGNS : PySem.W.nsIn K mainGlobals "SIGNS" = some (some (.str " !\"#$&'()*+,-./0123456789:;<=>?@ABCDEFGHIJKLMNOPQRSTUVWXYZ[\\]^_`abcdefghijklmnopqrstuvwxyz{|}~" u_SIGNS)))
    (v_MOST_MODES : PySem.W.nsIn K mainGlobals "MOST_MODES" = some (some (.int 12 u_MOST_MODES)))
    (v_MOST_RULES : PySem.W.nsIn K mainGlobals "MOST_RULES" = some (some (.int 12 u_MOST_RULES)))
    (v_PATTERNS : PySem.W.nsIn K mainGlobals "PATTERNS" = some (some (.ref g_PATTERNS)))
    (o_PATTERNS : K.lookup g_PATTERNS = some ⟨.type "tuple", od_PATTERNS, .seq #[.str "word" u0_PATTERNS, .str "one" u1_PATTERNS, .str "none" u2_PATTERNS, .str "many" u3_PATTERNS, .str "any" u4_PATTERNS, .str "still" u5_PATTERNS, .str "end" u6_PATTERNS] n_PATTERNS, sl_PATTERNS⟩)
    (v_DEEDS : PySem.W.nsIn K mainGlobals "DEEDS" = some (some (.ref g_DEEDS)))
    (o_DEEDS : K.lookup g_DEEDS = some ⟨.type "tuple", od_DEEDS, .seq #[.str "stay" u0_DEEDS, .str "push" u1_DEEDS, .str "pop" u2_DEEDS, .str "into" u3_DEEDS] n_DEEDS, sl_DEEDS⟩)
    (v_GOING : PySem.W.nsIn K mainGlobals "GOING" = some (some (.ref g_GOING)))
    (o_GOING : K.lookup g_GOING = some ⟨.type "tuple", od_GOING, .seq #[.str "push" u0_GOING, .str "into" u1_GOING] n_GOING, sl_GOING⟩)
    (v_FOLDS : PySem.W.nsIn K mainGlobals "FOLDS" = some (some (.ref g_FOLDS)))
    (o_FOLDS : K.lookup g_FOLDS = some ⟨.type "tuple", od_FOLDS, .seq #[.str "open" u0_FOLDS, .str "close" u1_FOLDS] n_FOLDS, sl_FOLDS⟩)
    (z_all : PySem.W.nsIn K mainGlobals "all" = some none)
    (z_enumerate : PySem.W.nsIn K mainGlobals "enumerate" = some none)
    (z_isinstance : PySem.W.nsIn K mainGlobals "isinstance" = some none)
    (z_len : PySem.W.nsIn K mainGlobals "len" = some none)
    (z_list : PySem.W.nsIn K mainGlobals "list" = some none)
    (z_max : PySem.W.nsIn K mainGlobals "max" = some none)
    (z_range : PySem.W.nsIn K mainGlobals "range" = some none)
    (z_str : PySem.W.nsIn K mainGlobals "str" = some none)
    : ∃ fd : FuncData, (∀ (s : Shared) (v : Value), BindsTo s fd ⟨[v], []⟩ [("_law_script", v)]) ∧ ∀ base : Heap, K.In base → base.Ns mainGlobals mg → FnOk l.prog w K mg base CX0 9 fa fd ["_law_script"] (spLaw K) := by
  have e := hfa.symm.trans (PySem.W.mg_of X G a_law)
  cases e
  let t : Adr := ⟨c_TintError, c_NoRules, c_Pattern, c_Word, c_One, c_Without, c_Many, c_Any, c_Still, c_End, c_Rule, c_Mode, c_Rules, c_Cursor, f_Pattern_eaten, d_Pattern_eaten, f_Pattern_eats, d_Pattern_eats, f_Word___init__, d_Word___init__, f_Word_eaten, d_Word_eaten, f_Word_eats, d_Word_eats, f_One___init__, d_One___init__, f_One_eaten, d_One_eaten, f_One_eats, d_One_eats, f_Without___init__, d_Without___init__, f_Without_eaten, d_Without_eaten, f_Without_eats, d_Without_eats, f_Many___init__, d_Many___init__, f_Many_eaten, d_Many_eaten, f_Many_eats, d_Many_eats, f_Any_eaten, d_Any_eaten, f_Any_eats, d_Any_eats, f_Still_eaten, d_Still_eaten, f_End_eaten, d_End_eaten, f_is_name, d_is_name, f_Rule___init__, d_Rule___init__, f_Mode___init__, d_Mode___init__, f_Rules___init__, d_Rules___init__, f_first_rule, d_first_rule, f_short_rows, d_short_rows, f_piece_of, d_piece_of, f_Cursor___init__, d_Cursor___init__, f_Cursor_more, d_Cursor_more, f_Cursor_peek, d_Cursor_peek, f_Cursor_ask, d_Cursor_ask, f_Cursor_take, d_Cursor_take, f_Cursor_take_choice, d_Cursor_take_choice, f_Cursor_take_name, d_Cursor_take_name, f_Cursor_take_signs, d_Cursor_take_signs, f_read_rules, d_read_rules, f_mode_numbers, d_mode_numbers, f_read_mode, d_read_mode, f_read_rule, d_read_rule, f_read_pattern, d_read_pattern, f_read_goal, d_read_goal, f__law_draw, d__law_draw, f__law_all, d__law_all, f__law_signs, d__law_signs, f__law_rules, d__law_rules, f__law_text, d__law_text, f__law_first, d__law_first, f__law_rows, d__law_rows, f__law_good, d__law_good, g_PATTERNS, g_DEEDS, g_GOING, g_FOLDS⟩
  have T : Txt K mg t := ⟨PySem.W.mg_of X G a_TintError, PySem.W.mg_of X G a_NoRules, PySem.W.mg_of X G a_Pattern, PySem.W.mg_of X G a_Word, PySem.W.mg_of X G a_One, PySem.W.mg_of X G a_Without, PySem.W.mg_of X G a_Many, PySem.W.mg_of X G a_Any, PySem.W.mg_of X G a_Still, PySem.W.mg_of X G a_End, PySem.W.mg_of X G a_Rule, PySem.W.mg_of X G a_Mode, PySem.W.mg_of X G a_Rules, PySem.W.mg_of X G a_Cursor, F_Pattern_eaten, F_Pattern_eats, F_Word___init__, F_Word_eaten, F_Word_eats, F_One___init__, F_One_eaten, F_One_eats, F_Without___init__, F_Without_eaten, F_Without_eats, F_Many___init__, F_Many_eaten, F_Many_eats, F_Any_eaten, F_Any_eats, F_Still_eaten, F_End_eaten, F_Rule___init__, F_Mode___init__, F_Rules___init__, F_Cursor___init__, F_Cursor_more, F_Cursor_peek, F_Cursor_ask, F_Cursor_take, F_Cursor_take_choice, F_Cursor_take_name, F_Cursor_take_signs, F_is_name, PySem.W.mg_of X G a_is_name, F_first_rule, PySem.W.mg_of X G a_first_rule, F_short_rows, PySem.W.mg_of X G a_short_rows, F_piece_of, PySem.W.mg_of X G a_piece_of, F_read_rules, PySem.W.mg_of X G a_read_rules, F_mode_numbers, PySem.W.mg_of X G a_mode_numbers, F_read_mode, PySem.W.mg_of X G a_read_mode, F_read_rule, PySem.W.mg_of X G a_read_rule, F_read_pattern, PySem.W.mg_of X G a_read_pattern, F_read_goal, PySem.W.mg_of X G a_read_goal, F__law_draw, PySem.W.mg_of X G a__law_draw, F__law_all, PySem.W.mg_of X G a__law_all, F__law_signs, PySem.W.mg_of X G a__law_signs, F__law_rules, PySem.W.mg_of X G a__law_rules, F__law_text, PySem.W.mg_of X G a__law_text, F__law_first, PySem.W.mg_of X G a__law_first, F__law_rows, PySem.W.mg_of X G a__law_rows, F__law_good, PySem.W.mg_of X G a__law_good, ⟨pg_Word, hd_Word, po_Word, sa_Word⟩, ⟨mk_Word, a_Word___init__, i_Word___init__, kc_Word⟩, n_Word_wanted, ⟨a_Word_eaten, i_Word_eaten, F_Word_eaten.kp⟩, ⟨a_Word_eats, i_Word_eats, F_Word_eats.kp⟩, ⟨pg_One, hd_One, po_One, sa_One⟩, ⟨mk_One, a_One___init__, i_One___init__, kc_One⟩, n_One_signs, ⟨a_One_eaten, i_One_eaten, F_One_eaten.kp⟩, ⟨a_One_eats, i_One_eats, F_One_eats.kp⟩, ⟨pg_Without, hd_Without, po_Without, sa_Without⟩, ⟨mk_Without, a_Without___init__, i_Without___init__, kc_Without⟩, n_Without_signs, ⟨a_Without_eaten, i_Without_eaten, F_Without_eaten.kp⟩, ⟨a_Without_eats, i_Without_eats, F_Without_eats.kp⟩, ⟨pg_Many, hd_Many, po_Many, sa_Many⟩, ⟨mk_Many, a_Many___init__, i_Many___init__, kc_Many⟩, n_Many_signs, ⟨a_Many_eaten, i_Many_eaten, F_Many_eaten.kp⟩, ⟨a_Many_eats, i_Many_eats, F_Many_eats.kp⟩, ⟨pg_Any, hd_Any, po_Any, sa_Any⟩, ⟨mk_Any, oi_Any, kc_Any⟩, ⟨a_Any_eaten, i_Any_eaten, F_Any_eaten.kp⟩, ⟨a_Any_eats, i_Any_eats, F_Any_eats.kp⟩, ⟨pg_Still, hd_Still, po_Still, sa_Still⟩, ⟨mk_Still, oi_Still, kc_Still⟩, ⟨a_Still_eaten, i_Still_eaten, F_Still_eaten.kp⟩, ⟨h_Still_eats, i_Pattern_eats, F_Pattern_eats.kp⟩, ⟨pg_End, hd_End, po_End, sa_End⟩, ⟨mk_End, oi_End, kc_End⟩, ⟨a_End_eaten, i_End_eaten, F_End_eaten.kp⟩, ⟨h_End_eats, i_Pattern_eats, F_Pattern_eats.kp⟩, ⟨pg_Rule, hd_Rule, po_Rule, sa_Rule⟩, ⟨mk_Rule, a_Rule___init__, i_Rule___init__, kc_Rule⟩, n_Rule_pattern, n_Rule_colour, n_Rule_deed, n_Rule_goal, n_Rule_fold, ⟨pg_Mode, hd_Mode, po_Mode, sa_Mode⟩, ⟨mk_Mode, a_Mode___init__, i_Mode___init__, kc_Mode⟩, n_Mode_name, n_Mode_colour, n_Mode_rules, ⟨pg_Rules, hd_Rules, po_Rules, sa_Rules⟩, ⟨mk_Rules, a_Rules___init__, i_Rules___init__, kc_Rules⟩, n_Rules_modes, ⟨pg_Cursor, hd_Cursor, po_Cursor, sa_Cursor⟩, ⟨mk_Cursor, a_Cursor___init__, i_Cursor___init__, kc_Cursor⟩, n_Cursor_row, n_Cursor_words, n_Cursor_at, ⟨a_Cursor_more, i_Cursor_more, F_Cursor_more.kp⟩, ⟨a_Cursor_peek, i_Cursor_peek, F_Cursor_peek.kp⟩, ⟨a_Cursor_ask, i_Cursor_ask, F_Cursor_ask.kp⟩, ⟨a_Cursor_take, i_Cursor_take, F_Cursor_take.kp⟩, ⟨a_Cursor_take_choice, i_Cursor_take_choice, F_Cursor_take_choice.kp⟩, ⟨a_Cursor_take_name, i_Cursor_take_name, F_Cursor_take_name.kp⟩, ⟨a_Cursor_take_signs, i_Cursor_take_signs, F_Cursor_take_signs.kp⟩, cg, ct, ty_Word, mr_Word, ty_One, mr_One, ty_Without, mr_Without, ty_Many, mr_Many, ty_Any, mr_Any, ty_Still, mr_Still, ty_End, mr_End, kit_Word_Word, kit_One_Word, kit_Without_Word, kit_Many_Word, kit_Any_Word, kit_Still_Word, kit_End_Word, kb_str_str, ⟨_, PySem.W.mg_of X G v_LETTERS, ⟨_, rfl⟩⟩, ⟨_, PySem.W.mg_of X G v_LONGEST_NAME, ⟨_, rfl⟩⟩, ⟨_, PySem.W.mg_of X G v_SIGNS, ⟨_, rfl⟩⟩, ⟨_, PySem.W.mg_of X G v_MOST_MODES, ⟨_, rfl⟩⟩, ⟨_, PySem.W.mg_of X G v_MOST_RULES, ⟨_, rfl⟩⟩, PySem.W.mg_of X G v_PATTERNS, fun H => .inr ⟨_, _, _, o_PATTERNS, rfl, rfl, by show 7 ≤ sizeLine; decide, .cons ⟨_, rfl⟩ (.cons ⟨_, rfl⟩ (.cons ⟨_, rfl⟩ (.cons ⟨_, rfl⟩ (.cons ⟨_, rfl⟩ (.cons ⟨_, rfl⟩ (.cons ⟨_, rfl⟩ (.nil)))))))⟩, PySem.W.mg_of X G v_DEEDS, fun H => .inr ⟨_, _, _, o_DEEDS, rfl, rfl, by show 4 ≤ sizeLine; decide, .cons ⟨_, rfl⟩ (.cons ⟨_, rfl⟩ (.cons ⟨_, rfl⟩ (.cons ⟨_, rfl⟩ (.nil))))⟩, PySem.W.mg_of X G v_GOING, fun H => .inr ⟨_, _, _, o_GOING, rfl, rfl, by show 2 ≤ sizeLine; decide, .cons ⟨_, rfl⟩ (.cons ⟨_, rfl⟩ (.nil))⟩, PySem.W.mg_of X G v_FOLDS, fun H => .inr ⟨_, _, _, o_FOLDS, rfl, rfl, by show 2 ≤ sizeLine; decide, .cons ⟨_, rfl⟩ (.cons ⟨_, rfl⟩ (.nil))⟩, PySem.W.mg_none_of X G z_all, PySem.W.mg_none_of X G z_enumerate, PySem.W.mg_none_of X G z_isinstance, PySem.W.mg_none_of X G z_len, PySem.W.mg_none_of X G z_list, PySem.W.mg_none_of X G z_max, PySem.W.mg_none_of X G z_range, PySem.W.mg_none_of X G z_str⟩
  exact ⟨d_law, (by obtain ⟨_, _, _, _, _, _, _, _, _, e, _⟩ := F_law.ex; rw [e]; exact fun s v => .of_eq rfl), fun base _ _ => ok_law F_law T⟩
theorem walk {l : PySem.W.OpenLaw} {q : Program} {loose : List Str} {XP : (Str → Option Value) → Heap → Prop} {YP : World → Heap → Prop} {d : DefRec} {K : Params → PySem.W.Frag} (hn : l.most = some 63) (hdf : d.params.defaults = [])
    (hY : ∀ (w : World) (h : Heap), YP w h → (K w.params).In h)
    (F : ∀ (w : World) (mg : Str → Option Value) (fa : Addr) (h : Heap), (K w.params).In h → h.Ns mainGlobals mg → mg d.name = some (.ref fa) →
      ∃ fd : FuncData, (∀ (s : Shared) (u : Value), BindsTo s fd ⟨[u], []⟩ [("_law_script", u)]) ∧ ∀ base : Heap, (K w.params).In base → base.Ns mainGlobals mg → FnOk l.prog w (K w.params) mg base CX0 9 fa fd ["_law_script"] (spLaw (K w.params))) :
    PySem.W.WalkO q loose XP YP l.row.toRowW d [] (fun f vs => PySem.call f vs) :=
  L2.walk_of (n := 63) (k := 9) (x := "_law_script") (CX := fun _ => CX0) (sp := fun w => spLaw (K w.params)) hn (by decide) hdf ⟨rfl, by decide, by decide⟩ hY F (fun _ _ a ns hl _ hS => ⟨a, ns, rfl, hS, hl, fun _ => rfl⟩) fun _ _ _ _ _ z => z
end K07
open PySem PySem.W PyProof.Rows
set_option maxRecDepth 100000 in
set_option maxHeartbeats 0 in
theorem PySem.Challenge.cw_tintrow_k07_rules_that_never_come_holds : PySem.Challenge.rw_tintrow_k07_rules_that_never_come.Holds := by
  w_on; o_law; k_head; (case hw => w_witness2)
  k_fill
  refine K07.walk (l := PySem.Challenge.rw_tintrow_k07_rules_that_never_come) rfl rfl (fun w h Y => PySem.W.kIn_of Y) ?F
  case F =>
    intro w mg fa h KX G hmg
    refine' K07.all_mk KX G hmg ?a_TintError ?a_NoRules ?a_Pattern ?a_Word ?a_One ?a_Without ?a_Many ?a_Any ?a_Still ?a_End ?a_Rule ?a_Mode ?a_Rules ?a_Cursor ?a_Pattern_eaten ?i_Pattern_eaten ?F_Pattern_eaten ?a_Pattern_eats ?i_Pattern_eats ?F_Pattern_eats ?a_Word___init__ ?i_Word___init__ ?F_Word___init__ ?a_Word_eaten ?i_Word_eaten ?F_Word_eaten ?a_Word_eats ?i_Word_eats ?F_Word_eats ?a_One___init__ ?i_One___init__ ?F_One___init__ ?a_One_eaten ?i_One_eaten ?F_One_eaten ?a_One_eats ?i_One_eats ?F_One_eats ?a_Without___init__ ?i_Without___init__ ?F_Without___init__ ?a_Without_eaten ?i_Without_eaten ?F_Without_eaten ?a_Without_eats ?i_Without_eats ?F_Without_eats ?a_Many___init__ ?i_Many___init__ ?F_Many___init__ ?a_Many_eaten ?i_Many_eaten ?F_Many_eaten ?a_Many_eats ?i_Many_eats ?F_Many_eats ?a_Any_eaten ?i_Any_eaten ?F_Any_eaten ?a_Any_eats ?i_Any_eats ?F_Any_eats ?a_Still_eaten ?i_Still_eaten ?F_Still_eaten ?a_End_eaten ?i_End_eaten ?F_End_eaten ?a_Rule___init__ ?i_Rule___init__ ?F_Rule___init__ ?a_Mode___init__ ?i_Mode___init__ ?F_Mode___init__ ?a_Rules___init__ ?i_Rules___init__ ?F_Rules___init__ ?a_Cursor___init__ ?i_Cursor___init__ ?F_Cursor___init__ ?a_Cursor_more ?i_Cursor_more ?F_Cursor_more ?a_Cursor_peek ?i_Cursor_peek ?F_Cursor_peek ?a_Cursor_ask ?i_Cursor_ask ?F_Cursor_ask ?a_Cursor_take ?i_Cursor_take ?F_Cursor_take ?a_Cursor_take_choice ?i_Cursor_take_choice ?F_Cursor_take_choice ?a_Cursor_take_name ?i_Cursor_take_name ?F_Cursor_take_name ?a_Cursor_take_signs ?i_Cursor_take_signs ?F_Cursor_take_signs ?a_is_name ?F_is_name ?a_first_rule ?F_first_rule ?a_short_rows ?F_short_rows ?a_piece_of ?F_piece_of ?a_read_rules ?F_read_rules ?a_mode_numbers ?F_mode_numbers ?a_read_mode ?F_read_mode ?a_read_rule ?F_read_rule ?a_read_pattern ?F_read_pattern ?a_read_goal ?F_read_goal ?a__law_draw ?F__law_draw ?a__law_all ?F__law_all ?a__law_signs ?F__law_signs ?a__law_rules ?F__law_rules ?a__law_text ?F__law_text ?a__law_first ?F__law_first ?a__law_rows ?F__law_rows ?a__law_good ?F__law_good ?a_law ?F_law ?pg_Word ?hd_Word ?po_Word ?sa_Word ?mk_Word ?kc_Word ?n_Word_wanted ?pg_One ?hd_One ?po_One ?sa_One ?mk_One ?kc_One ?n_One_signs ?pg_Without ?hd_Without ?po_Without ?sa_Without ?mk_Without ?kc_Without ?n_Without_signs ?pg_Many ?hd_Many ?po_Many ?sa_Many ?mk_Many ?kc_Many ?n_Many_signs ?pg_Any ?hd_Any ?po_Any ?sa_Any ?mk_Any ?kc_Any ?oi_Any ?pg_Still ?hd_Still ?po_Still ?sa_Still ?mk_Still ?kc_Still ?oi_Still ?h_Still_eats ?pg_End ?hd_End ?po_End ?sa_End ?mk_End ?kc_End ?oi_End ?h_End_eats ?pg_Rule ?hd_Rule ?po_Rule ?sa_Rule ?mk_Rule ?kc_Rule ?n_Rule_pattern ?n_Rule_colour ?n_Rule_deed ?n_Rule_goal ?n_Rule_fold ?pg_Mode ?hd_Mode ?po_Mode ?sa_Mode ?mk_Mode ?kc_Mode ?n_Mode_name ?n_Mode_colour ?n_Mode_rules ?pg_Rules ?hd_Rules ?po_Rules ?sa_Rules ?mk_Rules ?kc_Rules ?n_Rules_modes ?pg_Cursor ?hd_Cursor ?po_Cursor ?sa_Cursor ?mk_Cursor ?kc_Cursor ?n_Cursor_row ?n_Cursor_words ?n_Cursor_at ?cg ?ct ?ty_Word ?mr_Word ?ty_One ?mr_One ?ty_Without ?mr_Without ?ty_Many ?mr_Many ?ty_Any ?mr_Any ?ty_Still ?mr_Still ?ty_End ?mr_End ?kit_Word_Word ?kit_One_Word ?kit_Without_Word ?kit_Many_Word ?kit_Any_Word ?kit_Still_Word ?kit_End_Word ?kb_str_str ?v_LETTERS ?v_LONGEST_NAME ?v_SIGNS ?v_MOST_MODES ?v_MOST_RULES ?v_PATTERNS ?o_PATTERNS ?v_DEEDS ?o_DEEDS ?v_GOING ?o_GOING ?v_FOLDS ?o_FOLDS ?z_all ?z_enumerate ?z_isinstance ?z_len ?z_list ?z_max ?z_range ?z_str
    (case a_TintError => k_is)
    (case a_NoRules => k_is)
    (case a_Pattern => k_is)
    (case a_Word => k_is)
    (case a_One => k_is)
    (case a_Without => k_is)
    (case a_Many => k_is)
    (case a_Any => k_is)
    (case a_Still => k_is)
    (case a_End => k_is)
    (case a_Rule => k_is)
    (case a_Mode => k_is)
    (case a_Rules => k_is)
    (case a_Cursor => k_is)
    (case a_Pattern_eaten => k_is)
    (case i_Pattern_eaten => k_is)
    (case F_Pattern_eaten => (apply L2.fun_mk <;> k_is))
    (case a_Pattern_eats => k_is)
    (case i_Pattern_eats => k_is)
    (case F_Pattern_eats => (apply L2.fun_mk <;> k_is))
    (case a_Word___init__ => k_is)
    (case i_Word___init__ => k_is)
    (case F_Word___init__ => (apply L2.fun_mk <;> k_is))
    (case a_Word_eaten => k_is)
    (case i_Word_eaten => k_is)
    (case F_Word_eaten => (apply L2.fun_mk <;> k_is))
    (case a_Word_eats => k_is)
    (case i_Word_eats => k_is)
    (case F_Word_eats => (apply L2.fun_mk <;> k_is))
    (case a_One___init__ => k_is)
    (case i_One___init__ => k_is)
    (case F_One___init__ => (apply L2.fun_mk <;> k_is))
    (case a_One_eaten => k_is)
    (case i_One_eaten => k_is)
    (case F_One_eaten => (apply L2.fun_mk <;> k_is))
    (case a_One_eats => k_is)
    (case i_One_eats => k_is)
    (case F_One_eats => (apply L2.fun_mk <;> k_is))
    (case a_Without___init__ => k_is)
    (case i_Without___init__ => k_is)
    (case F_Without___init__ => (apply L2.fun_mk <;> k_is))
    (case a_Without_eaten => k_is)
    (case i_Without_eaten => k_is)
    (case F_Without_eaten => (apply L2.fun_mk <;> k_is))
    (case a_Without_eats => k_is)
    (case i_Without_eats => k_is)
    (case F_Without_eats => (apply L2.fun_mk <;> k_is))
    (case a_Many___init__ => k_is)
    (case i_Many___init__ => k_is)
    (case F_Many___init__ => (apply L2.fun_mk <;> k_is))
    (case a_Many_eaten => k_is)
    (case i_Many_eaten => k_is)
    (case F_Many_eaten => (apply L2.fun_mk <;> k_is))
    (case a_Many_eats => k_is)
    (case i_Many_eats => k_is)
    (case F_Many_eats => (apply L2.fun_mk <;> k_is))
    (case a_Any_eaten => k_is)
    (case i_Any_eaten => k_is)
    (case F_Any_eaten => (apply L2.fun_mk <;> k_is))
    (case a_Any_eats => k_is)
    (case i_Any_eats => k_is)
    (case F_Any_eats => (apply L2.fun_mk <;> k_is))
    (case a_Still_eaten => k_is)
    (case i_Still_eaten => k_is)
    (case F_Still_eaten => (apply L2.fun_mk <;> k_is))
    (case a_End_eaten => k_is)
    (case i_End_eaten => k_is)
    (case F_End_eaten => (apply L2.fun_mk <;> k_is))
    (case a_Rule___init__ => k_is)
    (case i_Rule___init__ => k_is)
    (case F_Rule___init__ => (apply L2.fun_mk <;> k_is))
    (case a_Mode___init__ => k_is)
    (case i_Mode___init__ => k_is)
    (case F_Mode___init__ => (apply L2.fun_mk <;> k_is))
    (case a_Rules___init__ => k_is)
    (case i_Rules___init__ => k_is)
    (case F_Rules___init__ => (apply L2.fun_mk <;> k_is))
    (case a_Cursor___init__ => k_is)
    (case i_Cursor___init__ => k_is)
    (case F_Cursor___init__ => (apply L2.fun_mk <;> k_is))
    (case a_Cursor_more => k_is)
    (case i_Cursor_more => k_is)
    (case F_Cursor_more => (apply L2.fun_mk <;> k_is))
    (case a_Cursor_peek => k_is)
    (case i_Cursor_peek => k_is)
    (case F_Cursor_peek => (apply L2.fun_mk <;> k_is))
    (case a_Cursor_ask => k_is)
    (case i_Cursor_ask => k_is)
    (case F_Cursor_ask => (apply L2.fun_mk <;> k_is))
    (case a_Cursor_take => k_is)
    (case i_Cursor_take => k_is)
    (case F_Cursor_take => (apply L2.fun_mk <;> k_is))
    (case a_Cursor_take_choice => k_is)
    (case i_Cursor_take_choice => k_is)
    (case F_Cursor_take_choice => (apply L2.fun_mk <;> k_is))
    (case a_Cursor_take_name => k_is)
    (case i_Cursor_take_name => k_is)
    (case F_Cursor_take_name => (apply L2.fun_mk <;> k_is))
    (case a_Cursor_take_signs => k_is)
    (case i_Cursor_take_signs => k_is)
    (case F_Cursor_take_signs => (apply L2.fun_mk <;> k_is))
    (case a_is_name => k_is)
    (case F_is_name => (apply L2.fun_mk <;> k_is))
    (case a_first_rule => k_is)
    (case F_first_rule => (apply L2.fun_mk <;> k_is))
    (case a_short_rows => k_is)
    (case F_short_rows => (apply L2.fun_mk <;> k_is))
    (case a_piece_of => k_is)
    (case F_piece_of => (apply L2.fun_mk <;> k_is))
    (case a_read_rules => k_is)
    (case F_read_rules => (apply L2.fun_mk <;> k_is))
    (case a_mode_numbers => k_is)
    (case F_mode_numbers => (apply L2.fun_mk <;> k_is))
    (case a_read_mode => k_is)
    (case F_read_mode => (apply L2.fun_mk <;> k_is))
    (case a_read_rule => k_is)
    (case F_read_rule => (apply L2.fun_mk <;> k_is))
    (case a_read_pattern => k_is)
    (case F_read_pattern => (apply L2.fun_mk <;> k_is))
    (case a_read_goal => k_is)
    (case F_read_goal => (apply L2.fun_mk <;> k_is))
    (case a__law_draw => k_is)
    (case F__law_draw => (apply L2.fun_mk <;> k_is))
    (case a__law_all => k_is)
    (case F__law_all => (apply L2.fun_mk <;> k_is))
    (case a__law_signs => k_is)
    (case F__law_signs => (apply L2.fun_mk <;> k_is))
    (case a__law_rules => k_is)
    (case F__law_rules => (apply L2.fun_mk <;> k_is))
    (case a__law_text => k_is)
    (case F__law_text => (apply L2.fun_mk <;> k_is))
    (case a__law_first => k_is)
    (case F__law_first => (apply L2.fun_mk <;> k_is))
    (case a__law_rows => k_is)
    (case F__law_rows => (apply L2.fun_mk <;> k_is))
    (case a__law_good => k_is)
    (case F__law_good => (apply L2.fun_mk <;> k_is))
    (case a_law => k_is)
    (case F_law => (apply L2.fun_mk <;> k_is))
    (case pg_Word => k_is)
    (case hd_Word => k_is)
    (case po_Word => k_is)
    (case sa_Word => k_is)
    (case mk_Word => k_is)
    (case kc_Word => k_is)
    (case n_Word_wanted => k_is)
    (case pg_One => k_is)
    (case hd_One => k_is)
    (case po_One => k_is)
    (case sa_One => k_is)
    (case mk_One => k_is)
    (case kc_One => k_is)
    (case n_One_signs => k_is)
    (case pg_Without => k_is)
    (case hd_Without => k_is)
    (case po_Without => k_is)
    (case sa_Without => k_is)
    (case mk_Without => k_is)
    (case kc_Without => k_is)
    (case n_Without_signs => k_is)
    (case pg_Many => k_is)
    (case hd_Many => k_is)
    (case po_Many => k_is)
    (case sa_Many => k_is)
    (case mk_Many => k_is)
    (case kc_Many => k_is)
    (case n_Many_signs => k_is)
    (case pg_Any => k_is)
    (case hd_Any => k_is)
    (case po_Any => k_is)
    (case sa_Any => k_is)
    (case mk_Any => k_is)
    (case kc_Any => k_is)
    (case oi_Any => k_is)
    (case pg_Still => k_is)
    (case hd_Still => k_is)
    (case po_Still => k_is)
    (case sa_Still => k_is)
    (case mk_Still => k_is)
    (case kc_Still => k_is)
    (case oi_Still => k_is)
    (case h_Still_eats => k_is)
    (case pg_End => k_is)
    (case hd_End => k_is)
    (case po_End => k_is)
    (case sa_End => k_is)
    (case mk_End => k_is)
    (case kc_End => k_is)
    (case oi_End => k_is)
    (case h_End_eats => k_is)
    (case pg_Rule => k_is)
    (case hd_Rule => k_is)
    (case po_Rule => k_is)
    (case sa_Rule => k_is)
    (case mk_Rule => k_is)
    (case kc_Rule => k_is)
    (case n_Rule_pattern => k_is)
    (case n_Rule_colour => k_is)
    (case n_Rule_deed => k_is)
    (case n_Rule_goal => k_is)
    (case n_Rule_fold => k_is)
    (case pg_Mode => k_is)
    (case hd_Mode => k_is)
    (case po_Mode => k_is)
    (case sa_Mode => k_is)
    (case mk_Mode => k_is)
    (case kc_Mode => k_is)
    (case n_Mode_name => k_is)
    (case n_Mode_colour => k_is)
    (case n_Mode_rules => k_is)
    (case pg_Rules => k_is)
    (case hd_Rules => k_is)
    (case po_Rules => k_is)
    (case sa_Rules => k_is)
    (case mk_Rules => k_is)
    (case kc_Rules => k_is)
    (case n_Rules_modes => k_is)
    (case pg_Cursor => k_is)
    (case hd_Cursor => k_is)
    (case po_Cursor => k_is)
    (case sa_Cursor => k_is)
    (case mk_Cursor => k_is)
    (case kc_Cursor => k_is)
    (case n_Cursor_row => k_is)
    (case n_Cursor_words => k_is)
    (case n_Cursor_at => k_is)
    (case cg => k_is)
    (case ct => k_is)
    (case ty_Word => k_is)
    (case mr_Word => k_is)
    (case ty_One => k_is)
    (case mr_One => k_is)
    (case ty_Without => k_is)
    (case mr_Without => k_is)
    (case ty_Many => k_is)
    (case mr_Many => k_is)
    (case ty_Any => k_is)
    (case mr_Any => k_is)
    (case ty_Still => k_is)
    (case mr_Still => k_is)
    (case ty_End => k_is)
    (case mr_End => k_is)
    (case kit_Word_Word => kit_is)
    (case kit_One_Word => kit_is)
    (case kit_Without_Word => kit_is)
    (case kit_Many_Word => kit_is)
    (case kit_Any_Word => kit_is)
    (case kit_Still_Word => kit_is)
    (case kit_End_Word => kit_is)
    (case kb_str_str => kit_is)
    (case v_LETTERS => k_is)
    (case v_LONGEST_NAME => k_is)
    (case v_SIGNS => k_is)
    (case v_MOST_MODES => k_is)
    (case v_MOST_RULES => k_is)
    (case v_PATTERNS => k_is)
    (case o_PATTERNS => k_is)
    (case v_DEEDS => k_is)
    (case o_DEEDS => k_is)
    (case v_GOING => k_is)
    (case o_GOING => k_is)
    (case v_FOLDS => k_is)
    (case o_FOLDS => k_is)
    (case z_all => k_is)
    (case z_enumerate => k_is)
    (case z_isinstance => k_is)
    (case z_len => k_is)
    (case z_list => k_is)
    (case z_max => k_is)
    (case z_range => k_is)
    (case z_str => k_is)
