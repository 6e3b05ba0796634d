import PyProof.Rows.All
import Wide.All
import OpenK.AllK
import Wide.FinOn
import PyProof.EqAt
import PyProof.EqKinds
import PyProof.TupleCall
import PyProof.ListStr
import PyProof.EnumFor
import PyProof.EnumMake
import PyProof.EnumStmt
import PyProof.StrLawsTight
import PyProof.StrLawsReplace
import PyProof.StrCalls6
import PyProof.ToksMono
import PyProof.StationsW
import PyProof.RulesTry
import PyProof.ExcInit
import PyProof.ExcClass3
import OpenK.KOwn
import PyProof.ExcBaseAll.ValueError
import PyProof.RulesAs
import PyProof.NsDelKeeps
import KE.KIsAll
import PyProof.ExcArgsOwn
import PyProof.InstStoreFacts
import KE.KIntText
import PyProof.FString
import PyProof.CompMap
import KE.KListMore
import PySem.Challenge.RW_tintrow_k03_rules_refused
set_option Elab.async false
set_option linter.all false
set_option maxRecDepth 100000
namespace L2
open PySem PySem.Spec PyProof.Rows

/-- a key: an int or a str -/
abbrev Key := Sum Int Str
def keyIs : Key → Value → Bool
  | .inl k, v => Value.isInt k v
  | .inr x, v => Value.isStrOf x v
def keyH (w : World) : Key → Int
  | .inl k => hashInt k
  | .inr x => hashStr w x
theorem keyIs_shape : ∀ {k : Key} {v : Value}, keyIs k v = true → (∃ i t, k = Sum.inl i ∧ v = Value.int i t) ∨ (∃ x t, k = Sum.inr x ∧ v = Value.str x t)
  | .inl i, v, h => by
    obtain ⟨t, e⟩ := Value.isInt_shape (k := i) (v := v) h
    exact .inl ⟨i, t, rfl, e⟩
  | .inr x, v, h => by
    obtain ⟨t, e⟩ := Value.isStrOf_shape (x := x) (v := v) h
    exact .inr ⟨x, t, rfl, e⟩
theorem keyIs_int (i : Int) (t : Tok) : keyIs (.inl i) (.int i t) = true := by simp [keyIs, Value.isInt]
theorem keyIs_str (x : Str) (t : Tok) : keyIs (.inr x) (.str x t) = true := by simp [keyIs, Value.isStrOf]
theorem key_ll (a b : Int) : decide ((Sum.inl a : Key) = Sum.inl b) = (a == b) := by
  by_cases e : a = b
  · subst e; simp
  · have h : ¬ (Sum.inl a : Key) = Sum.inl b := fun q => e (Sum.inl.inj q)
    rw [decide_eq_false h]
    exact (beq_eq_false_iff_ne.mpr e).symm
theorem key_rr (a b : Str) : decide ((Sum.inr a : Key) = Sum.inr b) = decide (a = b) := by
  by_cases e : a = b
  · subst e; simp
  · have h : ¬ (Sum.inr a : Key) = Sum.inr b := fun q => e (Sum.inr.inj q)
    rw [decide_eq_false h, decide_eq_false e]
theorem key_lr (a : Int) (b : Str) : decide ((Sum.inl a : Key) = Sum.inr b) = false := decide_eq_false (fun q => nomatch q)
theorem key_rl (a : Str) (b : Int) : decide ((Sum.inr a : Key) = Sum.inl b) = false := decide_eq_false (fun q => nomatch q)

def mixKind (prog : Program) (w : World) : PySem.KeyKind prog w Key where
  is := keyIs
  hash := keyH w
  inj := fun v a b ha hb => by
    rcases keyIs_shape ha with ⟨i, t, rfl, rfl⟩ | ⟨x, t, rfl, rfl⟩
    · rcases keyIs_shape hb with ⟨j, u, rfl, e⟩ | ⟨y, u, rfl, e⟩
      · injection e with e1 _; rw [e1]
      · exact nomatch e
    · rcases keyIs_shape hb with ⟨j, u, rfl, e⟩ | ⟨y, u, rfl, e⟩
      · exact nomatch e
      · injection e with e1 _; rw [e1]
  byValue := fun k v h => by
    rcases keyIs_shape h with ⟨i, t, rfl, rfl⟩ | ⟨x, t, rfl, rfl⟩ <;> rfl
  pyHash := fun hv h => by
    rcases keyIs_shape hv with ⟨i, t, rfl, rfl⟩ | ⟨x, t, rfl, rfl⟩
    · exact wpAny_pyHash_int h
    · exact wpAny_pyHash_str h
  eqBool := fun hu hv h => by
    rcases keyIs_shape hu with ⟨i, t, rfl, rfl⟩ | ⟨x, t, rfl, rfl⟩
    · rcases keyIs_shape hv with ⟨j, u, rfl, rfl⟩ | ⟨y, u, rfl, rfl⟩
      · rw [key_ll] at h; exact wpAny_eqBool_int h
      · rw [key_lr] at h; exact SeqAt.EqAt.int_str i t y u _ _ _ _ h
    · rcases keyIs_shape hv with ⟨j, u, rfl, rfl⟩ | ⟨y, u, rfl, rfl⟩
      · rw [key_rl] at h; exact SeqAt.EqAt.str_int x t j u _ _ _ _ h
      · rw [key_rr] at h; exact wpAny_eqBool_str h
  «strs» := fun k x t v h => by
    rcases keyIs_shape h with ⟨i, u, rfl, e⟩ | ⟨y, u, rfl, e⟩
    · exact nomatch e
    · injection e with e1 _
      subst e1
      cases v <;> rfl

theorem mixKind_int (prog : Program) (w : World) (i : Int) (t : Tok) : (mixKind prog w).is (.inl i) (.int i t) = true := keyIs_int i t
theorem mixKind_str (prog : Program) (w : World) (x : Str) (t : Tok) : (mixKind prog w).is (.inr x) (.str x t) = true := keyIs_str x t
end L2

namespace L2
open PySem PySem.Spec PyProof.Rows

/-- a value, without the heap -/
inductive V where
  | non | bl (b : Bool) | int (i : Int) | str (x : Str) | byt (b : Array UInt8) | flt (b : UInt64) | ref (a : Addr) | ty (n : String)
  deriving DecidableEq

def RelV : V → Value → Prop
  | .non, u => u = Value.none
  | .bl b, u => u = Value.bool b
  | .int i, u => ∃ t, u = Value.int i t
  | .str x, u => ∃ t, u = Value.str x t
  | .byt b, u => ∃ t, u = Value.bytes b t
  | .flt b, u => ∃ t, u = Value.float b t
  | .ref a, u => u = Value.ref a
  | .ty n, u => u = Value.type n

abbrev Vals : List V → List Value → Prop := Paired RelV
theorem Vals.length {xs : List V} {us : List Value} (r : Vals xs us) : xs.length = us.length := Paired.length r
theorem Vals.get : ∀ {xs : List V} {us : List Value} {i : Nat} {x : V}, Vals xs us → xs[i]? = some x → ∃ u, us[i]? = some u ∧ RelV x u
  | _, _, _, _, .nil, e => by simp at e
  | _, _, 0, _, .cons r _, e => by simp at e; subst e; exact ⟨_, rfl, r⟩
  | _, _, i + 1, x, .cons _ t, e => by
    obtain ⟨u, h1, h2⟩ := Vals.get (i := i) (x := x) t (by simpa using e)
    exact ⟨u, by simpa using h1, h2⟩
theorem Vals.set {x : V} {u : Value} (r : RelV x u) : ∀ {xs : List V} {us : List Value} (i : Nat), Vals xs us → Vals (xs.set i x) (us.set i u)
  | _, _, _, .nil => .nil
  | _, _, 0, .cons _ t => .cons r t
  | _, _, i + 1, .cons q t => .cons q (Vals.set r i t)
theorem Vals.append : ∀ {xs ys : List V} {us ws : List Value}, Vals xs us → Vals ys ws → Vals (xs ++ ys) (us ++ ws)
  | _, _, _, _, .nil, s => s
  | _, _, _, _, .cons r t, s => .cons r (Vals.append t s)
theorem Vals.take : ∀ {xs : List V} {us : List Value} (n : Nat), Vals xs us → Vals (xs.take n) (us.take n)
  | _, _, 0, _ => .nil
  | _, _, _ + 1, .nil => .nil
  | _, _, n + 1, .cons r t => .cons r (Vals.take n t)
theorem Vals.drop : ∀ {xs : List V} {us : List Value} (n : Nat), Vals xs us → Vals (xs.drop n) (us.drop n)
  | _, _, 0, r => r
  | _, _, _ + 1, .nil => .nil
  | _, _, n + 1, .cons _ t => Vals.drop n t
def RelO : Option V → Option Value → Prop
  | some v, some u => RelV v u
  | none, none => True
  | _, _ => False
def KV {κ : Type} : List (κ × V) → List (κ × Value) → Prop := Paired fun (p : κ × V) (q : κ × Value) => p.1 = q.1 ∧ RelV p.2 q.2

/-- a key of a dict (00_mix): an int or a text -/
def kV : Key → V
  | .inl i => .int i
  | .inr x => .str x

/-- what stands at a tracked address -/
inductive HO where
  /-- a list -/
  | lst (xs : List V)
  /-- a tuple (never changes) -/
  | tup (xs : List V)
  /-- a dict whose keys are ints and texts; one whose keys are tuples of ints and texts (the empty one is both) -/
  | dK (kvs : List (Key × V)) | dT (kvs : List (List Key × V))
  /-- a set of ints: its members, its size -/
  | set (S : Int → Bool) (n : Nat)
  /-- an instance of the class at C, its dict at dx, its attributes -/
  | ins (C dx : Addr) (fs : List (Str × V))
  /-- the dict of the instance at x -/
  | own (x : Addr)
  /-- the dict of an exception -/
  | xd (fs : List (Str × V))
  /-- a bound method, f of x -/
  | met (f x : Addr)
  /-- a range object lo, lo + 1, .. below hi -/
  | rng (lo hi : Int)
  /-- a thing that is known to the object (the script; a dict while a loop walks it): read, never written while it is so -/
  | frz (o : Obj) (u : HO)
  /-- a code object's table -/
  | tbl (ps : Array Value)
  /-- any other thing, by what is true of its one object (a def of one's own: SetO a S n := HO.ext fun h => ..) -/
  | ext (φ : Heap → Prop)

abbrev Hp := Addr → Option HO
def upd (H : Hp) (a : Addr) (o : HO) : Hp := fun b => if b = a then some o else H b
theorem upd_same {H : Hp} {a : Addr} {o : HO} : upd H a o a = some o := by unfold upd; rw [if_pos rfl]
theorem upd_ne {H : Hp} {a b : Addr} {o : HO} (h : b ≠ a) : upd H a o b = H b := by unfold upd; rw [if_neg h]
theorem upd_upd {H : Hp} {a : Addr} {o u : HO} : upd (upd H a o) a u = upd H a u := by
  funext b; unfold upd; split <;> rfl
/-- two objects of different content stand apart -/
theorem ne_of {H : Hp} {a b : Addr} {o u : HO} (h : H a = some o) (h' : H b = some u) (d : o ≠ u) : a ≠ b := by
  intro e; subst e; rw [h] at h'; exact d (Option.some.inj h')
theorem ne_of_none {H : Hp} {a b : Addr} {o : HO} (h : H a = some o) (h' : H b = none) : a ≠ b := by
  intro e; subst e; rw [h] at h'; cases h'

section
variable (P : Program) (w : World)
def ObjOk (H : Hp) (h : Heap) (a : Addr) : HO → Prop
  | .lst xs => xs.length ≤ sizeLine ∧ ∃ (its : List Value) (n : Nat), Vals xs its ∧ h.get? a = some { cls := .type "list", data := .seq its.toArray n }
  | .tup xs => xs.length ≤ sizeLine ∧ ∃ its : List Value, Vals xs its ∧ IsTup h a its.toArray
  | .dK kvs => kvs.length ≤ sizeLine ∧ (a == sysModules) = false ∧ ∃ vs, KV kvs vs ∧ h.DictOf (mixKind P w) a vs
  | .dT kvs => kvs.length ≤ sizeLine ∧ (a == sysModules) = false ∧ ∃ xs : List (List Key × Addr × Value),
      Paired (fun (p : List Key × V) (q : List Key × Addr × Value) => p.1 = q.1 ∧ H q.2.1 = some (.tup (p.1.map kV)) ∧ RelV p.2 q.2.2) kvs xs ∧
      ∃ o es ep, h.get? a = some o ∧ o.ExactDict ∧ o.data = .dict es ep ∧ es.toList = xs.map (entryOfKey (tupleKind (mixKind P w))) ∧ (xs.map (·.1)).Nodup
  | .set S n => h.SetOf (intKind P w) a S n
  | .ins C dx fs => H dx = some (.own a) ∧ fs.length ≤ 1000 ∧ dx ≠ a ∧ h.get? a = some (PySem.W.instObj C dx) ∧
      ∃ mA, h.Ns1 dx mA ∧ (∀ f, RelO (fs.lookup f) (mA f)) ∧ PySem.Within mA (fs.map (·.1))
  | .own _ => ∃ o, h.get? a = some o
  | .xd fs => ∃ mA, h.Ns1 a mA ∧ ∀ f, RelO (fs.lookup f) (mA f)
  | .rng lo hi => ∃ t u v, h.get? a = some { cls := .type "range", data := .fields #[.int lo t, .int hi u, .int 1 v] }
  | .frz o u => h.get? a = some o ∧ ObjOk H h a u
  | .tbl ps => h.get? a = some { cls := .none, data := .fields ps }
  | .met f x => h.get? a = some (PySem.W.methodObj (.ref f) (.ref x))
  | .ext φ => φ h ∧ (∃ o, h.get? a = some o) ∧ ∀ h1 h2 : Heap, φ h1 → (∀ o, h1.get? a = some o → h2.get? a = some o) → φ h2
/-- the abstract heap is held -/
def HOk (H : Hp) (h : Heap) : Prop := ∀ a o, H a = some o → ObjOk P w H h a o
end

section
variable {P : Program} {w : World} {H H' : Hp} {h h' : Heap} {a : Addr} {o : HO}
theorem ObjOk.lt (x : ObjOk P w H h a o) : a < h.objs.size := by
  cases o with
  | lst xs => obtain ⟨_, _, _, _, e⟩ := x; exact Heap.lt_size e
  | tup xs => obtain ⟨_, _, _, p⟩ := x; exact p.lt
  | dK kvs => obtain ⟨_, _, _, _, o, _, _, e, _⟩ := x; exact Heap.lt_size e
  | dT kvs => obtain ⟨_, _, _, _, o, _, _, e, _⟩ := x; exact Heap.lt_size e
  | set S n => obtain ⟨o, _, _, _, e, _⟩ := x; exact Heap.lt_size e
  | ins C dx fs => obtain ⟨_, _, _, e, _⟩ := x; exact Heap.lt_size e
  | own y => obtain ⟨_, e⟩ := x; exact Heap.lt_size e
  | xd fs => obtain ⟨_, ⟨_, _, _, e, _⟩, _⟩ := x; exact Heap.lt_size e
  | rng lo hi => obtain ⟨_, _, _, e⟩ := x; exact Heap.lt_size e
  | frz ob u => obtain ⟨e, _⟩ := x; exact Heap.lt_size e
  | tbl ps => exact Heap.lt_size (show h.get? a = some _ from x)
  | met f y => exact Heap.lt_size (show h.get? a = some _ from x)
  | ext φ => obtain ⟨_, ⟨_, e⟩, _⟩ := x; exact Heap.lt_size e
theorem Paired.mapP {α β : Type} {F G : α → β → Prop} : ∀ {l₁ : List α} {l₂ : List β}, Paired F l₁ l₂ → (∀ a b, F a b → G a b) → Paired G l₁ l₂
  | _, _, .nil, _ => .nil
  | _, _, .cons r t, f => .cons (f _ _ r) (Paired.mapP t f)
/-- what an object's description leans on: its own object, its own dict, the tuples -/
theorem ObjOk.stay (x : ObjOk P w H h a o) (k : ∀ b u, (b = a ∨ H b = some (.own a)) → h.get? b = some u → h'.get? b = some u)
    (ho : ∀ b, H b = some (.own a) → H' b = some (.own a)) (ht : ∀ b xs, H b = some (.tup xs) → H' b = some (.tup xs)) : ObjOk P w H' h' a o := by
  induction o with
  | lst xs => obtain ⟨z, its, n, r, e⟩ := x; exact ⟨z, its, n, r, k _ _ (.inl rfl) e⟩
  | tup xs => obtain ⟨z, its, r, ob, e, c⟩ := x; exact ⟨z, its, r, ob, k _ _ (.inl rfl) e, c⟩
  | dK kvs => obtain ⟨z, y, vs, r, ob, es, ep, e, c⟩ := x; exact ⟨z, y, vs, r, ob, es, ep, k _ _ (.inl rfl) e, c⟩
  | dT kvs =>
    obtain ⟨z, y, xs, r, ob, es, ep, e, c⟩ := x
    exact ⟨z, y, xs, Paired.mapP r fun p q z => ⟨z.1, ht _ _ z.2.1, z.2.2⟩, ob, es, ep, k _ _ (.inl rfl) e, c⟩
  | set S n => obtain ⟨ob, es, ep, t, e, c⟩ := x; exact ⟨ob, es, ep, t, k _ _ (.inl rfl) e, c⟩
  | ins C dx fs =>
    obtain ⟨d, z, ne, e, mA, ⟨od, es, ep, e2, c⟩, r⟩ := x
    exact ⟨ho _ d, z, ne, k _ _ (.inl rfl) e, mA, ⟨od, es, ep, k _ _ (.inr d) e2, c⟩, r⟩
  | own y => obtain ⟨ob, e⟩ := x; exact ⟨ob, k _ _ (.inl rfl) e⟩
  | xd fs => obtain ⟨mA, ⟨od, es, ep, e, c⟩, r⟩ := x; exact ⟨mA, ⟨od, es, ep, k _ _ (.inl rfl) e, c⟩, r⟩
  | rng lo hi => obtain ⟨t, u, v, e⟩ := x; exact ⟨t, u, v, k _ _ (.inl rfl) e⟩
  | frz ob u ih => obtain ⟨e, q⟩ := x; exact ⟨k _ _ (.inl rfl) e, ih q⟩
  | tbl ps =>
    have e : h.get? a = some { cls := .none, data := .fields ps } := x
    show h'.get? a = some { cls := .none, data := .fields ps }
    exact k a _ (.inl rfl) e
  | met f y =>
    have e : h.get? a = some (PySem.W.methodObj (.ref f) (.ref y)) := x
    show h'.get? a = some (PySem.W.methodObj (.ref f) (.ref y))
    exact k a _ (.inl rfl) e
  | ext φ => obtain ⟨p, ⟨o, e⟩, st⟩ := x; exact ⟨st _ _ p fun o q => k _ _ (.inl rfl) q, ⟨o, k _ _ (.inl rfl) e⟩, st⟩
theorem HOk.lt (x : HOk P w H h) (e : H a = some o) : a < h.objs.size := (x a o e).lt
theorem HOk.fresh (x : HOk P w H h) (e : h.objs.size ≤ a) : H a = none := by
  cases q : H a with
  | none => rfl
  | some u => exact absurd (Nat.lt_of_lt_of_le (x.lt q) e) (Nat.lt_irrefl _)
/-- every object of the heap is kept -/
theorem HOk.kept (x : HOk P w H h) (k : ∀ b u, h.get? b = some u → h'.get? b = some u) : HOk P w H h' := fun a o e =>
  (x a o e).stay (fun b u _ q => k b u q) (fun _ q => q) fun _ _ q => q
/-- a new object is laid and tracked -/
theorem HOk.laid (x : HOk P w H h) (k : ∀ b u, h.get? b = some u → h'.get? b = some u) (hp : h.objs.size ≤ a) (new : ObjOk P w (upd H a o) h' a o) : HOk P w (upd H a o) h' := fun b u e => by
  have hn := x.fresh hp
  by_cases hb : b = a
  · subst hb; rw [upd_same] at e; cases e; exact new
  · rw [upd_ne hb] at e
    exact (x b u e).stay (fun c v _ q => k c v q) (fun c q => by rw [upd_ne (ne_of_none q hn)]; exact q) fun c xs q => by rw [upd_ne (ne_of_none q hn)]; exact q
end

/-- what may be read as u: it is u, or a known u -/
def Rd (H : Hp) (a : Addr) (u : HO) : Prop := H a = some u ∨ ∃ o, H a = some (.frz o u)
theorem Rd.ok {P : Program} {w : World} {H : Hp} {h : Heap} {a : Addr} {u : HO} (r : Rd H a u) (x : HOk P w H h) : ObjOk P w H h a u := by
  rcases r with r | ⟨o, r⟩
  · exact x a u r
  · obtain ⟨_, q⟩ := x a _ r
    exact q
/-- what may be written -/
def Mut : Option HO → Prop
  | some (.lst _) => True
  | some (.dK _) => True
  | some (.dT _) => True
  | some (.set _ _) => True
  | some (.ins _ _ _) => True
  | some (.ext _) => True
  | _ => False
section
variable {P : Program} {w : World} {H : Hp} {h h' : Heap} {x e : Addr} {o' : HO}
/-- the object at e is changed: x itself, or the dict of the instance x -/
theorem HOk.write (ok : HOk P w H h) (mu : Mut (H x)) (he : e = x ∨ H e = some (.own x)) (k : ∀ b u, b ≠ e → h.get? b = some u → h'.get? b = some u) (heo : ∃ u, h'.get? e = some u)
    (new : ObjOk P w (upd H x o') h' x o') : HOk P w (upd H x o') h' := fun b u q => by
  have nown : ∀ c y, H c = some (.own y) → c ≠ x := fun c y r z => by subst z; rw [r] at mu; exact mu
  have ntup : ∀ c xs, H c = some (.tup xs) → c ≠ x := fun c xs r z => by subst z; rw [r] at mu; exact mu
  by_cases hb : b = x
  · subst hb; rw [upd_same] at q; cases q; exact new
  · rw [upd_ne hb] at q
    by_cases hbe : b = e
    · have q' : H b = some (.own x) := by
        rcases he with z | z
        · exact absurd (hbe.trans z) hb
        · rw [hbe]; exact z
      rw [q] at q'; cases q'
      obtain ⟨v, hv⟩ := heo
      exact ⟨v, by rw [hbe]; exact hv⟩
    · refine (ok b u q).stay (fun c v hc r => k c v ?_ r) (fun c r => by rw [upd_ne (nown c b r)]; exact r) fun c xs r => by rw [upd_ne (ntup c xs r)]; exact r
      rcases hc with rfl | hc
      · exact hbe
      · rintro rfl
        rcases he with z | z
        · exact nown c b hc z
        · rw [hc] at z; cases z; exact hb rfl
end

structure Un (fs ex : List Addr) (H H' : Hp) (h h' : Heap) : Prop where
  keep : ∀ b o, h.get? b = some o → H b = none → b ∉ fs → b ∉ ex → h'.get? b = some o
  slot : ∀ b o, h.get? b = some o → H b = none → b ∈ fs → b ∉ ex → ∃ sl, h'.get? b = some { o with slots := sl }
  free : ∀ b o, h.get? b = some o → H b = none → b ∉ ex → H' b = none
  there : ∀ b o, h.get? b = some o → b ∉ ex → ∃ o', h'.get? b = some o'
  tups : ∀ b xs, H b = some (.tup xs) → H' b = some (.tup xs)
  frzs : ∀ b o u, H b = some (.frz o u) → H' b = some (.frz o u)
  tbls : ∀ b ps, H b = some (.tbl ps) → ∃ more, H' b = some (.tbl (ps ++ more))
section
variable {fs fs' ex ex' : List Addr} {H H1 H2 : Hp} {h h1 h2 h' : Heap} {a x e : Addr} {o : HO}
theorem Un.any (u : Un fs ex H H1 h h1) {b : Addr} {ob : Obj} (q : h.get? b = some ob) (n : H b = none) (hx : b ∉ ex) : ∃ sl, h1.get? b = some { ob with slots := sl } := by
  by_cases hb : b ∈ fs
  · exact u.slot b ob q n hb hx
  · exact ⟨ob.slots, u.keep b ob q n hb hx⟩
theorem Un.kept (k : ∀ b u, h.get? b = some u → h'.get? b = some u) : Un fs ex H H h h' :=
  ⟨fun b ob q _ _ _ => k b ob q, fun b ob q _ _ _ => ⟨ob.slots, k b ob q⟩, fun _ _ _ n _ => n, fun b ob q _ => ⟨ob, k b ob q⟩, fun _ _ q => q, fun _ _ _ q => q, fun _ ps q => ⟨#[], by rw [q]; simp⟩⟩
theorem Un.refl : Un fs ex H H h h := Un.kept fun _ _ q => q
theorem Un.laid (k : ∀ b u, h.get? b = some u → h'.get? b = some u) (hp : h.objs.size ≤ a) (hn : H a = none) : Un fs ex H (upd H a o) h h' where
  keep := fun b u q _ _ _ => k b u q
  slot := fun b u q _ _ _ => ⟨u.slots, k b u q⟩
  free := fun b u q n _ => by rw [upd_ne (Nat.ne_of_lt (Nat.lt_of_lt_of_le (Heap.lt_size q) hp))]; exact n
  there := fun b u q _ => ⟨u, k b u q⟩
  tups := fun b xs q => by rw [upd_ne (ne_of_none q hn)]; exact q
  frzs := fun b u xs q => by rw [upd_ne (ne_of_none q hn)]; exact q
  tbls := fun b ps q => ⟨#[], by rw [upd_ne (ne_of_none q hn), q]; simp⟩
theorem Un.write (mu : Mut (H x)) (he : e = x ∨ H e = some (.own x)) (k : ∀ b u, b ≠ e → h.get? b = some u → h'.get? b = some u) (heo : ∃ u, h'.get? e = some u) : Un fs ex H (upd H x o) h h' := by
  have hx : ∀ b, H b = none → b ≠ x := fun b n z => by subst z; rw [n] at mu; exact mu
  have hb : ∀ b, H b = none → b ≠ e := fun b n z => by
    subst z
    rcases he with r | r
    · exact hx b n r
    · rw [n] at r; cases r
  have hm : ∀ b u, H b = some u → ¬ Mut (some u) → b ≠ x := fun b u q nm z => by subst z; rw [q] at mu; exact nm mu
  refine ⟨fun b u q n _ _ => k b u (hb b n) q, fun b u q n _ _ => ⟨u.slots, k b u (hb b n) q⟩, fun b u q n _ => by rw [upd_ne (hx b n)]; exact n, fun b u q _ => ?_,
    fun b xs q => by rw [upd_ne (hm b _ q fun z => z)]; exact q, fun b u xs q => by rw [upd_ne (hm b _ q fun z => z)]; exact q, fun b ps q => ⟨#[], by rw [upd_ne (hm b _ q fun z => z), q]; simp⟩⟩
  by_cases hbe : b = e
  · subst hbe; exact heo
  · exact ⟨u, k b u hbe q⟩
end

def trk (h : Heap) (H : Hp) : List Addr := (List.range h.objs.size).filter fun a => (H a).isSome
def hidT (h : Heap) (H : Hp) : Heap := PySem.W.hideAll h (trk h H)
theorem hidT_size (h : Heap) (H : Hp) : (hidT h H).objs.size = h.objs.size := PySem.W.hideAll_size _ _
theorem hidT_get {h : Heap} {H : Hp} {b : Addr} {o : Obj} (e : h.get? b = some o) (n : H b = none) : (hidT h H).get? b = some o :=
  PySem.W.hideAll_get _ e fun hm => by
    have q : (H b).isSome = true := (List.mem_filter.mp hm).2
    rw [n] at q; simp at q
theorem of_hidT {h : Heap} {H : Hp} {b : Addr} {o : Obj} (e : (hidT h H).get? b = some o) : h.get? b = some o ∧ H b = none := by
  have e' : h.get? b = some o := PySem.W.of_hideAll (trk h H) e
  refine ⟨e', ?_⟩
  cases q : H b with
  | none => rfl
  | some x =>
    have hm : b ∈ trk h H := List.mem_filter.mpr ⟨List.mem_range.mpr (Heap.lt_size e'), by simp [q]⟩
    have z : (hidT h H).get? b = none := PySem.W.hideAll_none (trk h H) hm
    rw [z] at e; cases e

end L2

namespace L2
open PySem PySem.Spec PyProof.Rows

/-- the module's facts, over the base: the heap at the law's entry without what is tracked there -/
structure Mod (K : PySem.W.Frag) (mg : Str → Option Value) (base : Heap) : Prop where
  kin : K.In base
  glob : base.Ns mainGlobals mg
  blt : ∃ mb, base.Ns builtinsNs mb ∧ ∀ x : Str, x ≠ "__name__" → mb x = bootBuiltins x
  nolimit : base.NoLimit

/-- the context: a def's body (or a comprehension's block) running. base: fixed through the whole law; s₀, H₀: the entry; outer: the frames whose slots others may change (a def's callers); stack: all frames that run;
   ex: iterators that were made ahead of the entry and are walked here (a comprehension's); fn: the names whose cells were made at the entry (a def: all; a comprehension's block: its own); calm: not within an except suite; pn: pins that every state bears; xe: what is wanted of an exception that leaves the code -/
structure Cx where
  prog : Program
  w : World
  K : PySem.W.Frag
  mg : Str → Option Value
  base : Heap
  A : Around
  N : List Str
  s₀ : Shared
  H₀ : Hp
  env : Env
  outer : List Env
  stack : List Env
  ex : List Addr
  fn : Str → Bool
  calm : Bool
  pn : List (Addr × Obj)
  xe : Value → Shared → Prop
/-- the callers' frames -/
def frs (l : List Env) : List Addr := l.filterMap (·.frame)
abbrev Cx.fs (X : Cx) : List Addr := frs X.outer

def Vis (sc : Scope) (x : Str) : Prop := sc.names.lookup x = some .local ∨ sc.names.lookup x = some .cell ∨ sc.names.lookup x = some .free
def Loc (sc : Scope) (x : Str) : Prop := sc.names.lookup x = some .local ∨ sc.names.lookup x = some .cell
def Look (env : Env) (h : Heap) (m : Str → Option Value) (x : Str) (u : Value) : Prop :=
  (env.kindOf x = some .local ∧ m x = some u) ∨ ((env.kindOf x = some .cell ∨ env.kindOf x = some .free) ∧ ∃ c, env.cells.lookup x = some c ∧ h.IsCell c (some u))

structure Cx.Ok (X : Cx) : Prop where
  mod : Mod X.K X.mg X.base
  kind : X.env.scope.kind = .function
  glob : X.env.globals = mainGlobals
  blt : X.env.builtins = builtinsNs
  above : X.s₀.heap.objs.size ≤ X.env.locals
  inj : ∀ x y c, X.env.cells.lookup x = some c → X.env.cells.lookup y = some c → x = y
  has : ∀ x, (X.env.kindOf x = some .cell ∨ X.env.kindOf x = some .free) → ∃ c, X.env.cells.lookup x = some c
  cab : ∀ x c, X.fn x = true → X.env.cells.lookup x = some c → X.s₀.heap.objs.size ≤ c
  hd : X.calm = true → X.A.handled = none
  frames : X.A.frames = some X.stack
  stk : X.stack = X.outer ∨ (X.stack = X.env :: X.outer ∧ X.env.frame = some X.env.locals)
  exf : ∀ b ∈ X.ex, b ≠ X.env.locals ∧ ∀ x c, X.env.cells.lookup x = some c → c ≠ b
  bs : ∀ b o, X.base.get? b = some o → X.s₀.heap.get? b = some o ∧ X.H₀ b = none
  bsz : X.base.objs.size ≤ X.s₀.heap.objs.size
  noex : ∀ b o, X.base.get? b = some o → b ∉ X.ex
  exfs : ∀ b ∈ X.ex, b ∉ X.fs
  funs : X.s₀.heap.FunFrames X.base X.outer
  frf : ∀ b ∈ X.fs, X.H₀ b = none

structure Inv (X : Cx) (pins : List (Addr × Obj)) (σ : List (Option V)) (H : Hp) (s : Shared) : Prop where
  ok : X.Ok
  os : s.os = X.s₀.os
  bare : AllBare s.gens
  base : Un X.fs X.ex X.H₀ H X.s₀.heap s.heap
  loc : ∃ m, s.heap.Ns X.env.locals m ∧ ∀ (i : Nat) (x : Str) (v : V), X.N[i]? = some x → σ[i]? = some (some v) → Vis X.env.scope x → ∃ u, RelV v u ∧ Look X.env s.heap m x u
  cell : ∀ x c, X.env.cells.lookup x = some c → ∃ v, s.heap.IsCell c v
  free : H X.env.locals = none
  freeC : ∀ x c, X.env.cells.lookup x = some c → H c = none
  pin : ∀ p ∈ X.pn ++ pins, s.heap.get? p.1 = some p.2 ∧ H p.1 = none ∧ p.1 ≠ X.env.locals ∧ p.1 ∉ X.fs ∧ ∀ v, p.2.data ≠ .cell v
  hok : HOk X.prog X.w H s.heap
  len : σ.length = X.N.length

section
variable {X : Cx} {pins : List (Addr × Obj)} {σ : List (Option V)} {H H' : Hp} {s : Shared} {h' : Heap}

theorem Cx.Ok.nofr (ok : X.Ok) {b : Addr} {o : Obj} (e : X.base.get? b = some o) : b ∉ X.fs := fun hb => by
  have := (ok.funs.mem hb).1
  rw [e] at this; cases this
theorem Inv.bs (I : Inv X pins σ H s) : ∀ b o, X.base.get? b = some o → s.heap.get? b = some o ∧ H b = none := fun b o e =>
  ⟨I.base.keep b o (I.ok.bs b o e).1 (I.ok.bs b o e).2 (I.ok.nofr e) (I.ok.noex b o e), I.base.free b o (I.ok.bs b o e).1 (I.ok.bs b o e).2 (I.ok.noex b o e)⟩
theorem Inv.bk (I : Inv X pins σ H s) : ∀ b o, X.base.get? b = some o → s.heap.get? b = some o := fun b o e => (I.bs b o e).1
theorem Inv.mod (I : Inv X pins σ H s) : Mod X.K X.mg X.base := I.ok.mod
theorem Inv.kIn (I : Inv X pins σ H s) : X.K.In s.heap := I.ok.mod.kin.keeps I.bk
theorem Inv.lt (I : Inv X pins σ H s) : X.env.locals < s.heap.objs.size := let ⟨_, hn, _⟩ := I.loc; hn.lt
theorem Inv.sz (I : Inv X pins σ H s) : X.s₀.heap.objs.size ≤ s.heap.objs.size := Nat.le_trans I.ok.above (Nat.le_of_lt I.lt)
theorem Inv.nofs (I : Inv X pins σ H s) {a : Addr} (h : s.heap.objs.size ≤ a) : a ∉ X.fs := fun hb => by
  obtain ⟨_, o, ho, _⟩ := I.ok.funs.mem hb
  exact absurd (Nat.lt_of_lt_of_le (Heap.lt_size ho) (Nat.le_trans I.sz h)) (Nat.lt_irrefl _)
theorem Inv.cne (I : Inv X pins σ H s) : ∀ x c, X.env.cells.lookup x = some c → c ≠ X.env.locals := fun x c e z => by
  obtain ⟨v, o, ho, hd⟩ := I.cell x c e
  obtain ⟨m, ⟨o', es, ep, ho', hd', _⟩, _⟩ := I.loc
  rw [z, ho'] at ho; cases ho; rw [hd'] at hd; cases hd
theorem Inv.funs (I : Inv X pins σ H s) : s.heap.FunFrames X.base X.outer := by
  have all : ∀ (l : List Env), (∀ b ∈ frs l, b ∈ X.fs) → X.s₀.heap.FunFrames X.base l → s.heap.FunFrames X.base l := by
    intro l
    induction l with
    | nil => intro _ _; trivial
    | cons env r ih =>
      intro hs hl
      obtain ⟨hk, ⟨L, o, hf, hn, ho, hd⟩, hr⟩ := hl
      have hL : L ∈ X.fs := hs L (by unfold frs; rw [List.filterMap_cons, hf]; exact List.mem_cons_self)
      obtain ⟨sl, e⟩ := I.base.slot L o ho (I.ok.frf L hL) hL fun z => I.ok.exfs L z hL
      exact ⟨hk, ⟨L, _, hf, hn, e, hd⟩, ih (fun b hb => hs b (by unfold frs; rw [List.filterMap_cons, hf]; exact List.mem_cons_of_mem _ hb)) hr⟩
  exact all X.outer (fun _ hb => hb) I.ok.funs

/-- the frames that run, for a call -/
theorem Inv.stack (I : Inv X pins σ H s) : s.heap.FunFrames X.base X.stack := by
  rcases I.ok.stk with e | ⟨e, hf⟩
  · rw [e]; exact I.funs
  · rw [e]
    obtain ⟨m, hn, _⟩ := I.loc
    refine .cons (by rw [I.ok.kind]; decide) hf hn ?_ I.funs
    exact Heap.get?_none_of_le (Nat.le_trans I.ok.bsz I.ok.above)
theorem Inv.stkSub (I : Inv X pins σ H s) : ∀ b ∈ frs X.stack, b ∈ X.env.locals :: X.fs := fun b hb => by
  rcases I.ok.stk with e | ⟨e, hf⟩
  · rw [e] at hb; exact List.mem_cons_of_mem _ hb
  · rw [e] at hb
    unfold frs at hb
    rw [List.filterMap_cons, hf] at hb
    exact hb
theorem Inv.stkFree (I : Inv X pins σ H s) : ∀ b ∈ frs X.stack, H b = none := fun b hb => by
  rcases List.mem_cons.mp (I.stkSub b hb) with e | hb
  · rw [e]; exact I.free
  · obtain ⟨_, o, ho, _⟩ := I.ok.funs.mem hb
    exact I.base.free b o ho (I.ok.frf b hb) fun z => I.ok.exfs b z hb

/-- THE STEP: the untracked objects but the frame and the records at ch are kept (the callers' frames up to slots), the frame's map is kept, the new abstract heap is held -/
theorem Inv.step {g' : Array GenState} {t' : Nat} {d' : Drawn} {ch : List Addr} (I : Inv X pins σ H s)
    (hch : ∀ b ∈ ch, (b ∈ X.ex ∨ X.s₀.heap.objs.size ≤ b) ∧ b ≠ X.env.locals ∧ (∀ x c, X.env.cells.lookup x = some c → c ≠ b) ∧ ∀ p ∈ X.pn ++ pins, p.1 ≠ b)
    (keep : ∀ b o, b ≠ X.env.locals → b ∉ X.fs → b ∉ ch → s.heap.get? b = some o → H b = none → h'.get? b = some o)
    (slot : ∀ b o, b ≠ X.env.locals → b ∈ X.fs → b ∉ ch → s.heap.get? b = some o → H b = none → ∃ sl, h'.get? b = some { o with slots := sl }) (free : ∀ b o, b ∉ ch → s.heap.get? b = some o → H b = none → H' b = none)
    (there : ∀ b o, b ∉ ch → s.heap.get? b = some o → ∃ o', h'.get? b = some o')
    (tups : ∀ b xs, H b = some (.tup xs) → H' b = some (.tup xs)) (frzs : ∀ b o u, H b = some (.frz o u) → H' b = some (.frz o u)) (tbls : ∀ b ps, H b = some (.tbl ps) → ∃ more, H' b = some (.tbl (ps ++ more)))
    (ns : ∀ m, s.heap.Ns X.env.locals m → h'.Ns X.env.locals m) (hok : HOk X.prog X.w H' h') (hg : AllBare g') :
    Inv X pins σ H' { s with heap := h', gens := g', drawn := d', toks := t' } := by
  have neL : ∀ b o, X.s₀.heap.get? b = some o → b ≠ X.env.locals := fun b o e => Nat.ne_of_lt (Nat.lt_of_lt_of_le (Heap.lt_size e) I.ok.above)
  have neC : ∀ b o, X.s₀.heap.get? b = some o → b ∉ X.ex → b ∉ ch := fun b o e hx hb => by
    rcases (hch b hb).1 with z | z
    · exact hx z
    · exact absurd (Nat.lt_of_lt_of_le (Heap.lt_size e) z) (Nat.lt_irrefl _)
  have cellK : ∀ x c, X.env.cells.lookup x = some c → ∀ v, s.heap.IsCell c v → h'.IsCell c v := fun x c e v ⟨o, ho, hd⟩ => by
    have nch : c ∉ ch := fun z => (hch c z).2.2.1 x c e rfl
    by_cases hc : c ∈ X.fs
    · obtain ⟨sl, q⟩ := slot c o (I.cne x c e) hc nch ho (I.freeC x c e)
      exact ⟨_, q, hd⟩
    · exact ⟨o, keep c o (I.cne x c e) hc nch ho (I.freeC x c e), hd⟩
  refine ⟨I.ok, I.os, hg, ⟨fun b o e n hb hx => ?_, fun b o e n hb hx => ?_, fun b o e n hx => ?_, fun b o e hx => ?_, fun b xs e => tups b xs (I.base.tups b xs e), fun b o xs e => frzs b o xs (I.base.frzs b o xs e), fun b ps e => ?_⟩, ?_, fun x c e => ?_, ?_, fun x c e => ?_, fun p hp => ?_, hok, I.len⟩
  · exact keep b o (neL b o e) hb (neC b o e hx) (I.base.keep b o e n hb hx) (I.base.free b o e n hx)
  · obtain ⟨sl, e1⟩ := I.base.slot b o e n hb hx
    obtain ⟨sl', e2⟩ := slot b _ (neL b o e) hb (neC b o e hx) e1 (I.base.free b o e n hx)
    exact ⟨sl', e2⟩
  · obtain ⟨o', e1⟩ := I.base.there b o e hx
    exact free b o' (neC b o e hx) e1 (I.base.free b o e n hx)
  · obtain ⟨o', e1⟩ := I.base.there b o e hx
    exact there b o' (neC b o e hx) e1
  · obtain ⟨m1, e1⟩ := I.base.tbls b ps e
    obtain ⟨m2, e2⟩ := tbls b _ e1
    exact ⟨m1 ++ m2, by rw [e2, Array.append_assoc]⟩
  · obtain ⟨m, hn, hl⟩ := I.loc
    refine ⟨m, ns m hn, fun i x v e1 e2 e3 => ?_⟩
    obtain ⟨u, r, l⟩ := hl i x v e1 e2 e3
    refine ⟨u, r, ?_⟩
    rcases l with l | ⟨k, c, e, z⟩
    · exact .inl l
    · exact .inr ⟨k, c, e, cellK x c e _ z⟩
  · obtain ⟨v, z⟩ := I.cell x c e
    exact ⟨v, cellK x c e v z⟩
  · obtain ⟨m, ⟨o, _, _, ho, _⟩, _⟩ := I.loc
    exact free _ o (fun z => (hch _ z).2.1 rfl) ho I.free
  · obtain ⟨v, o, ho, hd⟩ := I.cell x c e
    exact free c o (fun z => (hch c z).2.2.1 x c e rfl) ho (I.freeC x c e)
  · obtain ⟨e, n, ne, nf, d⟩ := I.pin p hp
    have nch : p.1 ∉ ch := fun z => (hch p.1 z).2.2.2 p hp rfl
    exact ⟨keep p.1 p.2 ne nf nch e n, free p.1 p.2 nch e n, ne, nf, d⟩
/-- .. where the frame's own object is kept too -/
theorem Inv.un {t' : Nat} (I : Inv X pins σ H s) (u : Un X.fs [] H H' s.heap h') (hok : HOk X.prog X.w H' h') : Inv X pins σ H' { s with heap := h', toks := t' } := by
  obtain ⟨m, ⟨o, es, ep, ho, r⟩, _⟩ := id I.loc
  obtain ⟨sl, hL⟩ := u.any ho I.free (by simp)
  exact I.step (g' := s.gens) (d' := s.drawn) (ch := []) (fun _ z => nomatch z) (fun b o _ hb _ e n => u.keep b o e n hb (by simp)) (fun b o _ hb _ e n => u.slot b o e n hb (by simp)) (fun b o _ e n => u.free b o e n (by simp)) (fun b o _ e => u.there b o e (by simp)) u.tups u.frzs u.tbls (fun m' hm => by
    obtain ⟨o', es', ep', ho', r'⟩ := hm
    rw [ho] at ho'; cases ho'
    exact ⟨_, es', ep', hL, r'⟩) hok I.bare
/-- behind a call (or a comprehension's block): the slots of this frame may have changed too, the records at ch may have turned -/
theorem Inv.call {g' : Array GenState} {t' : Nat} {d' : Drawn} {ch : List Addr} (I : Inv X pins σ H s) (u : Un (frs X.stack) ch H H' s.heap h') (hok : HOk X.prog X.w H' h') (hg : AllBare g')
    (hch : ∀ b ∈ ch, (b ∈ X.ex ∨ X.s₀.heap.objs.size ≤ b) ∧ b ≠ X.env.locals ∧ (∀ x c, X.env.cells.lookup x = some c → c ≠ b) ∧ ∀ p ∈ X.pn ++ pins, p.1 ≠ b) :
    Inv X pins σ H' { s with heap := h', gens := g', drawn := d', toks := t' } := by
  obtain ⟨m, ⟨o, es, ep, ho, r⟩, _⟩ := id I.loc
  obtain ⟨sl, hL⟩ := u.any ho I.free fun z => (hch _ z).2.1 rfl
  exact I.step (ch := ch) hch (fun b o hL hb hc e n => u.keep b o e n (fun z => (List.mem_cons.mp (I.stkSub b z)).elim hL hb) hc) (fun b o _ _ hc e n => u.any e n hc) (fun b o hc e n => u.free b o e n hc) (fun b o hc e => u.there b o e hc) u.tups u.frzs u.tbls (fun m' hm => by
    obtain ⟨o', es', ep', ho', r'⟩ := hm
    rw [ho] at ho'; cases ho'
    exact ⟨_, es', ep', hL, r'⟩) hok hg
/-- an untracked record of ours (an iterator) has turned -/
theorem Inv.turned {t' : Nat} {it : Addr} (I : Inv X pins σ H s) (k : ∀ b o, b ≠ it → s.heap.get? b = some o → h'.get? b = some o) (hn : H it = none) (hL : it ≠ X.env.locals)
    (h1 : it ∈ X.ex ∨ X.s₀.heap.objs.size ≤ it) (h2 : ∀ x c, X.env.cells.lookup x = some c → c ≠ it) (h3 : ∀ p ∈ X.pn ++ pins, p.1 ≠ it) : Inv X pins σ H { s with heap := h', toks := t' } := by
  have nit : ∀ b u, H b = some u → b ≠ it := fun b u e z => by rw [z, hn] at e; cases e
  refine I.step (g' := s.gens) (d' := s.drawn) (ch := [it]) (fun b hb => ?_) (fun b o _ _ hc e _ => k b o (fun z => hc (by simp [z])) e) (fun b o _ _ hc e _ => ⟨o.slots, k b o (fun z => hc (by simp [z])) e⟩) (fun _ _ _ _ n => n)
    (fun b o hc e => ⟨o, k b o (fun z => hc (by simp [z])) e⟩) (fun _ _ e => e) (fun _ _ _ e => e) (fun b ps e => ⟨#[], by rw [e]; simp⟩) (fun m hm => ?_) (fun b u e => ?_) I.bare
  · have e : b = it := by simpa using hb
    subst e
    exact ⟨h1, hL, h2, h3⟩
  · obtain ⟨o, es, ep, ho, r⟩ := hm
    exact ⟨o, es, ep, k _ o (Ne.symm hL) ho, r⟩
  · refine (I.hok b u e).stay (fun c v hc q => k c v ?_ q) (fun _ q => q) fun _ _ q => q
    rcases hc with z | z
    · rw [z]; exact nit b u e
    · exact nit c _ z
theorem Inv.tok (I : Inv X pins σ H s) (t : Nat) : Inv X pins σ H { s with toks := t } := I.un (h' := s.heap) (t' := t) Un.refl I.hok
/-- all objects kept -/
theorem Inv.kept {t' : Nat} (I : Inv X pins σ H s) (k : ∀ b u, s.heap.get? b = some u → h'.get? b = some u) : Inv X pins σ H { s with heap := h', toks := t' } := I.un (Un.kept k) (I.hok.kept k)
/-- a new object laid and tracked -/
theorem Inv.laid {a : Addr} {o : HO} {t' : Nat} (I : Inv X pins σ H s) (k : ∀ b u, s.heap.get? b = some u → h'.get? b = some u) (hp : s.heap.objs.size ≤ a) (new : ObjOk X.prog X.w (upd H a o) h' a o) :
    Inv X pins σ (upd H a o) { s with heap := h', toks := t' } := I.un (Un.laid k hp (I.hok.fresh hp)) (I.hok.laid k hp new)
/-- an object written -/
theorem Inv.write {x e : Addr} {o : HO} {t' : Nat} (I : Inv X pins σ H s) (mu : Mut (H x)) (he : e = x ∨ H e = some (.own x)) (k : ∀ b u, b ≠ e → s.heap.get? b = some u → h'.get? b = some u) (heo : ∃ u, h'.get? e = some u)
    (new : ObjOk X.prog X.w (upd H x o) h' x o) : Inv X pins σ (upd H x o) { s with heap := h', toks := t' } := I.un (Un.write mu he k heo) (I.hok.write mu he k heo new)
theorem Inv.pins_of {pins' : List (Addr × Obj)} (I : Inv X pins σ H s) (h : ∀ p ∈ pins', s.heap.get? p.1 = some p.2 ∧ H p.1 = none ∧ p.1 ≠ X.env.locals ∧ p.1 ∉ X.fs ∧ ∀ v, p.2.data ≠ .cell v) : Inv X pins' σ H s :=
  ⟨I.ok, I.os, I.bare, I.base, I.loc, I.cell, I.free, I.freeC, fun p hp => (List.mem_append.mp hp).elim (fun z => I.pin p (List.mem_append_left _ z)) (h p), I.hok, I.len⟩

theorem nodup_ix {N : List Str} (hN : N.Nodup) {i j : Nat} {x : Str} (a : N[i]? = some x) (b : N[j]? = some x) : i = j := by
  obtain ⟨h1, e1⟩ := List.getElem?_eq_some_iff.mp a
  obtain ⟨h2, e2⟩ := List.getElem?_eq_some_iff.mp b
  exact (List.getElem_inj hN).mp (e1.trans e2.symm)

/-- a name is stored; what changed -/
theorem store_ok2 {M : Model} {A : Around} {E : Value → Shared → Prop} {i : Nat} {x : Str} {v : V} {u : Value} {Q : Unit → Shared → Prop} (I : Inv X pins σ H s) (hN : X.N.Nodup) (hi : X.N[i]? = some x) (hx : Loc X.env.scope x) (r : RelV v u)
    (h : ∀ s', Inv X pins (σ.set i (some v)) H s' → (∃ a, Heap.SameBut a s.heap s'.heap ∧ (a = X.env.locals ∨ X.env.cells.lookup x = some a)) → Q () s') (hf : X.fn x = true ∨ X.env.scope.names.lookup x = some .local := by first | exact .inl rfl | exact .inr rfl | assumption) : wpAny M A (storeName X.env x u) Q E s := by
  obtain ⟨m, hn, hl⟩ := id I.loc
  have hcls : (X.env.scope.kind == .class || (X.env.scope.kind == .module && X.env.locals != X.env.globals)) = false := by rw [I.ok.kind]; rfl
  have hiσ : i < σ.length := by rw [I.len]; exact (List.getElem?_eq_some_iff.mp hi).1
  have cne := I.cne
  have tracked : ∀ {a : Addr} {h' : Heap}, (∃ o, s.heap.get? a = some o ∧ H a = none) → Heap.SameBut a s.heap h' → HOk X.prog X.w H h' := fun {a h'} ha hs b ob e => by
    obtain ⟨_, _, hfree⟩ := ha
    refine (I.hok b ob e).stay (fun c w' hc q => (hs.2 c ?_).trans q) (fun _ q => q) fun _ _ q => q
    rintro rfl
    rcases hc with rfl | hc
    · rw [hfree] at e; cases e
    · rw [hfree] at hc; cases hc
  rcases hx with hk | hk
  · refine wpAny_storeName_local hk hn (fun h' hn' hs => ?_) hcls
    obtain ⟨oL, _, _, hoL, _⟩ := id hn
    refine h _ ⟨I.ok, I.os, I.bare, ⟨fun b o e n hb hx => ?_, fun b o e n hb hx => ?_, I.base.free, fun b o e hx => ?_, I.base.tups, I.base.frzs, I.base.tbls⟩, ⟨_, hn', fun j y v' e1 e2 e3 => ?_⟩, fun y c e => ?_, I.free, I.freeC, fun p hp => ?_, tracked ⟨oL, hoL, I.free⟩ hs, by simpa using I.len⟩ ⟨_, hs, .inl rfl⟩
    · exact (hs.2 b (Nat.ne_of_lt (Nat.lt_of_lt_of_le (Heap.lt_size e) I.ok.above))).trans (I.base.keep b o e n hb hx)
    · obtain ⟨sl, e1⟩ := I.base.slot b o e n hb hx
      exact ⟨sl, (hs.2 b (Nat.ne_of_lt (Nat.lt_of_lt_of_le (Heap.lt_size e) I.ok.above))).trans e1⟩
    · obtain ⟨o', e1⟩ := I.base.there b o e hx
      exact ⟨o', (hs.2 b (Nat.ne_of_lt (Nat.lt_of_lt_of_le (Heap.lt_size e) I.ok.above))).trans e1⟩
    · by_cases hj : j = i
      · subst hj
        rw [hi] at e1; cases e1
        rw [List.getElem?_set_self hiσ] at e2
        cases e2
        exact ⟨u, r, .inl ⟨hk, by simp⟩⟩
      · rw [List.getElem?_set_ne (Ne.symm hj)] at e2
        obtain ⟨u', r', q⟩ := hl j y v' e1 e2 e3
        refine ⟨u', r', ?_⟩
        rcases q with ⟨k, e⟩ | ⟨k, c, e, z⟩
        · refine .inl ⟨k, ?_⟩
          have : y ≠ x := fun e => hj (nodup_ix hN e1 (e ▸ hi))
          simp [this, e]
        · exact .inr ⟨k, c, e, z.sameBut hs (cne y c e)⟩
    · obtain ⟨w', z⟩ := I.cell y c e
      exact ⟨w', z.sameBut hs (cne y c e)⟩
    · obtain ⟨e, n, ne, nf, d⟩ := I.pin p hp
      exact ⟨(hs.2 p.1 ne).trans e, n, ne, nf, d⟩
  · have hfn : X.fn x = true := by
      rcases hf with z | z
      · exact z
      · rw [z] at hk; cases hk
    obtain ⟨c, hc⟩ := I.ok.has x (.inl hk)
    obtain ⟨w', z⟩ := I.cell x c hc
    refine wpAny_storeName_cell I.ok.kind hk hc z (fun h' hc' hs => ?_)
    obtain ⟨oc, hoc, hocd⟩ := id z
    refine h { s with heap := h' } ⟨I.ok, I.os, I.bare, ⟨fun b o e n hb hx => ?_, fun b o e n hb hx => ?_, I.base.free, fun b o e hx => ?_, I.base.tups, I.base.frzs, I.base.tbls⟩, ⟨m, hn.sameBut hs (Ne.symm (cne x c hc)), fun j y v' e1 e2 e3 => ?_⟩, fun y c' e => ?_, I.free, I.freeC, fun p hp => ?_, tracked ⟨oc, hoc, I.freeC x c hc⟩ hs, by simpa using I.len⟩ ⟨c, hs, .inr hc⟩
    · exact (hs.2 b (Nat.ne_of_lt (Nat.lt_of_lt_of_le (Heap.lt_size e) (I.ok.cab x c hfn hc)))).trans (I.base.keep b o e n hb hx)
    · obtain ⟨sl, e1⟩ := I.base.slot b o e n hb hx
      exact ⟨sl, (hs.2 b (Nat.ne_of_lt (Nat.lt_of_lt_of_le (Heap.lt_size e) (I.ok.cab x c hfn hc)))).trans e1⟩
    · obtain ⟨o', e1⟩ := I.base.there b o e hx
      exact ⟨o', (hs.2 b (Nat.ne_of_lt (Nat.lt_of_lt_of_le (Heap.lt_size e) (I.ok.cab x c hfn hc)))).trans e1⟩
    · by_cases hj : j = i
      · subst hj
        rw [hi] at e1; cases e1
        rw [List.getElem?_set_self hiσ] at e2
        cases e2
        exact ⟨u, r, .inr ⟨.inl hk, c, hc, hc'⟩⟩
      · rw [List.getElem?_set_ne (Ne.symm hj)] at e2
        obtain ⟨u', r', q⟩ := hl j y v' e1 e2 e3
        refine ⟨u', r', ?_⟩
        rcases q with q | ⟨k, c', e, z'⟩
        · exact .inl q
        · refine .inr ⟨k, c', e, z'.sameBut hs ?_⟩
          rintro rfl
          exact hj (nodup_ix hN e1 (I.ok.inj _ _ _ e hc ▸ hi))
    · by_cases hcc : c' = c
      · subst hcc; exact ⟨_, hc'⟩
      · obtain ⟨w2, z2⟩ := I.cell y c' e
        exact ⟨w2, z2.sameBut hs hcc⟩
    · obtain ⟨e, n, ne, nf, d⟩ := I.pin p hp
      refine ⟨(hs.2 p.1 ?_).trans e, n, ne, nf, d⟩
      intro q
      rw [q, hoc] at e
      have q' : oc = p.2 := Option.some.inj e
      exact d w' (by rw [← q']; exact hocd)
theorem store_ok {M : Model} {A : Around} {E : Value → Shared → Prop} {i : Nat} {x : Str} {v : V} {u : Value} {Q : Unit → Shared → Prop} (I : Inv X pins σ H s) (hN : X.N.Nodup) (hi : X.N[i]? = some x) (hx : Loc X.env.scope x) (r : RelV v u)
    (h : ∀ s', Inv X pins (σ.set i (some v)) H s' → Q () s') (hf : X.fn x = true ∨ X.env.scope.names.lookup x = some .local := by first | exact .inl rfl | exact .inr rfl | assumption) : wpAny M A (storeName X.env x u) Q E s :=
  store_ok2 I hN hi hx r (fun s' I' _ => h s' I') hf
/-- behind a call or a block, the state as it is -/
theorem Inv.call' {s' : Shared} {ch : List Addr} (I : Inv X pins σ H s) (ho : s'.os = s.os) (u : Un (frs X.stack) ch H H' s.heap s'.heap) (hok : HOk X.prog X.w H' s'.heap) (hg : AllBare s'.gens)
    (hch : ∀ b ∈ ch, (b ∈ X.ex ∨ X.s₀.heap.objs.size ≤ b) ∧ b ≠ X.env.locals ∧ (∀ x c, X.env.cells.lookup x = some c → c ≠ b) ∧ ∀ p ∈ X.pn ++ pins, p.1 ≠ b) : Inv X pins σ H' s' := by
  obtain ⟨h', g', d', t', o'⟩ := s'
  have e : o' = s.os := ho
  subst e
  exact I.call (g' := g') (t' := t') (d' := d') u hok hg hch
end

/-- an exception: its class, its own dict's address (where it has one), the abstract heap behind it -/
abbrev XK := Value → Option Addr → Hp → Prop
abbrev St := List (Option V)
abbrev VK := V → Hp → Prop
/-- an expression's reading; a test's; an argument list's -/
abbrev TE := St → Hp → VK → Prop
abbrev TT := St → Hp → (Bool → Hp → Prop) → Prop
abbrev TA := St → Hp → (List V → Hp → Prop) → Prop
/-- what is wanted behind a statement -/
structure Ends where
  nx : St → Hp → Prop
  rt : VK
  bk : St → Hp → Prop := fun _ _ => False
  ct : St → Hp → Prop := fun _ _ => False
abbrev TS := Ends → St → Hp → Prop

def EP (X : Cx) (pins : List (Addr × Obj)) (σ : St) (Q : VK) (u : Value) (s' : Shared) : Prop := ∃ v H', Inv X pins σ H' s' ∧ RelV v u ∧ Q v H'
def TP (X : Cx) (pins : List (Addr × Obj)) (σ : St) (Q : Bool → Hp → Prop) (b : Bool) (s' : Shared) : Prop := ∃ H', Inv X pins σ H' s' ∧ Q b H'
def AP (X : Cx) (pins : List (Addr × Obj)) (σ : St) (Q : List V → Hp → Prop) (us : List Value) (s' : Shared) : Prop := ∃ vs H', Inv X pins σ H' s' ∧ Vals vs us ∧ Q vs H'
def SP (X : Cx) (pins : List (Addr × Obj)) (D : Ends) (f : Flow) (s' : Shared) : Prop :=
  match f with
  | .next => ∃ σ' H', Inv X pins σ' H' s' ∧ D.nx σ' H'
  | .brk => ∃ σ' H', Inv X pins σ' H' s' ∧ D.bk σ' H'
  | .cont => ∃ σ' H', Inv X pins σ' H' s' ∧ D.ct σ' H'
  | .ret u => ∃ v σ' H', Inv X pins σ' H' s' ∧ RelV v u ∧ D.rt v H'

def PE (X : Cx) (e : Expr) (t : TE) : Prop :=
  ∀ (pins : List (Addr × Obj)) (s : Shared) (σ : St) (H : Hp) (Q : VK), Inv X pins σ H s → t σ H Q → wpAny (model X.prog X.w) X.A (eval e X.env) (EP X pins σ Q) X.xe s
def PT (X : Cx) (e : Expr) (t : TT) : Prop :=
  ∀ (pins : List (Addr × Obj)) (s : Shared) (σ : St) (H : Hp) (Q : Bool → Hp → Prop), Inv X pins σ H s → t σ H Q → wpAny (model X.prog X.w) X.A (isTrue e X.env (eval e X.env)) (TP X pins σ Q) X.xe s
/-- a test whatever its 'whole' is (and, or) -/
def PW (X : Cx) (e : Expr) (t : TT) : Prop :=
  ∀ (whole : Sem Value) (pins : List (Addr × Obj)) (s : Shared) (σ : St) (H : Hp) (Q : Bool → Hp → Prop), Inv X pins σ H s → t σ H Q → wpAny (model X.prog X.w) X.A (isTrue e X.env whole) (TP X pins σ Q) X.xe s
theorem PW.pt {X : Cx} {e : Expr} {t : TT} (h : PW X e t) : PT X e t := h _
/-- an argument list (no star), from the left -/
def PA (X : Cx) (es : List Expr) (t : TA) : Prop :=
  ∀ (pos : Pos) (pins : List (Addr × Obj)) (s : Shared) (σ : St) (H : Hp) (Q : List V → Hp → Prop), Inv X pins σ H s → t σ H Q → wpAny (model X.prog X.w) X.A (spliced (backTo pos (starEach es X.env))) (AP X pins σ Q) X.xe s
def PS (X : Cx) (st : Stmt) (t : TS) : Prop :=
  ∀ (pins : List (Addr × Obj)) (s : Shared) (σ : St) (H : Hp) (D : Ends), Inv X pins σ H s → t D σ H → wpAny (model X.prog X.w) X.A (exec st X.env) (SP X pins D) X.xe s
def PSs (X : Cx) (st : List Stmt) (t : TS) : Prop :=
  ∀ (pins : List (Addr × Obj)) (s : Shared) (σ : St) (H : Hp) (D : Ends), Inv X pins σ H s → t D σ H → wpAny (model X.prog X.w) X.A (execs st X.env) (SP X pins D) X.xe s
/-- weaken the end -/
theorem thn {α : Type} {t : Sem α} {Q Q' : α → Shared → Prop} {M : Model} {A : Around} {E : Value → Shared → Prop} {s : Shared} (h : wpAny M A t Q E s) (hQ : ∀ a s, Q a s → Q' a s) : wpAny M A t Q' E s := wpAny_mono h hQ fun _ _ x => x
end L2

namespace L2
open PySem PySem.Spec PyProof.Rows
section
variable {X : Cx}

def tVar (i : Nat) : TE := fun σ H Q => ∃ v, σ[i]? = some (some v) ∧ Q v H
def tC (v : V) : TE := fun _ H Q => Q v H
theorem pe_var {i : Nat} {x : Str} {pos : Pos} (hN : X.N[i]? = some x) (hv : Vis X.env.scope x) (hd : (x == ("__debug__" : Str)) = false := by decide) (hcd : (x == ("__classdict__" : Str)) = false := by decide) : PE X (.Name x pos) (tVar i) := by
  intro pins s σ H Q I h
  obtain ⟨v, e, h⟩ := h
  obtain ⟨m, hn, hl⟩ := I.loc
  obtain ⟨u, r, l⟩ := hl i x v hN e hv
  have fin : EP X pins σ Q u s := ⟨v, H, I, r, h⟩
  rcases l with ⟨hk, hm⟩ | ⟨hk, c, hc, hcell⟩
  · exact wpAny_Name (wpAny_loadName_local I.ok.kind hk hn hm fin) hd
  · rcases hk with hk | hk
    · exact wpAny_Name (wpAny_loadName_cell I.ok.kind hk hc hcell fin) hd
    · exact wpAny_Name (wpAny_loadName_free I.ok.kind hk hc hcell fin hcd) hd
theorem pe_int {i j pos} : PE X (.Constant (.int i) j pos) (tC (.int i)) := fun _ _ _ H _ I h => wpAny_Constant_int ⟨.int i, H, I.tok _, ⟨_, rfl⟩, h⟩
theorem pe_bl {b j pos} : PE X (.Constant (.bool b) j pos) (tC (.bl b)) := fun _ _ _ H _ I h => Constant_bool ⟨.bl b, H, I, rfl, h⟩
theorem pe_non {j pos} : PE X (.Constant .none j pos) (tC .non) := fun _ _ _ H _ I h => Constant_none ⟨.non, H, I, rfl, h⟩
theorem pe_str {x j pos} : PE X (.Constant (.str x) j pos) (tC (.str x)) := fun _ _ _ H _ I h => Calls.Constant_str ⟨.str x, H, I.tok _, ⟨_, rfl⟩, h⟩

/-- a global name of the def -/
def Gl (X : Cx) (x : Str) : Prop := X.env.kindOf x = some .globalImplicit
theorem ld_glob {E : Value → Shared → Prop} {pins : List (Addr × Obj)} {s : Shared} {σ : St} {H : Hp} {x : Str} {u : Value} {pos : Pos} {Q : Value → Shared → Prop} (I : Inv X pins σ H s) (hg : Gl X x) (hm : X.mg x = some u) (h : Q u s)
    (hd : (x == ("__debug__" : Str)) = false := by decide) : wpAny (model X.prog X.w) X.A (eval (.Name x pos) X.env) Q E s :=
  Calls.Name_function_global I.ok.kind hg (Calls.loadGlobal_global (by rw [I.ok.glob]; exact I.mod.glob.keeps I.bk) hm h) hd
theorem ld_blt {E : Value → Shared → Prop} {pins : List (Addr × Obj)} {s : Shared} {σ : St} {H : Hp} {x : Str} {u : Value} {pos : Pos} {Q : Value → Shared → Prop} (I : Inv X pins σ H s) (hg : Gl X x) (hm : X.mg x = none) (hv : bootBuiltins x = some u) (h : Q u s)
    (hn : x ≠ "__name__" := by decide) (hd : (x == ("__debug__" : Str)) = false := by decide) : wpAny (model X.prog X.w) X.A (eval (.Name x pos) X.env) Q E s := by
  obtain ⟨mb, h1, h2⟩ := I.mod.blt
  exact Calls.Name_function_global I.ok.kind hg (Calls.loadGlobal_builtin (by rw [I.ok.glob]; exact I.mod.glob.keeps I.bk) hm (by rw [I.ok.blt]; exact h1.keeps I.bk) ((h2 x hn).trans hv) h) hd
/-- a module's constant, a class, a function, as a value -/
theorem pe_glob {x : Str} {v : V} {u : Value} {pos : Pos} (hg : Gl X x) (hm : X.mg x = some u) (r : RelV v u) (hd : (x == ("__debug__" : Str)) = false := by decide) : PE X (.Name x pos) (tC v) :=
  fun _ _ _ H _ I h => ld_glob I hg hm ⟨v, H, I, r, h⟩ hd
theorem pe_bltn {x : Str} {v : V} {u : Value} {pos : Pos} (hg : Gl X x) (hm : X.mg x = none) (hv : bootBuiltins x = some u) (r : RelV v u) (hn : x ≠ "__name__" := by decide) (hd : (x == ("__debug__" : Str)) = false := by decide) : PE X (.Name x pos) (tC v) :=
  fun _ _ _ H _ I h => ld_blt I hg hm hv ⟨v, H, I, r, h⟩ hn hd

variable {a b : Expr} {ta tb : TE} {pos : Pos}
def PC (X : Cx) (op : CmpOp) (a b : Expr) (t : TE) : Prop :=
  ∀ (pins : List (Addr × Obj)) (s : Shared) (σ : St) (H : Hp) (Q : VK), Inv X pins σ H s → t σ H Q →
    wpAny (model X.prog X.w) X.A (eval a X.env) (fun v s₁ => wpAny (model X.prog X.w) X.A (eval b X.env) (fun u s₂ => wpAny (model X.prog X.w) X.A (compareOp op v u) (EP X pins σ Q) X.xe s₂) X.xe s₁) X.xe s
theorem nobehind (b : Expr) {op : CmpOp} (h : op ≠ .In) (h2 : op ≠ .NotIn) : behindInMarks op b = false := by
  have e1 : (op == CmpOp.In) = false := by cases op <;> first | rfl | exact absurd rfl h
  have e2 : (op == CmpOp.NotIn) = false := by cases op <;> first | rfl | exact absurd rfl h2
  cases b <;> simp [behindInMarks, e1, e2]
/-- a comparison as a value, as a test -/
def tB (t : TE) : TT := fun σ H Q => t σ H fun x H1 => ∃ c, x = .bl c ∧ Q c H1
theorem pt_cmp {op : CmpOp} {t : TE} (h : PC X op a b t) (h1 : behindInMarks op b = false := by first | exact nobehind _ (by decide) (by decide) | rfl) : PT X (.Compare a [op] [b] pos) (tB t) := by
  intro pins s σ H Q I hw
  refine wpAny_isTrue_Compare1 (thn (h pins s σ H _ I hw) fun v s1 h1 => thn h1 fun u s2 h2 => thn h2 fun c s3 ⟨x, H1, I1, r1, q1⟩ => ?_) h1
  obtain ⟨d, rfl, q⟩ := q1
  cases r1
  exact wpAny_truthy_bool ⟨H1, I1, q⟩
/-- an expression whose value is a bool, as a test -/
theorem pt_val {e : Expr} {t : TE} (h : PE X e t) (he : ∀ whole, isTrue e X.env whole = (do let v ← whole; standAt e.pos; holding [v] (truthy v)) := by intro _; rfl) : PT X e (tB t) := by
  intro pins s σ H Q I hw
  refine isTrue_plain (thn (h pins s σ H _ I hw) fun v s1 ⟨x, H1, I1, r1, q1⟩ => ?_) (he _)
  obtain ⟨d, rfl, q⟩ := q1
  cases r1
  exact wpAny_truthy_bool ⟨H1, I1, q⟩

variable {tA tB' : TT} {rest : List Expr}
def tAnd (t u : TT) : TT := fun σ H Q => t σ H fun c H1 => if c = true then u σ H1 Q else Q false H1
def tOr (t u : TT) : TT := fun σ H Q => t σ H fun c H1 => if c = true then Q true H1 else u σ H1 Q
def tNot (t : TT) : TT := fun σ H Q => t σ H fun c H1 => Q (!c) H1
theorem pw_and1 (ha : PT X a tA) : PW X (.BoolOp .And [a] pos) tA := by
  intro wh pins s σ H Q I h
  refine isTrue_and (thn (ha pins s σ H Q I h) fun c s1 e => ?_)
  cases c with
  | true => exact isTrue_and_nil e
  | false => exact e
theorem pw_or1 (ha : PT X a tA) : PW X (.BoolOp .Or [a] pos) tA := by
  intro wh pins s σ H Q I h
  refine isTrue_or (thn (ha pins s σ H Q I h) fun c s1 e => ?_)
  cases c with
  | false => exact isTrue_or_nil e
  | true => exact e
theorem pw_and (ha : PT X a tA) (hb : PW X (.BoolOp .And (b :: rest) pos) tB') : PW X (.BoolOp .And (a :: b :: rest) pos) (tAnd tA tB') := by
  intro wh pins s σ H Q I h
  refine isTrue_and (thn (ha pins s σ H _ I h) fun c s1 ⟨H1, I1, q1⟩ => ?_)
  cases c with
  | true => exact hb wh pins s1 σ H1 Q I1 q1
  | false => exact ⟨H1, I1, q1⟩
theorem pw_or (ha : PT X a tA) (hb : PW X (.BoolOp .Or (b :: rest) pos) tB') : PW X (.BoolOp .Or (a :: b :: rest) pos) (tOr tA tB') := by
  intro wh pins s σ H Q I h
  refine isTrue_or (thn (ha pins s σ H _ I h) fun c s1 ⟨H1, I1, q1⟩ => ?_)
  cases c with
  | true => exact ⟨H1, I1, q1⟩
  | false => exact hb wh pins s1 σ H1 Q I1 q1
theorem pt_not (ha : PT X a tA) : PT X (.UnaryOp .Not a pos) (tNot tA) := by
  intro pins s σ H Q I h
  exact isTrue_not (ha pins s σ H (fun c H1 => Q (!c) H1) I h)
/-- .. as values (bools) -/
def tAndV (ta tb : TE) : TE := fun σ H Q => ta σ H fun x H1 => ∃ c, x = .bl c ∧ if c = true then tb σ H1 Q else Q (.bl false) H1
def tOrV (ta tb : TE) : TE := fun σ H Q => ta σ H fun x H1 => ∃ c, x = .bl c ∧ if c = true then Q (.bl true) H1 else tb σ H1 Q
def tNotV (ta : TE) : TE := fun σ H Q => ta σ H fun x H1 => ∃ c, x = .bl c ∧ Q (.bl (!c)) H1
theorem pe_one {op} {t : TE} (h : PE X a t) : PE X (.BoolOp op [a] pos) t := fun pins s σ H Q I hw => BoolOp_one (h pins s σ H Q I hw)
theorem pe_and (ha : PE X a ta) (hb : PE X (.BoolOp .And (b :: rest) pos) tb) : PE X (.BoolOp .And (a :: b :: rest) pos) (tAndV ta tb) := by
  intro pins s σ H Q I h
  refine BoolOp_and (thn (ha pins s σ H _ I h) fun v s1 ⟨x, H1, I1, r1, q1⟩ => ?_)
  obtain ⟨c, rfl, q1⟩ := q1
  cases r1
  refine wpAny_truthy_bool ?_
  cases c with
  | true => exact hb pins s1 σ H1 Q I1 q1
  | false => exact ⟨.bl false, H1, I1, rfl, q1⟩
theorem pe_not (ha : PE X a ta) : PE X (.UnaryOp .Not a pos) (tNotV ta) := by
  intro pins s σ H Q I h
  refine UnaryOp_ (thn (ha pins s σ H _ I h) fun v s1 ⟨x, H1, I1, r1, q1⟩ => ?_)
  obtain ⟨c, rfl, q1⟩ := q1
  cases r1
  exact not_of (wpAny_truthy_bool ⟨.bl (!c), H1, I1, rfl, q1⟩)
/-- a if t else b -/
def tIf (t : TT) (ta tb : TE) : TE := fun σ H Q => t σ H fun c H1 => if c = true then ta σ H1 Q else tb σ H1 Q
theorem pe_ifExp {c : Expr} (hc : PT X c tA) (ha : PE X a ta) (hb : PE X b tb) : PE X (.IfExp c a b pos) (tIf tA ta tb) := by
  intro pins s σ H Q I h
  refine wpAny_IfExp (thn (hc pins s σ H _ I h) fun d s1 ⟨H1, I1, q1⟩ => ?_)
  cases d with
  | true => exact ha pins s1 σ H1 Q I1 q1
  | false => exact hb pins s1 σ H1 Q I1 q1
end
end L2

namespace L2
open PySem PySem.Spec PyProof.Rows

def SqL (K : PySem.W.Frag) (H : Hp) (a : Addr) (xs : List V) : Prop :=
  Rd H a (.lst xs) ∨
    ∃ (o : Obj) (its : Array Value) (n : Nat), K.lookup a = some o ∧ o.cls = .type "list" ∧ o.dict = none ∧ o.data = .seq its n ∧ its.size ≤ sizeLine ∧ Vals xs its.toList
def SqT (K : PySem.W.Frag) (H : Hp) (a : Addr) (xs : List V) : Prop :=
  Rd H a (.tup xs) ∨
    ∃ (o : Obj) (its : Array Value) (n : Nat), K.lookup a = some o ∧ o.cls = .type "tuple" ∧ o.data = .seq its n ∧ its.size ≤ sizeLine ∧ Vals xs its.toList
def absV : Value → Option V
  | .none => some .non
  | .bool b => some (.bl b)
  | .int i _ => some (.int i)
  | .str x _ => some (.str x)
  | .bytes b _ => some (.byt b)
  | .float b _ => some (.flt b)
  | .ref a => some (.ref a)
  | .type n => some (.ty n)
  | _ => none
theorem RelV.abs {x : V} {u : Value} (r : RelV x u) : absV u = some x := by
  cases x with
  | non => cases r; rfl
  | bl _ => cases r; rfl
  | int _ => obtain ⟨t, rfl⟩ := r; rfl
  | str _ => obtain ⟨t, rfl⟩ := r; rfl
  | byt _ => obtain ⟨t, rfl⟩ := r; rfl
  | flt _ => obtain ⟨t, rfl⟩ := r; rfl
  | ref _ => cases r; rfl
  | ty _ => cases r; rfl
theorem RelV.inj {x y : V} {u : Value} (r : RelV x u) (q : RelV y u) : x = y := Option.some.inj (r.abs.symm.trans q.abs)
theorem Vals.inj : ∀ {xs ys : List V} {us : List Value}, Vals xs us → Vals ys us → xs = ys
  | _, _, _, .nil, .nil => rfl
  | _, _, _, .cons r t, .cons r' t' => by rw [r.inj r', Vals.inj t t']
section
variable {X : Cx} {pins : List (Addr × Obj)} {σ : St} {H : Hp} {s : Shared} {a : Addr} {xs ys : List V}
theorem SqL.of {K : PySem.W.Frag} (h : H a = some (.lst xs)) : SqL K H a xs := .inl (.inl h)
theorem SqT.of {K : PySem.W.Frag} (h : H a = some (.tup xs)) : SqT K H a xs := .inl (.inl h)
theorem Inv.list (I : Inv X pins σ H s) (h : SqL X.K H a xs) : ∃ its : List Value, Vals xs its ∧ PlainL s.heap a its.toArray ∧ xs.length ≤ sizeLine := by
  rcases h with h | ⟨o, its, n, hk, hc, hd, hs, hz, r⟩
  · obtain ⟨z, its, n, r, e⟩ := h.ok I.hok
    exact ⟨its, r, ⟨_, n, e, rfl, rfl, rfl⟩, z⟩
  · refine ⟨its.toList, r, ⟨o, n, I.kIn a o hk, hc, hd, by simpa using hs⟩, ?_⟩
    have e := r.length
    simp only [Array.length_toList] at e
    omega
theorem Inv.tuple (I : Inv X pins σ H s) (h : SqT X.K H a xs) : ∃ its : List Value, Vals xs its ∧ IsTup s.heap a its.toArray ∧ xs.length ≤ sizeLine := by
  rcases h with h | ⟨o, its, n, hk, hc, hs, hz, r⟩
  · obtain ⟨z, its, r, p⟩ := h.ok I.hok
    exact ⟨its, r, p, z⟩
  · refine ⟨its.toList, r, ⟨o, I.kIn a o hk, hc, n, by simpa using hs⟩, ?_⟩
    have e := r.length
    simp only [Array.length_toList] at e
    omega
theorem Inv.list_inj (I : Inv X pins σ H s) (h : SqL X.K H a xs) (h' : SqL X.K H a ys) : xs = ys := by
  obtain ⟨its, r, ⟨o, n, e, _, _, d⟩, _⟩ := I.list h
  obtain ⟨its', r', ⟨o', n', e', _, _, d'⟩, _⟩ := I.list h'
  rw [e] at e'; cases e'
  rw [d] at d'
  injection d' with d1 _
  have : its = its' := by simpa using congrArg Array.toList d1
  subst this
  exact r.inj r'
end

abbrev Cx.wish (X : Cx) (E : Value → Shared → Prop) : Cx := { X with xe := E }
/-- no exception leaves -/
abbrev Cx.nox (X : Cx) : Cx := X.wish fun _ _ => False
theorem Cx.Ok.wish {X : Cx} (ok : X.Ok) (E : Value → Shared → Prop) : (X.wish E).Ok :=
  ⟨ok.mod, ok.kind, ok.glob, ok.blt, ok.above, ok.inj, ok.has, ok.cab, ok.hd, ok.frames, ok.stk, ok.exf, ok.bs, ok.bsz, ok.noex, ok.exfs, ok.funs, ok.frf⟩
theorem Cx.Ok.unwish {X : Cx} {E : Value → Shared → Prop} (ok : (X.wish E).Ok) : X.Ok :=
  ⟨ok.mod, ok.kind, ok.glob, ok.blt, ok.above, ok.inj, ok.has, ok.cab, ok.hd, ok.frames, ok.stk, ok.exf, ok.bs, ok.bsz, ok.noex, ok.exfs, ok.funs, ok.frf⟩
section
variable {X : Cx} {pins : List (Addr × Obj)} {σ : St} {H : Hp} {s : Shared} {E : Value → Shared → Prop}
theorem Inv.wish (I : Inv X pins σ H s) (E : Value → Shared → Prop) : Inv (X.wish E) pins σ H s := ⟨I.ok.wish E, I.os, I.bare, I.base, I.loc, I.cell, I.free, I.freeC, I.pin, I.hok, I.len⟩
theorem Inv.unwish (I : Inv (X.wish E) pins σ H s) : Inv X pins σ H s := ⟨I.ok.unwish, I.os, I.bare, I.base, I.loc, I.cell, I.free, I.freeC, I.pin, I.hok, I.len⟩
theorem SP.unwish {D : Ends} {f : Flow} {s' : Shared} (h : SP (X.wish E) pins D f s') : SP X pins D f s' := by
  cases f with
  | next => obtain ⟨σ', H', I, q⟩ := h; exact ⟨σ', H', I.unwish, q⟩
  | brk => obtain ⟨σ', H', I, q⟩ := h; exact ⟨σ', H', I.unwish, q⟩
  | cont => obtain ⟨σ', H', I, q⟩ := h; exact ⟨σ', H', I.unwish, q⟩
  | ret u => obtain ⟨v, σ', H', I, r, q⟩ := h; exact ⟨v, σ', H', I.unwish, r, q⟩
theorem PSs.nox {st : List Stmt} {t : TS} (h : PSs X.nox st t) : PSs X st t := fun pins s σ H D I hw =>
  wpAny_mono (h pins s σ H D (I.wish _) hw) (fun _ _ q => q.unwish) fun _ _ z => False.elim z
end

section
variable {X : Cx} {st : Stmt} {rest : List Stmt} {t u : TS} {e : Expr} {te : TE} {pos : Pos}
def tNext : TS := fun D σ H => D.nx σ H
def tSeq (t u : TS) : TS := fun D σ H => t { D with nx := u D } σ H
theorem pss_cons (h1 : PS X st t) (h2 : PSs X rest u) : PSs X (st :: rest) (tSeq t u) := by
  intro pins s σ H D I h
  refine wpAny_execs_cons (thn (h1 pins s σ H { D with nx := u D } I h) fun f s1 q => ?_)
  cases f with
  | next =>
    obtain ⟨σ', H', I', q⟩ := q
    exact h2 pins s1 σ' H' D I' q
  | ret v => exact q
  | brk => exact q
  | cont => exact q
theorem pss_one (h1 : PS X st t) : PSs X [st] t := by
  intro pins s σ H D I h
  refine wpAny_execs_cons (thn (h1 pins s σ H D I h) fun f s1 q => ?_)
  cases f with
  | next => exact wpAny_execs_nil q
  | ret v => exact q
  | brk => exact q
  | cont => exact q
/-- in a def's body nothing is shown -/
theorem Inv.quiet {pins : List (Addr × Obj)} {σ : St} {H : Hp} {s : Shared} (I : Inv X pins σ H s) : interactive X.env = false := by simp [interactive, I.ok.kind]
/-- an expression whose value is dropped -/
def tDrop (te : TE) : TS := fun D σ H => te σ H fun _ H1 => D.nx σ H1
theorem ps_expr (he : PE X e te) (hs : swapsWith e none pos.line X.env = pure false := by rfl) : PS X (.Expr e pos) (tDrop te) := by
  intro pins s σ H D I h
  exact wpAny_Expr_any (thn (he pins s σ H _ I h) fun v s1 ⟨x, H1, I1, r1, q1⟩ => ⟨σ, H1, I1, q1⟩) I.quiet hs
def tRet (te : TE) : TS := fun D σ H => te σ H D.rt
theorem ps_ret (he : PE X e te) : PS X (.Return (some e) pos) (tRet te) := by
  intro pins s σ H D I h
  exact wpAny_Return_some (thn (he pins s σ H _ I h) fun v s1 ⟨x, H1, I1, r1, q1⟩ => ⟨x, σ, H1, I1, r1, q1⟩)
def tIfS (c : TT) (t u : TS) : TS := fun D σ H => c σ H fun b H1 => if b = true then t D σ H1 else u D σ H1
theorem ps_if {c : Expr} {a b : List Stmt} {tc : TT} (hc : PT X c tc) (ha : PSs X a t) (hb : PSs X b u) : PS X (.If c a b pos) (tIfS tc t u) := by
  intro pins s σ H D I h
  refine wpAny_If (thn (hc pins s σ H _ I h) fun d s1 ⟨H1, I1, q1⟩ => ?_)
  cases d with
  | true => exact ha pins s1 σ H1 D I1 q1
  | false => exact hb pins s1 σ H1 D I1 q1
end

abbrev TG := V → St → Hp → (St → Hp → Prop) → Prop
abbrev TGs := List V → St → Hp → (St → Hp → Prop) → Prop
def PG (X : Cx) (target : Expr) (t : TG) : Prop :=
  ∀ (pins : List (Addr × Obj)) (s : Shared) (σ : St) (H : Hp) (v : V) (u : Value) (Q : St → Hp → Prop), Inv X pins σ H s → RelV v u → t v σ H Q →
    wpAny (model X.prog X.w) X.A (assign target X.env u) (fun _ s' => ∃ σ' H', Inv X pins σ' H' s' ∧ Q σ' H') X.xe s
/-- several targets, one after another -/
def PGs (X : Cx) (ts : List Expr) (t : TGs) : Prop :=
  ∀ (pins : List (Addr × Obj)) (s : Shared) (σ : St) (H : Hp) (vs : List V) (us : List Value) (Q : St → Hp → Prop), Inv X pins σ H s → Vals vs us → t vs σ H Q →
    wpAny (model X.prog X.w) X.A (assignInOrder ((assignEach ts X.env).map (·.2)) us) (fun _ s' => ∃ σ' H', Inv X pins σ' H' s' ∧ Q σ' H') X.xe s
/-- o[i] = v, by values -/
abbrev TSet := V → V → V → Hp → (Hp → Prop) → Prop
def PSet (X : Cx) (t : TSet) : Prop :=
  ∀ (pins : List (Addr × Obj)) (s : Shared) (σ : St) (H : Hp) (o i v : V) (ov iv u : Value) (Q : Hp → Prop), Inv X pins σ H s → RelV o ov → RelV i iv → RelV v u → t o i v H Q →
    wpAny (model X.prog X.w) X.A (setItem ov iv u) (fun _ s' => ∃ H', Inv X pins σ H' s' ∧ Q H') X.xe s
/-- a op= b, by values -/
abbrev TIp := V → V → Hp → VK → Prop
section
variable {X : Cx} {pos : Pos}
def gName (i : Nat) : TG := fun v σ H Q => Q (σ.set i (some v)) H
theorem pg_name {i : Nat} {x : Str} (hN : X.N.Nodup) (hi : X.N[i]? = some x) (hx : Loc X.env.scope x) (hf : X.fn x = true ∨ X.env.scope.names.lookup x = some .local := by first | exact .inl rfl | exact .inr rfl | assumption) : PG X (.Name x pos) (gName i) := by
  intro pins s σ H v u Q I r h
  exact wpAny_assign_Name (store_ok I hN hi hx r (fun s' I' => ⟨_, H, I', h⟩) hf)
def gNil : TGs := fun vs σ H Q => vs = [] ∧ Q σ H
def gCons (t : TG) (u : TGs) : TGs := fun vs σ H Q => ∃ v r, vs = v :: r ∧ t v σ H fun σ' H' => u r σ' H' Q
theorem pgs_nil : PGs X [] gNil := by
  intro pins s σ H vs us Q I r h
  obtain ⟨e, h⟩ := h
  subst e
  cases r
  exact assignInOrder_nil ⟨σ, H, I, h⟩
theorem pgs_cons {e : Expr} {es : List Expr} {t : TG} {u : TGs} (h1 : PG X e t) (h2 : PGs X es u)
    (hs : (assignEach (e :: es) X.env).map (·.2) = assign e X.env :: (assignEach es X.env).map (·.2) := by rfl) : PGs X (e :: es) (gCons t u) := by
  intro pins s σ H vs us Q I r h
  obtain ⟨v, vr, e1, h⟩ := h
  subst e1
  cases r with
  | cons r rr =>
    rw [hs]
    refine assignInOrder_cons (thn (h1 pins s σ H _ _ _ I r h) fun _ s1 ⟨σ1, H1, I1, q1⟩ => ?_)
    exact h2 pins s1 σ1 H1 _ _ Q I1 rr q1
/-- (a, b, ..) = a tuple of that length -/
def gTup (K : PySem.W.Frag) (n : Nat) (t : TGs) : TG := fun v σ H Q => ∃ a xs, v = .ref a ∧ SqT K H a xs ∧ xs.length = n ∧ t xs σ H Q
theorem pg_tup {es : List Expr} {k : Nat} {t : TGs} {n : Nat} (hc : X.calm = true) (h : PGs X es t)
    (hn : (assignEach es X.env).length = n := by rfl) (hst : (assignEach es X.env).findIdx? (·.1) = none := by rfl) : PG X (.Tuple es k pos) (gTup X.K n t) := by
  intro pins s σ H v u Q I r hw
  obtain ⟨a, xs, e1, hq, hl, hw⟩ := hw
  subst e1
  cases r
  obtain ⟨its, rv, ht, hz⟩ := I.tuple hq
  refine assign_Tuple_tuple (I.ok.hd hc) ht (by simp [hn, ← hl, rv.length]) hst fun h' hx => ?_
  have I1 : Inv X pins σ H { s with heap := h' } := I.kept (t' := s.toks) fun b o e => hx b o (Nat.ne_of_lt (Heap.lt_size e)) e
  exact h pins _ σ H xs _ Q I1 (by simpa using rv) hw
/-- o[i] = .. -/
def gSub (to ti : TE) (t : TSet) : TG := fun v σ H Q => to σ H fun o H1 => ti σ H1 fun i H2 => t o i v H2 fun H3 => Q σ H3
theorem pg_sub {o i : Expr} {to ti : TE} {t : TSet} (ho : PE X o to) (hi : PE X i ti) (hs : PSet X t)
    (ha : ∀ v, assign (.Subscript o i pos) X.env v = (do
      let ov ← holding [v] (eval o X.env)
      let iv ← holding [v, ov] (eval i X.env)
      standAt pos
      holding [v, ov, iv] (setItem ov iv v)
      release [v, ov, iv] []) := by intro _; rfl) : PG X (.Subscript o i pos) (gSub to ti t) := by
  intro pins s σ H v u Q I r h
  rw [ha]
  refine wpAny_bind (wpAny_holding (thn (ho pins s σ H _ I h) fun ov s1 ⟨x, H1, I1, r1, q1⟩ => ?_))
  refine wpAny_bind (wpAny_holding (thn (hi pins s1 σ H1 _ I1 q1) fun iv s2 ⟨y, H2, I2, r2, q2⟩ => ?_))
  refine wpAny_bind (wpAny_standAt (wpAny_bind (wpAny_holding (thn (hs pins s2 σ H2 x y v ov iv u _ I2 r1 r2 r q2) fun _ s3 ⟨H3, I3, q3⟩ => ?_))))
  exact wpAny_release ⟨σ, H3, I3, q3⟩
/-- target = value -/
def tAsg (te : TE) (g : TG) : TS := fun D σ H => te σ H fun x H1 => g x σ H1 D.nx
theorem ps_asg {tg e : Expr} {te : TE} {g : TG} (he : PE X e te) (hg : PG X tg g) (hs : swapsWithSole [tg] e pos.line X.env = pure false := by rfl) (hw : swappedStores [tg] e X.env = pure none := by rfl)
    (h1 : (assignEach [tg] X.env).map (·.2) = [assign tg X.env] := by rfl) : PS X (.Assign [tg] e pos) (tAsg te g) := by
  intro pins s σ H D I h
  refine wpAny_Assign_stores (thn (he pins s σ H _ I h) fun v s1 ⟨x, H1, I1, r1, q1⟩ => ?_) hs hw
  rw [h1]
  exact thn (hg pins s1 σ H1 x v _ I1 r1 q1) fun _ s2 q => q
/-- name = value -/
theorem ps_set {i : Nat} {x : Str} {e : Expr} {te : TE} {pos' : Pos} (hN : X.N.Nodup) (hi : X.N[i]? = some x) (hx : Loc X.env.scope x) (he : PE X e te) (hs : swapsWith e (some (.Name x pos')) pos.line X.env = pure false := by rfl) (hf : X.fn x = true ∨ X.env.scope.names.lookup x = some .local := by first | exact .inl rfl | exact .inr rfl | assumption) :
    PS X (.Assign [.Name x pos'] e pos) (tAsg te (gName i)) := by
  intro pins s σ H D I h
  refine wpAny_Assign_Name (thn (he pins s σ H _ I h) fun v s1 ⟨y, H1, I1, r1, q1⟩ => ?_) hs
  exact store_ok I1 hN hi hx r1 (fun s2 I2 => ⟨_, H1, I2, q1⟩) hf
/-- name op= e -/
def tAug (i : Nat) (te : TE) (ti : TIp) : TS := fun D σ H => ∃ x, σ[i]? = some (some x) ∧ te σ H fun y H1 => ti x y H1 fun z H2 => D.nx (σ.set i (some z)) H2
/-- ints -/
def ipI (f : Int → Int → Int) : TIp := fun x y H Q => ∃ i j, x = .int i ∧ y = .int j ∧ Q (.int (f i j)) H
end

section
variable {X : Cx} {pos : Pos}
end

/-- at turn i: it yields x (the heap may grow), or it stops -/
structure It where
  go : Nat → Hp → Prop
  yld : Nat → Hp → V → Hp → Prop
  stop : Nat → Hp → Prop
/-- the iterator's own objects may turn: they are not the frame's, not pinned, younger than the entry (or a comprehension's own) -/
def FpOk (X : Cx) (pins : List (Addr × Obj)) (H : Hp) (b : Addr) : Prop :=
  H b = none ∧ b ≠ X.env.locals ∧ b ∉ X.fs ∧ (b ∈ X.ex ∨ X.s₀.heap.objs.size ≤ b) ∧ (∀ x c, X.env.cells.lookup x = some c → c ≠ b) ∧ ∀ p ∈ X.pn ++ pins, p.1 ≠ b
theorem Inv.fpOk {X : Cx} {pins : List (Addr × Obj)} {σ : St} {H H' : Hp} {s : Shared} {b : Addr} (I : Inv X pins σ H s) (hb : s.heap.objs.size ≤ b) (hn : H' b = none) : FpOk X pins H' b := by
  refine ⟨hn, Nat.ne_of_gt (Nat.lt_of_lt_of_le I.lt hb), I.nofs hb, .inr (Nat.le_trans I.sz hb), fun x c e z => ?_, fun p hp z => ?_⟩
  · obtain ⟨v, q⟩ := I.cell x c e
    exact absurd (Nat.lt_of_lt_of_le q.lt (by rw [z]; exact hb)) (Nat.lt_irrefl _)
  · exact absurd (Nat.lt_of_lt_of_le (Heap.lt_size (I.pin p hp).1) (by rw [z]; exact hb)) (Nat.lt_irrefl _)
structure Turn (P : Program) (w : World) (K : PySem.W.Frag) (tg : Expr) (J : It) (fp : List Addr) (it : Addr) (tn : Nat → Heap → Prop) : Prop where
  mem : it ∈ fp
  obj : ∀ i h, tn i h → ∀ b ∈ fp, ∃ o, h.get? b = some o ∧ ∀ v, o.data ≠ .cell v
  keep : ∀ i h h', tn i h → (∀ b ∈ fp, ∀ o, h.get? b = some o → h'.get? b = some o) → tn i h'
  item : ∀ (X : Cx), X.prog = P → X.w = w → X.K = K → X.calm = true → ∀ (i : Nat) (pins : List (Addr × Obj)) (s : Shared) (σ : St) (H : Hp) (E : Value → Shared → Prop), Inv X pins σ H s → (∀ b ∈ fp, FpOk X pins H b) → tn i s.heap → J.go i H →
    wpAny (model P w) X.A (pyNext (.ref it)) (fun r s1 => ∃ u, r = some u ∧
      wpAny (model P w) X.A (letOwnedTupleGo tg (.ref it) u) (fun _ s2 => ∃ x H', Inv X pins σ H' s2 ∧ RelV x u ∧ J.yld i H x H' ∧ tn (i + 1) s2.heap ∧ ∀ b ∈ fp, H' b = none) E s1) E s
  done : ∀ (X : Cx), X.prog = P → X.w = w → X.K = K → X.calm = true → ∀ (i : Nat) (pins : List (Addr × Obj)) (s : Shared) (σ : St) (H : Hp) (E : Value → Shared → Prop), Inv X pins σ H s → (∀ b ∈ fp, FpOk X pins H b) → tn i s.heap → J.stop i H →
    wpAny (model P w) X.A (pyNext (.ref it)) (fun r s1 => r = none ∧ Inv X pins σ H s1) E s
  self : ∀ (A : Around) (i : Nat) (s : Shared) (Q : Value → Shared → Prop) (E : Value → Shared → Prop), tn i s.heap → Q (.ref it) s → wpAny (model P w) A (pyIter (.ref it)) Q E s
abbrev TI := St → Hp → (It → Hp → Prop) → Prop
/-- an iterator has come -/
def PIE (X : Cx) (pins : List (Addr × Obj)) (σ : St) (tg : Expr) (R : It → Hp → Prop) (itv : Value) (s2 : Shared) : Prop :=
  ∃ (it : Addr) (fp : List Addr) (tn : Nat → Heap → Prop) (J : It) (H' : Hp), itv = .ref it ∧ Inv X pins σ H' s2 ∧ Turn X.prog X.w X.K tg J fp it tn ∧ tn 0 s2.heap ∧ (∀ b ∈ fp, FpOk X pins H' b) ∧ R J H'
def PI (X : Cx) (tg iter : Expr) (wi : TI) : Prop :=
  ∀ (pins : List (Addr × Obj)) (s : Shared) (σ : St) (H : Hp) (R : It → Hp → Prop), Inv X pins σ H s → wi σ H R →
    wpAny (model X.prog X.w) X.A (eval iter X.env) (fun v s1 => wpAny (model X.prog X.w) X.A (pyIter v) (PIE X pins σ tg R) X.xe s1) X.xe s

/-- the step ahead of the store is nothing for an iterator that keeps no tuple -/
theorem go_of {M : Model} {A : Around} {E : Value → Shared → Prop} {s : Shared} {tg : Expr} {it : Addr} {u : Value} {o : Obj} {n : String} {vs : Array Value} {Q : Unit → Shared → Prop} (ho : s.heap.get? it = some o) (hc : o.cls = .type n) (hd : o.data = .fields vs)
    (hn : ["enumerate", "zip", "dict_itemiterator", "dict_reverseitemiterator", "odict_iterator", "itertools.zip_longest", "itertools.pairwise"].contains n = false) (hQ : Q () s) : wpAny M A (letOwnedTupleGo tg (.ref it) u) Q E s := by
  unfold letOwnedTupleGo
  cases tg <;> first
    | exact wpAny_pure hQ
    | (cases u <;> first
        | exact wpAny_pure hQ
        | (refine wpAny_bind (wpAny_load ho ?_)
           rw [hc, hd]
           show wpAny M A (if (["enumerate", "zip", "dict_itemiterator", "dict_reverseitemiterator", "odict_iterator", "itertools.zip_longest", "itertools.pairwise"].contains n && vs[0]? == some (rawInt _)) = true then _ else _) Q E s
           rw [if_neg (by intro h; rw [hn, Bool.false_and] at h; cases h)]
           exact wpAny_pure hQ))

/-- the list at a, as it stands at each turn (a loop may append to it) -/
def Itl (K : PySem.W.Frag) (a : Addr) : It :=
  ⟨fun i H => ∃ xs x, SqL K H a xs ∧ xs[i]? = some x, fun i H x H' => H' = H ∧ ∀ xs, SqL K H a xs → xs[i]? = some x, fun i H => ∃ xs, SqL K H a xs ∧ xs.length ≤ i⟩
/-- lo, lo + 1, .. (n of them) -/
def Itr (lo : Int) (n : Nat) : It := ⟨fun i _ => i < n, fun i H x H' => H' = H ∧ x = .int (lo + i), fun i _ => n ≤ i⟩
theorem turn_list {P : Program} {w : World} {K : PySem.W.Frag} {tg : Expr} (a it : Addr) : Turn P w K tg (Itl K a) [it] it (fun i h => h.IsListIter it a i) where
  mem := by simp
  obj := fun i h st b hb => by
    have e : b = it := by simpa using hb
    subst e
    obtain ⟨o, e, c, d⟩ := st
    exact ⟨o, e, fun v z => by rw [d] at z; cases z⟩
  keep := fun i h h' st k => st.at fun o e => k it (by simp) o e
  item := by
    intro X hP hw hK hc i pins s σ H E I hf st hg
    subst hP hw hK
    obtain ⟨xs, x, hq, hx⟩ := hg
    obtain ⟨its, rv, p, hz⟩ := I.list hq
    obtain ⟨u, hu, ru⟩ := rv.get hx
    obtain ⟨f0, f1, f2, f3, f4, f5⟩ := hf it (by simp)
    refine wpAny_pyNext_list_item st p.isList (x := u) (by simpa using hu) fun h' st' sb => ?_
    have I1 : Inv X pins σ H { s with heap := h' } := I.turned (t' := s.toks) (fun b o hb e => (sb.2 b hb).trans e) f0 f1 f3 f4 f5
    obtain ⟨o, e, c, d⟩ := id st'
    exact ⟨u, rfl, go_of (s := { s with heap := h' }) e c d (by decide) ⟨x, H, I1, ru, ⟨rfl, fun ys hy => by rw [I.list_inj hy hq]; exact hx⟩, st', fun b hb => (hf b hb).1⟩⟩
  done := by
    intro X hP hw hK hc i pins s σ H E I hf st hg
    subst hP hw hK
    obtain ⟨xs, hq, hx⟩ := hg
    obtain ⟨its, rv, p, hz⟩ := I.list hq
    obtain ⟨f0, f1, f2, f3, f4, f5⟩ := hf it (by simp)
    have hl := rv.length
    exact wpAny_pyNext_list_end (I.ok.hd hc) st p.isList (by simp; omega) fun h' eb => ⟨rfl, I.turned (t' := s.toks) (fun b o hb e => eb b o hb e) f0 f1 f3 f4 f5⟩
  self := fun _ _ _ _ _ st h => wpAny_pyIter_listiter st h
theorem turn_range {P : Program} {w : World} {K : PySem.W.Frag} {tg : Expr} (it : Addr) (lo : Int) (n : Nat) : Turn P w K tg (Itr lo n) [it] it (fun i h => IsRangeIter h it (lo + (i : Nat) * 1) ((n : Int) - (i : Nat)) 1) where
  mem := by simp
  obj := fun i h st b hb => by
    have e : b = it := by simpa using hb
    subst e
    exact ⟨_, st, fun v z => by
      have z' : Data.fields _ = Data.cell v := z
      cases z'⟩
  keep := fun i h h' st k => k it (by simp) _ st
  item := by
    intro X hP hw hK hc i pins s σ H E I hf st hg
    subst hP hw hK
    obtain ⟨f0, f1, f2, f3, f4, f5⟩ := hf it (by simp)
    have W := Walks.range (prog := X.prog) (w := X.w) (I.ok.hd hc) it lo 1 n
    refine W.item i s _ _ hg st fun v h' tk hv st' kk => ?_
    obtain ⟨t, rfl⟩ := hv
    have I1 : Inv X pins σ H { s with heap := h', toks := tk } := I.turned (fun b o hb e => kk b o (by simpa using hb) e) f0 f1 f3 f4 f5
    refine ⟨_, rfl, go_of (s := { s with heap := h', toks := tk }) (n := "range_iterator") st' rfl rfl (by decide) ⟨.int (lo + i), H, I1, ⟨t, ?_⟩, ⟨rfl, rfl⟩, st', fun b hb => (hf b hb).1⟩⟩
    rw [Int.mul_one]
  done := by
    intro X hP hw hK hc i pins s σ H E I hf st hg
    subst hP hw hK
    obtain ⟨f0, f1, f2, f3, f4, f5⟩ := hf it (by simp)
    exact wpAny_pyNext_range_end (I.ok.hd hc) st (by have : n ≤ i := hg; omega) fun h' eb => ⟨rfl, I.turned (t' := s.toks) (fun b o hb e => eb b o hb e) f0 f1 f3 f4 f5⟩
  self := fun _ _ _ _ _ st h => wpAny_pyIter_rangeiter st h
end L2

namespace L2
open PySem PySem.Spec PyProof.Rows
section
variable {X : Cx} {tg : Expr}
def iList (K : PySem.W.Frag) (tl : TE) : TI := fun σ H R => tl σ H fun x H1 => ∃ a, x = .ref a ∧ (∃ xs, SqL K H1 a xs) ∧ R (Itl K a) H1
theorem pi_list {l : Expr} {tl : TE} (hl : PE X l tl) : PI X tg l (iList X.K tl) := by
  intro pins s σ H R I h
  refine thn (hl pins s σ H _ I h) fun v s1 ⟨x, H1, I1, r1, q1⟩ => ?_
  obtain ⟨a, e, ⟨xs, hq⟩, q⟩ := q1
  subst e
  cases r1
  obtain ⟨its, rv, p, hz⟩ := I1.list hq
  refine wpAny_pyIter_list p.isList ?_
  refine ⟨s1.heap.objs.size, [s1.heap.objs.size], _, _, H1, rfl, I1.kept (t' := s1.toks) fun b o e => Heap.get?_push_of_some _ e, turn_list a _, ⟨_, Heap.get?_push_size _ rfl, rfl, rfl⟩, fun b hb => ?_, q⟩
  have e : b = s1.heap.objs.size := by simpa using hb
  subst e
  exact I1.fpOk (Nat.le_refl _) (I1.hok.fresh (Nat.le_refl _))
/-- a range object just made, walked -/
theorem range_it {pins : List (Addr × Obj)} {σ : St} {H : Hp} {s : Shared} {R : It → Hp → Prop} {E : Value → Shared → Prop} {lo hi : Int} {t u v : Tok} {tk : Nat} (I : Inv X pins σ H s) (h1 : -(2 ^ 62) ≤ lo) (h2 : lo < 2 ^ 62) (h3 : -(2 ^ 62) ≤ hi) (h4 : hi < 2 ^ 62)
    (q : R (Itr lo (hi - lo).toNat) H) : wpAny (model X.prog X.w) X.A (pyIter (.ref s.heap.objs.size)) (PIE X pins σ tg R) E { s with heap := s.heap.push { cls := .type "range", data := .fields #[.int lo t, .int hi u, .int 1 v] }, toks := tk } := by
  refine wpAny_pyIter_range (IsRange.new ..) (small_one h1 h2 h3 h4) ?_
  have I1 : Inv X pins σ H { s with heap := s.heap.push { cls := .type "range", data := .fields #[.int lo t, .int hi u, .int 1 v] }, toks := tk } := I.kept fun b o e => Heap.get?_push_of_some _ e
  refine ⟨(s.heap.push { cls := .type "range", data := .fields #[.int lo t, .int hi u, .int 1 v] }).objs.size, [(s.heap.push { cls := .type "range", data := .fields #[.int lo t, .int hi u, .int 1 v] }).objs.size], _, _, H, rfl,
    I1.kept (t' := tk) fun b o e => Heap.get?_push_of_some _ e, turn_range _ lo (hi - lo).toNat, ?_, fun b hb => ?_, q⟩
  · have e1 : lo + ((0 : Nat) : Int) * 1 = lo := by simp
    have e2 : (((hi - lo).toNat : Nat) : Int) - ((0 : Nat) : Int) = Builtin.Range.rangeSize lo hi 1 := by rw [rangeSize_one]; split <;> omega
    show IsRangeIter _ _ (lo + ((0 : Nat) : Int) * 1) ((((hi - lo).toNat : Nat) : Int) - ((0 : Nat) : Int)) 1
    rw [e1, e2]
    exact Heap.get?_push_size _ rfl
  · have e : b = (s.heap.push { cls := .type "range", data := .fields #[.int lo t, .int hi u, .int 1 v] }).objs.size := by simpa using hb
    subst e
    exact I1.fpOk (Nat.le_refl _) (I1.hok.fresh (Nat.le_refl _))
def iRng1 (ta : TA) : TI := fun σ H R => ta σ H fun vs H1 => ∃ j : Int, vs = [.int j] ∧ -(2 ^ 62) ≤ j ∧ j < 2 ^ 62 ∧ R (Itr 0 j.toNat) H1
theorem pi_range1 {a : Expr} {ta : TA} {p pos : Pos} (hg : Gl X "range") (hm : X.mg "range" = none) (ha : PA X [a] ta) (hs : starEach [a] X.env = [(false, eval a X.env)] := by rfl) : PI X tg (.Call (.Name "range" p) [a] [] pos) (iRng1 ta) := by
  intro pins s σ H R I h
  refine Call_ (ld_blt I hg hm boot_range (PyProof.Rows.callWith_type1 (thn (ha pos pins s σ H _ I h) fun us s1 ⟨vs, H1, I1, r1, q1⟩ => ?_) hs rfl))
  obtain ⟨j, e, q1, q2, q⟩ := q1
  subst e
  cases r1 with
  | cons r rr =>
    cases rr
    obtain ⟨t, rfl⟩ := r
    exact call_range_1 (range_it I1 (by omega) (by omega) q1 q2 (by simpa using q))
/-- W: the invariant by the turn and a measure; N: what the body is to reach -/
def tFor (wi : TI) (g : TG) (tb : TS) : TS := fun D σ H => wi σ H fun J H1 => ∃ W : Nat → Nat → St → Hp → Prop, (∃ m, W 0 m σ H1) ∧ ∀ i m σ H, W i m σ H →
  (J.stop i H ∧ D.nx σ H) ∨ (J.go i H ∧ ∃ N : St → Hp → Prop, (∀ σ' H', N σ' H' → ∃ m', m' < m ∧ W (i + 1) m' σ' H') ∧ ∀ x H', J.yld i H x H' → g x σ H' fun σ2 H2 => tb { D with nx := N, ct := N, bk := D.nx } σ2 H2)
/-- the records at fp as they stand -/
def pinsAt (fp : List Addr) (h : Heap) : List (Addr × Obj) := fp.filterMap fun b => (h.get? b).map fun o => (b, o)
theorem mem_pinsAt {fp : List Addr} {h : Heap} {b : Addr} {o : Obj} (hb : b ∈ fp) (e : h.get? b = some o) : (b, o) ∈ pinsAt fp h := List.mem_filterMap.mpr ⟨b, hb, by rw [e]; rfl⟩
theorem of_pinsAt {fp : List Addr} {h : Heap} {p : Addr × Obj} (hp : p ∈ pinsAt fp h) : p.1 ∈ fp ∧ h.get? p.1 = some p.2 := by
  obtain ⟨b, hb, e⟩ := List.mem_filterMap.mp hp
  cases q : h.get? b with
  | none => rw [q] at e; cases e
  | some o =>
    rw [q] at e
    have e' : (b, o) = p := Option.some.inj e
    subst e'
    exact ⟨hb, q⟩
theorem Inv.pinned {pins : List (Addr × Obj)} {σ : St} {H : Hp} {s : Shared} {fp : List Addr} (I : Inv X pins σ H s) (hf : ∀ b ∈ fp, FpOk X pins H b) (ho : ∀ b ∈ fp, ∃ o, s.heap.get? b = some o ∧ ∀ v, o.data ≠ .cell v) : Inv X (pins ++ pinsAt fp s.heap) σ H s :=
  I.pins_of fun p hp => (List.mem_append.mp hp).elim (fun z => I.pin p (List.mem_append_right _ z)) fun z => by
    obtain ⟨hb, e⟩ := of_pinsAt z
    obtain ⟨f0, f1, f2, _⟩ := hf p.1 hb
    obtain ⟨o, e', d⟩ := ho p.1 hb
    rw [e] at e'; cases e'
    exact ⟨e, f0, f1, f2, d⟩
theorem Inv.unpinned {pins pl : List (Addr × Obj)} {σ : St} {H : Hp} {s : Shared} (I : Inv X (pins ++ pl) σ H s) : Inv X pins σ H s := I.pins_of fun p hp => I.pin p (List.mem_append_right _ (List.mem_append_left _ hp))
theorem ps_for {iter : Expr} {body : List Stmt} {wi : TI} {g : TG} {tb : TS} {pos : Pos} (hp : PassesOwn (model X.prog X.w) X.A X.env X.xe) (hc : X.calm = true) (hi : PI X tg iter wi) (hg : PG X tg g) (hb : PSs X body tb)
    (hs : ∀ x, foldedSetIterable iter X.env x = pure x := by intro _; rfl) : PS X (.For tg iter body [] pos) (tFor wi g tb) := by
  intro pins s σ H D I h
  refine wpAny_For (thn (hi pins s σ H _ I h) fun v s1 h1 => thn h1 fun itv s2 h2 => ?_) hs
  obtain ⟨it, fp, tn, J, H2, e, I2, T, st2, f2, W, ⟨m0, w0⟩, turn⟩ := h2
  subst e
  -- what stays true of the iterator's objects through the loop
  have stat : ∀ {H' : Hp}, (∀ b ∈ fp, H' b = none) → ∀ b ∈ fp, FpOk X pins H' b := fun hn b hb => ⟨hn b hb, (f2 b hb).2⟩
  refine codeAny_forLoop_any (fun n s' => ∃ i σ' H', Inv X pins σ' H' s' ∧ tn i s'.heap ∧ (∀ b ∈ fp, H' b = none) ∧ W i n σ' H') ?_ m0 ⟨0, σ, H2, I2, st2, fun b hb => (f2 b hb).1, w0⟩
  rintro n s3 ⟨i, σ3, H3, I3, st3, fr3, w3⟩
  rcases turn i n σ3 H3 w3 with ⟨stop, qn⟩ | ⟨go, N, hN, step⟩
  · refine wpAny_passesOwn hp (thn (T.done X rfl rfl rfl hc i pins s3 σ3 H3 X.xe I3 (stat fr3) st3 stop) fun r s4 ⟨hr, I4⟩ => ?_)
    subst hr
    exact wpAny_execs_nil ⟨σ3, H3, I4, qn⟩
  · refine wpAny_passesOwn hp (thn (T.item X rfl rfl rfl hc i pins s3 σ3 H3 X.xe I3 (stat fr3) st3 go) fun r s4 ⟨u, hr, h4⟩ => ?_)
    subst hr
    refine wpAny_passesOwn hp (thn h4 fun _ s5 ⟨x, H5, I5, r5, y5, st5, fr5⟩ => ?_)
    have I5' := I5.pinned (stat fr5) (T.obj _ _ st5)
    refine wpAny_passesOwn hp (thn (hg _ s5 σ3 H5 x u _ I5' r5 (step x H5 y5)) fun _ s6 ⟨σ6, H6, I6, q6⟩ => ?_)
    refine wpAny_passesOwn hp (thn (hb _ s6 σ6 H6 _ I6 q6) fun f s7 q7 => ?_)
    have again : ∀ {σ7 : St} {H7 : Hp}, Inv X (pins ++ pinsAt fp s5.heap) σ7 H7 s7 → N σ7 H7 → ∃ m, m < n ∧ ∃ i σ' H', Inv X pins σ' H' s7 ∧ tn i s7.heap ∧ (∀ b ∈ fp, H' b = none) ∧ W i m σ' H' := fun {σ7 H7} I7 n7 => by
      obtain ⟨m', hm, w7⟩ := hN σ7 H7 n7
      refine ⟨m', hm, i + 1, σ7, H7, I7.unpinned, T.keep _ _ _ st5 fun b hb o e => (I7.pin (b, o) (List.mem_append_right _ (List.mem_append_right _ (mem_pinsAt hb e)))).1, fun b hb => ?_, w7⟩
      obtain ⟨o, e, d⟩ := T.obj _ _ st5 b hb
      exact (I7.pin (b, o) (List.mem_append_right _ (List.mem_append_right _ (mem_pinsAt hb e)))).2.1
    cases f with
    | next => obtain ⟨σ7, H7, I7, n7⟩ := q7; exact again I7 n7
    | cont => obtain ⟨σ7, H7, I7, n7⟩ := q7; exact again I7 n7
    | brk => obtain ⟨σ7, H7, I7, q7⟩ := q7; exact ⟨σ7, H7, I7.unpinned, q7⟩
    | ret v => obtain ⟨x7, σ7, H7, I7, r7, q7⟩ := q7; exact ⟨x7, σ7, H7, I7.unpinned, r7, q7⟩
end

/-- over a list that the body leaves as it is -/
theorem for_list {K : PySem.W.Frag} {a : Addr} {xs : List V} {g : TG} {tb : TS} {D : Ends} {σ : St} {H : Hp} (Pv : Nat → St → Hp → Prop) (h0 : Pv 0 σ H) (hl : ∀ i σ H, i ≤ xs.length → Pv i σ H → SqL K H a xs)
    (hs : ∀ i x σ H, xs[i]? = some x → Pv i σ H → g x σ H fun σ2 H2 => tb { D with nx := Pv (i + 1), ct := Pv (i + 1), bk := D.nx } σ2 H2) (hd : ∀ σ H, Pv xs.length σ H → D.nx σ H) :
    ∃ W : Nat → Nat → St → Hp → Prop, (∃ m, W 0 m σ H) ∧ ∀ i m σ H, W i m σ H →
      ((Itl K a).stop i H ∧ D.nx σ H) ∨ ((Itl K a).go i H ∧ ∃ N : St → Hp → Prop, (∀ σ' H', N σ' H' → ∃ m', m' < m ∧ W (i + 1) m' σ' H') ∧ ∀ x H', (Itl K a).yld i H x H' → g x σ H' fun σ2 H2 => tb { D with nx := N, ct := N, bk := D.nx } σ2 H2) := by
  refine ⟨fun i m σ H => m = xs.length - i ∧ i ≤ xs.length ∧ Pv i σ H, ⟨xs.length, by simp, Nat.zero_le _, h0⟩, ?_⟩
  rintro i m σ H ⟨rfl, hi, p⟩
  have q := hl i σ H hi p
  by_cases hlt : i < xs.length
  · refine .inr ⟨⟨xs, xs[i], q, by simp [hlt]⟩, Pv (i + 1), fun σ' H' p' => ⟨xs.length - (i + 1), by omega, rfl, hlt, p'⟩, fun x H' y => ?_⟩
    obtain ⟨e, y⟩ := y
    subst e
    exact hs i x σ _ (y xs q) p
  · have e : i = xs.length := by omega
    subst e
    exact .inl ⟨⟨xs, q, Nat.le_refl _⟩, hd σ H p⟩
theorem for_range {lo : Int} {n : Nat} {g : TG} {tb : TS} {D : Ends} {σ : St} {H : Hp} (Pv : Nat → St → Hp → Prop) (h0 : Pv 0 σ H)
    (hs : ∀ i σ H, i < n → Pv i σ H → g (.int (lo + i)) σ H fun σ2 H2 => tb { D with nx := Pv (i + 1), ct := Pv (i + 1), bk := D.nx } σ2 H2) (hd : ∀ σ H, Pv n σ H → D.nx σ H) :
    ∃ W : Nat → Nat → St → Hp → Prop, (∃ m, W 0 m σ H) ∧ ∀ i m σ H, W i m σ H →
      ((Itr lo n).stop i H ∧ D.nx σ H) ∨ ((Itr lo n).go i H ∧ ∃ N : St → Hp → Prop, (∀ σ' H', N σ' H' → ∃ m', m' < m ∧ W (i + 1) m' σ' H') ∧ ∀ x H', (Itr lo n).yld i H x H' → g x σ H' fun σ2 H2 => tb { D with nx := N, ct := N, bk := D.nx } σ2 H2) := by
  refine ⟨fun i m σ H => m = n - i ∧ i ≤ n ∧ Pv i σ H, ⟨n, by simp, Nat.zero_le _, h0⟩, ?_⟩
  rintro i m σ H ⟨rfl, hi, p⟩
  by_cases hlt : i < n
  · refine .inr ⟨hlt, Pv (i + 1), fun σ' H' p' => ⟨n - (i + 1), by omega, rfl, hlt, p'⟩, fun x H' y => ?_⟩
    obtain ⟨e, y⟩ := y
    subst e y
    exact hs i σ _ hlt p
  · have e : i = n := by omega
    subst e
    exact .inl ⟨Nat.le_refl _, hd σ H p⟩
end L2

namespace L2
open PySem PySem.Spec PyProof.Rows

abbrev R2 := V → V → Hp → VK → Prop
/-- a two-place operation on values: f is binaryOp op, inplaceOp op or compareOp op -/
def OpR (X : Cx) (f : Value → Value → Sem Value) (r : R2) : Prop :=
  ∀ (pins : List (Addr × Obj)) (s : Shared) (σ : St) (H : Hp) (x y : V) (v u : Value) (Q : VK), Inv X pins σ H s → RelV x v → RelV y u → r x y H Q →
    wpAny (model X.prog X.w) X.A (f v u) (EP X pins σ Q) X.xe s
/-- a one-place operation -/
def UnR (X : Cx) (f : Value → Sem Value) (r : V → Hp → VK → Prop) : Prop :=
  ∀ (pins : List (Addr × Obj)) (s : Shared) (σ : St) (H : Hp) (x : V) (v : Value) (Q : VK), Inv X pins σ H s → RelV x v → r x H Q →
    wpAny (model X.prog X.w) X.A (f v) (EP X pins σ Q) X.xe s
/-- a call of a value that is known (a builtin, a type) with values -/
def CallR (X : Cx) (f : Value) (r : List V → Hp → VK → Prop) : Prop :=
  ∀ (pins : List (Addr × Obj)) (s : Shared) (σ : St) (H : Hp) (xs : List V) (us : List Value) (Q : VK), Inv X pins σ H s → Vals xs us → r xs H Q →
    wpAny (model X.prog X.w) X.A (call f us) (EP X pins σ Q) X.xe s
/-- a value's truth -/
def TruR (X : Cx) (r : V → Hp → (Bool → Hp → Prop) → Prop) : Prop :=
  ∀ (pins : List (Addr × Obj)) (s : Shared) (σ : St) (H : Hp) (x : V) (v : Value) (Q : Bool → Hp → Prop), Inv X pins σ H s → RelV x v → r x H Q →
    wpAny (model X.prog X.w) X.A (truthy v) (TP X pins σ Q) X.xe s

def tOp (r : R2) (ta tb : TE) : TE := fun σ H Q => ta σ H fun x H1 => tb σ H1 fun y H2 => r x y H2 Q
def tUn (r : V → Hp → VK → Prop) (ta : TE) : TE := fun σ H Q => ta σ H fun x H1 => r x H1 Q
/-- ints in, under C, and a value out -/
def rI (C : Int → Int → Prop) (g : Int → Int → V) : R2 := fun x y H Q => ∃ i j, x = .int i ∧ y = .int j ∧ C i j ∧ Q (g i j) H
def rI0 (g : Int → Int → V) : R2 := fun x y H Q => ∃ i j, x = .int i ∧ y = .int j ∧ Q (g i j) H
def rU (g : Int → V) : V → Hp → VK → Prop := fun x H Q => ∃ i, x = .int i ∧ Q (g i) H

section
variable {X : Cx} {a b c : Expr} {ta tb tc : TE} {pos : Pos}

theorem binT (ha : PE X a ta) (hb : PE X b tb) {pins : List (Addr × Obj)} {s : Shared} {σ : St} {H : Hp} {R : V → V → Hp → Prop} (I : Inv X pins σ H s)
    (h : ta σ H fun x H1 => tb σ H1 fun y H2 => R x y H2) {Q : Value → Shared → Prop} {f : Value → Value → Sem Value}
    (hf : ∀ v u s2 x y H2, Inv X pins σ H2 s2 → RelV x v → RelV y u → R x y H2 → wpAny (model X.prog X.w) X.A (f v u) Q X.xe s2) :
    wpAny (model X.prog X.w) X.A (eval a X.env) (fun v s₁ => wpAny (model X.prog X.w) X.A (eval b X.env) (fun u s₂ => wpAny (model X.prog X.w) X.A (f v u) Q X.xe s₂) X.xe s₁) X.xe s := by
  refine thn (ha pins s σ H _ I h) fun v s1 ⟨x, H1, I1, r1, q1⟩ => ?_
  refine thn (hb pins s1 σ H1 _ I1 q1) fun u s2 ⟨y, H2, I2, r2, q2⟩ => ?_
  exact hf v u s2 x y H2 I2 r1 r2 q2

theorem pe_op {op : Operator} {r : R2} (ho : OpR X (binaryOp op) r) (ha : PE X a ta) (hb : PE X b tb) : PE X (.BinOp a op b pos) (tOp r ta tb) := by
  intro pins s σ H Q I h
  exact wpAny_BinOp (binT ha hb I h fun v u s2 x y H2 I2 rx ry q => ho pins s2 σ H2 x y v u Q I2 rx ry q)
theorem pe_un {op : UnaryOp} {r : V → Hp → VK → Prop} (ho : UnR X (unaryOp op) r) (ha : PE X a ta) : PE X (.UnaryOp op a pos) (tUn r ta) := by
  intro pins s σ H Q I h
  exact UnaryOp_ (thn (ha pins s σ H _ I h) fun v s1 ⟨x, H1, I1, r1, q1⟩ => ho pins s1 σ H1 x v Q I1 r1 q1)
theorem opI {f : Value → Value → Sem Value} {C : Int → Int → Prop} {g : Int → Int → Int}
    (rule : ∀ (i j : Int) (t u : Tok) (s : Shared) (Q : Value → Shared → Prop) (E : Value → Shared → Prop), C i j → Q (.int (g i j) s.toks) { s with toks := s.toks + 1 } → wpAny (model X.prog X.w) X.A (f (.int i t) (.int j u)) Q E s) :
    OpR X f (rI C fun i j => .int (g i j)) := by
  intro pins s σ H x y v u Q I rx ry h
  obtain ⟨i, j, rfl, rfl, hc, q⟩ := h
  obtain ⟨t, rfl⟩ := rx
  obtain ⟨t', rfl⟩ := ry
  exact rule i j t t' s _ _ hc ⟨.int (g i j), H, I.tok _, ⟨_, rfl⟩, q⟩
theorem opI0 {f : Value → Value → Sem Value} {g : Int → Int → Int}
    (rule : ∀ (i j : Int) (t u : Tok) (s : Shared) (Q : Value → Shared → Prop) (E : Value → Shared → Prop), Q (.int (g i j) s.toks) { s with toks := s.toks + 1 } → wpAny (model X.prog X.w) X.A (f (.int i t) (.int j u)) Q E s) :
    OpR X f (rI0 fun i j => .int (g i j)) := by
  intro pins s σ H x y v u Q I rx ry h
  obtain ⟨i, j, rfl, rfl, q⟩ := h
  obtain ⟨t, rfl⟩ := rx
  obtain ⟨t', rfl⟩ := ry
  exact rule i j t t' s _ _ ⟨.int (g i j), H, I.tok _, ⟨_, rfl⟩, q⟩
theorem opB0 {f : Value → Value → Sem Value} {g : Int → Int → Bool}
    (rule : ∀ (i j : Int) (t u : Tok) (s : Shared) (Q : Value → Shared → Prop) (E : Value → Shared → Prop), Q (.bool (g i j)) s → wpAny (model X.prog X.w) X.A (f (.int i t) (.int j u)) Q E s) :
    OpR X f (rI0 fun i j => .bl (g i j)) := by
  intro pins s σ H x y v u Q I rx ry h
  obtain ⟨i, j, rfl, rfl, q⟩ := h
  obtain ⟨t, rfl⟩ := rx
  obtain ⟨t', rfl⟩ := ry
  exact rule i j t t' s _ _ ⟨.bl (g i j), H, I, rfl, q⟩

def CDiv (i j : Int) : Prop := 0 < j ∧ j < 1073741824
def CMul (i j : Int) : Prop := (-(2 ^ 64) < i ∧ i < 2 ^ 64) ∨ (-(2 ^ 64) < j ∧ j < 2 ^ 64)
theorem CMul.ok {i j : Int} (h : CMul i j) : IntMulOk i j := by
  rcases h with ⟨h1, h2⟩ | ⟨h1, h2⟩
  · exact .of_left (intBits_le_64 h1 h2)
  · exact .of_right (intBits_le_64 h1 h2)
theorem two_pow_nn (k : Nat) : (0 : Int) ≤ 2 ^ k := by
  rw [two_pow_cast]
  exact Int.natCast_nonneg _

theorem op_add : OpR X (binaryOp .Add) (rI0 fun i j => .int (i + j)) := opI0 fun _ _ _ _ _ _ _ q => add_int q
theorem op_sub : OpR X (binaryOp .Sub) (rI0 fun i j => .int (i - j)) := opI0 fun _ _ _ _ _ _ _ q => sub_int q
theorem op_mul : OpR X (binaryOp .Mult) (rI CMul fun i j => .int (i * j)) := opI fun _ _ _ _ _ _ _ hc q => mul_int q hc.ok
/-- // by a positive divisor -/
theorem op_fdiv : OpR X (binaryOp .FloorDiv) (rI CDiv fun i j => .int (i / j)) := opI fun i j _ _ _ _ _ hc q => by
  have h1 : (0 : Int) < j := hc.1
  have h2 : j < 1073741824 := hc.2
  exact floordiv_int (by omega) (by rw [Int.fdiv_eq_ediv_of_nonneg i (by omega)]; exact q) (.inl (PyProof.noPylong_small (by omega)))
/-- % by a positive divisor of any size -/
theorem op_mod : OpR X (binaryOp .Mod) (rI (fun _ j => 0 < j) fun i j => .int (i % j)) := opI fun i j _ _ _ _ _ hc q => by
  have h1 : (0 : Int) < j := hc
  exact mod_int' (by omega) (by rw [Int.fmod_eq_emod_of_nonneg i (by omega)]; exact q)
theorem op_shr : OpR X (binaryOp .RShift) (rI (fun _ j => 0 ≤ j) fun i j => .int (i / 2 ^ j.toNat)) := opI fun i j _ _ _ _ _ hc q =>
  rshift_int hc (by rw [Int.fdiv_eq_ediv_of_nonneg i (two_pow_nn _)]; exact q)
theorem unI {f : Value → Sem Value} {g : Int → Int}
    (rule : ∀ (i : Int) (t : Tok) (s : Shared) (Q : Value → Shared → Prop) (E : Value → Shared → Prop), Q (.int (g i) s.toks) { s with toks := s.toks + 1 } → wpAny (model X.prog X.w) X.A (f (.int i t)) Q E s) :
    UnR X f (rU fun i => .int (g i)) := by
  intro pins s σ H x v Q I rx h
  obtain ⟨i, rfl, q⟩ := h
  obtain ⟨t, rfl⟩ := rx
  exact rule i t s _ _ ⟨.int (g i), H, I.tok _, ⟨_, rfl⟩, q⟩
theorem un_neg : UnR X (unaryOp .USub) (rU fun i => .int (-i)) := unI fun _ _ _ _ _ q => neg_int q
end

/-- the scalars that == tells apart as data does -/
def scal : V → V → Bool
  | .non, .non => true | .non, .int _ => true | .int _, .non => true | .non, .bl _ => true | .bl _, .non => true | .non, .str _ => true | .str _, .non => true
  | .int _, .int _ => true | .bl _, .bl _ => true | .str _, .str _ => true | .byt _, .byt _ => true
  | .int _, .str _ => true | .str _, .int _ => true | .bl _, .str _ => true | .str _, .bl _ => true
  | _, _ => false
def rEq : R2 := fun x y H Q => scal x y = true ∧ Q (.bl (decide (x = y))) H
def rNe : R2 := fun x y H Q => scal x y = true ∧ Q (.bl (!decide (x = y))) H

theorem dec_int {i j : Int} : decide (V.int i = V.int j) = (i == j) := by
  rw [Bool.eq_iff_iff]
  simp
theorem dec_bl {i j : Bool} : decide (V.bl i = V.bl j) = (i == j) := by
  rw [Bool.eq_iff_iff]
  simp
theorem dec_str {i j : Str} : decide (V.str i = V.str j) = (i == j) := by
  rw [Bool.eq_iff_iff]
  simp
theorem dec_byt {i j : Array UInt8} : decide (V.byt i = V.byt j) = (i.toList == j.toList) := by
  rw [Bool.eq_iff_iff]
  cases i
  cases j
  simp

section
variable {X : Cx} {a b c : Expr} {ta tb tc : TE} {pos : Pos}
theorem fin_bl {pins : List (Addr × Obj)} {σ : St} {H : Hp} {s : Shared} {Q : VK} {k k' : Bool} (I : Inv X pins σ H s) (q : Q (.bl k) H) (e : k = k') : EP X pins σ Q (.bool k') s := by
  subst e
  exact ⟨.bl k, H, I, rfl, q⟩
theorem op_eq : OpR X (compareOp .Eq) rEq := by
  intro pins s σ H x y v u Q I rx ry h
  obtain ⟨hs, q⟩ := h
  cases x with
  | non =>
    cases rx
    cases y with
    | non => cases ry; exact PySem.EqNone.eq_none_none (fin_bl I q (by simp))
    | bl j => cases ry; exact PySem.EqNone.eq_none_bool (fin_bl I q (by simp))
    | int j => obtain ⟨t', rfl⟩ := ry; exact PySem.EqNone.eq_none_int (fin_bl I q (by simp))
    | str j => obtain ⟨t', rfl⟩ := ry; exact PySem.EqNone.eq_none_str (fin_bl I q (by simp))
    | _ => exact absurd (show false = true from hs) Bool.false_ne_true
  | bl i =>
    cases rx
    cases y with
    | non => cases ry; exact PySem.EqNone.eq_bool_none (fin_bl I q (by simp))
    | bl j => cases ry; exact eq_bool (fin_bl I q dec_bl)
    | str j => obtain ⟨t', rfl⟩ := ry; exact PySem.EqMixed.eq_bool_str (fin_bl I q (by simp))
    | _ => exact absurd (show false = true from hs) Bool.false_ne_true
  | int i =>
    obtain ⟨t, rfl⟩ := rx
    cases y with
    | non => cases ry; exact PySem.EqNone.eq_int_none (fin_bl I q (by simp))
    | int j => obtain ⟨t', rfl⟩ := ry; exact eq_int (fin_bl I q dec_int)
    | str j => obtain ⟨t', rfl⟩ := ry; exact PySem.EqMixed.eq_int_str (fin_bl I q (by simp))
    | _ => exact absurd (show false = true from hs) Bool.false_ne_true
  | str i =>
    obtain ⟨t, rfl⟩ := rx
    cases y with
    | non => cases ry; exact PySem.EqNone.eq_str_none (fin_bl I q (by simp))
    | bl j => cases ry; exact PySem.EqMixed.eq_str_bool (fin_bl I q (by simp))
    | int j => obtain ⟨t', rfl⟩ := ry; exact PySem.EqMixed.eq_str_int (fin_bl I q (by simp))
    | str j => obtain ⟨t', rfl⟩ := ry; exact eq_str (fin_bl I q dec_str)
    | _ => exact absurd (show false = true from hs) Bool.false_ne_true
  | byt i =>
    obtain ⟨t, rfl⟩ := rx
    cases y with
    | byt j => obtain ⟨t', rfl⟩ := ry; exact PySem.W.eq_bytes (fin_bl I q dec_byt)
    | _ => exact absurd (show false = true from hs) Bool.false_ne_true
  | _ => cases y <;> exact absurd (show false = true from hs) Bool.false_ne_true
theorem op_ne : OpR X (compareOp .NotEq) rNe := by
  intro pins s σ H x y v u Q I rx ry h
  obtain ⟨hs, q⟩ := h
  cases x with
  | non =>
    cases rx
    cases y with
    | non => cases ry; exact PySem.EqNone.ne_none_none (fin_bl I q (by simp))
    | bl j => cases ry; exact PySem.EqNone.ne_none_bool (fin_bl I q (by simp))
    | int j => obtain ⟨t', rfl⟩ := ry; exact PySem.EqNone.ne_none_int (fin_bl I q (by simp))
    | str j => obtain ⟨t', rfl⟩ := ry; exact PySem.EqNone.ne_none_str (fin_bl I q (by simp))
    | _ => exact absurd (show false = true from hs) Bool.false_ne_true
  | bl i =>
    cases rx
    cases y with
    | non => cases ry; exact PySem.EqNone.ne_bool_none (fin_bl I q (by simp))
    | bl j => cases ry; exact ne_bool (fin_bl I q (congrArg not dec_bl))
    | str j => obtain ⟨t', rfl⟩ := ry; exact PySem.EqMixed.ne_bool_str (fin_bl I q (by simp))
    | _ => exact absurd (show false = true from hs) Bool.false_ne_true
  | int i =>
    obtain ⟨t, rfl⟩ := rx
    cases y with
    | non => cases ry; exact PySem.EqNone.ne_int_none (fin_bl I q (by simp))
    | int j => obtain ⟨t', rfl⟩ := ry; exact ne_int (fin_bl I q (congrArg not dec_int))
    | str j => obtain ⟨t', rfl⟩ := ry; exact PySem.EqMixed.ne_int_str (fin_bl I q (by simp))
    | _ => exact absurd (show false = true from hs) Bool.false_ne_true
  | str i =>
    obtain ⟨t, rfl⟩ := rx
    cases y with
    | non => cases ry; exact PySem.EqNone.ne_str_none (fin_bl I q (by simp))
    | bl j => cases ry; exact PySem.EqMixed.ne_str_bool (fin_bl I q (by simp))
    | int j => obtain ⟨t', rfl⟩ := ry; exact PySem.EqMixed.ne_str_int (fin_bl I q (by simp))
    | str j => obtain ⟨t', rfl⟩ := ry; exact ne_str (fin_bl I q (congrArg not dec_str))
    | _ => exact absurd (show false = true from hs) Bool.false_ne_true
  | byt i =>
    obtain ⟨t, rfl⟩ := rx
    cases y with
    | byt j => obtain ⟨t', rfl⟩ := ry; exact PySem.W.ne_bytes (fin_bl I q (congrArg not dec_byt))
    | _ => exact absurd (show false = true from hs) Bool.false_ne_true
  | _ => cases y <;> exact absurd (show false = true from hs) Bool.false_ne_true

theorem op_lt : OpR X (compareOp .Lt) (rI0 fun i j => .bl (decide (i < j))) := opB0 fun _ _ _ _ _ _ _ q => lt_int q
theorem op_gt : OpR X (compareOp .Gt) (rI0 fun i j => .bl (decide (j < i))) := opB0 fun _ _ _ _ _ _ _ q => gt_int q
/-- the one string within the other -/
theorem op_in_str : OpR X (compareOp .In) (fun x y H Q => ∃ i j, x = .str i ∧ y = .str j ∧ Q (.bl (!(Builtin.Str.occurrences j i 0 j.length 1).isEmpty)) H) := by
  intro pins s σ H x y v u Q I rx ry h
  obtain ⟨i, j, rfl, rfl, q⟩ := h
  obtain ⟨t, rfl⟩ := rx
  obtain ⟨t', rfl⟩ := ry
  exact in_str (fin_bl I q rfl)

theorem nomark (b : Expr) {op : CmpOp} (h : op ≠ .In := by decide) (h2 : op ≠ .NotIn := by decide) : behindInMarks op b = false := by
  have e1 : (op == CmpOp.In) = false := by cases op <;> first | rfl | exact absurd rfl h
  have e2 : (op == CmpOp.NotIn) = false := by cases op <;> first | rfl | exact absurd rfl h2
  cases b <;> simp [behindInMarks, e1, e2]
/-- a comparison as a value; hm: nomark b, or (for in, not in) by with_unfolding_all rfl -/
theorem pe_cmpR {op : CmpOp} {r : R2} (ho : OpR X (compareOp op) r) (ha : PE X a ta) (hb : PE X b tb) (hm : behindInMarks op b = false) : PE X (.Compare a [op] [b] pos) (tOp r ta tb) := by
  intro pins s σ H Q I h
  exact wpAny_Compare1 (binT ha hb I h fun v u s2 x y H2 I2 rx ry q => ho pins s2 σ H2 x y v u Q I2 rx ry q) hm
/-- a reading of a value as a test -/
def tTest (t : TE) : TT := fun σ H Q => t σ H fun x H' => ∃ k, x = .bl k ∧ Q k H'
theorem pt_cmpR {op : CmpOp} {r : R2} (ho : OpR X (compareOp op) r) (ha : PE X a ta) (hb : PE X b tb) (hm : behindInMarks op b = false) : PT X (.Compare a [op] [b] pos) (tTest (tOp r ta tb)) := by
  intro pins s σ H Q I h
  refine wpAny_isTrue_Compare1 (thn (ha pins s σ H _ I h) fun v s1 ⟨x, H1, I1, r1, q1⟩ => thn (hb pins s1 σ H1 _ I1 q1) fun u s2 ⟨y, H2, I2, r2, q2⟩ =>
    thn (ho pins s2 σ H2 x y v u _ I2 r1 r2 q2) fun c s3 ⟨z, H3, I3, r3, k, e, q3⟩ => ?_) hm
  subst e
  cases r3
  exact wpAny_truthy_bool ⟨H3, I3, q3⟩
/-- a value's truth by the abstract heap -/
def TruV (K : PySem.W.Frag) (x : V) (H : Hp) (k : Bool) : Prop :=
  match x with
  | .non => k = false
  | .bl b => k = b
  | .int i => k = (i != 0)
  | .str y => y.length ≤ sizeLine ∧ k = ((y.length : Int) != 0)
  | .byt y => y.size ≤ sizeLine ∧ k = ((y.size : Int) != 0)
  | .ref p => (∃ xs, SqL K H p xs ∧ k = !xs.isEmpty) ∨ (∃ xs, SqT K H p xs ∧ k = !xs.isEmpty) ∨ ∃ kvs, H p = some (.dK kvs) ∧ k = !kvs.isEmpty
  | _ => False
theorem isEmpty_kv {κ : Type} {kvs : List (κ × V)} {vs : List (κ × Value)} (r : KV kvs vs) : (!vs.isEmpty) = !kvs.isEmpty := by
  cases r <;> rfl
theorem isEmpty_of {xs : List V} {its : List Value} (r : Vals xs its) : (!its.toArray.isEmpty) = !xs.isEmpty := by
  cases r <;> simp
theorem line63 : (sizeLine : Nat) < 2 ^ 63 := by rw [sizeLine_eq]; decide
theorem tru_ok : TruR X (fun x H Q => ∃ k, TruV X.K x H k ∧ Q k H) := by
  intro pins s σ H x v Q I rx h
  obtain ⟨k, e, q⟩ := h
  have hl := line63
  have hs : sizeLine = 16777216 := sizeLine_eq
  cases x with
  | non =>
    cases rx
    have e' : k = false := e
    subst e'
    exact truthy_none ⟨H, I, q⟩
  | bl b =>
    cases rx
    have e' : k = b := e
    subst e'
    exact wpAny_truthy_bool ⟨H, I, q⟩
  | int i =>
    obtain ⟨t, rfl⟩ := rx
    have e' : k = (i != 0) := e
    subst e'
    exact PySem.P.truthy_int ⟨H, I, q⟩
  | str y =>
    obtain ⟨t, rfl⟩ := rx
    obtain ⟨hy, e'⟩ : y.length ≤ sizeLine ∧ k = ((y.length : Int) != 0) := e
    subst e'
    exact PySem.P.truthy_str (by omega) ⟨H, I.tok _, q⟩
  | byt y =>
    obtain ⟨t, rfl⟩ := rx
    obtain ⟨hy, e'⟩ : y.size ≤ sizeLine ∧ k = ((y.size : Int) != 0) := e
    subst e'
    exact PySem.W.truthy_bytes (by omega) ⟨H, I.tok _, q⟩
  | ref p =>
    cases rx
    have e' : (∃ xs, SqL X.K H p xs ∧ k = !xs.isEmpty) ∨ (∃ xs, SqT X.K H p xs ∧ k = !xs.isEmpty) ∨ ∃ kvs, H p = some (.dK kvs) ∧ k = !kvs.isEmpty := e
    rcases e' with ⟨xs, hx, e'⟩ | ⟨xs, hx, e'⟩ | ⟨kvs, hx, e'⟩
    · subst e'
      obtain ⟨its, r, pl, hz⟩ := I.list hx
      have hlen := r.length
      exact wpAny_truthy_list pl.isList (by simp only [List.size_toArray]; omega) ⟨H, I.tok _, by rw [isEmpty_of r]; exact q⟩
    · subst e'
      obtain ⟨its, r, pl, hz⟩ := I.tuple hx
      have hlen := r.length
      exact truthy_tuple pl (by simp only [List.size_toArray]; omega) ⟨H, I.tok _, by rw [isEmpty_of r]; exact q⟩
    · subst e'
      obtain ⟨hz, hS, vs, r, m⟩ : kvs.length ≤ sizeLine ∧ (p == sysModules) = false ∧ ∃ vs, KV kvs vs ∧ s.heap.DictOf (mixKind X.prog X.w) p vs := I.hok p _ hx
      have hlen : kvs.length = vs.length := Paired.length r
      exact wpAny_truthy_dict hS m (by omega) ⟨H, I.tok _, by rw [isEmpty_kv r]; exact q⟩
  | _ => exact (show False from e).elim
/-- any expression whose test is its value's truth (a name, a call, a subscript, a field ..: he by fun _ => rfl) -/
theorem pt_truth (ha : PE X a ta) (he : ∀ whole, isTrue a X.env whole = (do let v ← whole; standAt a.pos; holding [v] (truthy v))) :
    PT X a (fun σ H Q => ta σ H fun x H' => ∃ k, TruV X.K x H' k ∧ Q k H') := by
  intro pins s σ H Q I h
  exact isTrue_plain (thn (ha pins s σ H _ I h) fun v s1 ⟨x, H1, I1, r1, q1⟩ => tru_ok pins s1 σ H1 x v Q I1 r1 q1) (he _)

theorem op_add_str : OpR X (binaryOp .Add) (fun x y H Q => ∃ i j, x = .str i ∧ y = .str j ∧ i.length + j.length ≤ sizeLine ∧ Q (.str (i ++ j)) H) := by
  intro pins s σ H x y v u Q I rx ry h
  obtain ⟨i, j, rfl, rfl, hz, q⟩ := h
  obtain ⟨t, rfl⟩ := rx
  obtain ⟨t', rfl⟩ := ry
  exact add_str (fun t' tk => ⟨.str (i ++ j), H, I.tok _, ⟨_, rfl⟩, q⟩) hz
theorem vals1 {x : V} {us : List Value} (r : Vals [x] us) : ∃ u, us = [u] ∧ RelV x u := by
  cases r with
  | cons r1 r2 => cases r2; exact ⟨_, rfl, r1⟩
theorem vals2 {x y : V} {us : List Value} (r : Vals [x, y] us) : ∃ u w', us = [u, w'] ∧ RelV x u ∧ RelV y w' := by
  cases r with
  | cons r1 r2 =>
    cases r2 with
    | cons r3 r4 => cases r4; exact ⟨_, _, rfl, r1, r3⟩
theorem call_max2 (hc : X.calm = true) : CallR X (.builtin "max") (fun xs H Q => ∃ i j, xs = [.int i, .int j] ∧ Q (.int (if j > i then j else i)) H) := by
  intro pins s σ H xs us Q I r h
  obtain ⟨i, j, rfl, q⟩ := h
  obtain ⟨u, w', rfl, ⟨t, rfl⟩, ⟨t', rfl⟩⟩ := vals2 r
  refine max_two_ints (I.ok.hd hc) fun h' tk k => ⟨_, H, I.kept k, ?_, q⟩
  by_cases hj : j > i
  · rw [if_pos hj, if_pos hj]; exact ⟨_, rfl⟩
  · rw [if_neg hj, if_neg hj]; exact ⟨_, rfl⟩
end
end L2

namespace L2
open PySem PySem.Spec PyProof.Rows

structure ObjM (h : Heap) (x dx C : Addr) (mA : Str → Option Value) : Prop where
  obj : h.get? x = some (PySem.W.instObj C dx)
  ns : h.Ns1 dx mA
  ne : dx ≠ x

theorem lookIn_ns {h : Heap} {dx : Addr} {mA : Str → Option Value} (n : h.Ns1 dx mA) : ∃ od, h.get? dx = some od ∧ ∀ name, PySem.W.lookIn name od = some (mA name) := by
  obtain ⟨o, es, ep, ho, hd, hk, _, hm⟩ := n
  refine ⟨o, ho, fun name => ?_⟩
  have e := hm name
  unfold nsFind findBy at e
  rw [← Array.find?_toList] at e
  unfold PySem.W.lookIn
  rw [hd]
  dsimp only
  split
  · rename_i y q
    rw [q] at e
    exact congrArg some e
  · rename_i q
    rw [q] at e
    have a : es.toList.any (·.refKey) = false := by
      rw [List.any_eq_false]
      intro y hy
      obtain ⟨z, t, hkey⟩ := hk y (Array.mem_toList_iff.mp hy)
      simp [DictEntry.refKey, hkey]
    have a' : ¬ es.toList.any (·.refKey) = true := by rw [a]; exact Bool.false_ne_true
    rw [if_neg a']
    exact congrArg some e

theorem ObjM.look {h : Heap} {x dx C : Addr} {mA : Str → Option Value} (I : ObjM h x dx C mA) : ∃ od, PySem.W.InstAt h x (PySem.W.instObj C dx) C (some od) ∧ ∀ name, PySem.W.lookIn name od = some (mA name) :=
  let ⟨od, ho, hl⟩ := lookIn_ns I.ns
  ⟨od, ⟨I.obj, rfl, rfl, ho⟩, hl⟩

section
variable {prog : Program} {w : World} {A : Around} {E : Value → Shared → Prop} {s : Shared} {K : PySem.W.Frag} {x dx C f : Addr} {mA : Str → Option Value} {name : Str} {v : Value}

theorem get_map {expr : Bool} {Q : Value → Shared → Prop} (X : K.In s.heap) (I : ObjM s.heap x dx C mA) (hg : PySem.W.plainGet K C name = true) (hh : PySem.W.hasDictIn K C = true)
    (ha : PySem.W.findIn K (.ref C) name = some none) (hv : mA name = some v) (hv' : PySem.W.handedIn v = true) (h : Q v { s with toks := s.toks + 1 }) :
    wpAny (model prog w) A (getAttr (.ref x) name expr) Q E s := by
  obtain ⟨od, J, hl⟩ := I.look
  exact PySem.W.get_value X J (PySem.W.plainGet_of hg).1 (PySem.W.findObj_own hh ha rfl (by rw [hl, hv])) hv' h

theorem get_meth {pl : Sem Bool} {Q : Value × List Value → Shared → Prop} (X : K.In s.heap) (I : ObjM s.heap x dx C mA) (hg : PySem.W.plainGet K C name = true)
    (hf : PySem.W.findIn K (.ref C) name = some (some (.ref f))) (ht : PySem.W.isFn K (.ref f) = true) (hv : mA name = none) (h : Q (.ref f, [.ref x]) s) :
    wpAny (model prog w) A (getMethod (.ref x) name pl) Q E s := by
  obtain ⟨od, J, hl⟩ := I.look
  exact PySem.W.method_fn X J (PySem.W.plainGet_of hg).1 (PySem.W.plainGet_of hg).2 hf (beq_iff_eq.mp ht) (by show (PySem.W.lookIn name od).map (·.isSome) = some false; rw [hl, hv]; rfl) h

theorem set_map {ns : List Str} {Q : Unit → Shared → Prop} (X : K.In s.heap) (I : ObjM s.heap x dx C mA)
    (hs : PySem.W.findIn K (.ref C) "__setattr__" = some (some (.builtin "object.__setattr__"))) (hp : PySem.W.plainOver K C = true) (ht : PySem.W.takerIn K C name = some none) (hh : PySem.W.hasDictIn K C = true)
    (hw : PySem.Within mA ns) (hsz : ns.length ≤ sizeLine)
    (h : ∀ h', ObjM h' x dx C (fun y => if y = name then some v else mA y) → Heap.SameBut dx s.heap h' → Q () { s with heap := h', toks := s.toks + 2 }) :
    wpAny (model prog w) A (setAttr (.ref x) name v) Q E s := by
  obtain ⟨od, J, hl⟩ := I.look
  refine PySem.W.set_plain X J hs (PySem.W.osa_open (s := { s with toks := s.toks + 1 }) (r := none) X J hp ht fun b => ?_)
  obtain ⟨cd, hc, hd'⟩ := PySem.W.any_some hh
  have hx : s.heap.get? x = some ⟨.ref C, some dx, .plain, #[]⟩ := I.obj
  refine wpAny_bind (wpAny_pure (wpAny_bind (wpAny_bind (wpAny_loadPart hx (wpAny_bind (PySem.W.Looks.here (s := { s with toks := s.toks + 1 }) (PySem.W.looks_clsIn X hc) ?_))))))
  rw [hd']
  refine wpAny_pure (a := some dx) (wpAny_bind (wpAny_pure (wpAny_bind ?_)))
  refine wpAny_nsSet1 (s := { s with toks := s.toks + 1 }) I.ns fun h' hn2 hs2 => ?_
  obtain ⟨oD, esD, epD, hoD, hdD, hcD⟩ := hn2.count (PySem.Within.cons name v hw)
  refine wpAny_bind (wpAny_lookBehind hoD (by rw [hdD]; exact pastItsLine_dict (Nat.le_trans hcD (by rw [List.length_cons]; omega))) ?_)
  exact wpAny_pure (h _ ⟨(hs2.2 _ (Ne.symm I.ne)).trans I.obj, hn2, I.ne⟩ hs2)

/-- C(..): the dict at the heap's end, the instance behind it; then its __init__ -/
theorem make_map {R : Result → Shared → Prop} {vs : List Value} {kw : List (Str × Value)} (X : K.In s.heap) (hm : PySem.W.makesIn K C = true)
    (hi : PySem.W.findIn K (.ref C) "__init__" = some (some (.ref f))) (hf : PySem.W.typeIn K (.ref f) = some (.type "function"))
    (h : codeAny (model prog w) (A.under (.builtin "type.__call__" ⟨.ref C :: vs, kw⟩)) (.call (.ref f) ⟨.ref (s.heap.objs.size + 1) :: vs, kw⟩) (PySem.W.InitBack (s.heap.objs.size + 1) R)
      { s with heap := (s.heap.push PySem.W.emptyDict).push (PySem.W.instObj C s.heap.objs.size) }) :
    codeAny (model prog w) A (.call (.ref C) ⟨vs, kw⟩) R s := by
  obtain ⟨hh, g, d, t, os⟩ := s
  exact PySem.W.make_core (PySem.W.makes_of X hm) (PySem.W.looks_findIn X hi) (fun self => PySem.W.bind_fn X self hf) (.inl rfl) h
/-- C() where there is no __init__ but object's -/
theorem make_map0 {R : Result → Shared → Prop} (X : K.In s.heap) (hm : PySem.W.makesIn K C = true)
    (hi : PySem.W.findIn K (.ref C) "__init__" = some (some (.builtin "object.__init__")))
    (hb : ∀ self, PySem.W.Looks (model prog w) s.heap (bindSpecial (.builtin "object.__init__") self) (.builtin "object.__init__", [self]))
    (h : codeAny (model prog w) (A.under (.builtin "type.__call__" ⟨[.ref C], []⟩)) (.call (.builtin "object.__init__") ⟨[.ref (s.heap.objs.size + 1)], []⟩) (PySem.W.InitBack (s.heap.objs.size + 1) R)
      { s with heap := (s.heap.push PySem.W.emptyDict).push (PySem.W.instObj C s.heap.objs.size) }) :
    codeAny (model prog w) A (.call (.ref C) ⟨[], []⟩) R s := by
  obtain ⟨hh, g, d, t, os⟩ := s
  exact PySem.W.make_core (PySem.W.makes_of X hm) (PySem.W.looks_findIn X hi) hb (.inr ⟨rfl, rfl⟩) h
end

def putF (f : Str) (v : V) : List (Str × V) → List (Str × V)
  | [] => [(f, v)]
  | (g, x) :: r => if g = f then (g, v) :: r else (g, x) :: putF f v r
theorem lookup_putF (f g : Str) (v : V) : ∀ fs : List (Str × V), (putF f v fs).lookup g = if g = f then some v else fs.lookup g
  | [] => by
    show List.lookup g [(f, v)] = _
    by_cases h : g = f
    · have hb : (g == f) = true := beq_iff_eq.mpr h
      simp only [List.lookup, hb, if_pos h]
    · have hb : (g == f) = false := beq_eq_false_iff_ne.mpr h
      simp only [List.lookup, hb, if_neg h]
  | (k, x) :: r => by
    have ih := lookup_putF f g v r
    rw [show putF f v ((k, x) :: r) = (if k = f then (k, v) :: r else (k, x) :: putF f v r) from rfl]
    by_cases hk : k = f
    · rw [if_pos hk]
      by_cases h : g = k
      · have hb : (g == k) = true := beq_iff_eq.mpr h
        simp only [List.lookup, hb, if_pos (h.trans hk)]
      · have hb : (g == k) = false := beq_eq_false_iff_ne.mpr h
        simp only [List.lookup, hb, if_neg (fun e : g = f => h (e.trans hk.symm))]
    · rw [if_neg hk]
      by_cases h : g = k
      · have hb : (g == k) = true := beq_iff_eq.mpr h
        simp only [List.lookup, hb, if_neg (fun e : g = f => hk (h.symm.trans e))]
      · have hb : (g == k) = false := beq_eq_false_iff_ne.mpr h
        simp only [List.lookup, hb]
        exact ih
theorem keys_putF (f : Str) (v : V) : ∀ fs : List (Str × V), f ∈ (putF f v fs).map (·.1) ∧ ∀ g, g ∈ fs.map (·.1) → g ∈ (putF f v fs).map (·.1)
  | [] => ⟨by simp [putF], fun g h => by simp at h⟩
  | (k, x) :: r => by
    obtain ⟨i1, i2⟩ := keys_putF f v r
    rw [show putF f v ((k, x) :: r) = (if k = f then (k, v) :: r else (k, x) :: putF f v r) from rfl]
    by_cases hk : k = f
    · rw [if_pos hk]
      subst hk
      exact ⟨by simp, fun g h => by simpa using h⟩
    · rw [if_neg hk]
      refine ⟨?_, fun g h => ?_⟩
      · rw [List.map_cons]
        exact List.mem_cons_of_mem _ i1
      · rw [List.map_cons] at h ⊢
        rcases List.mem_cons.mp h with e | e
        · exact List.mem_cons.mpr (.inl e)
        · exact List.mem_cons_of_mem _ (i2 g e)
theorem length_putF (f : Str) (v : V) : ∀ fs : List (Str × V), (putF f v fs).length ≤ fs.length + 1
  | [] => by simp [putF]
  | (k, x) :: r => by
    have ih := length_putF f v r
    rw [show putF f v ((k, x) :: r) = (if k = f then (k, v) :: r else (k, x) :: putF f v r) from rfl]
    by_cases hk : k = f
    · rw [if_pos hk, List.length_cons, List.length_cons]; omega
    · rw [if_neg hk, List.length_cons, List.length_cons]; omega

theorem RelO.some_of {v : V} {o : Option Value} (r : RelO (some v) o) : ∃ u, o = some u ∧ RelV v u := by
  cases o with
  | none => exact (show False from r).elim
  | some u => exact ⟨u, rfl, r⟩
theorem RelO.none_of {o : Option Value} (r : RelO none o) : o = none := by
  cases o with
  | none => rfl
  | some u => exact (show False from r).elim
theorem handed_of {v : V} {u : Value} (r : RelV v u) : PySem.W.handedIn u = true := by
  cases v with
  | non => cases (show u = Value.none from r); rfl
  | bl b => cases (show u = Value.bool b from r); rfl
  | int i => obtain ⟨t, e⟩ := (show ∃ t, u = Value.int i t from r); cases e; rfl
  | str x => obtain ⟨t, e⟩ := (show ∃ t, u = Value.str x t from r); cases e; rfl
  | byt b => obtain ⟨t, e⟩ := (show ∃ t, u = Value.bytes b t from r); cases e; rfl
  | flt b => obtain ⟨t, e⟩ := (show ∃ t, u = Value.float b t from r); cases e; rfl
  | ref a => cases (show u = Value.ref a from r); rfl
  | ty n => cases (show u = Value.type n from r); rfl

section
variable {P : Program} {w : World} {H H' : Hp} {h h' : Heap} {a C dx : Addr} {fs fs' : List (Str × V)}
theorem ins_get (hok : HOk P w H h) (e : H a = some (.ins C dx fs)) : ∃ mA, ObjM h a dx C mA ∧ (∀ f, RelO (fs.lookup f) (mA f)) ∧ PySem.Within mA (fs.map (·.1)) ∧ fs.length ≤ 1000 ∧ H dx = some (.own a) := by
  obtain ⟨d, z, ne, ob, mA, n, r, q⟩ := (show ObjOk P w H h a (.ins C dx fs) from hok a _ e)
  exact ⟨mA, ⟨ob, n, ne⟩, r, q, z, d⟩
end

structure Cls (K : PySem.W.Frag) (C : Addr) : Prop where
  pg : PySem.W.plainGet K C Str.empty = true
  hd : PySem.W.hasDictIn K C = true
  po : PySem.W.plainOver K C = true
  sa : PySem.W.findIn K (.ref C) "__setattr__" = some (some (.builtin "object.__setattr__"))
theorem Cls.get {K : PySem.W.Frag} {C : Addr} (c : Cls K C) (f : Str) : PySem.W.plainGet K C f = true := c.pg
/-- no class of it has the name -/
def NoAttr (K : PySem.W.Frag) (C : Addr) (f : Str) : Prop := PySem.W.findIn K (.ref C) f = some none
theorem NoAttr.taker {K : PySem.W.Frag} {C : Addr} {f : Str} (n : NoAttr K C f) : PySem.W.takerIn K C f = some none := by
  unfold PySem.W.takerIn
  rw [show PySem.W.findIn K (.ref C) f = some none from n]
  rfl
/-- a method: a plain def of the class or of one above it -/
structure Meth (K : PySem.W.Frag) (C : Addr) (m : Str) (f : Addr) : Prop where
  at_ : PySem.W.findIn K (.ref C) m = some (some (.ref f))
  fn : PySem.W.isFn K (.ref f) = true
  kp : PySem.W.keepIn K (.ref f) = true

section
variable {X : Cx} {pins : List (Addr × Obj)} {σ : St} {H : Hp} {s : Shared} {a C dx : Addr} {fs : List (Str × V)} {f : Str} {v : V} {A : Around} {E : Value → Shared → Prop}

theorem getattr_ok {b : Bool} {Q : Value → Shared → Prop} (I : Inv X pins σ H s) (e : H a = some (.ins C dx fs)) (c : Cls X.K C) (n : NoAttr X.K C f) (l : fs.lookup f = some v)
    (h : ∀ u s', Inv X pins σ H s' → RelV v u → Q u s') : wpAny (model X.prog X.w) A (getAttr (.ref a) f b) Q E s := by
  obtain ⟨mA, O, r, _, _, _⟩ := ins_get I.hok e
  obtain ⟨u, hu, ru⟩ := RelO.some_of (v := v) (o := mA f) (by rw [← l]; exact r f)
  exact get_map I.kIn O (c.get f) c.hd n hu (handed_of ru) (h u _ (I.tok _) ru)

theorem getmeth_ok {m : Str} {g : Addr} {pl : Sem Bool} {Q : Value × List Value → Shared → Prop} (I : Inv X pins σ H s) (e : H a = some (.ins C dx fs)) (c : Cls X.K C) (k : Meth X.K C m g) (l : fs.lookup m = none)
    (h : Q (.ref g, [.ref a]) s) : wpAny (model X.prog X.w) A (getMethod (.ref a) m pl) Q E s := by
  obtain ⟨mA, O, r, _, _, _⟩ := ins_get I.hok e
  have hn : mA m = none := RelO.none_of (by rw [← l]; exact r m)
  exact get_meth I.kIn O (c.get m) k.at_ k.fn hn h

theorem setattr_ok {y : V} {u : Value} {Q : Unit → Shared → Prop} (I : Inv X pins σ H s) (e : H a = some (.ins C dx fs)) (c : Cls X.K C) (n : NoAttr X.K C f) (hl : fs.length < 1000) (ry : RelV y u)
    (h : ∀ s', Inv X pins σ (upd H a (.ins C dx (putF f y fs))) s' → Q () s') : wpAny (model X.prog X.w) A (setAttr (.ref a) f u) Q E s := by
  obtain ⟨mA, O, r, wi, _, ho⟩ := ins_get I.hok e
  have hz : (fs.map (·.1)).length ≤ sizeLine := by rw [List.length_map, sizeLine_eq]; omega
  refine set_map I.kIn O c.sa c.po n.taker c.hd wi hz fun h' O' sb => h _ ?_
  have hd : ∃ o, h'.get? dx = some o := let ⟨o, _, _, e', _⟩ := O'.ns; ⟨o, e'⟩
  refine I.write (x := a) (e := dx) (by rw [e]; exact True.intro) (.inr ho) (fun b q hb z => (sb.2 b hb).trans z) hd ?_
  refine ⟨by rw [upd_ne O.ne]; exact ho, ?_, O.ne, O'.obj, _, O'.ns, fun g => ?_, fun g hg => ?_⟩
  · have := length_putF f y fs; omega
  · show RelO ((putF f y fs).lookup g) (if g = f then some u else mA g)
    rw [lookup_putF]
    by_cases q : g = f
    · rw [if_pos q, if_pos q]; exact ry
    · rw [if_neg q, if_neg q]; exact r g
  · by_cases q : g = f
    · rw [q]; exact (keys_putF f y fs).1
    · refine (keys_putF f y fs).2 g (wi g fun z => hg ?_)
      show (if g = f then some u else mA g) = none
      rw [if_neg q]; exact z

/-- a new instance, tracked, without attributes -/
theorem Inv.made (I : Inv X pins σ H s) : Inv X pins σ (upd (upd H s.heap.objs.size (.own (s.heap.objs.size + 1))) (s.heap.objs.size + 1) (.ins C s.heap.objs.size []))
    { s with heap := (s.heap.push PySem.W.emptyDict).push (PySem.W.instObj C s.heap.objs.size) } := by
  have e1 : (s.heap.push PySem.W.emptyDict).get? s.heap.objs.size = some PySem.W.emptyDict := Heap.get?_push_size s.heap rfl
  have e2 : ((s.heap.push PySem.W.emptyDict).push (PySem.W.instObj C s.heap.objs.size)).get? (s.heap.objs.size + 1) = some (PySem.W.instObj C s.heap.objs.size) := by
    have := Heap.get?_push_size (s.heap.push PySem.W.emptyDict) (o := PySem.W.instObj C s.heap.objs.size) rfl
    rwa [Heap.size_push] at this
  have e3 : (s.heap.push PySem.W.emptyDict).Ns s.heap.objs.size (fun _ => none) := ⟨PySem.W.emptyDict, #[], _, e1, rfl, (fun e he => absurd he (by simp)), fun _ => rfl⟩
  have I1 := I.laid (a := s.heap.objs.size) (o := .own (s.heap.objs.size + 1)) (h' := s.heap.push PySem.W.emptyDict) (t' := s.toks) (fun b u q => Heap.get?_push_of_some _ q) (Nat.le_refl _) ⟨_, e1⟩
  refine I1.laid (a := s.heap.objs.size + 1) (o := .ins C s.heap.objs.size []) (t' := s.toks) (fun b u q => Heap.get?_push_of_some _ q) (Nat.le_of_eq (Heap.size_push _ _)) ?_
  have ne : s.heap.objs.size ≠ s.heap.objs.size + 1 := Nat.ne_of_lt (Nat.lt_succ_self _)
  refine ⟨by rw [upd_ne ne, upd_same], Nat.zero_le _, ne, e2, fun _ => none, (Heap.Ns1.of_empty e3).at fun o q => Heap.get?_push_of_some _ q, fun _ => True.intro, fun y hy => absurd rfl hy⟩

/-- e.f where nothing but the object is asked: through attributeBase (super) and the last hold -/
theorem attr_of {prog : Program} {w : World} {env : Env} {e : Expr} {f : Str} {pos : Pos} {s : Shared} {Q : Value → Shared → Prop} (hb : attributeBase e f env (eval e env) = eval e env)
    (h : wpAny (model prog w) A (eval e env) (fun o s₁ => wpAny (model prog w) A (getAttr o f true) Q E s₁) E s) : wpAny (model prog w) A (eval (.Attribute e f pos) env) Q E s :=
  Attribute_any_ h (by rw [arm_eval_Attribute, hb])
end

/-- e.f, an attribute of the instance -/
def tFld (K : PySem.W.Frag) (ta : TE) (f : Str) : TE := fun σ H Q => ta σ H fun x H1 => ∃ a C dx fs v, x = .ref a ∧ H1 a = some (.ins C dx fs) ∧ Cls K C ∧ NoAttr K C f ∧ fs.lookup f = some v ∧ Q v H1
/-- e.f = value -/
def sFld (K : PySem.W.Frag) (ta tv : TE) (f : Str) : TS := fun D σ H => tv σ H fun y H1 => ta σ H1 fun x H2 => ∃ a C dx fs, x = .ref a ∧ H2 a = some (.ins C dx fs) ∧ Cls K C ∧ NoAttr K C f ∧ fs.length < 1000 ∧
  D.nx σ (upd H2 a (.ins C dx (putF f y fs)))
/-- an augmented operator on two values -/
def InOp (X : Cx) (op : Operator) (rd : V → V → Hp → VK → Prop) : Prop :=
  ∀ (pins : List (Addr × Obj)) (s : Shared) (σ : St) (H : Hp) (x y : V) (u v : Value) (Q : VK), Inv X pins σ H s → RelV x u → RelV y v → rd x y H Q → wpAny (model X.prog X.w) X.A (inplaceOp op u v) (EP X pins σ Q) X.xe s
/-- e.f op= value -/
def sFldAug (K : PySem.W.Frag) (ta tv : TE) (rd : V → V → Hp → VK → Prop) (f : Str) : TS := fun D σ H => ta σ H fun x H1 => ∃ a C dx fs v, x = .ref a ∧ H1 a = some (.ins C dx fs) ∧ Cls K C ∧ NoAttr K C f ∧ fs.lookup f = some v ∧
  tv σ H1 fun y H2 => rd v y H2 fun z H3 => ∃ dx' fs', H3 a = some (.ins C dx' fs') ∧ fs'.length < 1000 ∧ D.nx σ (upd H3 a (.ins C dx' (putF f z fs')))

section
variable {X : Cx} {o e value : Expr} {f : Str} {pos pos' tpos : Pos} {ta tv : TE}
theorem pe_fld (he : PE X e ta) (hb : attributeBase e f X.env (eval e X.env) = eval e X.env) : PE X (.Attribute e f pos) (tFld X.K ta f) := by
  intro pins s σ H Q I h
  refine attr_of hb (thn (he pins s σ H _ I h) fun u s1 ⟨x, H1, I1, rx, a, C, dx, fs, v, ex, ea, c, n, l, q⟩ => ?_)
  subst ex
  obtain rfl : u = Value.ref a := rx
  exact getattr_ok I1 ea c n l fun u' s2 I2 ru => ⟨v, H1, I2, ru, q⟩
theorem ps_fld (ha : PE X o ta) (hv : PE X value tv) (hs : swapsWith value (some (.Attribute o f pos')) pos.line X.env = pure false) : PS X (.Assign [.Attribute o f pos'] value pos) (sFld X.K ta tv f) := by
  intro pins s σ H D I h
  refine plainObj_wpAny_Assign_Attribute (thn (hv pins s σ H _ I h) fun u s1 ⟨y, H1, I1, ry, q⟩ => thn (ha pins s1 σ H1 _ I1 q) fun ov s2 ⟨x, H2, I2, rx, a, C, dx, fs, ex, ea, c, n, l, q2⟩ => ?_) hs
  subst ex
  obtain rfl : ov = Value.ref a := rx
  exact setattr_ok I2 ea c n l ry fun s3 I3 => ⟨σ, _, I3, q2⟩
theorem ps_fldaug {op : Operator} {rd : V → V → Hp → VK → Prop} (ha : PE X o ta) (hv : PE X value tv) (hop : InOp X op rd) : PS X (.AugAssign (.Attribute o f tpos) op value pos) (sFldAug X.K ta tv rd f) := by
  intro pins s σ H D I h
  refine wpAny_AugAssign_AttributeAny (thn (ha pins s σ H _ I h) fun ov s1 ⟨x, H1, I1, rx, a, C, dx, fs, v, ex, ea, c, n, l, q⟩ => ?_)
  subst ex
  obtain rfl : ov = Value.ref a := rx
  refine getattr_ok I1 ea c n l fun u s2 I2 ru => thn (hv pins s2 σ H1 _ I2 q) fun w3 s3 ⟨y, H2, I3, ry, q3⟩ => thn (hop pins s3 σ H2 v y u w3 _ I3 ru ry q3) fun w4 s4 ⟨z, H3, I4, rz, dx', fs', ea', l', q4⟩ => ?_
  exact setattr_ok I4 ea' c n l' rz fun s5 I5 => ⟨σ, _, I5, q4⟩
def rAdd : V → V → Hp → VK → Prop := fun x y H Q => ∃ i j, x = .int i ∧ y = .int j ∧ Q (.int (i + j)) H
theorem in_add : InOp X .Add rAdd := by
  rintro pins s σ H x y u v Q I rx ry ⟨i, j, rfl, rfl, q⟩
  obtain ⟨t, rfl⟩ := (show ∃ t, u = Value.int i t from rx)
  obtain ⟨t', rfl⟩ := (show ∃ t', v = Value.int j t' from ry)
  exact PyProof.Rows.iadd_int ⟨.int (i + j), H, I.tok _, ⟨_, rfl⟩, q⟩
end

section
variable {X : Cx} {pins : List (Addr × Obj)} {σ : St} {H : Hp} {s : Shared} {A : Around} {E : Value → Shared → Prop} {Q : Value → Shared → Prop} {c : Value} {b : Bool}
/-- the type of a value, as the fragment's deciders take it; for an instance its class -/
inductive TyOf (K : PySem.W.Frag) (H : Hp) : V → Value → Prop where
  | non : TyOf K H .non (.type "NoneType")
  | bl (x : Bool) : TyOf K H (.bl x) (.type "bool")
  | int (i : Int) : TyOf K H (.int i) (.type "int")
  | str (x : Str) : TyOf K H (.str x) (.type "str")
  | flt (x : UInt64) : TyOf K H (.flt x) (.type "float")
  | lst {a : Addr} {xs : List V} (e : H a = some (.lst xs)) : TyOf K H (.ref a) (.type "list")
  | frz {a : Addr} {o : Obj} {xs : List V} (e : H a = some (.frz o (.lst xs))) : TyOf K H (.ref a) (.type "list")
  | tup {a : Addr} {xs : List V} (e : H a = some (.tup xs)) : TyOf K H (.ref a) (.type "tuple")
  | dK {a : Addr} {kvs : List (Key × V)} (e : H a = some (.dK kvs)) : TyOf K H (.ref a) (.type "dict")
  | dT {a : Addr} {kvs : List (List Key × V)} (e : H a = some (.dT kvs)) : TyOf K H (.ref a) (.type "dict")
  | ins {a C dx : Addr} {fs : List (Str × V)} (e : H a = some (.ins C dx fs)) (cl : Cls K C) (ha : PySem.W.findIn K (.ref C) "__class__" = some (some (.builtin "object.__class__")))
      (hn : PySem.W.specialIn K (.builtin "object.__class__") "__get__" = some (some (.builtin "getset_descriptor.__get__"))) (htk : PySem.W.takesIn K (.builtin "object.__class__") = some true)
      (hm : PySem.W.mroIn K C (.type "object") = some true) : TyOf K H (.ref a) (.ref C)
/-- isinstance(x, c) for one class c, a built-in or an own one: kitOne's answer -/
theorem isinst_ok {x : V} {u t : Value} (I : Inv X pins σ H s) (rx : RelV x u) (ty : TyOf X.K H x t) (e : PySem.W.kitOne X.K t c = some b) (h : ∀ tk, Q (.bool b) { s with toks := tk }) :
    wpAny (model X.prog X.w) A (call (.builtin "isinstance") [u, c]) Q E s := by
  cases ty with
  | non => cases (show u = Value.none from rx); exact PySem.W.kia_one PySem.W.kitx_none I.kIn True.intro e (fun z => nomatch z) h
  | bl y => cases (show u = Value.bool y from rx); exact PySem.W.kia_one PySem.W.kitx_bool I.kIn True.intro e (fun z => nomatch z) h
  | int i => obtain ⟨t, q⟩ := (show ∃ t, u = Value.int i t from rx); cases q; exact PySem.W.kia_one PySem.W.kitx_int I.kIn True.intro e (fun z => nomatch z) h
  | str y => obtain ⟨t, q⟩ := (show ∃ t, u = Value.str y t from rx); cases q; exact PySem.W.kia_one PySem.W.kitx_str I.kIn True.intro e (fun z => nomatch z) h
  | flt y => obtain ⟨t, q⟩ := (show ∃ t, u = Value.float y t from rx); cases q; exact PySem.W.kia_one PySem.W.kitx_float I.kIn True.intro e (fun z => nomatch z) h
  | @lst a xs ea =>
    cases (show u = Value.ref a from rx)
    obtain ⟨_, _, n, _, h1⟩ := (show ObjOk X.prog X.w H s.heap a (.lst xs) from I.hok a _ ea)
    exact PySem.W.kia_one PySem.W.kitx_list I.kIn ⟨_, h1, rfl⟩ e (fun z => nomatch z) h
  | @frz a ob xs ea =>
    cases (show u = Value.ref a from rx)
    obtain ⟨_, _, _, n, _, h1⟩ := (show ObjOk X.prog X.w H s.heap a (.frz ob (.lst xs)) from I.hok a _ ea)
    exact PySem.W.kia_one PySem.W.kitx_list I.kIn ⟨_, h1, rfl⟩ e (fun z => nomatch z) h
  | @tup a xs ea =>
    cases (show u = Value.ref a from rx)
    obtain ⟨_, _, _, p⟩ := (show ObjOk X.prog X.w H s.heap a (.tup xs) from I.hok a _ ea)
    obtain ⟨o, h1, h2, _⟩ := p
    exact PySem.W.kia_one PySem.W.kitx_tuple I.kIn ⟨o, h1, h2⟩ e (fun z => nomatch z) h
  | @dK a kvs ea =>
    cases (show u = Value.ref a from rx)
    obtain ⟨_, _, vs, _, p⟩ := (show ObjOk X.prog X.w H s.heap a (.dK kvs) from I.hok a _ ea)
    obtain ⟨o, es, ep, h1, h2, _⟩ := p
    exact PySem.W.kia_one PySem.W.kitx_dict I.kIn ⟨o, h1, h2.1⟩ e (fun z => nomatch z) h
  | @dT a kvs ea =>
    cases (show u = Value.ref a from rx)
    obtain ⟨_, _, xs, _, o, es, ep, h1, h2, _⟩ := (show ObjOk X.prog X.w H s.heap a (.dT kvs) from I.hok a _ ea)
    exact PySem.W.kia_one PySem.W.kitx_dict I.kIn ⟨o, h1, h2.1⟩ e (fun z => nomatch z) h
  | @ins a C dx fs ea cl ha hn htk hm =>
    cases (show u = Value.ref a from rx)
    obtain ⟨mA, O, _⟩ := ins_get I.hok ea
    obtain ⟨od, J, _⟩ := O.look
    exact PySem.W.kia_one (PySem.W.kitx_own (cl.get _) cl.hd ha hn htk hm) I.kIn J e (fun z => nomatch z) h
end
end L2

namespace L2
open PySem PySem.Spec PyProof.Rows

structure Room (k : Nat) (A : Around) : Prop where
  hd : A.handled = none
  dp : A.depth + 3 * k + 5 < recursionLimit
  un : A.units + 16 * k + 200 < cLine
theorem Room.mono {j k : Nat} {A : Around} (r : Room k A) (h : j ≤ k) : Room j A := ⟨r.hd, by have := r.dp; omega, by have := r.un; omega⟩
theorem Room.deeper {k : Nat} {A : Around} (r : Room (k + 1) A) (env : Env) : Room k (A.deeper env) :=
  ⟨r.hd, by have := r.dp; show A.depth + 1 + 3 * k + 5 < _; omega, by have := r.un; show A.units + 3 + 16 * k + 200 < _; omega⟩
theorem make_depth {A : Around} {C : Addr} {us : List Value} {kw : List (Str × Value)} : (A.under (.builtin "type.__call__" ⟨.ref C :: us, kw⟩)).depth = A.depth + 1 := by
  first | rfl | simp [Around.under, Code.weight, Code.isCreation, Code.isGuard, Code.isCaller, Code.frames, Code.isFrame, guardIds]
theorem make_units {A : Around} {C : Addr} {us : List Value} {kw : List (Str × Value)} : (A.under (.builtin "type.__call__" ⟨.ref C :: us, kw⟩)).units = A.units + 1 := by
  first | rfl | simp [Around.under, Code.cUnits, Code.frames, Code.isFrame]
theorem Room.make {k : Nat} {A : Around} (r : Room (k + 1) A) (C : Addr) (us : List Value) (kw : List (Str × Value)) : Room k (A.under (.builtin "type.__call__" ⟨.ref C :: us, kw⟩)) :=
  ⟨r.hd, by have := r.dp; rw [make_depth]; omega, by have := r.un; rw [make_units]; omega⟩
theorem Room.depth {k : Nat} {A : Around} (r : Room k A) : A.depth < recursionLimit := by have := r.dp; omega
theorem Room.units {k : Nat} {A : Around} (r : Room k A) : A.units + 64 < cLine := by have := r.un; omega
def tNil : TA := fun _ H Q => Q [] H
def tCons (ta : TE) (tr : TA) : TA := fun σ H Q => ta σ H fun x H1 => tr σ H1 fun xs H2 => Q (x :: xs) H2
section
variable {X : Cx} {e : Expr} {es : List Expr} {te : TE} {t : TA} {pos : Pos}
theorem pa_nil : PA X [] tNil := fun _ _ _ _ H Q I h => Calls.spliced_nil ⟨[], H, I, .nil, h⟩
theorem pa_cons (ha : PE X e te) (hr : PA X es t) (hs : starEach (e :: es) X.env = (false, eval e X.env) :: starEach es X.env := by rfl) : PA X (e :: es) (tCons te t) := by
  intro pos pins s σ H Q I h
  rw [hs]
  show wpAny _ _ (spliced ((false, eval e X.env) :: backTo pos (starEach es X.env))) _ _ s
  refine Calls.spliced_cons (thn (ha pins s σ H _ I h) fun u s1 ⟨x, H1, I1, r1, q1⟩ => ?_)
  exact thn (hr pos pins s1 σ H1 _ I1 q1) fun us s2 ⟨xs, H2, I2, r2, q2⟩ => ⟨x :: xs, H2, I2, .cons r1 r2, q2⟩

/-- a tuple, a list of written items -/
def tTup (t : TA) : TE := fun σ H Q => t σ H fun xs H1 => xs.length ≤ sizeLine ∧ ∀ p, H1 p = none → Q (.ref p) (upd H1 p (.tup xs))
def tLst (t : TA) : TE := fun σ H Q => t σ H fun xs H1 => xs.length ≤ sizeLine ∧ ∀ p, H1 p = none → Q (.ref p) (upd H1 p (.lst xs))
theorem pe_tup {x1} (h : PA X es t) : PE X (.Tuple es x1 pos) (tTup t) := by
  intro pins s σ H Q I hq
  refine wpAny_Tuple_spliced (thn (h pos pins s σ H _ I hq) fun us s1 ⟨xs, H1, I1, r, z, q⟩ => ⟨by rw [← r.length]; exact z, ?_⟩)
  have hf : H1 s1.heap.objs.size = none := I1.hok.fresh (Nat.le_refl _)
  refine ⟨.ref s1.heap.objs.size, upd H1 s1.heap.objs.size (.tup xs), I1.laid (t' := s1.toks) (fun b u e => Heap.get?_push_of_some _ e) (Nat.le_refl _) ?_, rfl, q _ hf⟩
  exact ⟨z, us, r, ⟨_, Heap.get?_push_size _ rfl, rfl, _, rfl⟩⟩
theorem pe_lst (h : PA X es t) : PE X (.List es pos) (tLst t) := by
  intro pins s σ H Q I hq
  refine wpAny_List_spliced (thn (h pos pins s σ H _ I hq) fun us s1 ⟨xs, H1, I1, r, z, q⟩ => ⟨by rw [← r.length]; exact z, ?_⟩)
  have hf : H1 s1.heap.objs.size = none := I1.hok.fresh (Nat.le_refl _)
  refine ⟨.ref s1.heap.objs.size, upd H1 s1.heap.objs.size (.lst xs), I1.laid (t' := s1.toks) (fun b u e => Heap.get?_push_of_some _ e) (Nat.le_refl _) ?_, rfl, q _ hf⟩
  exact ⟨z, us, 0, r, Heap.get?_push_size _ rfl⟩
end

/-- a def's promise: the bound arguments in the parameters' order, the heap, the wanted end, the wanted exception -/
abbrev Sp := List V → Hp → VK → XK → Prop
/-- how an exception lies behind a call (file 08 gives it): the callers' frames, abstract heap and state ahead of the call, the wish, the exception, the state -/
abbrev CXT := List Env → Hp → Shared → XK → Value → Shared → Prop

/-- the state at a call -/
structure Env0 (P : Program) (w : World) (K : PySem.W.Frag) (mg : Str → Option Value) (base : Heap) (A : Around) (outer : List Env) (s : Shared) (H : Hp) : Prop where
  frames : A.frames = some outer
  mod : Mod K mg base
  bs : ∀ b o, base.get? b = some o → s.heap.get? b = some o ∧ H b = none
  bsz : base.objs.size ≤ s.heap.objs.size
  funs : s.heap.FunFrames base outer
  frf : ∀ b ∈ frs outer, H b = none
  hok : HOk P w H s.heap
  bare : AllBare s.gens
/-- a call's end -/
def CE (outer : List Env) (P : Program) (w : World) (H : Hp) (s : Shared) (Q : VK) (u : Value) (s' : Shared) : Prop :=
  ∃ v H', s'.os = s.os ∧ AllBare s'.gens ∧ Un (frs outer) [] H H' s.heap s'.heap ∧ HOk P w H' s'.heap ∧ RelV v u ∧ Q v H'
def CR (CX : CXT) (outer : List Env) (P : Program) (w : World) (H : Hp) (s : Shared) (Q : VK) (E : XK) (r : Result) (s' : Shared) : Prop :=
  match r with
  | .ok (.ret u) => CE outer P w H s Q u s'
  | .ok _ => False
  | .error e => CX outer H s E e s'
structure FnOk (P : Program) (w : World) (K : PySem.W.Frag) (mg : Str → Option Value) (base : Heap) (CX : CXT) (k : Nat) (f : Addr) (fd : FuncData) (ps : List Str) (sp : Sp) : Prop where
  len : ∀ vs H Q E, sp vs H Q E → vs.length = ps.length
  run : ∀ (A : Around) (outer : List Env) (s : Shared) (H : Hp) (args : Args) (us : List Value) (vs : List V) (Q : VK) (E : XK), Room k A → Env0 P w K mg base A outer s H → BindsTo s fd args (ps.zip us) → Vals vs us → sp vs H Q E →
    codeAny (model P w) A (.call (.ref f) args) (CR CX outer P w H s Q E) s
theorem Env0.make {P : Program} {w : World} {K : PySem.W.Frag} {mg : Str → Option Value} {base : Heap} {A : Around} {outer : List Env} {s : Shared} {H : Hp} (e : Env0 P w K mg base A outer s H) (C : Addr) (us : List Value) (kw : List (Str × Value)) :
    Env0 P w K mg base (A.under (.builtin "type.__call__" ⟨.ref C :: us, kw⟩)) outer s H := ⟨by first | exact e.frames | (simpa [Around.under, Code.envs, Code.isFrame, pushEnvs] using e.frames), e.mod, e.bs, e.bsz, e.funs, e.frf, e.hok, e.bare⟩
section
variable {X : Cx} {pins : List (Addr × Obj)} {σ : St} {H : Hp} {s s' : Shared}
/-- from a body: what a callee wants -/
theorem Inv.env0 (I : Inv X pins σ H s) : Env0 X.prog X.w X.K X.mg X.base X.A X.stack s H :=
  ⟨I.ok.frames, I.ok.mod, I.bs, Nat.le_trans I.ok.bsz I.sz, I.stack, I.stkFree, I.hok, I.bare⟩
/-- behind a call -/
theorem Inv.after {Q : VK} {u : Value} (I : Inv X pins σ H s) (h : CE X.stack X.prog X.w H s Q u s') : EP X pins σ Q u s' := by
  obtain ⟨v, H', os, bare, un, hok, r, q⟩ := h
  obtain ⟨hh, g, d, t, os'⟩ := s'
  obtain rfl : os' = s.os := os
  exact ⟨v, H', I.call (h' := hh) (g' := g) (d' := d) (t' := t) (ch := []) un hok bare (fun b z => absurd z (by simp)), r, q⟩
end

/-- f(..): the written arguments, then the defaults dvs; E: what is wanted of an exception -/
def tCall (sp : Sp) (dvs : List V) (E : XK) (t : TA) : TE := fun σ H Q => t σ H fun vs H1 => sp (vs ++ dvs) H1 Q E
/-- o.m(..) of an instance of the class at C -/
def tMeth (C : Addr) (m : Str) (sp : Sp) (dvs : List V) (E : XK) (ta : TE) (t : TA) : TE := fun σ H Q => ta σ H fun x H1 => ∃ a dx fs, x = .ref a ∧ H1 a = some (.ins C dx fs) ∧ fs.lookup m = none ∧
  t σ H1 fun vs H2 => sp (x :: (vs ++ dvs)) H2 Q E
/-- C(..): a new instance and its dict, then __init__ -/
def tMake (C : Addr) (sp : Sp) (dvs : List V) (E : XK) (t : TA) : TE := fun σ H Q => t σ H fun vs H1 => ∀ x dx, H1 x = none → H1 dx = none → dx ≠ x →
  sp (.ref x :: (vs ++ dvs)) (upd (upd H1 dx (.own x)) x (.ins C dx [])) (fun v H2 => v = .non ∧ Q (.ref x) H2) E

/-- how the parameters are bound: us the positional arguments, kw the keywords' values by name, ds the defaults that fill up -/
def Binds (K : PySem.W.Frag) (fd : FuncData) (ps : List Str) (ds : List Value) : Prop :=
  ∀ (s : Shared) (us : List Value), K.In s.heap → (us ++ ds).length = ps.length → BindsTo s fd ⟨us, []⟩ (ps.zip (us ++ ds))
/-- every parameter is given -/
theorem Binds.all {K : PySem.W.Frag} {fd : FuncData} {ps : List Str} (h : ∀ us : List Value, us.length = ps.length → bindArgs fd ⟨us, []⟩ = pure (ps.zip us)) : Binds K fd ps [] := fun s us _ hl => by
  rw [List.append_nil] at hl ⊢
  exact .of_eq (h us hl)

/-- an exception of a callee reaches what this body wants of exceptions -/
def Passes (CX : CXT) (X : Cx) (E : XK) : Prop := ∀ (pins : List (Addr × Obj)) (σ : St) (H : Hp) (s : Shared) (e : Value) (s' : Shared), Inv X pins σ H s → CX X.stack H s E e s' → X.xe e s'

section
variable {X : Cx} {CX : CXT} {k : Nat} {f C : Addr} {fd : FuncData} {ps : List Str} {sp : Sp} {dvs : List V} {ds : List Value} {E : XK} {x m : Str} {p pos apos : Pos} {e o : Expr} {es : List Expr} {ta : TE} {t : TA}

/-- the callee runs -/
theorem run_fn {pins : List (Addr × Obj)} {σ : St} {H : Hp} {s : Shared} {Q : VK} {us : List Value} {vs : List V} (F : FnOk X.prog X.w X.K X.mg X.base CX k f fd ps sp) (hr : Room k X.A) (hb : Binds X.K fd ps ds) (hd : Vals dvs ds) (hx : Passes CX X E)
    (I : Inv X pins σ H s) (r : Vals vs us) (h : sp (vs ++ dvs) H Q E) : wpAny (model X.prog X.w) X.A (call (.ref f) us) (EP X pins σ Q) X.xe s := by
  have r2 : Vals (vs ++ dvs) (us ++ ds) := r.append hd
  have hl : (us ++ ds).length = ps.length := by rw [← r2.length]; exact F.len _ _ _ _ h
  refine wpAny_call (codeAny_mono (F.run X.A X.stack s H ⟨us, []⟩ (us ++ ds) (vs ++ dvs) Q E hr I.env0 (hb s us I.kIn hl) r2 h) fun r s' hq => ?_)
  cases r with
  | error e => exact hx pins σ H s e s' I hq
  | ok fl =>
    cases fl with
    | ret u => exact I.after hq
    | next => exact False.elim hq
    | brk => exact False.elim hq
    | cont => exact False.elim hq

theorem pe_call (F : FnOk X.prog X.w X.K X.mg X.base CX k f fd ps sp) (hr : Room k X.A) (hg : Gl X x) (hm : X.mg x = some (.ref f)) (hk : PySem.W.keepIn X.K (.ref f) = true) (hb : Binds X.K fd ps ds) (hd : Vals dvs ds) (hx : Passes CX X E)
    (ha : PA X (e :: es) t) (hdb : (x == ("__debug__" : Str)) = false := by decide) (he : starEach (e :: es) X.env = (false, eval e X.env) :: starEach es X.env := by rfl) (hpl : (backTo pos (starEach es X.env)).any (·.1) = false := by rfl) :
    PE X (.Call (.Name x p) (e :: es) [] pos) (tCall sp dvs E t) := by
  intro pins s σ H Q I h
  refine wpAny_Call_Name_kw (ld_glob I hg hm ?_ hdb)
  refine PySem.W.callWith_K (h₀ := X.base) I.ok.mod.kin hk (thn (ha pos pins s σ H _ I h) fun us s1 ⟨vs, H1, I1, r, q⟩ => ⟨I1.kIn, ?_⟩) he hpl
  exact run_fn F hr hb hd hx I1 r q
/-- o.m(e, ..) -/
theorem pe_meth {pl : Sem Bool} (he : PE X o ta) (c : Cls X.K C) (hm : Meth X.K C m f) (F : FnOk X.prog X.w X.K X.mg X.base CX k f fd ps sp) (hr : Room k X.A) (hb : Binds X.K fd ps ds) (hd : Vals dvs ds) (hx : Passes CX X E) (ha : PA X (e :: es) t)
    (hst : starEach (e :: es) X.env = (false, eval e X.env) :: starEach es X.env := by rfl) (hpl : (backTo pos (starEach es X.env)).any (·.1) = false := by rfl)
    (ht : eval (.Call (.Attribute o m apos) (e :: es) [] pos) X.env = (do
      let ov ← eval o X.env
      standAt apos.atName
      let (f, first) ← holding [ov] (getMethod ov m pl)
      callWith pos f first (backTo pos (starEach (e :: es) X.env)) (backToKw pos (keywordEach [] X.env))) := by rfl) :
    PE X (.Call (.Attribute o m apos) (e :: es) [] pos) (tMeth C m sp dvs E ta t) := by
  intro pins s σ H Q I h
  refine PySem.W.methodCall_KW (pl := pl) (thn (he pins s σ H _ I h) fun u s1 ⟨x, H1, I1, rx, a, dx, fs, ex, ea, l, q⟩ => ?_) ht
  subst ex
  obtain rfl : u = Value.ref a := rx
  refine getmeth_ok I1 ea c hm l ?_
  refine PySem.W.callWith_K (first := [.ref a]) (h₀ := X.base) I.ok.mod.kin hm.kp (thn (ha pos pins s1 σ H1 _ I1 q) fun us s2 ⟨vs, H2, I2, r, q2⟩ => ⟨I2.kIn, ?_⟩) hst hpl
  exact run_fn (us := .ref a :: us) (vs := .ref a :: vs) F hr hb hd hx I2 (.cons rfl r) q2
/-- o.m() -/
theorem pe_meth0 {pl : Sem Bool} (he : PE X o ta) (c : Cls X.K C) (hm : Meth X.K C m f) (F : FnOk X.prog X.w X.K X.mg X.base CX k f fd ps sp) (hr : Room k X.A) (hb : Binds X.K fd ps ds) (hd : Vals dvs ds) (hx : Passes CX X E)
    (ht : eval (.Call (.Attribute o m apos) [] [] pos) X.env = (do
      let ov ← eval o X.env
      standAt apos.atName
      let (f, first) ← holding [ov] (getMethod ov m pl)
      callWith pos f first (backTo pos (starEach [] X.env)) (backToKw pos (keywordEach [] X.env))) := by rfl) :
    PE X (.Call (.Attribute o m apos) [] [] pos) (tMeth C m sp dvs E ta tNil) := by
  intro pins s σ H Q I h
  refine PySem.W.methodCall_KW (pl := pl) (thn (he pins s σ H _ I h) fun u s1 ⟨x, H1, I1, rx, a, dx, fs, ex, ea, l, q⟩ => ?_) ht
  subst ex
  obtain rfl : u = Value.ref a := rx
  refine getmeth_ok I1 ea c hm l ?_
  exact PySem.W.callWith_K0 (first := [.ref a]) I1.kIn hm.kp (run_fn (us := [.ref a]) (vs := [.ref a]) F hr hb hd hx I1 (.cons rfl .nil) q)

/-- what a class must have to be made -/
structure Mk (K : PySem.W.Frag) (C f : Addr) : Prop where
  makes : PySem.W.makesIn K C = true
  init : PySem.W.findIn K (.ref C) "__init__" = some (some (.ref f))
  fn : PySem.W.isFn K (.ref f) = true
  kp : PySem.W.keepIn K (.ref C) = true

theorem run_make {pins : List (Addr × Obj)} {σ : St} {H : Hp} {s : Shared} {Q : VK} {us : List Value} {vs : List V} (M : Mk X.K C f) (F : FnOk X.prog X.w X.K X.mg X.base CX k f fd ps sp) (hr : Room (k + 1) X.A) (hb : Binds X.K fd ps ds) (hd : Vals dvs ds)
    (hx : Passes CX X E) (I : Inv X pins σ H s) (r : Vals vs us)
    (h : ∀ x dx, H x = none → H dx = none → dx ≠ x → sp (.ref x :: (vs ++ dvs)) (upd (upd H dx (.own x)) x (.ins C dx [])) (fun v H2 => v = .non ∧ Q (.ref x) H2) E) :
    wpAny (model X.prog X.w) X.A (call (.ref C) us) (EP X pins σ Q) X.xe s := by
  have hq := h (s.heap.objs.size + 1) s.heap.objs.size (I.hok.fresh (Nat.le_succ _)) (I.hok.fresh (Nat.le_refl _)) (Nat.ne_of_lt (Nat.lt_succ_self _))
  have I2 := Inv.made (C := C) I
  have r2 : Vals (V.ref (s.heap.objs.size + 1) :: (vs ++ dvs)) (Value.ref (s.heap.objs.size + 1) :: (us ++ ds)) := .cons rfl (r.append hd)
  have hl : (Value.ref (s.heap.objs.size + 1) :: us ++ ds).length = ps.length := by
    have e := r2.length
    rw [F.len _ _ _ _ hq] at e
    exact e.symm
  refine wpAny_call (make_map (f := f) I.kIn M.makes M.init (beq_iff_eq.mp M.fn) (codeAny_mono (F.run _ X.stack _ _ ⟨Value.ref (s.heap.objs.size + 1) :: us, []⟩ (Value.ref (s.heap.objs.size + 1) :: (us ++ ds)) _ _ E (hr.make C us [])
    (I2.env0.make C us []) (hb _ (Value.ref (s.heap.objs.size + 1) :: us) I2.kIn hl) r2 hq) fun r s' hq' => ?_))
  cases r with
  | error e => exact hx pins σ _ _ e s' I2 hq'
  | ok fl =>
    cases fl with
    | ret u =>
      obtain ⟨v, H', I3, rv, ev, q3⟩ := I2.after hq'
      subst ev
      exact ⟨rv, ⟨V.ref (s.heap.objs.size + 1), H', I3, rfl, q3⟩⟩
    | next => exact False.elim hq'
    | brk => exact False.elim hq'
    | cont => exact False.elim hq'
theorem pe_make (M : Mk X.K C f) (F : FnOk X.prog X.w X.K X.mg X.base CX k f fd ps sp) (hr : Room (k + 1) X.A) (hg : Gl X x) (hm : X.mg x = some (.ref C)) (hb : Binds X.K fd ps ds) (hd : Vals dvs ds) (hx : Passes CX X E)
    (ha : PA X (e :: es) t) (hdb : (x == ("__debug__" : Str)) = false := by decide) (he : starEach (e :: es) X.env = (false, eval e X.env) :: starEach es X.env := by rfl) (hpl : (backTo pos (starEach es X.env)).any (·.1) = false := by rfl) :
    PE X (.Call (.Name x p) (e :: es) [] pos) (tMake C sp dvs E t) := by
  intro pins s σ H Q I h
  refine wpAny_Call_Name_kw (ld_glob I hg hm ?_ hdb)
  refine PySem.W.callWith_K (h₀ := X.base) I.ok.mod.kin M.kp (thn (ha pos pins s σ H _ I h) fun us s1 ⟨vs, H1, I1, r, q⟩ => ⟨I1.kIn, ?_⟩) he hpl
  exact run_make M F hr hb hd hx I1 r q
end

section
variable {X : Cx} {CX : CXT} {k : Nat} {f C : Addr} {fd : FuncData} {ps ks : List Str} {sp : Sp} {E : XK} {x m : Str} {p pos apos kpos : Pos} {e o : Expr} {es : List Expr} {kws : List Keyword} {te ta : TE} {t tk : TA} {nm : Option Str}
variable {g : List Value → List Value → List Value} {gV : List V → List V → List V}
end

/-- names: the parameters first -/
structure FnScope (N P : List Str) (sc : Scope) : Prop where
  kind : sc.kind = .function
  co : sc.isCoroutine = false
  gen : sc.isGenerator = false
  nd : N.Nodup
  pre : N.take P.length = P
  par : ∀ x ∈ P, sc.names.lookup x = some .local ∨ sc.names.lookup x = some .cell
  nofree : ∀ y ∈ sc.names, y.2 ≠ .free

theorem bindL_out {kindOf : Str → Option NameKind} {x : Str} : ∀ {binds : List (Str × Value)} {m : Str → Option Value}, (∀ v, (x, v) ∉ binds) → bindL kindOf binds m x = m x
  | [], _, _ => rfl
  | (n, v) :: r, m, h => by
    unfold bindL
    rw [bindL_out fun w hw => h w (List.mem_cons_of_mem _ hw)]
    split
    · have : x ≠ n := by rintro rfl; exact h v List.mem_cons_self
      simp [this]
    · rfl
theorem bindC_out {kindOf : Str → Option NameKind} {x : Str} : ∀ {binds : List (Str × Value)} {m : Str → Option Value}, (∀ v, (x, v) ∉ binds) → bindC kindOf binds m x = m x
  | [], _, _ => rfl
  | (n, v) :: r, m, h => by
    unfold bindC
    rw [bindC_out fun w hw => h w (List.mem_cons_of_mem _ hw)]
    split
    · rfl
    · have : x ≠ n := by rintro rfl; exact h v List.mem_cons_self
      simp [this]
theorem bindL_get {kindOf : Str → Option NameKind} {x : Str} {v : Value} : ∀ {P : List Str} {vs : List Value} {i : Nat} {m : Str → Option Value}, P.Nodup → P[i]? = some x → vs[i]? = some v → kindOf x = some .local →
    bindL kindOf (P.zip vs) m x = some v
  | [], _, _, _, _, h, _, _ => by simp at h
  | _ :: _, [], _, _, _, _, h, _ => by simp at h
  | p :: P, w :: vs, 0, m, nd, h1, h2, hk => by
    simp at h1 h2; subst h1; subst h2
    show bindL kindOf ((p, w) :: P.zip vs) m p = _
    unfold bindL
    rw [bindL_out fun v hv => (List.nodup_cons.mp nd).1 (List.of_mem_zip hv).1, if_pos hk]
    simp
  | p :: P, w :: vs, i + 1, m, nd, h1, h2, hk => by
    show bindL kindOf ((p, w) :: P.zip vs) m x = _
    unfold bindL
    exact bindL_get (i := i) (List.nodup_cons.mp nd).2 (by simpa using h1) (by simpa using h2) hk
theorem bindC_get {kindOf : Str → Option NameKind} {x : Str} {v : Value} : ∀ {P : List Str} {vs : List Value} {i : Nat} {m : Str → Option Value}, P.Nodup → P[i]? = some x → vs[i]? = some v → kindOf x ≠ some .local →
    bindC kindOf (P.zip vs) m x = some v
  | [], _, _, _, _, h, _, _ => by simp at h
  | _ :: _, [], _, _, _, _, h, _ => by simp at h
  | p :: P, w :: vs, 0, m, nd, h1, h2, hk => by
    simp at h1 h2; subst h1; subst h2
    show bindC kindOf ((p, w) :: P.zip vs) m p = _
    unfold bindC
    rw [bindC_out fun v hv => (List.nodup_cons.mp nd).1 (List.of_mem_zip hv).1, if_neg hk]
    simp
  | p :: P, w :: vs, i + 1, m, nd, h1, h2, hk => by
    show bindC kindOf ((p, w) :: P.zip vs) m x = _
    unfold bindC
    exact bindC_get (i := i) (List.nodup_cons.mp nd).2 (by simpa using h1) (by simpa using h2) hk

/-- the names' values at the entry -/
def start (N : List Str) (vs : List V) : St := vs.map some ++ List.replicate (N.length - vs.length) none

/-- the context of a def's body, at its entry; an exception leaves the frame, then lies as CX says -/
def cxOf (CX : CXT) (P : Program) (w : World) (K : PySem.W.Frag) (mg : Str → Option Value) (base : Heap) (N : List Str) (qual : Str) (scope : Scope) (f : Addr) (cd : Value) (A : Around) (outer : List Env) (s : Shared) (H : Hp) (E : XK) : Cx where
  prog := P
  w := w
  K := K
  mg := mg
  base := base
  A := A.deeper (envOfC qual scope s.heap.objs.size f cd)
  N := N
  s₀ := s
  H₀ := H
  env := envOfC qual scope s.heap.objs.size f cd
  outer := outer
  stack := envOfC qual scope s.heap.objs.size f cd :: outer
  ex := []
  calm := true
  fn := fun _ => true
  pn := []
  xe := fun e s' => wpAny (model P w) (A.deeper (envOfC qual scope s.heap.objs.size f cd)) (leaving (envOfC qual scope s.heap.objs.size f cd) e) (fun _ s'' => CX outer H s E e s'') (fun e' s'' => CX outer H s E e' s'') s'

theorem cell_has {sc : Scope} {n : Nat} {x : Str} (h : sc.names.lookup x = some .cell) : ∃ c, (cellsFrom n sc.names []).lookup x = some c := by
  have q := PySem.W.cellsFrom_some sc.names n [] (.inl h)
  exact Option.isSome_iff_exists.mp q

theorem inv_start {CX : CXT} {P : Program} {w : World} {K : PySem.W.Frag} {mg : Str → Option Value} {base : Heap} {N ps : List Str} {qual : Str} {scope : Scope} {f : Addr} {cd : Value} {A : Around} {outer : List Env} {s s1 : Shared} {H : Hp} {E : XK} {us : List Value} {vs : List V}
    (S : FnScope N ps scope) (hd : A.handled = none) (e0 : Env0 P w K mg base A outer s H) (hl : vs.length = ps.length) (r : Vals vs us)
    (x : InCallC s s.heap.objs.size (bindL (envOfC qual scope s.heap.objs.size f cd).kindOf (ps.zip us) fun _ => none) (cellsFrom (s.heap.objs.size + 1) scope.names []) (bindC (envOfC qual scope s.heap.objs.size f cd).kindOf (ps.zip us) fun _ => none) s1) :
    Inv (cxOf CX P w K mg base N qual scope f cd A outer s H E) [] (start N vs) H s1 := by
  have hpl : ps.length ≤ N.length := by have := congrArg List.length S.pre; rw [List.length_take] at this; omega
  obtain ⟨h1, tk, rfl, hk⟩ := x.done
  have noA : ∀ b : Addr, b ∉ (cxOf CX P w K mg base N qual scope f cd A outer s H E).ex := fun b z => absurd (show b ∈ ([] : List Addr) from z) (by simp)
  refine ⟨⟨e0.mod, S.kind, rfl, rfl, Nat.le_refl _, fun y z c h1 h2 => ?_, fun y hy => ?_, fun y c _ h => ?_, fun _ => hd, Around.frames_deeper e0.frames, .inr ⟨rfl, rfl⟩, fun b z => absurd z (noA b), e0.bs, e0.bsz, fun b _ _ => noA b, fun b z => absurd z (noA b), e0.funs, e0.frf⟩,
    rfl, e0.bare, Un.kept hk, ⟨_, x.toInCall.ns, fun i y v h1 h2 h3 => ?_⟩, fun y c h => ⟨_, x.cell y c h⟩, e0.hok.fresh (Nat.le_refl _), fun y c h => ?_, fun p hp => absurd (show p ∈ ([] : List (Addr × Obj)) from hp) (by simp), e0.hok.kept hk, ?_⟩
  · exact name_of_addr x.apart (PySem.mem_of_lookup h1) (PySem.mem_of_lookup h2)
  · have hy : scope.names.lookup y = some .cell ∨ scope.names.lookup y = some .free := hy
    rcases hy with hy | hy
    · exact cell_has hy
    · exact absurd rfl (S.nofree _ (PySem.mem_of_lookup hy))
  · exact Nat.le_of_lt (x.above y c (PySem.mem_of_lookup h))
  · have hi : i < vs.length := by
      unfold start at h2
      by_cases hi : i < vs.length
      · exact hi
      · rw [List.getElem?_append_right (by simpa using hi)] at h2
        rw [List.getElem?_replicate] at h2
        split at h2 <;> cases h2
    have ha : vs[i]? = some v := by
      unfold start at h2
      rw [List.getElem?_append_left (by simpa using hi), List.getElem?_map] at h2
      cases e : vs[i]? with
      | none => rw [e] at h2; cases h2
      | some a => rw [e] at h2; cases h2; rfl
    obtain ⟨u, hu, rv⟩ := r.get ha
    have hp : ps[i]? = some y := by
      rw [← S.pre, List.getElem?_take_of_lt (by omega)]; exact h1
    have ndP : ps.Nodup := by rw [← S.pre]; exact S.nd.sublist (List.take_sublist _ _)
    refine ⟨u, rv, ?_⟩
    rcases S.par y (List.mem_of_getElem? hp) with k | k
    · exact .inl ⟨k, bindL_get ndP hp hu k⟩
    · obtain ⟨c, e⟩ := cell_has (n := s.heap.objs.size + 1) k
      refine .inr ⟨.inl k, c, e, ?_⟩
      have q := x.cell y c e
      rw [bindC_get ndP hp hu (by show scope.names.lookup y ≠ _; rw [k]; decide)] at q
      exact q
  · exact e0.hok.fresh (Nat.le_of_lt (x.above y c (PySem.mem_of_lookup h)))
  · unfold start
    show _ = N.length
    rw [List.length_append, List.length_map, List.length_replicate]
    omega

/-- THE RULE: a def (or a method) of the text, by its body. The body's reading t is chosen for each entry; it is run at the parameters' values -/
theorem fn_of {CX : CXT} {P : Program} {w : World} {K : PySem.W.Frag} {mg : Str → Option Value} {base : Heap} {k : Nat} {f : Addr} {name qual : Str} {params : Arguments} {body : List Stmt} {scope : Scope} {dV kV doc pm cdv ct oc : Value} {an od : Option Addr}
    {osl : Array (Option Value)} {N ps : List Str} {sp : Sp} (lk : K.lookup f = some ⟨oc, od, .func (PySem.W.fnOf name qual params body scope dV kV doc pm an cdv ct), osl⟩) (hcd : PySem.W.codeIn K cdv qual = true) (S : FnScope N ps scope)
    (len : ∀ vs H Q E, sp vs H Q E → vs.length = ps.length)
    (hbody : ∀ (A : Around) (outer : List Env) (s : Shared) (H : Hp) (vs : List V) (Q : VK) (E : XK), Room k (A.deeper (envOfC qual scope s.heap.objs.size f cdv)) → sp vs H Q E →
      ∃ t, PSs (cxOf CX P w K mg base N qual scope f cdv A outer s H E) body t ∧ t { nx := fun _ H' => Q .non H', rt := Q } (start N vs) H) :
    FnOk P w K mg base CX (k + 1) f (PySem.W.fnOf name qual params body scope dV kV doc pm an cdv ct) ps sp := by
  refine ⟨len, fun A outer s H args us vs Q E hr e0 hb r hsp => ?_⟩
  have hl := len _ _ _ _ hsp
  have KX : K.In s.heap := e0.mod.kin.keeps fun b o e => (e0.bs b o e).1
  have lim : s.heap.NoLimit := e0.mod.nolimit.keeps fun b o e => (e0.bs b o e).1
  have hkind : ∀ y ∈ ps.zip us, scope.names.lookup y.1 = some .local ∨ (scope.names.lookup y.1 = some .cell ∧ ((cellsFrom (s.heap.objs.size + 1) scope.names []).lookup y.1).isSome = true) := fun ⟨n, v⟩ hy => by
    rcases S.par n (List.of_mem_zip hy).1 with q | q
    · exact .inl q
    · exact .inr ⟨q, PySem.W.cellsFrom_some _ _ _ (.inl q)⟩
  refine codeAny_call_function hr.depth (KX _ _ lk) rfl S.co S.gen rfl (PySem.W.codeRec_of KX hcd) (hb _ _ _ _ ?_)
  refine wpAny_newFunctionEnv_cells S.kind hkind fun env he s1 x => ?_
  subst he
  refine ⟨lim.keeps x.toInCall.keep, codeAny_func ?_⟩
  obtain ⟨t, ht, hq⟩ := hbody A outer s H vs Q E (hr.deeper _) hsp
  have I : Inv (cxOf CX P w K mg base N qual scope f cdv A outer s H E) [] (start N vs) H s1 := inv_start S hr.hd e0 hl r x
  refine wpAny_mono (ht [] s1 (start N vs) H _ I hq) (fun fl s' hs => ?_) fun e s' hs => hs
  have fin : ∀ {σ' : St} {H' : Hp} {v : V} {u : Value}, Inv (cxOf CX P w K mg base N qual scope f cdv A outer s H E) [] σ' H' s' → RelV v u → Q v H' → CE outer P w H s Q u s' :=
    fun {σ' H' v u} J rv q => ⟨v, H', J.os, J.bare, J.base, J.hok, rv, q⟩
  cases fl with
  | ret u =>
    obtain ⟨v, σ', H', J, rv, q⟩ := hs
    exact fin J rv q
  | next =>
    obtain ⟨σ', H', J, q⟩ := hs
    exact fin (v := V.non) (u := Value.none) J rfl q
  | brk =>
    obtain ⟨_, _, _, q⟩ := hs
    exact False.elim q
  | cont =>
    obtain ⟨_, _, _, q⟩ := hs
    exact False.elim q
end L2

namespace L2
open PySem PySem.Spec PyProof.Rows
section
variable {X : Cx} {x : Str} {p pos : Pos} {e : Expr} {es : List Expr} {t : TA} {id T : String} {r : List V → Hp → VK → Prop}

def tCB (r : List V → Hp → VK → Prop) (t : TA) : TE := fun σ H Q => t σ H fun vs H1 => r vs H1 Q
/-- f(e, ..), f a built-in function -/
theorem pe_callB (hc : CallR X (.builtin id) r) (hg : Gl X x) (hm : X.mg x = none) (hv : bootBuiltins x = some (.builtin id)) (ha : PA X (e :: es) t) (hn : x ≠ "__name__" := by decide) (hdb : (x == ("__debug__" : Str)) = false := by decide)
    (he : starEach (e :: es) X.env = (false, eval e X.env) :: starEach es X.env := by rfl) (hpl : (backTo pos (starEach es X.env)).any (·.1) = false := by rfl) : PE X (.Call (.Name x p) (e :: es) [] pos) (tCB r t) := by
  intro pins s σ H Q I h
  refine wpAny_Call_Name_kw (ld_blt I hg hm hv ?_ hn hdb)
  exact PyProof.Rows.callWith_builtin1 (thn (ha pos pins s σ H _ I h) fun us s1 ⟨vs, H1, I1, r1, q1⟩ => hc pins s1 σ H1 vs us Q I1 r1 q1) he hpl
/-- T(e, ..), T a built-in type -/
theorem pe_callTy (hc : CallR X (.type T) r) (hg : Gl X x) (hm : X.mg x = none) (hv : bootBuiltins x = some (.type T)) (ha : PA X (e :: es) t) (hn : x ≠ "__name__" := by decide) (hdb : (x == ("__debug__" : Str)) = false := by decide)
    (he : starEach (e :: es) X.env = (false, eval e X.env) :: starEach es X.env := by rfl) (hpl : (backTo pos (starEach es X.env)).any (·.1) = false := by rfl) : PE X (.Call (.Name x p) (e :: es) [] pos) (tCB r t) := by
  intro pins s σ H Q I h
  refine wpAny_Call_Name_kw (ld_blt I hg hm hv ?_ hn hdb)
  exact PyProof.Rows.callWith_type1 (thn (ha pos pins s σ H _ I h) fun us s1 ⟨vs, H1, I1, r1, q1⟩ => hc pins s1 σ H1 vs us Q I1 r1 q1) he hpl
end
end L2

namespace HT
open PySem PyProof.Rows

section
open PySem.SeqAt
open PySem.AutoSeq1 (wpAny_loadPart')
open PySem.MeetsSeq PySem.MeetsSeq2 PySem.MeetsSeq3

end

section
variable {prog : Program} {w : World} {A : Around} {E : Value → Shared → Prop} {s : Shared}

/-- a slice's bound as a place among n (d where it is left out) -/
def sIx (n d : Nat) : Option Int → Nat
  | none => d
  | some v => if v < 0 then (v + (n : Int)).toNat else min v.toNat n
theorem sIx_none (n d : Nat) : sIx n d none = d := rfl
theorem sIx_nat (n d k : Nat) : sIx n d (some (k : Int)) = min k n := by
  show (if (k : Int) < 0 then ((k : Int) + (n : Int)).toNat else min (k : Int).toNat n) = min k n
  rw [if_neg (by omega), Int.toNat_natCast]
end
end HT

namespace L2
open PySem PySem.Spec PyProof.Rows

abbrev TO := St → Hp → (Option Int → Hp → Prop) → Prop
/-- a slice's part (left out, or an int) -/
def PO (X : Cx) (e : Option Expr) (t : TO) : Prop :=
  ∀ (pins : List (Addr × Obj)) (s : Shared) (σ : St) (H : Hp) (Q : Option Int → Hp → Prop), Inv X pins σ H s → t σ H Q →
    wpAny (model X.prog X.w) X.A (evalPart e X.env) (fun u s' => ∃ o H', Inv X pins σ H' s' ∧ IsPart u o ∧ Q o H') X.xe s
def tNoPart : TO := fun _ H Q => Q none H
def tPart (t : TE) : TO := fun σ H Q => t σ H fun x H1 => ∃ i, x = .int i ∧ Q (some i) H1

section
variable {X : Cx} {e : Expr} {te : TE} {lo hi : Option Expr} {tl th : TO} {pos p2 : Pos}

theorem po_none : PO X none tNoPart := by
  intro pins s σ H Q I h
  rw [evalPart_none]
  exact wpAny_pure ⟨none, H, I, .none, h⟩
theorem po_some (h : PE X e te) : PO X (some e) (tPart te) := by
  intro pins s σ H Q I hw
  rw [evalPart_some]
  refine thn (h pins s σ H _ I hw) fun u s1 ⟨x, H1, I1, r1, q1⟩ => ?_
  obtain ⟨i, rfl, q⟩ := q1
  obtain ⟨t, rfl⟩ := r1
  exact ⟨some i, H1, I1, .int i t, q⟩

/-- what a slice of a value is, by values: the slice object stands at sl -/
def SlR (X : Cx) (r : V → Option Int → Option Int → Hp → VK → Prop) : Prop :=
  ∀ (pins : List (Addr × Obj)) (s : Shared) (σ : St) (H : Hp) (x : V) (v vl vu : Value) (lo hi : Option Int) (sl : Addr) (Q : VK), Inv X pins σ H s → RelV x v → s.heap.IsSliceOf sl vl vu .none → IsPart vl lo → IsPart vu hi → r x lo hi H Q →
    ∃ T id, typeLookup (.type T) "__getitem__" = pure (some (.builtin id)) ∧ s.TypeIs v T ∧ wpAny (model X.prog X.w) X.A (getItem v (.ref sl)) (EP X pins σ Q) X.xe s
def tSl (r : V → Option Int → Option Int → Hp → VK → Prop) (te : TE) (tl th : TO) : TE := fun σ H Q => te σ H fun x H1 => tl σ H1 fun l H2 => th σ H2 fun u H3 => r x l u H3 Q
/-- a[lo:hi], any a -/
theorem pe_slice {r : V → Option Int → Option Int → Hp → VK → Prop} (hr : SlR X r) (he : PE X e te) (hl : PO X lo tl) (hu : PO X hi th) : PE X (.Subscript e (.Slice lo hi none p2) pos) (tSl r te tl th) := by
  intro pins s σ H Q I h
  refine Subscript_ (thn (he pins s σ H _ I h) fun v s1 ⟨x, H1, I1, r1, q1⟩ => ?_)
  refine wpAny_Slice (thn (hl pins s1 σ H1 _ I1 q1) fun vl s2 ⟨l, H2, I2, pl, q2⟩ => thn (hu pins s2 σ H2 _ I2 q2) fun vu s3 ⟨u, H3, I3, pu, q3⟩ => ?_)
  rw [evalPart_none]
  refine wpAny_pure ?_
  have I4 : Inv X pins σ H3 { s3 with heap := s3.heap.push { cls := .type "slice", data := .fields #[vl, vu, .none] } } := I3.kept (t' := s3.toks) fun b ob q => Heap.get?_push_of_some _ q
  obtain ⟨T, id, hT, ht, hg⟩ := hr pins { s3 with heap := s3.heap.push { cls := .type "slice", data := .fields #[vl, vu, .none] } } σ H3 x v vl vu l u s3.heap.objs.size Q I4 r1 (Heap.IsSliceOf.new ..) pl pu q3
  show wpAny (model X.prog X.w) X.A (subscriptTail e (.Slice lo hi none p2) v (.ref s3.heap.objs.size)) (EP X pins σ Q) X.xe { s3 with heap := s3.heap.push { cls := .type "slice", data := .fields #[vl, vu, .none] } }
  exact tail_any (ops := [.ref s3.heap.objs.size, v]) ht hT hg (by with_unfolding_all rfl)

/-- the items of xs[lo:hi] -/
def cutV (xs : List V) (lo hi : Option Int) : List V := (xs.drop (HT.sIx xs.length 0 lo)).take (HT.sIx xs.length xs.length hi - HT.sIx xs.length 0 lo)
theorem cutV_length (xs : List V) (lo hi : Option Int) : (cutV xs lo hi).length ≤ xs.length := by
  unfold cutV
  rw [List.length_take, List.length_drop]
  omega
end
end L2

namespace L2
open PySem PySem.Spec PyProof.Rows

/-- the place that an index of any sign means -/
def ixN (n : Nat) (i : Int) : Option Nat := if 0 ≤ i then (if i < n then some i.toNat else none) else if -(n : Int) ≤ i then some (i + n).toNat else none
def atI {α : Type} (xs : List α) (i : Int) : Option α := (ixN xs.length i).bind fun j => xs[j]?
theorem ixN_seq {n : Nat} {i : Int} {j : Nat} (h : ixN n i = some j) : seqIndex? i n = some j ∧ j < n ∧ -(n : Int) ≤ i ∧ i < n := by
  unfold ixN at h
  by_cases h0 : 0 ≤ i
  · rw [if_pos h0] at h
    by_cases h1 : i < n
    · rw [if_pos h1] at h
      have e : i.toNat = j := Option.some.inj h
      exact ⟨by rw [seqIndex_of h0 h1, e], by omega, by omega, h1⟩
    · rw [if_neg h1] at h; cases h
  · rw [if_neg h0] at h
    by_cases h1 : -(n : Int) ≤ i
    · rw [if_pos h1] at h
      have e : (i + n).toNat = j := Option.some.inj h
      exact ⟨by rw [seqIndex_neg (by omega) h1, e], by omega, h1, by omega⟩
    · rw [if_neg h1] at h; cases h
theorem atI_get {α : Type} {xs : List α} {i : Int} {v : α} (h : atI xs i = some v) : ∃ j, seqIndex? i xs.length = some j ∧ xs[j]? = some v ∧ j < xs.length ∧ -(xs.length : Int) ≤ i ∧ i < xs.length := by
  unfold atI at h
  cases e : ixN xs.length i with
  | none => rw [e] at h; cases h
  | some j =>
    rw [e] at h
    obtain ⟨h1, h2, h3, h4⟩ := ixN_seq e
    exact ⟨j, h1, h, h2, h3, h4⟩
theorem atI_nat {α : Type} {xs : List α} {j : Nat} {v : α} (h : xs[j]? = some v) : atI xs (j : Int) = some v := by
  have hj : j < xs.length := (List.getElem?_eq_some_iff.mp h).1
  have e : ixN xs.length (j : Int) = some j := by
    unfold ixN
    rw [if_pos (by omega), if_pos (by omega)]; simp
  unfold atI; rw [e]; exact h
/-- what stands as an index of a plain subscript -/
def PlainIx (b : Expr) : Prop := ∀ o i, subscripted b false o i = operate [o, i] (getItem o i)
/-- a subscript by values -/
def IxR (X : Cx) (r : R2) : Prop :=
  ∀ (value slice : Expr) (pins : List (Addr × Obj)) (s : Shared) (σ : St) (H : Hp) (x y : V) (v u : Value) (Q : VK), Inv X pins σ H s → RelV x v → RelV y u → r x y H Q →
    subscripted slice false v u = operate [v, u] (getItem v u) → wpAny (model X.prog X.w) X.A (subscriptTail value slice v u) (EP X pins σ Q) X.xe s
/-- a call of a builtin's method by values: the receiver, the arguments -/
def MtR (X : Cx) (id : String) (r : V → List V → Hp → VK → Prop) : Prop :=
  ∀ (pins : List (Addr × Obj)) (s : Shared) (σ : St) (H : Hp) (x : V) (xs : List V) (v : Value) (us : List Value) (Q : VK), Inv X pins σ H s → RelV x v → Vals xs us → r x xs H Q →
    wpAny (model X.prog X.w) X.A (call (.builtin id) (v :: us)) (EP X pins σ Q) X.xe s
section
variable {X : Cx} {a b : Expr} {ta tb : TE} {pos : Pos}
/-- a[b] -/
theorem pe_ix {r : R2} (hr : IxR X r) (ha : PE X a ta) (hb : PE X b tb) (hs : PlainIx b) : PE X (.Subscript a b pos) (tOp r ta tb) := by
  intro pins s σ H Q I h
  exact Subscript_ (binT ha hb I h fun v u s2 x y H2 I2 rx ry q => hr a b pins s2 σ H2 x y v u Q I2 rx ry q (hs _ _))

def rIxL (K : PySem.W.Frag) : R2 := fun x y H Q => ∃ p xs i v, x = .ref p ∧ y = .int i ∧ SqL K H p xs ∧ atI xs i = some v ∧ Q v H
def rIxT (K : PySem.W.Frag) : R2 := fun x y H Q => ∃ p xs i v, x = .ref p ∧ y = .int i ∧ SqT K H p xs ∧ atI xs i = some v ∧ Q v H
def rIxS : R2 := fun x y H Q => ∃ z i c, x = .str z ∧ y = .int i ∧ z.length ≤ sizeLine ∧ atI z.cps.toList i = some c ∧ Q (.str ⟨#[c]⟩) H
theorem ix_list : IxR X (rIxL X.K) := by
  intro value slice pins s σ H x y v u Q I rx ry h hs
  obtain ⟨p, xs, i, z, rfl, rfl, hq, he, q⟩ := h
  cases rx
  obtain ⟨t, rfl⟩ := ry
  obtain ⟨its, r, pl, hz⟩ := I.list hq
  obtain ⟨j, h1, h2, h3, h4, h5⟩ := atI_get he
  obtain ⟨w, ew, rw'⟩ := r.get h2
  have hl := r.length
  have hn := line63
  have fin : EP X pins σ Q w s := ⟨z, H, I, rw', q⟩
  by_cases h0 : 0 ≤ i
  · have hj : i.toNat = j := by
      rw [seqIndex_of h0 h5] at h1
      exact Option.some.inj h1
    exact item_listR pl.isList h0 (by omega) (by rw [hj]; simpa using ew) fin hs
  · have hj : (i + (its.toArray.size : Int)).toNat = j := by
      rw [seqIndex_neg (by omega) h4] at h1
      rw [List.size_toArray, ← hl]
      exact Option.some.inj h1
    exact subscriptTail_builtinR (x := w) pl.isList.typeIs slot_list_getitem.lookup
      (wpAny_getItem_list_neg (Q := fun r s' => r = w ∧ EP X pins σ Q r s') pl.isList (by omega) (by rw [List.size_toArray] <;> omega) (by omega) (by rw [hj]; simpa using ew) ⟨rfl, fin⟩) hs
theorem ix_tup : IxR X (rIxT X.K) := by
  intro value slice pins s σ H x y v u Q I rx ry h hs
  obtain ⟨p, xs, i, z, rfl, rfl, hq, he, q⟩ := h
  cases rx
  obtain ⟨t, rfl⟩ := ry
  obtain ⟨its, r, pl, hz⟩ := I.tuple hq
  obtain ⟨j, h1, h2, h3, h4, h5⟩ := atI_get he
  obtain ⟨w, ew, rw'⟩ := r.get h2
  have hl := r.length
  have hn := line63
  have fin : EP X pins σ Q w s := ⟨z, H, I, rw', q⟩
  exact subscriptTail_builtinR (x := w) pl.typeIs slot_tuple_getitem.lookup
    (getItem_tuple (j := j) (Q := fun r s' => r = w ∧ EP X pins σ Q r s') pl (by omega) (by omega) (by rw [List.size_toArray, ← hl]; exact h1) (by simpa using ew) ⟨rfl, fin⟩) hs
theorem ix_str : IxR X rIxS := by
  intro value slice pins s σ H x y v u Q I rx ry h hs
  obtain ⟨z, i, c, rfl, rfl, hz, he, q⟩ := h
  obtain ⟨t, rfl⟩ := rx
  obtain ⟨t', rfl⟩ := ry
  obtain ⟨j, h1, h2, h3, h4, h5⟩ := atI_get he
  have hl : z.cps.toList.length = z.length := by simp [Str.length]
  rw [hl] at h1 h4 h5
  have hn := line63
  exact tail_any (typeIs_str s z t) slot_str_getitem.lookup (getItem_str (c := c) (by
    have e1 : decide (i < -(2 ^ 63 : Int)) = false := decide_eq_false (by omega)
    have e2 : decide (i ≥ 2 ^ 63) = false := decide_eq_false (by omega)
    rw [e1, e2, Bool.or_false]) (by rw [h1]; simpa using h2) ⟨.str ⟨#[c]⟩, H, I.tok _, ⟨_, rfl⟩, q⟩) hs
/-- the list's object behind a store -/
theorem mapSeq_set (its : List Value) (n j : Nat) (u : Value) : Obj.mapSeq (·.setIfInBounds j u) { cls := .type "list", data := .seq its.toArray n } = { cls := .type "list", data := .seq (its.set j u).toArray n } := by
  simp [Obj.mapSeq]
theorem Inv.lst {pins : List (Addr × Obj)} {σ : St} {H : Hp} {s : Shared} {p : Addr} {xs : List V} (I : Inv X pins σ H s) (h : H p = some (.lst xs)) :
    ∃ (its : List Value) (n : Nat), Vals xs its ∧ s.heap.get? p = some { cls := .type "list", data := .seq its.toArray n } ∧ xs.length ≤ sizeLine := by
  obtain ⟨z, its, n, r, e⟩ := I.hok p _ h
  exact ⟨its, n, r, e, z⟩
/-- the list at p is written by an update of its object -/
theorem Inv.lstUpd {pins : List (Addr × Obj)} {σ : St} {H : Hp} {s : Shared} {p : Addr} {xs ys : List V} {its its' : List Value} {n n' : Nat} {f : Obj → Obj} (I : Inv X pins σ H s) (h : H p = some (.lst xs))
    (ho : s.heap.get? p = some { cls := .type "list", data := .seq its.toArray n }) (hf : f { cls := .type "list", data := .seq its.toArray n } = { cls := .type "list", data := .seq its'.toArray n' }) (r : Vals ys its') (hz : ys.length ≤ sizeLine) (t : Nat) :
    Inv X pins σ (upd H p (.lst ys)) { s with heap := s.heap.update p f, toks := t } := by
  have e : (s.heap.update p f).get? p = some { cls := .type "list", data := .seq its'.toArray n' } := by
    rw [Heap.get?_update_self f ho (by rw [hf] <;> rfl), hf]
  refine I.write (x := p) (e := p) (by rw [h]; trivial) (.inl rfl) (fun b u hb q => (Heap.get?_update_other _ _ (Ne.symm hb)).trans q) ⟨_, e⟩ ?_
  exact ⟨hz, its', n', r, e⟩
def rSetL : V → V → V → Hp → (Hp → Prop) → Prop := fun o i v H Q => ∃ p xs k j, o = .ref p ∧ i = .int k ∧ H p = some (.lst xs) ∧ ixN xs.length k = some j ∧ Q (upd H p (.lst (xs.set j v)))
theorem set_list : PSet X rSetL := by
  intro pins s σ H o i v ov iv u Q I ro ri rv h
  obtain ⟨p, xs, k, j, rfl, rfl, hp, hj, q⟩ := h
  cases ro
  obtain ⟨t, rfl⟩ := ri
  obtain ⟨its, n, r, ho, hz⟩ := I.lst hp
  obtain ⟨h1, h2, h3, h4⟩ := ixN_seq hj
  have hl := r.length
  have hn := line63
  have I' : Inv X pins σ (upd H p (.lst (xs.set j v))) { s with heap := s.heap.update p (Obj.mapSeq (·.setIfInBounds j u)) } :=
    I.lstUpd hp ho (mapSeq_set its n j u) (r.set rv j) (by rw [List.length_set]; exact hz) s.toks
  by_cases h0 : 0 ≤ k
  · have hk : k.toNat = j := by
      rw [seqIndex_of h0 h4] at h1
      exact Option.some.inj h1
    exact PySem.W.ki_setAt ho h0 (by omega) (by rw [List.size_toArray, ← hl]; exact h4) (by rw [hk]; exact ⟨_, I', q⟩)
  · have hk : (k + (its.toArray.size : Int)).toNat = j := by
      rw [seqIndex_neg (by omega) h3] at h1
      rw [List.size_toArray, ← hl]
      exact Option.some.inj h1
    exact PySem.W.ki_setBack ho (by omega) (by rw [List.size_toArray, ← hl]; exact h3) (by omega) (by rw [hk]; exact ⟨_, I', q⟩)

theorem slice_bounds (lo hi : Option Int) (n : Nat) : (sliceBounds lo hi none n).1 = ((HT.sIx n 0 lo : Nat) : Int) ∧ (sliceBounds lo hi none n).2.1 = ((HT.sIx n n hi : Nat) : Int) ∧ (sliceBounds lo hi none n).2.2 = 1 := by
  refine ⟨?_, ?_, rfl⟩
  · cases lo with
    | none => simp [sliceBounds, HT.sIx]
    | some i =>
      simp only [sliceBounds, HT.sIx, Option.getD_none, show (1 : Int) > 0 by decide, if_true]
      by_cases h : i < 0
      · simp only [h, if_true] <;> omega
      · simp only [h, if_false] <;> omega
  · cases hi with
    | none => simp [sliceBounds, HT.sIx]
    | some i =>
      simp only [sliceBounds, HT.sIx, Option.getD_none, show (1 : Int) > 0 by decide, if_true]
      by_cases h : i < 0
      · simp only [h, if_true] <;> omega
      · simp only [h, if_false] <;> omega
theorem slicePick_cut (its : List Value) (lo hi : Option Int) : slicePick its.toArray lo hi none = ((its.drop (HT.sIx its.length 0 lo)).take (HT.sIx its.length its.length hi - HT.sIx its.length 0 lo)).toArray := by
  obtain ⟨h1, h2, h3⟩ := slice_bounds lo hi its.toArray.size
  unfold slicePick
  rw [h1, h2, h3]
  simp only [sliceRange_one, pick_run, List.size_toArray] <;> rfl
/-- xs[lo:hi] of a list: a new list -/
def rSlL (K : PySem.W.Frag) : V → Option Int → Option Int → Hp → VK → Prop := fun x lo hi H Q => ∃ a xs, x = .ref a ∧ SqL K H a xs ∧ ∀ p, H p = none → Q (.ref p) (upd H p (.lst (cutV xs lo hi)))
theorem sl_list : SlR X (rSlL X.K) := by
  intro pins s σ H x v vl vu lo hi sl Q I rx hs pl pu h
  obtain ⟨a, xs, rfl, hx, q⟩ := h
  cases rx
  obtain ⟨its, r, ht, hz⟩ := I.list hx
  have hlen := r.length
  refine ⟨"list", _, slot_list_getitem.lookup, ht.isList.typeIs, ?_⟩
  refine wpAny_getItem_list_slice ht.isList hs pl pu .none (by simp) ?_ (by rw [List.size_toArray] <;> omega)
  rw [slicePick_cut, ← hlen]
  refine ⟨.ref s.heap.objs.size, _, I.laid (t' := s.toks) (o := .lst (cutV xs lo hi)) (fun b ob q => Heap.get?_push_of_some _ q) (Nat.le_refl _) ?_, rfl, q _ (I.hok.fresh (Nat.le_refl _))⟩
  exact ⟨Nat.le_trans (cutV_length xs lo hi) hz, _, 0, (r.drop (HT.sIx xs.length 0 lo)).take (HT.sIx xs.length xs.length hi - HT.sIx xs.length 0 lo), Heap.get?_push_size _ rfl⟩

def flatV : V → Bool
  | .non => true
  | .bl _ => true
  | .int _ => true
  | .str _ => true
  | _ => false
/-- == of flat values -/
def eqV : V → V → Bool
  | .non, .non => true
  | .bl a, .bl b => a == b
  | .bl a, .int b => (if a then 1 else 0) == b
  | .int a, .bl b => a == (if b then 1 else 0)
  | .int a, .int b => a == b
  | .str a, .str b => a == b
  | _, _ => false
theorem eqAt_V {A : Around} {s : Shared} {y x : V} {u v : Value} (ry : RelV y u) (rx : RelV x v) (fy : flatV y = true) (fx : flatV x = true) : SeqAt.EqAt A s u v (eqV y x) := by
  cases y with
  | non =>
    cases ry
    cases x with
    | non => cases rx; exact SeqAt.EqAt.same _
    | bl b => cases rx; exact SeqAt.EqAt.none_bool b
    | int b => obtain ⟨t, rfl⟩ := rx; exact SeqAt.EqAt.none_int b t
    | str b => obtain ⟨t, rfl⟩ := rx; exact SeqAt.EqAt.none_str b t
    | _ => exact absurd (show false = true from fx) Bool.false_ne_true
  | bl a =>
    cases ry
    cases x with
    | non => cases rx; exact SeqAt.EqAt.bool_none a
    | bl b => cases rx; exact SeqAt.EqAt.bool_bool a b
    | int b => obtain ⟨t, rfl⟩ := rx; exact SeqAt.EqAt.bool_int a b t
    | str b => obtain ⟨t, rfl⟩ := rx; exact SeqAt.EqAt.bool_str a b t
    | _ => exact absurd (show false = true from fx) Bool.false_ne_true
  | int a =>
    obtain ⟨t', rfl⟩ := ry
    cases x with
    | non => cases rx; exact SeqAt.EqAt.int_none a t'
    | bl b => cases rx; exact SeqAt.EqAt.int_bool a t' b
    | int b => obtain ⟨t, rfl⟩ := rx; exact SeqAt.EqAt.int_int a t' b t
    | str b => obtain ⟨t, rfl⟩ := rx; exact SeqAt.EqAt.int_str a t' b t
    | _ => exact absurd (show false = true from fx) Bool.false_ne_true
  | str a =>
    obtain ⟨t', rfl⟩ := ry
    cases x with
    | non => cases rx; exact SeqAt.EqAt.str_none a t'
    | bl b => cases rx; exact SeqAt.EqAt.str_bool a t' b
    | int b => obtain ⟨t, rfl⟩ := rx; exact SeqAt.EqAt.str_int a t' b t
    | str b => obtain ⟨t, rfl⟩ := rx; exact SeqAt.EqAt.str_str a t' b t
    | _ => exact absurd (show false = true from fx) Bool.false_ne_true
  | _ => exact absurd (show false = true from fy) Bool.false_ne_true
/-- the items' answers, read off the values (a value's own answer does not lean on its token) -/
def eqU (x : V) (u : Value) : Bool := match u with
  | .none => eqV .non x
  | .bool b => eqV (.bl b) x
  | .int i _ => eqV (.int i) x
  | .str z _ => eqV (.str z) x
  | _ => false
theorem eqU_of {x y : V} {u : Value} (r : RelV y u) (f : flatV y = true) : eqU x u = eqV y x := by
  cases y with
  | non => cases r; rfl
  | bl b => cases r; rfl
  | int i => obtain ⟨t, rfl⟩ := r; rfl
  | str z => obtain ⟨t, rfl⟩ := r; rfl
  | _ => exact absurd (show false = true from f) Bool.false_ne_true
theorem any_eqU {x : V} : ∀ {xs : List V} {us : List Value}, Vals xs us → xs.all flatV = true → us.any (eqU x) = xs.any fun y => eqV y x
  | _, _, .nil, _ => rfl
  | y :: xs, u :: us, .cons r t, f => by
    rw [List.all_cons, Bool.and_eq_true] at f
    rw [List.any_cons, List.any_cons, eqU_of r f.1, any_eqU t f.2]
theorem mem_eqAt {A : Around} {s : Shared} {x : V} {v : Value} (rx : RelV x v) (fx : flatV x = true) : ∀ {xs : List V} {us : List Value}, Vals xs us → xs.all flatV = true → ∀ u ∈ us, SeqAt.EqAt A s u v (eqU x u)
  | _, _, .nil, _ => fun u hu => by cases hu
  | y :: xs, u :: us, .cons r t, f => fun u' hu => by
    rw [List.all_cons, Bool.and_eq_true] at f
    rcases List.mem_cons.mp hu with rfl | hu
    · rw [eqU_of r f.1]; exact eqAt_V r rx f.1 fx
    · exact mem_eqAt rx fx t f.2 u' hu
def inV (x : V) (xs : List V) : Bool := xs.any fun y => eqV y x
/-- x in a list or tuple of flat items -/
def rIn (K : PySem.W.Frag) (neg : Bool) : R2 := fun x y H Q => ∃ p xs, y = .ref p ∧ (SqL K H p xs ∨ SqT K H p xs) ∧ flatV x = true ∧ xs.all flatV = true ∧ Q (.bl (if neg then !inV x xs else inV x xs)) H
theorem op_in_seq : OpR X (compareOp .In) (rIn X.K false) := by
  intro pins s σ H x y v u Q I rx ry h
  obtain ⟨p, xs, rfl, hq, fx, fs, q⟩ := h
  cases ry
  rcases hq with hq | hq
  · obtain ⟨its, r, pl, hz⟩ := I.list hq
    refine SeqAt.in_listAt (eqU x) pl.isList (fun w hw => mem_eqAt rx fx r fs w (by simpa using hw)) ⟨.bl _, H, I, rfl, ?_⟩
    rw [show its.toArray.any (eqU x) = its.any (eqU x) by simp, any_eqU r fs]
    exact q
  · obtain ⟨its, r, pl, hz⟩ := I.tuple hq
    refine SeqAt.in_tupleAt (eqU x) pl (fun w hw => mem_eqAt rx fx r fs w (by simpa using hw)) ⟨.bl _, H, I, rfl, ?_⟩
    rw [show its.toArray.any (eqU x) = its.any (eqU x) by simp, any_eqU r fs]
    exact q
theorem op_notIn_seq : OpR X (compareOp .NotIn) (rIn X.K true) := by
  intro pins s σ H x y v u Q I rx ry h
  obtain ⟨p, xs, rfl, hq, fx, fs, q⟩ := h
  cases ry
  rcases hq with hq | hq
  · obtain ⟨its, r, pl, hz⟩ := I.list hq
    refine SeqAt.notIn_listAt (eqU x) pl.isList (fun w hw => mem_eqAt rx fx r fs w (by simpa using hw)) ⟨.bl _, H, I, rfl, ?_⟩
    rw [show its.toArray.any (eqU x) = its.any (eqU x) by simp, any_eqU r fs]
    exact q
  · obtain ⟨its, r, pl, hz⟩ := I.tuple hq
    refine SeqAt.notIn_tupleAt (eqU x) pl (fun w hw => mem_eqAt rx fx r fs w (by simpa using hw)) ⟨.bl _, H, I, rfl, ?_⟩
    rw [show its.toArray.any (eqU x) = its.any (eqU x) by simp, any_eqU r fs]
    exact q
theorem call_len_seq : CallR X (.builtin "len") (fun xs H Q => ∃ p ys, xs = [.ref p] ∧ (SqL X.K H p ys ∨ SqT X.K H p ys) ∧ Q (.int ys.length) H) := by
  intro pins s σ H xs us Q I r h
  obtain ⟨p, ys, rfl, hq, q⟩ := h
  obtain ⟨u, rfl, rx⟩ := vals1 r
  cases rx
  have hn := line63
  rcases hq with hq | hq
  · obtain ⟨its, r', pl, hz⟩ := I.list hq
    have hlen := r'.length
    exact Calls.call_len_list pl.isList (by simp only [List.size_toArray] <;> omega) ⟨.int ys.length, H, I.tok _, ⟨s.toks + 1, by rw [List.size_toArray, hlen]⟩, q⟩
  · obtain ⟨its, r', pl, hz⟩ := I.tuple hq
    have hlen := r'.length
    exact len_tuple pl (by simp only [List.size_toArray] <;> omega) ⟨.int ys.length, H, I.tok _, ⟨s.toks + 1, by rw [List.size_toArray, hlen]⟩, q⟩
theorem call_len_str : CallR X (.builtin "len") (fun xs H Q => ∃ z, xs = [.str z] ∧ z.length ≤ sizeLine ∧ Q (.int z.length) H) := by
  intro pins s σ H xs us Q I r h
  obtain ⟨z, rfl, hz, q⟩ := h
  obtain ⟨u, rfl, t, rfl⟩ := vals1 r
  have hn := line63
  exact len_str (by omega) ⟨.int z.length, H, I.tok _, ⟨_, rfl⟩, q⟩
theorem call_list_of : CallR X (.type "list") (fun xs H Q => ∃ p ys, xs = [.ref p] ∧ (SqL X.K H p ys ∨ SqT X.K H p ys) ∧ ∀ l, H l = none → Q (.ref l) (upd H l (.lst ys))) := by
  intro pins s σ H xs us Q I r h
  obtain ⟨p, ys, rfl, hq, q⟩ := h
  obtain ⟨u, rfl, rx⟩ := vals1 r
  cases rx
  have fin : ∀ (its : List Value), Vals ys its → ys.length ≤ sizeLine → ∀ (h' : Heap) (c' : Nat), (∀ b o', s.heap.get? b = some o' → h'.get? b = some o') →
      h'.get? s.heap.objs.size = some { cls := .type "list", dict := none, data := .seq its.toArray c', slots := #[] } → EP X pins σ Q (.ref s.heap.objs.size) { s with heap := h' } := fun its r' hz h' c' kp e =>
    ⟨.ref s.heap.objs.size, _, I.laid (t' := s.toks) kp (Nat.le_refl _) (show ObjOk X.prog X.w _ h' _ (.lst ys) from ⟨hz, its, c', r', e⟩), rfl, q _ (I.hok.fresh (Nat.le_refl _))⟩
  rcases hq with hq | hq
  · obtain ⟨its, r', pl, hz⟩ := I.list hq
    have hlen := r'.length
    obtain ⟨o, ho, hc, n, hd⟩ := pl.isList
    exact call_list_seq p (.inl rfl) ho hc hd (fun h' c' kp e => fin its r' hz h' c' kp e) (by simp only [List.size_toArray] <;> omega)
  · obtain ⟨its, r', pl, hz⟩ := I.tuple hq
    have hlen := r'.length
    obtain ⟨o, ho, hc, n, hd⟩ := pl
    exact call_list_seq p (.inr rfl) ho hc hd (fun h' c' kp e => fin its r' hz h' c' kp e) (by simp only [List.size_toArray] <;> omega)
/-- the value is of that builtin type -/
def tyV (K : PySem.W.Frag) (T : String) (x : V) (H : Hp) : Prop := match x with
  | .str _ => T = "str"
  | .int _ => T = "int"
  | .ref p => (T = "list" ∧ ∃ xs, SqL K H p xs) ∨ (T = "tuple" ∧ ∃ o, K.lookup p = some o ∧ o.cls = .type "tuple" ∧ o.dict = none) ∨
      (T = "dict" ∧ ((∃ kvs, H p = some (.dK kvs)) ∨ ∃ kvs, H p = some (.dT kvs))) ∨ (T = "set" ∧ ∃ S n, H p = some (.set S n))
  | _ => False
theorem tyV_is {pins : List (Addr × Obj)} {σ : St} {H : Hp} {s : Shared} {T : String} {x : V} {v : Value} (I : Inv X pins σ H s) (r : RelV x v) (ty : tyV X.K T x H) :
    s.TypeIs v T ∧ ∀ a, v = .ref a → ∃ ob, s.heap.get? a = some ob ∧ ob.dict = none := by
  cases x with
  | str z =>
    obtain ⟨t, rfl⟩ := r
    cases (show T = "str" from ty)
    exact ⟨typeIs_str s z t, fun _ e => nomatch e⟩
  | int i =>
    obtain ⟨t, rfl⟩ := r
    cases (show T = "int" from ty)
    exact ⟨typeIs_int s i t, fun _ e => nomatch e⟩
  | ref p =>
    cases r
    rcases ty with ⟨rfl, xs, hq⟩ | ⟨rfl, o, hk, hc, hd⟩ | ⟨rfl, hk⟩ | ⟨rfl, S, n, hk⟩
    · obtain ⟨its, _, pl, _⟩ := I.list hq
      refine ⟨pl.isList.typeIs, fun a e => ?_⟩
      cases e
      obtain ⟨o, n, e, c, hd, _⟩ := pl
      exact ⟨o, e, hd⟩
    · refine ⟨⟨o, I.kIn p o hk, hc⟩, fun a e => ?_⟩
      cases e
      exact ⟨o, I.kIn _ o hk, hd⟩
    · have z : ∃ o, s.heap.get? p = some o ∧ o.ExactDict := by
        rcases hk with ⟨kvs, hk⟩ | ⟨kvs, hk⟩
        · obtain ⟨_, _, _, _, o, _, _, e, ex, _⟩ := I.hok p _ hk
          exact ⟨o, e, ex⟩
        · obtain ⟨_, _, _, _, o, _, _, e, ex, _⟩ := I.hok p _ hk
          exact ⟨o, e, ex⟩
      obtain ⟨o, e, ex⟩ := z
      refine ⟨⟨o, e, ex.1⟩, fun a e2 => ?_⟩
      cases e2
      exact ⟨o, e, ex.2.1⟩
    · obtain ⟨o, _, _, _, e, ex, _⟩ := I.hok p _ hk
      refine ⟨⟨o, e, ex.1⟩, fun a e2 => ?_⟩
      cases e2
      exact ⟨o, e, ex.2.1⟩
  | _ => exact False.elim ty
def tBM0 (K : PySem.W.Frag) (T : String) (r : V → List V → Hp → VK → Prop) (to : TE) : TE := fun σ H Q => to σ H fun x H1 => tyV K T x H1 ∧ r x [] H1 Q
def tBM (K : PySem.W.Frag) (T : String) (r : V → List V → Hp → VK → Prop) (to : TE) (t : TA) : TE := fun σ H Q => to σ H fun x H1 => tyV K T x H1 ∧ t σ H1 fun xs H2 => r x xs H2 Q
variable {o e : Expr} {es : List Expr} {to : TE} {t : TA} {name : Str} {apos cpos : Pos} {T id : String} {r : V → List V → Hp → VK → Prop}
theorem pe_bm (pa : PlainAttrs T) (slot : Slot T name id) (hty : typeOf (.builtin id) = pure (.type "method_descriptor")) (hm : MtR X id r) (ho : PE X o to) (ha : PA X (e :: es) t)
    (hbase : attributeBase o name X.env (eval o X.env) = eval o X.env := by rfl)
    (hfew : ((backTo cpos (starEach (e :: es) X.env)).all (fun x => !x.1) && (backToKw cpos (keywordEach [] X.env)).all (fun x => x.1.isSome)
      && decide ((e :: es).length + ([] : List Keyword).length + (if ([] : List Keyword).isEmpty then 0 else 1) < 30)) = true := by rfl)
    (hline : (apos.endLine == cpos.line) = true := by rfl) (hs : starEach (e :: es) X.env = (false, eval e X.env) :: starEach es X.env := by rfl) (hplain : (backTo cpos (starEach es X.env)).any (·.1) = false := by rfl) :
    PE X (.Call (.Attribute o name apos) (e :: es) [] cpos) (tBM X.K T r to t) := by
  intro pins s σ H Q I h
  refine wpAny_Call_method_late hbase hfew hline rfl (thn (ho pins s σ H _ I h) fun v s1 ⟨x, H1, I1, r1, ty, q1⟩ => ?_)
  obtain ⟨h1, h2⟩ := tyV_is I1 r1 ty
  refine ⟨T, id, pa, slot, hty, h1, h2, ?_⟩
  have hA := ha cpos pins s1 σ H1 _ I1 q1
  rw [hs] at hA ⊢
  refine Calls.callWith_builtin (by show (false || (backTo cpos (starEach es X.env)).any (·.1)) = false; rw [hplain] <;> rfl) (Calls.evalArgs_plain ?_)
  exact thn hA fun us s2 ⟨vs, H2, I2, r2, q2⟩ => hm pins s2 σ H2 x vs v us Q I2 r1 r2 q2
end
end L2

namespace L2
open PySem PySem.Spec PyProof.Rows

def MtM (X : Cx) (id : String) (r : V → List V → Hp → VK → Prop) : Prop :=
  ∀ (pins : List (Addr × Obj)) (s : Shared) (σ : St) (H : Hp) (x : V) (xs : List V) (v : Value) (us : List Value) (Q : VK), Inv X pins σ H s → RelV x v → Vals xs us → r x xs H Q →
    wpAny (model X.prog X.w) X.A (call (.builtin id) (v :: us)) (EP X pins σ Q) X.xe s

theorem Vals.one : ∀ {x : V} {us : List Value}, Vals [x] us → ∃ u, us = [u] ∧ RelV x u
  | _, _, .cons r .nil => ⟨_, rfl, r⟩
section
variable {X : Cx} {pins : List (Addr × Obj)} {σ : St} {H : Hp} {s : Shared} {l b : Addr} {xs ys zs : List V}

theorem Inv.lset {its its' : List Value} {n : Nat} {f : Array Value → Array Value} {t' : Nat} (I : Inv X pins σ H s) (hH : H l = some (.lst xs))
    (e : s.heap.get? l = some { cls := .type "list", data := .seq its.toArray n }) (hf : f its.toArray = its'.toArray) (hv : Vals ys its') (hz : ys.length ≤ sizeLine) :
    Inv X pins σ (upd H l (.lst ys)) { s with heap := s.heap.update l (Obj.mapSeq f), toks := t' } := by
  have q := PySem.IsL.update e f
  rw [hf] at q
  refine I.write (x := l) (e := l) (by rw [hH]; exact trivial) (.inl rfl) (fun b' u hb hu => (Heap.get?_update_other s.heap (Obj.mapSeq f) (Ne.symm hb)).trans hu) ⟨_, q⟩ ?_
  exact ⟨hz, its', _, hv, q⟩
theorem Inv.lnew {its : List Value} {t' : Nat} (I : Inv X pins σ H s) (hv : Vals ys its) (hz : ys.length ≤ sizeLine) :
    Inv X pins σ (upd H s.heap.objs.size (.lst ys)) { s with heap := s.heap.push { cls := .type "list", data := .seq its.toArray }, toks := t' } :=
  I.laid (fun _ _ q => Heap.get?_push_of_some _ q) (Nat.le_refl _) ⟨hz, its, 0, hv, Heap.get?_push_size _ rfl⟩
theorem Inv.fresh (I : Inv X pins σ H s) : H s.heap.objs.size = none := I.hok.fresh (Nat.le_refl _)
theorem Inv.lstM (I : Inv X pins σ H s) (hH : H l = some (.lst xs)) : xs.length ≤ sizeLine ∧ ∃ (its : List Value) (n : Nat), Vals xs its ∧ xs.length = its.length ∧ s.heap.get? l = some { cls := .type "list", data := .seq its.toArray n } := by
  obtain ⟨z, its, n, r, e⟩ := I.hok l _ hH
  exact ⟨z, its, n, r, r.length, e⟩

end

section
variable {X : Cx}

def rAppend : V → List V → Hp → VK → Prop := fun x vs H Q => ∃ l xs y, x = .ref l ∧ vs = [y] ∧ H l = some (.lst xs) ∧ xs.length < sizeLine ∧ Q .non (upd H l (.lst (xs ++ [y])))
theorem mt_append : MtM X "list.append" rAppend := by
  intro pins s σ H x vs v us Q I rx rv h
  obtain ⟨l, xs, y, rfl, rfl, hH, hz, q⟩ := h
  cases rx
  obtain ⟨u, rfl, ru⟩ := rv.one
  obtain ⟨z, its, n, r, hl, e⟩ := I.lstM hH
  refine call_meets F.slot_list_append ⟨_, e, rfl⟩ F.entry_list_append (F.args_list_append_2 _ _) (PySem.list_append l its.toArray n u (by rw [List.size_toArray]; omega)) ⟨e, ?_⟩
  refine ⟨.non, _, I.lset (its' := its ++ [u]) hH e (by simp) (r.append (.cons ru .nil)) ?_, rfl, q⟩
  rw [List.length_append, List.length_singleton]
  omega

def rCat : R2 := fun x y H Q => ∃ l b xs zs, x = .ref l ∧ y = .ref b ∧ H l = some (.lst xs) ∧ H b = some (.lst zs) ∧ xs.length + zs.length ≤ sizeLine ∧ ∀ p, H p = none → Q (.ref p) (upd H p (.lst (xs ++ zs)))
theorem op_cat : OpR X (binaryOp .Add) rCat := by
  intro pins s σ H x y v u Q I rx ry h
  obtain ⟨l, b, xs, zs, rfl, rfl, hH, hB, hz, q⟩ := h
  cases rx
  cases ry
  obtain ⟨z, its, n, r, hl, e⟩ := I.lstM hH
  obtain ⟨z2, its2, n2, r2, hl2, e2⟩ := I.lstM hB
  refine PySem.P.add_list e e2 ?_ (by rw [List.size_toArray, List.size_toArray]; omega)
  have ea : its.toArray ++ its2.toArray = (its ++ its2).toArray := by simp
  rw [ea]
  exact ⟨.ref _, _, I.lnew (t' := s.toks) (r.append r2) (by rw [List.length_append]; omega), rfl, q _ I.fresh⟩
end

section
variable {prog : Program} {w : World} {A : Around} {E : Value → Shared → Prop} {s : Shared}
set_option maxRecDepth 100000 in
end

section
variable {X : Cx}
end
end L2

namespace Att
open PySem PySem.W PySem.Calls PyProof.Rows

theorem ints_of_wellAll {P : Params} {h : Heap} : ∀ (ns : List Int) (vs : List Value), WellAll P h vs (ns.map WData.int) → IntsAre vs ns := by
  intro ns
  induction ns with
  | nil =>
    intro vs w
    rw [List.map_nil] at w
    cases w
    exact .nil
  | cons n ns ih =>
    intro vs w
    rw [List.map_cons] at w
    cases w with
    | cons a b =>
      cases a
      exact .cons _ _ (ih _ b)

theorem script_of {l : OpenLaw} {n : Nat} (hn : l.most = some n) {P : Params} {h : Heap} {args : List WData} {vals : List Value}
    (hpre : l.row.toRowW.claim.pre args = true) (hwl : WellAll P h vals args) :
    ∃ a vs ns, vals = [Value.ref a] ∧ args = [WData.list (ns.map WData.int)] ∧ h.get? a = some { cls := .type "list", data := .seq vs.toArray } ∧ IntsAre vs ns ∧ ns.length ≤ n := by
  have hsh : WShape.hasAll [] args [.list .int] = true := (pre_splitW hpre).1
  have hc : l.pre.holds [] { args := args } = true := (pre_splitW hpre).2
  obtain ⟨d, r, rfl, h1, h2⟩ := hasAllW_cons hsh
  obtain rfl := hasAllW_nil h2
  obtain ⟨xs, rfl, h3⟩ := hasW_list h1
  obtain ⟨ns, rfl⟩ := items_int h3
  have hlen : ns.length ≤ n := by
    unfold OpenLaw.pre at hc
    have h4 : (WTm.not (.lt (.lit (.int (n : Int))) (.len (.arg 0)))).holds [] { args := [.list (ns.map .int)] } = true := by
      have h4 := (holds_andW hc).1
      rw [hn] at h4
      exact h4
    have h5 := condW_of h4 (w_not (w_lt w_lit (w_len_list (w_arg rfl))))
    rw [List.length_map] at h5
    refine Nat.le_of_not_lt fun q => ?_
    have q' : (n : Int) < ((ns.length : Nat) : Int) := by omega
    first
      | (rw [decide_eq_true q'] at h5; exact absurd h5 (by decide))
      | (simp at h5; omega)
  cases hwl with
  | cons w1 w2 =>
    cases w2
    cases w1 with
    | list ho hall => exact ⟨_, _, ns, rfl, rfl, ho, ints_of_wellAll ns _ hall, hlen⟩

theorem post_true (l : OpenLaw) (args : List WData) : l.row.toRowW.claim.post args (.bool true) args = true :=
  postW_of (r := l.row.toRowW) (X := (true == true))
    (show WShape.has [] (.bool true) .bool = true by first | rfl | decide | simp [WShape.has, WShape.arms, WShape.armsAll])
    (show (WTm.eq .res (.lit (.bool true))).value [] { args := args, res := some (.bool true), after := args } = some (.bool (true == true)) from w_eq_bool (w_res rfl) w_lit) rfl

/-- the same from a codeAny of the CALL (for a layer whose function contracts speak of calls) -/
theorem attach_call {l : OpenLaw} {n : Nat} {q : Program} {loose : List Str} {XP : (Str → Option Value) → Heap → Prop} {YP : World → Heap → Prop} {d : DefRec}
    (hn : l.most = some n) (hdf : d.params.defaults = [])
    (call : ∀ (w : World) (s₀ s₁ : Shared) (mg mb : Str → Option Value) (fa : Addr) (o : Obj) (pm cd doc : Value) (a : Addr) (vs : List Value) (ns : List Int),
      Ground q loose [] XP w s₀ mg mb s₁.heap → YP w s₁.heap →
      s₁.heap.get? fa = some o → o.data = .func (docDef d.name d.params d.body d.scope pm cd doc) → s₁.heap.CodeRec cd d.name → mg d.name = some (.ref fa) →
      s₁.heap.get? a = some { cls := .type "list", data := .seq vs.toArray } → IntsAre vs ns → ns.length ≤ n → s₁.gens = #[] →
      codeAny (model l.prog w) callerA (.call (.ref fa) ⟨[.ref a], []⟩) (fun r s' => r = .ok (.ret (.bool true)) ∧ OldK s₁.heap s'.heap ∧ s'.os = s₁.os ∧ AllBare s'.gens) s₁) :
    WalkO q loose XP YP l.row.toRowW d [] (fun f vs => PySem.call f vs) := by
  intro w s₀ s₁ mg mb G Y fa o pm cd doc dV kV ho hd hcd hD hmg hg args vals as hpre hlay hrd hwl hlo
  obtain rfl : dV = .none := Dflts.none hD hdf
  obtain rfl : kV = .none := Dflts.noKw hD
  obtain ⟨a, vs, ns, rfl, rfl, hobj, hints, hlen⟩ := script_of hn hpre hwl
  refine enter_call (codeAny_mono (call w s₀ s₁ mg mb fa o pm cd doc a vs ns G Y ho (fd_plain hd) hcd hmg hobj hints hlen hg) fun r s' hq => ?_)
  obtain ⟨rfl, h2, h3, h4⟩ := hq
  exact ⟨.inl ⟨.bool true, .bool true, [], rfl, fun _ => rfl, .bool true, post_true l _, fun _ => ⟨List.Pairwise.nil, fun _ hm => (nomatch hm)⟩⟩, h2, h3, h4⟩

section
variable {prog : Program} {w : World} {A : Around} {E : Value → Shared → Prop} {s : Shared} {K : Frag}

end
end Att

namespace L2
open PySem PySem.Spec PyProof.Rows

theorem vals_ints : ∀ {vs : List Value} {ns : List Int}, IntsAre vs ns → Vals (ns.map V.int) vs
  | _, _, .nil => .nil
  | _, _, .cons n t h => .cons ⟨t, rfl⟩ (vals_ints h)

/-- nothing is tracked but the script, known to the object (or it is an object of the module) -/
def Only (H : Hp) : Prop := ∀ b, H b = none ∨ ∃ o xs, H b = some (.frz o (.lst xs))

/-- THE HEAD: the law's promise, at the heap behind the top. F, the promise of the law's def, may use that base is part of the heap (so K.In base, base.Ns mainGlobals mg stand in Mod) -/
theorem law_call {P : Program} {w : World} {K : PySem.W.Frag} {mg mb : Str → Option Value} {CX : CXT} {k : Nat} {fa a : Addr} {fd : FuncData} {x : Str} {sp : Sp} {s₁ : Shared} {vs : List Value} {ns : List Int}
    (KX : K.In s₁.heap) (hns : s₁.heap.Ns mainGlobals mg) (hb : s₁.heap.Ns builtinsNs mb) (hbb : ∀ x : Str, x ≠ "__name__" → mb x = bootBuiltins x) (hlim : s₁.heap.NoLimit) (hg : s₁.gens = #[])
    (ha : s₁.heap.get? a = some { cls := .type "list", data := .seq vs.toArray }) (hi : IntsAre vs ns) (hl : ns.length ≤ sizeLine) (hr : Room k callerA)
    (F : ∀ base : Heap, K.In base → base.Ns mainGlobals mg → FnOk P w K mg base CX k fa fd [x] sp) (hbind : ∀ (s : Shared) (u : Value), BindsTo s fd ⟨[u], []⟩ [(x, u)])
    (hsp : ∀ H : Hp, Only H → SqL K H a (ns.map V.int) → sp [.ref a] H (fun v _ => v = .bl true) fun _ _ _ => False)
    (hCX : ∀ H e s', CX [] H s₁ (fun _ _ _ => False) e s' → False) :
    codeAny (model P w) callerA (.call (.ref fa) ⟨[.ref a], []⟩) (fun r s' => r = .ok (.ret (.bool true)) ∧ OldK s₁.heap s'.heap ∧ s'.os = s₁.os ∧ AllBare s'.gens) s₁ := by
  have rv := vals_ints hi
  have lenV := hi.length
  -- from an abstract heap in which nothing but the script may be tracked
  have core : ∀ H : Hp, Only H → SqL K H a (ns.map V.int) → HOk P w H s₁.heap → (∀ b, H b ≠ none → b = a) → (H a ≠ none → K.lookup a = none) →
      codeAny (model P w) callerA (.call (.ref fa) ⟨[.ref a], []⟩) (fun r s' => r = .ok (.ret (.bool true)) ∧ OldK s₁.heap s'.heap ∧ s'.os = s₁.os ∧ AllBare s'.gens) s₁ := by
    intro H hO hS hok hA hK
    have base_of : ∀ {b : Addr} {o : Obj}, s₁.heap.get? b = some o → H b = none → (hidT s₁.heap H).get? b = some o := fun e n => hidT_get e n
    have noA : ∀ {b : Addr} {o : Obj} {es : Array DictEntry} {ep : Nat}, s₁.heap.get? b = some o → o.data = .dict es ep → H b = none := fun {b o es ep} e d => by
      cases q : H b with
      | none => rfl
      | some u =>
        have e' : b = a := hA b (by rw [q]; simp)
        subst e'
        rw [ha] at e; cases e
        have d' : Data.seq vs.toArray _ = Data.dict es ep := d
        cases d'
    have nsK : ∀ {b : Addr} {m : Str → Option Value}, s₁.heap.Ns b m → (hidT s₁.heap H).Ns b m := fun {b m} ⟨o, es, ep, e, d, r⟩ => ⟨o, es, ep, base_of e (noA e d), d, r⟩
    have hKb : K.In (hidT s₁.heap H) := fun b o e => base_of (KX b o e) (by
      cases q : H b with
      | none => rfl
      | some u =>
        have e' : b = a := hA b (by rw [q]; simp)
        subst e'
        rw [hK (by rw [q]; simp)] at e; cases e)
    have hM : Mod K mg (hidT s₁.heap H) := ⟨hKb, nsK hns, ⟨mb, nsK hb, hbb⟩, let ⟨mc, h1, h2⟩ := hlim; ⟨mc, nsK h1, h2⟩⟩
    have e0 : Env0 P w K mg (hidT s₁.heap H) callerA [] s₁ H := ⟨rfl, hM, fun b o e => of_hidT e, Nat.le_of_eq (hidT_size _ _), trivial, fun b hb => absurd (show b ∈ ([] : List Addr) from hb) (by simp), hok, .of_eq hg⟩
    refine codeAny_mono ((F _ hKb (nsK hns)).run callerA [] s₁ H ⟨[.ref a], []⟩ [.ref a] [.ref a] _ _ hr e0 (hbind s₁ (.ref a)) (.cons rfl .nil) (hsp H hO hS)) fun r s' h => ?_
    cases r with
    | error e => exact (hCX H e s' h).elim
    | ok fl =>
      cases fl with
      | next => exact False.elim h
      | brk => exact False.elim h
      | cont => exact False.elim h
      | ret u =>
        obtain ⟨v, H', os, bare, un, hok', r', q⟩ := h
        have q' : v = .bl true := q
        subst q'
        obtain rfl : u = Value.bool true := r'
        refine ⟨rfl, OldK.of_keep fun b o e => ?_, os, bare⟩
        cases q : H b with
        | none => exact un.keep b o e q (by intro z; exact absurd (show b ∈ ([] : List Addr) from z) (by simp)) (by simp)
        | some u =>
          rcases hO b with z | ⟨ob, xs, z⟩
          · rw [q] at z; cases z
          · have z2 := un.frzs b ob _ z
            obtain ⟨e1, _⟩ := hok b _ z
            obtain ⟨e2, _⟩ := hok' b _ z2
            rw [e] at e1; cases e1
            exact e2
  cases hk : K.lookup a with
  | some o =>
    -- the script is one of the module's own objects
    have e := KX a o hk
    rw [ha] at e
    cases e
    refine core (fun _ => none) (fun _ => .inl rfl) (.inr ⟨_, vs.toArray, _, hk, rfl, rfl, rfl, by rw [List.size_toArray, lenV]; exact hl, by simpa using rv⟩) (fun b u z => by have z' : (none : Option HO) = some u := z; cases z') (fun b z => absurd rfl z) fun z => absurd rfl z
  | none =>
    refine core (fun b => if b = a then some (.frz { cls := .type "list", data := .seq vs.toArray } (.lst (ns.map V.int))) else none) (fun b => ?_) (.inl (.inr ⟨{ cls := .type "list", data := .seq vs.toArray }, if_pos rfl⟩)) (fun b u z => ?_) (fun b z => ?_) fun _ => hk
    · by_cases hb : b = a
      · exact .inr ⟨_, _, if_pos hb⟩
      · exact .inl (if_neg hb)
    · by_cases hb : b = a
      · have z' := (if_pos hb).symm.trans z
        cases z'
        subst hb
        exact ⟨ha, by rw [List.length_map]; exact hl, vs, _, rv, ha⟩
      · have z' := (if_neg hb).symm.trans z
        cases z'
    · by_cases hb : b = a
      · exact hb
      · exact absurd (if_neg hb) z
end L2

namespace L2
open PySem PySem.Spec PyProof.Rows

/-- the goal that k_head leaves (case hc), from the law's promise. F gives the function object fd (K's own) once, then the promise over every base -/
theorem walk_of {l : PySem.W.OpenLaw} {n k : Nat} {q : Program} {loose : List Str} {XP : (Str → Option Value) → Heap → Prop} {YP : World → Heap → Prop} {d : DefRec} {K : Params → PySem.W.Frag} {CX : World → CXT} {sp : World → Sp} {x : Str}
    (hn : l.most = some n) (hn2 : n ≤ sizeLine) (hdf : d.params.defaults = []) (hr : Room k callerA)
    (hY : ∀ (w : World) (h : Heap), YP w h → (K w.params).In h)
    (F : ∀ (w : World) (mg : Str → Option Value) (fa : Addr) (h : Heap), (K w.params).In h → h.Ns mainGlobals mg → mg d.name = some (.ref fa) →
      ∃ fd : FuncData, (∀ (s : Shared) (u : Value), BindsTo s fd ⟨[u], []⟩ [(x, u)]) ∧
        ∀ base : Heap, (K w.params).In base → base.Ns mainGlobals mg → FnOk l.prog w (K w.params) mg base (CX w) k fa fd [x] (sp w))
    (hsp : ∀ (w : World) (H : Hp) (a : Addr) (ns : List Int), ns.length ≤ n → Only H → SqL (K w.params) H a (ns.map V.int) → sp w [.ref a] H (fun v _ => v = .bl true) fun _ _ _ => False)
    (hCX : ∀ (w : World) (H : Hp) (s : Shared) (e : Value) (s' : Shared), CX w [] H s (fun _ _ _ => False) e s' → False) :
    PySem.W.WalkO q loose XP YP l.row.toRowW d [] (fun f vs => PySem.call f vs) := by
  refine Att.attach_call hn hdf fun w s₀ s₁ mg mb fa o pm cd doc a vs ns G Y ho hd hcd hmg hobj hints hlen hg => ?_
  have KX := hY w _ Y
  obtain ⟨fd, hb, hF⟩ := F w mg fa _ KX G.T.g hmg
  exact law_call KX G.T.g G.T.b G.T.builtins G.T.nolimit hg hobj hints (Nat.le_trans hlen hn2) hr hF hb (fun H hO hS => hsp w H a ns hlen hO hS) fun H e s' => hCX w H s₁ e s'
end L2


namespace L2
open PySem PySem.Spec PyProof.Rows

/-- the j-th statement of a class's body -/
def inClass (s : Stmt) (j : Nat) : Stmt := match s with
  | .ClassDef _ _ _ body _ _ _ _ _ _ _ => body.getD j (.Pass ⟨0, 0, 0, 0⟩)
  | _ => .Pass ⟨0, 0, 0, 0⟩
def defArgs (s : Stmt) : Arguments := match s with
  | .FunctionDef _ a _ _ _ _ _ _ _ _ => a
  | _ => { posonlyargs := [], args := [], vararg := none, kwonlyargs := [], kw_defaults := [], kwarg := none, defaults := [] }
def defBody (s : Stmt) : List Stmt := match s with
  | .FunctionDef _ _ b _ _ _ _ _ _ _ => b
  | _ => []
def defScope (s : Stmt) : Scope := match s with
  | .FunctionDef _ _ _ _ _ _ sc _ _ _ => sc
  | _ => { kind := .function, names := [], isGenerator := false, isCoroutine := false }

abbrev CX0 : CXT := fun _ _ _ _ _ _ => False
abbrev E0 : XK := fun _ _ _ => False
theorem pass0 {X : Cx} : Passes CX0 X E0 := fun _ _ _ _ _ _ _ h => h.elim

structure Fun (K : PySem.W.Frag) (x qual : Str) (st : Stmt) (f : Addr) (fd : FuncData) : Prop where
  ex : ∃ (oc : Value) (od : Option Addr) (kV doc pm : Value) (an : Option Addr) (cdv ct : Value) (osl : Array (Option Value)),
    fd = PySem.W.fnOf x qual (defArgs st) (defBody st) (defScope st) .none kV doc pm an cdv ct ∧ K.lookup f = some ⟨oc, od, .func fd, osl⟩ ∧ PySem.W.codeIn K cdv qual = true
  kp : PySem.W.keepIn K (.ref f) = true
section
variable {P : Program} {w : World} {K : PySem.W.Frag} {mg : Str → Option Value} {base : Heap}
/-- THE RULE for a def: its body as a term of rules, and the reading of that term -/
theorem Fun.ok {x qual : Str} {st : Stmt} {f : Addr} {fd : FuncData} {N ps : List Str} {k : Nat} {sp : Sp} (F : Fun K x qual st f fd) (S : FnScope N ps (defScope st)) (len : ∀ vs H Q E, sp vs H Q E → vs.length = ps.length)
    (hbody : ∀ (cdv : Value) (A : Around) (outer : List Env) (s : Shared) (H : Hp) (vs : List V) (Q : VK) (E : XK), Room k (A.deeper (envOfC qual (defScope st) s.heap.objs.size f cdv)) → sp vs H Q E →
      ∃ t, PSs (cxOf CX0 P w K mg base N qual (defScope st) f cdv A outer s H E).nox (defBody st) t ∧ t { nx := fun _ H' => Q .non H', rt := Q } (start N vs) H) : FnOk P w K mg base CX0 (k + 1) f fd ps sp := by
  obtain ⟨oc, od, kV, doc, pm, an, cdv, ct, osl, rfl, lk, hcd⟩ := F.ex
  refine fn_of lk hcd S len fun A outer s H vs Q E hr hsp => ?_
  obtain ⟨t, h, q⟩ := hbody cdv A outer s H vs Q E hr hsp
  exact ⟨t, h.nox, q⟩
/-- how its arguments bind (no defaults): h is «fun _ _ _ _ _ _ us hl => match us, hl with | [_, _], _ => rfl», one _ a parameter -/
theorem Fun.binds {x qual : Str} {st : Stmt} {f : Addr} {fd : FuncData} {ps : List Str} (F : Fun K x qual st f fd)
    (h : ∀ (kV doc pm : Value) (an : Option Addr) (cdv ct : Value) (us : List Value), us.length = ps.length → bindArgs (PySem.W.fnOf x qual (defArgs st) (defBody st) (defScope st) .none kV doc pm an cdv ct) ⟨us, []⟩ = pure (ps.zip us)) : Binds K fd ps [] := by
  obtain ⟨oc, od, kV, doc, pm, an, cdv, ct, osl, rfl, lk, hcd⟩ := F.ex
  exact .all (h kV doc pm an cdv ct)
theorem fun_mk {x qual : Str} {st : Stmt} {f : Addr} {oc : Value} {od an : Option Addr} {osl : Array (Option Value)} {kV doc pm cdv ct : Value} (l : K.lookup f = some ⟨oc, od, .func (PySem.W.fnOf x qual (defArgs st) (defBody st) (defScope st) .none kV doc pm an cdv ct), osl⟩)
    (c : PySem.W.codeIn K cdv qual = true) (k : PySem.W.keepIn K (.ref f) = true) : Fun K x qual st f (PySem.W.fnOf x qual (defArgs st) (defBody st) (defScope st) .none kV doc pm an cdv ct) := ⟨⟨oc, od, kV, doc, pm, an, cdv, ct, osl, rfl, l, c⟩, k⟩
end
theorem hu_of {A : Around} {k : Nat} (hr : Room k A) : A.units + 1 < cLine := Nat.lt_of_le_of_lt (Nat.add_le_add_left (by decide : 1 ≤ 64) _) hr.units
section
variable {X : Cx}
theorem pv (i : Nat) {x : Str} {pos : Pos} (hN : X.N[i]? = some x := by rfl) (hv : Vis X.env.scope x := by first | exact Or.inl rfl | exact Or.inr (Or.inl rfl) | exact Or.inr (Or.inr rfl)) (hd : (x == ("__debug__" : Str)) = false := by decide)
    (hcd : (x == ("__classdict__" : Str)) = false := by decide) : PE X (.Name x pos) (tVar i) := pe_var hN hv hd hcd
end

theorem iteF {A B : Prop} (h : B) : if false = true then A else B := by
  rw [if_neg Bool.false_ne_true]
  exact h
theorem iteT {A B : Prop} (h : A) : if true = true then A else B := by
  rw [if_pos rfl]
  exact h
/-- all that was tracked is as it was -/
def Same (H H' : Hp) : Prop := ∀ b o, H b = some o → H' b = some o
theorem Same.refl (H : Hp) : Same H H := fun _ _ h => h
theorem Same.trans {H H1 H2 : Hp} (a : Same H H1) (b : Same H1 H2) : Same H H2 := fun c o h => b c o (a c o h)
theorem Same.free {H H' : Hp} (e : Same H H') {l : Addr} (h : H' l = Option.none) : H l = Option.none := by
  cases q : H l with
  | none => rfl
  | some o =>
    rw [e l o q] at h
    cases h
theorem Same.seq {K : PySem.W.Frag} {H H' : Hp} {a : Addr} {xs : List V} (e : Same H H') (h : SqL K H a xs) : SqL K H' a xs := by
  rcases h with (h | ⟨o, h⟩) | h
  · exact .inl (.inl (e _ _ h))
  · exact .inl (.inr ⟨o, e _ _ h⟩)
  · exact .inr h

end L2
set_option maxHeartbeats 4000000
namespace PySem.W.Fast
def tw3629263386710616871:=0
def tw6401648037580330107:=0
def tw10937989217153908280:=0
def tw18033893665123670686:=0
def tw14144592007846614534:=0
def tw15957547823887978240:=0
def tw1539051551427198934:=0
def tw14474222304135402970:=0
def tw9278565006387997920:=0
def tw12210352746396455876:=0
def tw9831715647871195135:=0
def tw7245468343012093998:=0
def tw5183399980040775803:=0
def tw1020409276421921774:=0
def tw1086932820802590292:=0
def tw4672917256235196152:=0
def tw16438335572014717353:=0
def tw3356396179275480013:=0
def tw13412172127037372228:=0
def tw12106402699533405407:=0
def tw11434088803396469353:=0
def tw3920795320484471393:=0
def tw11313257867424360596:=0
def tw5815964211040960786:=0
def tw9210285146767723154:=0
def tw10133340192460242456:=0
def tw9686083521938857502:=0
def tw12349823672715056674:=0
def tw12589819596311049701:=0
def tw12207742142847470:=0
def tw5016513942235068057:=0
def tw6825235927314275858:=0
def tw9709655382539389403:=0
def tw6373352266188080197:=0
def tw13648512582583276595:=0
def tw15169074017119632451:=0
def tw6400486070842545709:=0
def tw10262699730485669874:=0
def tw4472089653630994816:=0
def tw9218609635914039153:=0
def tw11512949130203817712:=0
def tw5201572867913961693:=0
def tw14562097887185306106:=0
def tw17448576951661374037:=0
def tw13991391639461926527:=0
def tw13382082060549837681:=0
def tw1981743926122302300:=0
def tw12417767366560371357:=0
def tw7227180783126931813:=0
def tw681008587811764640:=0
def tw14304526753749101783:=0
def tw12002699690100547337:=0
def tw10140701736045900251:=0
def tw2944124112381158055:=0
def tw4963412322369106224:=0
def tw18113593744757729646:=0
def tw1436724868434874820:=0
def tw4195838400231142237:=0
def tw13312565957872215084:=0
def tw11607301989814965409:=0
def tw17229054236140976618:=0
def tw10968709338678301038:=0
def tw17068887285748431830:=0
def tw12643837562260201416:=0
def tw9677637510275980728:=0
def tw16473138846054397898:=0
def tw10520828605958879129:=0
def tw17773354514849500551:=0
def tw7788892255349503233:=0
def tw130522631857844684:=0
def tw14479547161365725303:=0
def tw6352740730491233860:=0
def tw5109893934067078428:=0
def tw4938982634275564483:=0
def tw3243686702549952998:=0
def tw5073050802752863865:=0
def tw12621563751074291430:=0
def tw12294566068071049614:=0
def tw3453003293130216174:=0
def tw6561271550313668201:=0
end PySem.W.Fast
namespace L2
open PySem PySem.Spec PyProof.Rows
structure CompOk (sc csc : Scope) (N : List Str) (x : Str) (caps : List (Str × Nat)) : Prop where
  cell : ∀ p ∈ csc.names, p.2 ≠ .cell
  kind : csc.kind = .function
  loc : ∀ p ∈ csc.names, p.2 = .local → csc.names.lookup p.1 = some .local
  tg : csc.names.lookup x = some .local
  free : ∀ p ∈ csc.names, p.2 = .free → sc.names.lookup p.1 = some .cell
  cap : ∀ p ∈ caps, N[p.2]? = some p.1 ∧ csc.names.lookup p.1 = some .free
  nd : (caps.map (·.1) ++ [x]).Nodup

def clFold (env : Env) : List (Str × NameKind) → List (Str × Addr) → List (Str × Addr)
  | [], cs => cs
  | (n, k) :: r, cs => clFold env r (if k == .free then (n, (env.cells.lookup n).getD 0) :: cs else cs)

theorem closureFor_eq {env : Env} {sc : Scope} (h : ∀ p ∈ sc.names, p.2 = .free → ∃ c, env.cells.lookup p.1 = some c) : closureFor sc env = pure (clFold env sc.names []) := by
  obtain ⟨kind, names, g, c⟩ := sc
  simp only [closureFor]
  have aux : ∀ (l : List (Str × NameKind)) (cs : List (Str × Addr)), (∀ p ∈ l, p.2 = .free → ∃ c, env.cells.lookup p.1 = some c) →
      (forIn l cs (fun (x : Str × NameKind) (r : List (Str × Addr)) => if (x.2 == NameKind.free) = true then (do let a ← cellOf env x.1; pure (ForInStep.yield ((x.1, a) :: r))) else pure (ForInStep.yield r)) : Sem (List (Str × Addr))) = pure (clFold env l cs) := by
    intro l
    induction l with
    | nil => intro cs _; rfl
    | cons p r ih =>
      intro cs hp
      obtain ⟨n, k⟩ := p
      rw [List.forIn_cons]
      have ih' := fun cs => ih cs (fun q hq => hp q (List.mem_cons_of_mem _ hq))
      by_cases hk : (k == NameKind.free) = true
      · obtain ⟨c, e⟩ := hp (n, k) List.mem_cons_self (by simpa using hk)
        simp only [hk, if_true, cellOf, e, clFold, pure_bind, Option.getD_some]
        exact ih' _
      · have hk' : (k == NameKind.free) = false := by simpa using hk
        simp only [hk', if_false, clFold, pure_bind, Bool.false_eq_true]
        exact ih' _
  have := aux names [] h
  first
    | (rw [this]; rfl)
    | (simp only [bind_pure]; exact this)
    | (refine Eq.trans (bind_pure _) this)

theorem clFold_in {env : Env} : ∀ (l : List (Str × NameKind)) (cs : List (Str × Addr)), (∀ p ∈ l, p.2 = .free → ∃ c, env.cells.lookup p.1 = some c) → (∀ y c, cs.lookup y = some c → env.cells.lookup y = some c) →
    ∀ y c, (clFold env l cs).lookup y = some c → env.cells.lookup y = some c
  | [], _, _, h2 => h2
  | (n, k) :: r, cs, h1, h2 => by
    unfold clFold
    refine clFold_in r _ (fun q hq => h1 q (List.mem_cons_of_mem _ hq)) ?_
    by_cases hk : (k == NameKind.free) = true
    · obtain ⟨c, e⟩ := h1 (n, k) List.mem_cons_self (by simpa using hk)
      rw [if_pos hk]
      intro y c' h
      rw [e] at h
      rw [List.lookup_cons] at h
      cases hy : y == n with
      | true => rw [hy] at h; simp at h; rw [eq_of_beq hy, ← h]; exact e
      | false => rw [hy] at h; exact h2 y c' h
    · rw [if_neg hk]; exact h2
theorem clFold_has {env : Env} : ∀ (l : List (Str × NameKind)) (cs : List (Str × Addr)) (y : Str), ((y, NameKind.free) ∈ l ∨ ∃ c, cs.lookup y = some c) → ∃ c, (clFold env l cs).lookup y = some c
  | [], _, _, h => by
    rcases h with h | h
    · cases h
    · exact h
  | (n, k) :: r, cs, y, h => by
    unfold clFold
    refine clFold_has r _ y ?_
    by_cases hk : (k == NameKind.free) = true
    · rw [if_pos hk]
      by_cases hy : (y == n) = true
      · exact .inr ⟨_, by rw [List.lookup_cons, hy]⟩
      · have hy' : (y == n) = false := by simpa using hy
        rcases h with h | ⟨c, h⟩
        · rcases List.mem_cons.mp h with z | z
          · cases z; simp at hy
          · exact .inl z
        · exact .inr ⟨c, by rw [List.lookup_cons, hy']; exact h⟩
    · rw [if_neg hk]
      rcases h with h | h
      · rcases List.mem_cons.mp h with z | z
        · cases z; simp at hk
        · exact .inl z
      · exact .inr h

abbrev compCx (X : Cx) (N' : List Str) (csc : Scope) (C : Addr) (s2 : Shared) (H2 : Hp) (fp : List Addr) : Cx :=
  { X with N := N', s₀ := s2, H₀ := H2, env := compEnvC csc (clFold X.env csc.names []) C X.env, outer := X.stack, ex := fp, fn := fun _ => false, pn := [], xe := fun _ _ => False }

def capV (caps : List (Str × Nat)) (σ : St) : St := caps.map fun p => (σ[p.2]?).join
/-- W: by the turn, a measure, and what has been made so far -/
def CompW (J : It) (caps : List (Str × Nat)) (te : TE) (σ : St) (H1 : Hp) (Q : VK) : Prop := ∃ W : Nat → Nat → List V → Hp → Prop, (∃ m, W 0 m [] H1) ∧ ∀ i m ys H, W i m ys H →
  (J.stop i H ∧ ∀ D, H D = none → Q (.ref D) (upd H D (.lst ys))) ∨ (J.go i H ∧ ys.length < sizeLine ∧ ∀ x H', J.yld i H x H' → te (capV caps σ ++ [some x]) H' fun y H2 => ∃ m', m' < m ∧ W (i + 1) m' (ys ++ [y]) H2)
def tComp (caps : List (Str × Nat)) (wi : TI) (te : TE) : TE := fun σ H Q => wi σ H fun J H1 => CompW J caps te σ H1 Q

theorem lookup_relabel {env : Env} (hk : env.scope.kind = .function) : ∀ {names : List (Str × NameKind)} {x : Str}, (∀ p ∈ names, p.2 = .free → env.kindOf p.1 = some .cell) → names.lookup x = some .free →
    (names.map fun (n, k) => if (k == NameKind.free && env.scope.kind == .function && env.kindOf n == some .cell) then (n, NameKind.cell) else (n, k)).lookup x = some .cell
  | [], _, _, h => by simp at h
  | (n, k) :: r, x, hf, h => by
    have ih := @lookup_relabel env hk r x (fun p hp => hf p (List.mem_cons_of_mem _ hp))
    show List.lookup x ((if (k == NameKind.free && env.scope.kind == .function && env.kindOf n == some .cell) = true then (n, NameKind.cell) else (n, k)) :: _) = _
    cases hx : x == n with
    | true =>
      simp only [List.lookup_cons, hx] at h
      cases h
      have := hf (n, .free) List.mem_cons_self rfl
      have hk' : (env.scope.kind == ScopeKind.function) = true := by rw [hk]; rfl
      simp [List.lookup_cons, hx, this, hk']
    | false =>
      simp only [List.lookup_cons, hx] at h
      by_cases hc : (k == NameKind.free && env.scope.kind == .function && env.kindOf n == some .cell) = true
      · rw [if_pos hc]; simp only [List.lookup_cons, hx]; exact ih h
      · rw [if_neg hc]; simp only [List.lookup_cons, hx]; exact ih h
theorem lookup_relabel_inv {env : Env} : ∀ {names : List (Str × NameKind)} {x : Str} {k' : NameKind}, 
    (names.map fun (n, k) => if (k == NameKind.free && env.scope.kind == .function && env.kindOf n == some .cell) then (n, NameKind.cell) else (n, k)).lookup x = some k' → (k' = .cell ∨ k' = .free) → (∀ p ∈ names, p.2 ≠ .cell) → (x, NameKind.free) ∈ names
  | [], _, _, h, _, _ => by simp at h
  | (n, k) :: r, x, k', h, hk, hn => by
    have ih := @lookup_relabel_inv env r x k'
    have h : List.lookup x ((if (k == NameKind.free && env.scope.kind == .function && env.kindOf n == some .cell) = true then (n, NameKind.cell) else (n, k)) :: (r.map fun (n, k) => if (k == NameKind.free && env.scope.kind == .function && env.kindOf n == some .cell) then (n, NameKind.cell) else (n, k))) = some k' := h
    cases hx : x == n with
    | true =>
      have e : x = n := eq_of_beq hx
      subst e
      by_cases hc : (k == NameKind.free && env.scope.kind == .function && env.kindOf x == some .cell) = true
      · have : k = .free := by
          simp only [Bool.and_eq_true] at hc
          simpa using hc.1.1
        subst this
        exact List.mem_cons_self
      · rw [if_neg hc] at h
        simp only [List.lookup_cons, hx] at h
        cases h
        rcases hk with z | z
        · exact absurd z (hn _ List.mem_cons_self)
        · subst z; exact List.mem_cons_self
    | false =>
      refine List.mem_cons_of_mem _ (ih ?_ hk fun p hp => hn p (List.mem_cons_of_mem _ hp))
      by_cases hc : (k == NameKind.free && env.scope.kind == .function && env.kindOf n == some .cell) = true
      · rw [if_pos hc] at h; simp only [List.lookup_cons, hx] at h; exact h
      · rw [if_neg hc] at h; simp only [List.lookup_cons, hx] at h; exact h

section
variable {X : Cx} {pins : List (Addr × Obj)} {σ : St} {H : Hp} {s : Shared}
theorem capV_len (caps : List (Str × Nat)) (σ : St) : (capV caps σ).length = caps.length := by simp [capV]
/-- the block's context at its start -/
theorem comp_start {csc : Scope} {x : Str} {caps : List (Str × Nat)} {fp : List Addr} {h4 : Heap} {t4 : Nat} {C : Addr} {m0 : Str → Option Value} (I : Inv X pins σ H s) (ck : CompOk X.env.scope csc X.N x caps) (hf : ∀ b ∈ fp, FpOk X pins H b)
    (hfs : ∀ b ∈ fp, b < s.heap.objs.size) (hC : s.heap.objs.size ≤ C) (hk : ∀ b o, s.heap.get? b = some o → h4.get? b = some o) (hn : h4.Ns C m0) :
    Inv (compCx X (caps.map (·.1) ++ [x]) csc C s H fp) [] (capV caps σ ++ [none]) H { s with heap := h4, toks := t4 } := by
  have cellsOk : ∀ p ∈ csc.names, p.2 = .free → ∃ c, X.env.cells.lookup p.1 = some c := fun p hp e => I.ok.has p.1 (.inl (ck.free p hp e))
  have inX : ∀ y c, (clFold X.env csc.names []).lookup y = some c → X.env.cells.lookup y = some c := clFold_in _ _ cellsOk (fun y c h => by simp at h)
  have kf : ∀ p ∈ csc.names, p.2 = .free → X.env.kindOf p.1 = some .cell := ck.free
  refine ⟨⟨I.ok.mod, ck.kind, I.ok.glob, I.ok.blt, hC, fun y z c h1 h2 => I.ok.inj y z c (inX y c h1) (inX z c h2), fun y hy => ?_, fun y c h => (nomatch h), I.ok.hd, I.ok.frames, .inl rfl, fun b hb => ⟨?_, fun y c h => ?_⟩, ?_, ?_, ?_, ?_, I.stack, I.stkFree⟩, rfl, I.bare, Un.kept hk, ⟨m0, hn, fun i y v h1 h2 h3 => ?_⟩, fun y c h => ?_, I.hok.fresh hC, fun y c h => I.freeC y c (inX y c h), fun p hp => absurd hp (by simp), I.hok.kept hk, ?_⟩
  · have hy' : (csc.names.map fun (n, k) => if (k == NameKind.free && X.env.scope.kind == .function && X.env.kindOf n == some .cell) then (n, NameKind.cell) else (n, k)).lookup y = some .cell ∨ (csc.names.map fun (n, k) => if (k == NameKind.free && X.env.scope.kind == .function && X.env.kindOf n == some .cell) then (n, NameKind.cell) else (n, k)).lookup y = some .free := hy
    refine clFold_has _ _ y (.inl ?_)
    rcases hy' with z | z
    · exact lookup_relabel_inv z (.inl rfl) ck.cell
    · exact lookup_relabel_inv z (.inr rfl) ck.cell
  · exact Nat.ne_of_lt (Nat.lt_of_lt_of_le (hfs b hb) hC)
  · exact (hf b hb).2.2.2.2.1 y c (inX y c h)
  · exact fun b o e => I.bs b o e
  · exact Nat.le_trans I.ok.bsz I.sz
  · intro b o e hb
    rcases (hf b hb).2.2.2.1 with z | z
    · exact I.ok.noex b o e z
    · exact absurd (Nat.lt_of_lt_of_le (Heap.lt_size (I.ok.bs b o e).1) z) (Nat.lt_irrefl _)
  · intro b hb z
    rcases List.mem_cons.mp (I.stkSub b z) with e | e
    · exact (hf b hb).2.1 e
    · exact (hf b hb).2.2.1 e
  · have hi : i < caps.length := by
      by_cases hi : i < caps.length
      · exact hi
      · rw [List.getElem?_append_right (by rw [capV_len]; omega), capV_len] at h2
        cases q : i - caps.length with
        | zero => rw [q] at h2; simp at h2
        | succ k => rw [q] at h2; simp at h2
    rw [List.getElem?_append_left (by rw [List.length_map]; exact hi), List.getElem?_map] at h1
    rw [List.getElem?_append_left (by rw [capV_len]; exact hi)] at h2
    unfold capV at h2
    rw [List.getElem?_map] at h2
    cases e : caps[i]? with
    | none => rw [e] at h1; cases h1
    | some p =>
      rw [e] at h1 h2
      simp only [Option.map_some, Option.some.injEq] at h1 h2
      subst h1
      obtain ⟨hN, hfr⟩ := ck.cap p (List.mem_of_getElem? e)
      have h2' : σ[p.2]? = some (some v) := by
        cases q : σ[p.2]? with
        | none => rw [q] at h2; cases h2
        | some w => rw [q] at h2; simp at h2; rw [h2]
      have hcX : X.env.scope.names.lookup p.1 = some .cell := ck.free (p.1, .free) (PySem.mem_of_lookup hfr) rfl
      obtain ⟨m, _, hl⟩ := I.loc
      obtain ⟨u, r, l⟩ := hl p.2 p.1 v hN h2' (.inr (.inl hcX))
      refine ⟨u, r, ?_⟩
      rcases l with ⟨k, _⟩ | ⟨_, c, hc, z⟩
      · have k' : X.env.scope.names.lookup p.1 = some .local := k
        rw [hcX] at k'; cases k'
      · obtain ⟨c', hc'⟩ := clFold_has (env := X.env) csc.names [] p.1 (.inl (PySem.mem_of_lookup hfr))
        have : c' = c := by
          have := inX p.1 c' hc'
          rw [hc] at this
          exact (Option.some.inj this).symm
        subst this
        refine .inr ⟨.inl (lookup_relabel I.ok.kind kf hfr), c', hc', ?_⟩
        obtain ⟨o, ho, hd⟩ := z
        exact ⟨o, hk _ _ ho, hd⟩
  · obtain ⟨v, o, ho, hd⟩ := I.cell y c (inX y c h)
    exact ⟨v, o, hk _ _ ho, hd⟩
  · rw [List.length_append, capV_len, List.length_append, List.length_map]; rfl
end
end L2
namespace L2
open PySem PySem.Spec PyProof.Rows
/-- the loop of a comprehension, with the step ahead of the store -/
theorem compLoop_go {prog : Program} {w : World} {A : Around} {R : Result → Shared → Prop} {s : Shared} {elt target iter : Expr} {scope : Scope} {pos : Pos} {it acc : Value} {env : Env} (J : Nat → Shared → Prop)
    (turn : ∀ n s, J n s → wpAny (model prog w) A (pyNext it) (fun r s₁ => match r with
      | none => R (.ok .next) s₁
      | some v => wpAny (model prog w) A (letOwnedTupleGo target it v) (fun _ s₁ => wpAny (model prog w) A (assign target env v) (fun _ s₂ => wpAny (model prog w) A (eval elt env) (fun x s₃ =>
          wpAny (model prog w) A (call (.builtin "list.append") [acc, x]) (fun _ s₄ => ∃ m, m < n ∧ J m s₄) (fun _ _ => False) s₃)
          (fun _ _ => False) s₂) (fun _ _ => False) s₁) (fun _ _ => False) s₁) (fun _ _ => False) s)
    (n : Nat) (h : J n s) :
    codeAny (model prog w) A (.compLoop (.ListComp elt [⟨target, iter, [], 0⟩] scope pos) 0 it acc env) R s := by
  refine codeAny_loop rfl J (fun n s hI => ?_) n h
  show wpAny _ _ ((compTurn (.ListComp elt [⟨target, iter, [], 0⟩] scope pos) 0 it acc env).onRaise (fun x => do noteFrame x env; theTreesLotGoes x)) _ _ s
  refine wpAny_noted ?_
  rw [compTurn_list1]
  refine wpAny_bind (wpAny_standAt (wpAny_bind (wpAny_mono (turn n s hI) (fun r s₁ h₁ => ?_) fun _ _ h' => h'.elim)))
  cases r with
  | none => exact wpAny_pure h₁
  | some v =>
    refine wpAny_bind (wpAny_mono h₁ (fun _ s₁' h₁ => ?_) fun _ _ h' => h'.elim)
    exact wpAny_bind (wpAny_mono h₁ (fun _ s₂ h₂ => wpAny_bind (wpAny_bind (wpAny_mono h₂ (fun x s₃ h₃ => wpAny_bind (wpAny_mono h₃
      (fun _ s₄ h₄ => wpAny_pure (wpAny_pure ⟨rfl, h₄⟩)) fun _ _ h' => h'.elim)) fun _ _ h' => h'.elim))) fun _ _ h' => h'.elim)
theorem nlt {a b : Nat} (h : a < b) : a ≠ b := Nat.ne_of_lt h
theorem nlt1 {a b : Nat} (h : a < b) : a ≠ b + 1 := Nat.ne_of_lt (Nat.lt_succ_of_lt h)
theorem ns1 {a : Nat} : a ≠ a + 1 := Nat.ne_of_lt (Nat.lt_succ_self a)
section
variable {X : Cx}
/-- behind the block -/
theorem comp_done {csc : Scope} {N' : List Str} {fp : List Addr} {C D : Addr} {pins pl : List (Addr × Obj)} {σ σ' : St} {H H' : Hp} {s s' : Shared} {h' : Heap} {ys : List V} {its : List Value} {n : Nat} (I : Inv X pins σ H s)
    (J : Inv (compCx X N' csc C s H fp) pl σ' H' s') (hf : ∀ b ∈ fp, FpOk X pins H b) (hC : s.heap.objs.size ≤ C) (hD : s.heap.objs.size ≤ D) (hDC : D ≠ C) (hs : Heap.SameBut C s'.heap h') (hv : Vals ys its) (hz : ys.length ≤ sizeLine)
    (hd : s'.heap.get? D = some { cls := .type "list", data := .seq its.toArray n }) (hDn : H' D = none) : Inv X pins σ (upd H' D (.lst ys)) { s' with heap := h' } := by
  have ne : ∀ b o, s.heap.get? b = some o → b ≠ C ∧ b ≠ D := fun b o e => ⟨Nat.ne_of_lt (Nat.lt_of_lt_of_le (Heap.lt_size e) hC), Nat.ne_of_lt (Nat.lt_of_lt_of_le (Heap.lt_size e) hD)⟩
  have u : Un (frs X.stack) fp H H' s.heap s'.heap := J.base
  have nDt : ∀ b o, H' b = some o → b ≠ D := fun b o e => ne_of_none e hDn
  refine I.call' (s' := { s' with heap := h' }) (ch := fp) J.os ?_ ?_ J.bare fun b hb => ⟨(hf b hb).2.2.2.1, (hf b hb).2.1, (hf b hb).2.2.2.2.1, (hf b hb).2.2.2.2.2⟩
  · refine ⟨fun b o q n hb he => ?_, fun b o q n hb he => ?_, fun b o q n he => ?_, fun b o q he => ?_, fun b xs q => ?_, fun b o xs q => ?_, fun b ps q => ?_⟩
    · exact (hs.2 b (ne b o q).1).trans (u.keep b o q n hb he)
    · obtain ⟨sl, e⟩ := u.slot b o q n hb he
      exact ⟨sl, (hs.2 b (ne b o q).1).trans e⟩
    · rw [upd_ne (ne b o q).2]; exact u.free b o q n he
    · obtain ⟨o', e⟩ := u.there b o q he
      exact ⟨o', (hs.2 b (ne b o q).1).trans e⟩
    · have := u.tups b xs q
      rw [upd_ne (nDt b _ this)]; exact this
    · have := u.frzs b o xs q
      rw [upd_ne (nDt b _ this)]; exact this
    · obtain ⟨more, this⟩ := u.tbls b ps q
      exact ⟨more, by rw [upd_ne (nDt b _ this)]; exact this⟩
  · intro b o e
    by_cases hb : b = D
    · subst hb
      rw [upd_same] at e; cases e
      exact ⟨hz, its, n, hv, (hs.2 b hDC).trans hd⟩
    · rw [upd_ne hb] at e
      refine (J.hok b o e).stay (fun c v hc q => (hs.2 c ?_).trans q) (fun c q => by rw [upd_ne (nDt c _ q)]; exact q) fun c xs q => by rw [upd_ne (nDt c _ q)]; exact q
      have hfree : H' C = none := J.free
      rcases hc with z | z
      · rw [z]; exact ne_of_none e hfree
      · exact ne_of_none z hfree

theorem pe_comp {sc csc : Scope} {N : List Str} {elt iter : Expr} {x : Str} {px pos : Pos} {caps : List (Str × Nat)} {wi : TI} {te : TE} (ck : CompOk sc csc N x caps) (hi : PI X (.Name x px) iter wi)
    (he : ∀ C s2 H2 fp, PE (compCx X (caps.map (·.1) ++ [x]) csc C s2 H2 fp) elt te) (hc : X.calm = true := by rfl) (hsc : X.env.scope = sc := by rfl) (hXN : X.N = N := by rfl) (hs : ∀ x, foldedSetIterable iter X.env x = pure x := by intro _; rfl) :
    PE X (.ListComp elt [⟨.Name x px, iter, [], 0⟩] csc pos) (tComp caps wi te) := by
  subst hsc hXN
  intro pins s σ H Q I h
  rw [eval_ListComp]
  have cellsOk : ∀ p ∈ csc.names, p.2 = .free → ∃ c, X.env.cells.lookup p.1 = some c := fun p hp e => I.ok.has p.1 (.inl (ck.free p hp e))
  refine wpAny_comprehension_free (use := none) rfl hs (closureFor_eq cellsOk) ck.kind ck.loc (thn (hi pins s σ H _ I h) fun v s1 h1 => thn h1 fun itv s2 h2 => ?_)
  obtain ⟨it, fp, tn, J, H2, e, I2, T, st2, f2, W, ⟨m0, w0⟩, turn⟩ := h2
  subst e
  refine wpAny_newObj_type (wpAny_newFunctionEnv ck.cell (by intro y hy; simp at hy) (fun h4 hns4 hsb4 => ?_) ck.kind)
  dsimp only at hns4 hsb4 ⊢
  generalize hD : s2.heap.objs.size = D at hns4 hsb4 ⊢
  generalize hH2 : s2.heap.push { cls := .type "list", dict := none, data := .seq ([] : List Value).toArray } = G at hns4 hsb4 ⊢
  have hGs : G.objs.size = D + 1 := by rw [← hH2, Heap.size_push, hD]
  rw [hGs] at hns4 hsb4 ⊢
  have lt2 : ∀ b o, s2.heap.get? b = some o → b < D := fun b o e => hD ▸ Heap.lt_size e
  have old : ∀ b o, s2.heap.get? b = some o → b ≠ D + 1 ∧ b ≠ D := fun b o e => ⟨nlt1 (lt2 b o e), nlt (lt2 b o e)⟩
  have leD : s2.heap.objs.size ≤ D := Nat.le_of_eq hD
  have leD1 : s2.heap.objs.size ≤ D + 1 := Nat.le_succ_of_le leD
  have keep4 : ∀ b o, s2.heap.get? b = some o → h4.get? b = some o := fun b o e => hsb4.extBut b o (old b o e).1 (Heap.get?_push_of_some _ (hH2 ▸ Heap.get?_push_of_some _ e))
  have hDo : h4.get? D = some { cls := .type "list", data := .seq ([] : List Value).toArray 0 } := by
    refine hsb4.extBut D _ ns1 (Heap.get?_push_of_some _ ?_)
    rw [← hH2, ← hD]
    exact Heap.get?_push_size _ rfl
  have fps : ∀ b ∈ fp, b < s2.heap.objs.size := fun b hb => by
    obtain ⟨o, e, _⟩ := T.obj _ _ st2 b hb
    exact Heap.lt_size e
  have I4 : ∀ t4, Inv (compCx X (caps.map (·.1) ++ [x]) csc (D + 1) s2 H2 fp) [] (capV caps σ ++ [none]) H2 { s2 with heap := h4, toks := t4 } := fun t4 => comp_start (m0 := fun x => [].reverse.lookup x) I2 ck f2 fps leD1 keep4 hns4
  have cellsLt : ∀ y c, (clFold X.env csc.names []).lookup y = some c → c < D := fun y c e => by
    obtain ⟨v, o, ho, _⟩ := I2.cell y c (clFold_in _ _ cellsOk (fun y c h => by simp at h) y c e)
    exact lt2 c o ho
  have fsLt : ∀ b ∈ frs X.stack, b < D := fun b hb => by
    obtain ⟨_, o, ho, _⟩ := I2.stack.mem hb
    exact lt2 b o ho
  -- the iterator's objects within the block
  have fpC : ∀ {pl : List (Addr × Obj)} {H' : Hp}, (∀ p ∈ pl, p.1 = D) → (∀ b ∈ fp, H' b = none) → ∀ b ∈ fp, FpOk (compCx X (caps.map (·.1) ++ [x]) csc (D + 1) s2 H2 fp) pl H' b := fun {pl H'} hpl hn b hb => by
    have hb' : b < D := hD ▸ fps b hb
    refine ⟨hn b hb, nlt1 hb', ?_, .inl hb, fun y c e => ?_, fun p hp => ?_⟩
    · intro z
      rcases List.mem_cons.mp (I2.stkSub b z) with e | e
      · exact (f2 b hb).2.1 e
      · exact (f2 b hb).2.2.1 e
    · exact (f2 b hb).2.2.2.2.1 y c (clFold_in _ _ cellsOk (fun y c h => by simp at h) y c e)
    · have : p.1 = D := hpl p (by simpa using hp)
      rw [this]; exact fun z => nlt hb' z.symm
  have loop : ∀ t4, codeAny (model X.prog X.w) X.A (.compLoop (.ListComp elt [⟨.Name x px, iter, [], 0⟩] csc pos) 0 (.ref it) (.ref D) (compEnvC csc (clFold X.env csc.names []) (D + 1) X.env))
      (compPost (model X.prog X.w) X.A X.xe none (EP X pins σ Q) (.ref D) (D + 1)) { s2 with heap := h4, toks := t4 } := by
    intro t4
    refine compLoop_go (fun n s' => ∃ (i : Nat) (ys : List V) (its : List Value) (k : Nat) (σ' : St) (H' : Hp), Inv (compCx X (caps.map (·.1) ++ [x]) csc (D + 1) s2 H2 fp) [(D, { cls := .type "list", data := .seq its.toArray k })] σ' H' s' ∧ tn i s'.heap ∧ (∀ b ∈ fp, H' b = none) ∧ Vals ys its ∧ ys.length ≤ sizeLine ∧ W i n ys H' ∧ (∃ z, σ' = capV caps σ ++ [z])) ?_ m0 ?_
    · rintro n s3 ⟨i, ys, its, k, σ3, H3, I3, st3, fr3, hv, hz, w3, z3, rfl⟩
      have pl1 : ∀ p ∈ [((D, { cls := .type "list", data := .seq its.toArray k }) : Addr × Obj)], p.1 = D := fun p hp => by rw [List.mem_singleton.mp hp]
      rcases turn i n ys H3 w3 with ⟨stop, qn⟩ | ⟨go, hlt, step⟩
      · refine wpAny_mono (T.done (compCx X (caps.map (·.1) ++ [x]) csc (D + 1) s2 H2 fp) rfl rfl rfl hc i _ s3 _ H3 (fun _ _ => False) I3 (fpC pl1 fr3) st3 stop) (fun r s4 ⟨hr, I4'⟩ => ?_) fun _ _ f => f.elim
        subst hr
        obtain ⟨m, hn, _⟩ := id I4'.loc
        have pD := I4'.pin (D, { cls := .type "list", data := .seq its.toArray k }) (by simp)
        refine ⟨m, hn, fun h' hs' => ⟨.ref D, _, comp_done I2 I4' f2 leD1 leD ns1 hs' hv hz pD.1 pD.2.1, rfl, qn D pD.2.1⟩⟩
      · refine wpAny_mono (T.item (compCx X (caps.map (·.1) ++ [x]) csc (D + 1) s2 H2 fp) rfl rfl rfl hc i _ s3 _ H3 (fun _ _ => False) I3 (fpC pl1 fr3) st3 go) (fun r s4 ⟨u, hr, h4'⟩ => ?_) fun _ _ f => f.elim
        subst hr
        refine wpAny_mono h4' (fun _ s4 ⟨xv, H5, I5, r5, y5, st5, fr5⟩ => ?_) fun _ _ f => f.elim
        have I5' := I5.pinned (fpC pl1 fr5) (T.obj _ _ st5)
        have hiN : (caps.map (·.1) ++ [x])[caps.length]? = some x := by rw [List.getElem?_append_right (by simp)]; simp
        refine wpAny_mono (pg_name (X := compCx X (caps.map (·.1) ++ [x]) csc (D + 1) s2 H2 fp) (i := caps.length) ck.nd hiN (.inl (lookup_relabel_local ck.tg)) (.inr (lookup_relabel_local ck.tg)) _ s4 _ H5 xv u _ I5' r5 (show gName caps.length xv _ H5 (fun σ6 H6 => σ6 = capV caps σ ++ [some xv] ∧ H6 = H5) from ⟨?_, rfl⟩)) (fun _ s6 ⟨σ6, H6, I6, hσ, hH⟩ => ?_) fun _ _ f => f.elim
        · rw [List.set_append_right _ _ (by rw [capV_len]; exact Nat.le_refl _), capV_len, Nat.sub_self]; rfl
        subst hσ hH
        refine wpAny_mono (he (D + 1) s2 H2 fp _ s6 _ H6 _ I6 (step xv H6 y5)) (fun w7 s7 ⟨y, H7, I7, r7, m', hm, w8⟩ => ?_) fun _ _ f => f.elim
        have pD := I7.pin (D, { cls := .type "list", data := .seq its.toArray k }) (by simp)
        have hll := hv.length
        refine call_meets F.slot_list_append ⟨_, pD.1, rfl⟩ F.entry_list_append (F.args_list_append_2 _ _) (PySem.list_append D its.toArray k w7 (by rw [List.size_toArray]; omega)) ⟨pD.1, ?_⟩
        have q := PySem.IsL.update pD.1 (·.push w7)
        have hpush : its.toArray.push w7 = (its ++ [w7]).toArray := by simp
        rw [hpush] at q
        obtain ⟨k', q⟩ : ∃ k', (s7.heap.update D (Obj.mapSeq (·.push w7))).get? D = some { cls := .type "list", data := .seq (its ++ [w7]).toArray k' } := ⟨_, q⟩
        have I7u : Inv (compCx X (caps.map (·.1) ++ [x]) csc (D + 1) s2 H2 fp) (pinsAt fp s4.heap) _ H7 s7 := I7.pins_of fun p hp => I7.pin p (List.mem_append_right _ (List.mem_append_right _ hp))
        have pfp : ∀ p ∈ pinsAt fp s4.heap, p.1 < D := fun p hp => hD ▸ fps p.1 (of_pinsAt hp).1
        have I8 := I7u.turned (h' := s7.heap.update D (Obj.mapSeq (·.push w7))) (t' := s7.toks) (it := D) (fun b o hb e => (Heap.get?_update_other s7.heap _ (Ne.symm hb)).trans e) pD.2.1 ns1 (.inr leD) (fun y c e => nlt (cellsLt y c e)) (fun p hp => nlt (pfp p (by simpa using hp)))
        refine ⟨m', hm, i + 1, ys ++ [y], its ++ [w7], k', _, H7, I8.pins_of fun p hp => ?_, T.keep _ _ _ st5 fun b hb o e => (I8.pin (b, o) (List.mem_append_right _ (mem_pinsAt hb e))).1, fun b hb => ?_, hv.append (.cons r7 .nil), ?_, w8, _, rfl⟩
        · rw [List.mem_singleton.mp hp]
          exact ⟨q, pD.2.1, pD.2.2.1, pD.2.2.2.1, fun v => by simp⟩
        · obtain ⟨o, e, d⟩ := T.obj _ _ st5 b hb
          exact (I8.pin (b, o) (List.mem_append_right _ (mem_pinsAt hb e))).2.1
        · rw [List.length_append, List.length_singleton]; omega
    · refine ⟨0, [], [], 0, _, H2, (I4 t4).pins_of fun p hp => ?_, T.keep _ _ _ st2 fun b hb o e => keep4 b o e, fun b hb => (f2 b hb).1, .nil, Nat.zero_le _, w0, _, rfl⟩
      rw [List.mem_singleton.mp hp]
      refine ⟨hDo, I2.hok.fresh leD, ns1, fun z => absurd (fsLt D z) (Nat.lt_irrefl _), fun v => by simp⟩
  exact codeAny_compStart_list (loop _) (T.self _ 0 _ _ _ (T.keep _ _ _ st2 fun b hb o e => keep4 b o e) (loop _))
end
end L2
namespace L2
open PySem PySem.Spec PyProof.Rows
section
variable {X : Cx}
theorem strsAre_of {ys : List Str} : ∀ {us : List Value}, Vals (ys.map V.str) us → StrsAre us ys := by
  induction ys with
  | nil => intro us r; cases r; exact .nil
  | cons y r ih =>
    intro us h
    cases h with
    | cons h t =>
      obtain ⟨k, rfl⟩ := h
      exact .cons _ _ (ih t)
/-- sep.join(a list of texts) -/
def rJoin (K : PySem.W.Frag) : V → List V → Hp → VK → Prop := fun x vs H Q => ∃ z p ys, x = .str z ∧ vs = [.ref p] ∧ SqL K H p (ys.map V.str) ∧ (ys.map (·.length)).sum + ys.length * z.length ≤ 16777216 ∧ Q (.str (Txt.join z ys)) H
theorem mt_join : MtR X "str.join" (rJoin X.K) := by
  intro pins s σ H x vs v us Q I rx rv h
  obtain ⟨z, p, ys, rfl, rfl, hq, hz, q⟩ := h
  obtain ⟨t, rfl⟩ := rx
  obtain ⟨u, rfl, ru⟩ := rv.one
  cases ru
  obtain ⟨its, r, pl, _⟩ := I.list hq
  exact PyProof.Rows.join_list pl.isList (by simpa using strsAre_of r) hz fun t' k => ⟨.str _, H, I.tok _, ⟨_, rfl⟩, q⟩
/-- x.startswith(y, i), 0 ≤ i -/
def rStarts3 : V → List V → Hp → VK → Prop := fun x vs H Q => ∃ a b i, x = .str a ∧ vs = [.str b, .int i] ∧ Q (.bl (fromIndex a.length i + b.length ≤ a.length && Builtin.Str.subAt a b (fromIndex a.length i))) H
/-- x.startswith(y) -/
def rStarts2 : V → List V → Hp → VK → Prop := fun x vs H Q => ∃ a b, x = .str a ∧ vs = [.str b] ∧ Q (.bl (0 + b.length ≤ a.length && Builtin.Str.subAt a b 0)) H
theorem mt_starts2 : MtR X "str.startswith" rStarts2 := by
  intro pins s σ H x vs v us Q I rx rv h
  obtain ⟨a, b, rfl, rfl, q⟩ := h
  obtain ⟨t, rfl⟩ := rx
  obtain ⟨u, rfl, ru⟩ := rv.one
  obtain ⟨t1, rfl⟩ := ru
  exact call_gives F.slot_str_startswith (typeIs_str _ _ _) F.entry_str_startswith (F.args_str_startswith_2 _ _) (gives_str_startswith a b t t1) ⟨.bl _, H, I, rfl, q⟩
/-- isinstance(x, c) -/
theorem call_isi : CallR X (.builtin "isinstance") (fun xs H Q => ∃ x c cv t b, xs = [x, c] ∧ (c = V.ty cv ∨ False) ∧ TyOf X.K H x t ∧ PySem.W.kitOne X.K t (.type cv) = some b ∧ Q (.bl b) H) := by
  intro pins s σ H xs us Q I r h
  obtain ⟨x, c, cv, t, b, rfl, hc, ty, e, q⟩ := h
  obtain ⟨u, w', rfl, ru, rw'⟩ := vals2 r
  rcases hc with rfl | hc
  · cases rw'
    exact isinst_ok I ru ty e fun tk => ⟨.bl b, H, I.tok _, rfl, q⟩
  · exact hc.elim
end
end L2
namespace L2
open PySem PySem.Spec PyProof.Rows
def At (X : Cx) (D : Ends) (sts : List Stmt) (σ : St) (H : Hp) : Prop := ∀ (pins : List (Addr × Obj)) (s : Shared), Inv X pins σ H s → wpAny (model X.prog X.w) X.A (execs sts X.env) (SP X pins D) X.xe s
section
variable {X : Cx} {D : Ends} {st : Stmt} {rest sts : List Stmt} {t : TS} {σ : St} {H : Hp}
theorem pss_at : PSs X sts (fun D σ H => At X D sts σ H) := fun pins s σ H D I h => h pins s I
theorem at_nil (h : D.nx σ H) : At X D [] σ H := fun _ _ I => wpAny_execs_nil ⟨σ, H, I, h⟩
theorem at_cons (h : PS X st t) (q : t { D with nx := fun σ H => At X D rest σ H } σ H) : At X D (st :: rest) σ H := fun pins s I =>
  (pss_cons h pss_at) pins s σ H D I q
theorem at_one (h : PS X st t) (q : t D σ H) : At X D [st] σ H := fun pins s I => (pss_one h) pins s σ H D I q
theorem at_body (h : At X D sts σ H) : ∃ t, PSs X sts t ∧ t D σ H := ⟨fun D' σ' H' => D' = D ∧ σ' = σ ∧ H' = H, fun pins s σ' H' D' I ⟨e1, e2, e3⟩ => by subst e1 e2 e3; exact h pins s I, rfl, rfl, rfl⟩
end
/-- a test at a value, both ways -/
theorem ifd {c : Prop} [Decidable c] {A B : Prop} (h1 : c → A) (h2 : ¬ c → B) : if decide c = true then A else B := by
  by_cases h : c
  · rw [decide_eq_true h]; exact h1 h
  · rw [decide_eq_false h]; exact h2 h
theorem ifnd {c : Prop} [Decidable c] {A B : Prop} (h1 : ¬ c → A) (h2 : c → B) : if (!decide c) = true then A else B := by
  by_cases h : c
  · rw [decide_eq_true h]; exact h2 h
  · rw [decide_eq_false h]; exact h1 h
theorem ifb {c : Bool} {A B : Prop} (h1 : c = true → A) (h2 : c = false → B) : if c = true then A else B := by
  cases c
  · exact h2 rfl
  · exact h1 rfl
theorem Same.upd {H : Hp} {p : Addr} {o : HO} (h : H p = none) : Same H (upd H p o) := fun b u e => by rw [upd_ne (ne_of_none e h)]; exact e
theorem SqL.same {K : PySem.W.Frag} {H H' : Hp} {a : Addr} {xs : List V} (h : SqL K H a xs) (e : Same H H') : SqL K H' a xs := e.seq h
section
variable {X : Cx} {C : Addr} {x : Str} {p pos : Pos}
def tMakeO (C : Addr) : TE := fun _ H Q => ∀ x dx, H x = none → H dx = none → dx ≠ x → Q (.ref x) (upd (upd H dx (.own x)) x (.ins C dx []))
end
end L2
namespace L2
open PySem PySem.Spec PyProof.Rows
section
variable {X : Cx} {C : Addr} {x : Str} {p pos : Pos}
structure MkO (K : PySem.W.Frag) (C : Addr) : Prop where
  makes : PySem.W.makesIn K C = true
  init : PySem.W.findIn K (.ref C) "__init__" = some (some (.builtin "object.__init__"))
  kp : PySem.W.keepIn K (.ref C) = true
theorem pe_makeO (M : MkO X.K C) (hg : Gl X x) (hm : X.mg x = some (.ref C)) (hdb : (x == ("__debug__" : Str)) = false := by decide) : PE X (.Call (.Name x p) [] [] pos) (tMakeO C) := by
  intro pins s σ H Q I h
  refine wpAny_Call_Name_kw (ld_glob I hg hm ?_ hdb)
  refine PySem.W.callWith_K0 I.kIn M.kp (wpAny_call ?_)
  have hq := h (s.heap.objs.size + 1) s.heap.objs.size (I.hok.fresh (Nat.le_succ _)) (I.hok.fresh (Nat.le_refl _)) (Nat.ne_of_lt (Nat.lt_succ_self _))
  have I2 := Inv.made (C := C) I
  have Y := PySem.W.makes_of (M := model X.prog X.w) I.kIn M.makes
  refine make_map0 I.kIn M.makes M.init (fun self => PySem.W.Looks.of_pure (PySem.W.oi_bind self)) ?_
  obtain ⟨hh, g, d, t, os⟩ := s
  have e2 : ((hh.push PySem.W.emptyDict).push (PySem.W.instObj C hh.objs.size)).get? (hh.objs.size + 1) = some (PySem.W.instObj C hh.objs.size) := by
    have := Heap.get?_push_size (hh.push PySem.W.emptyDict) (o := PySem.W.instObj C hh.objs.size) rfl
    rwa [Heap.size_push] at this
  have t1 : PySem.W.Looks (model X.prog X.w) ((hh.push PySem.W.emptyDict).push (PySem.W.instObj C hh.objs.size)) (typeOf (.ref (hh.objs.size + 1))) (.ref C) := (PySem.W.Looks.ld e2).andThen .now
  have t2 : PySem.W.Looks (model X.prog X.w) ((hh.push PySem.W.emptyDict).push (PySem.W.instObj C hh.objs.size)) (isInstance (.ref (hh.objs.size + 1)) (.type "object")) true := t1.andThen (Y.top.keeps fun b o e => Heap.get?_push_of_some _ (Heap.get?_push_of_some _ e))
  refine codeAny_call_builtin PySem.W.oi_plain PySem.W.entry_oi (@PySem.W.check_slot (model X.prog X.w) _ _ _ "object.__init__" "object" "__init__" (.ref (hh.objs.size + 1)) [] [] _ PySem.W.oi_kind PySem.W.oi_split t2 (PySem.W.oi_args (.ref (hh.objs.size + 1))) ?_)
  rw [PySem.W.oi_run]
  exact wpAny_pure ⟨rfl, ⟨V.ref (hh.objs.size + 1), _, I2, rfl, hq⟩⟩
end
end L2
namespace L2
open PySem PySem.Spec PyProof.Rows
section
variable {X : Cx}
def rSlS : V → Option Int → Option Int → Hp → VK → Prop := fun x lo hi H Q => ∃ z, x = .str z ∧ z.length ≤ sizeLine ∧ Q (.str (Txt.slice z lo hi)) H
theorem part_of {v : Value} {o : Option Int} (h : IsPart v o) : ∃ l : Option (Int × Tok), v = partValue l ∧ l.map (·.1) = o := by
  cases h with
  | none => exact ⟨none, rfl, rfl⟩
  | int i t => exact ⟨some (i, t), rfl, rfl⟩
theorem sl_str : SlR X rSlS := by
  intro pins s σ H x v vl vu lo hi sl Q I rx hs pl pu h
  obtain ⟨z, rfl, hz, q⟩ := h
  obtain ⟨t, rfl⟩ := rx
  obtain ⟨l, rfl, rfl⟩ := part_of pl
  obtain ⟨u, rfl, rfl⟩ := part_of pu
  refine ⟨"str", _, F.slot_str_getitem.lookup, typeIs_str _ _ _, wpAny_getItem_str_slice (l := l) (u := u) (st := none) (by obtain ⟨o, e, c, d⟩ := hs; exact ⟨o, e, c, d⟩) rfl ?_⟩
  exact post_val_or_str ⟨Nat.le_trans (Txt.slice_le z _ _) hz, fun t' k => ⟨.str _, H, I.tok _, ⟨t', rfl⟩, q⟩⟩
end
end L2
namespace L2
open PySem PySem.Spec PyProof.Rows
section
variable {X : Cx} {D : Ends} {st : Stmt} {rest sts : List Stmt} {t : TS} {σ : St} {H : Hp}
/-- a cut behind a statement -/
theorem at_consR (R : St → Hp → Prop) (h : PS X st t) (q : t { D with nx := R } σ H) (r : ∀ σ H, R σ H → At X D rest σ H) : At X D (st :: rest) σ H := fun pins s I =>
  (pss_cons h (u := fun D' σ H => D' = D ∧ R σ H) (fun pins s σ H D' I ⟨e, z⟩ => by subst e; exact r σ H z pins s I)) pins s σ H D I (by
    have e : (fun σ H => D = D ∧ R σ H) = R := by funext σ H; simp
    show t { D with nx := fun σ H => D = D ∧ R σ H } σ H
    rw [e]; exact q)
theorem cxOf_K {CX : CXT} {P : Program} {w : World} {K : PySem.W.Frag} {mg : Str → Option Value} {base : Heap} {N : List Str} {qual : Str} {scope : Scope} {f : Addr} {cd : Value} {A : Around} {outer : List Env} {s : Shared} {H : Hp} {E : XK} :
    (cxOf CX P w K mg base N qual scope f cd A outer s H E).K = K := rfl
end
end L2
namespace L2
open PySem PySem.Spec PyProof.Rows
theorem comp_range {caps : List (Str × Nat)} {lo : Int} {n : Nat} {te : TE} {σ : St} {H : Hp} {Q : VK} (Pv : Nat → List V → Hp → Prop) (h0 : Pv 0 [] H) (hn : n < sizeLine)
    (hs : ∀ i ys H, i < n → ys.length = i → Pv i ys H → te (capV caps σ ++ [some (.int (lo + i))]) H fun y H2 => ∃ m', m' < n - i ∧ m' = n - (i + 1) ∧ i + 1 ≤ n ∧ (ys ++ [y]).length = i + 1 ∧ Pv (i + 1) (ys ++ [y]) H2) (hd : ∀ ys H, ys.length = n → Pv n ys H → ∀ D, H D = none → Q (.ref D) (upd H D (.lst ys))) :
    CompW (Itr lo n) caps te σ H Q := by
  refine ⟨fun i m ys H => m = n - i ∧ i ≤ n ∧ ys.length = i ∧ Pv i ys H, ⟨n, by simp, Nat.zero_le _, rfl, h0⟩, ?_⟩
  rintro i m ys H ⟨rfl, hi, hl, p⟩
  by_cases hlt : i < n
  · refine .inr ⟨hlt, by omega, fun x H' y => ?_⟩
    obtain ⟨e, y⟩ := y
    subst e y
    exact hs i ys _ hlt hl p
  · have e : i = n := by omega
    subst e
    exact .inl ⟨Nat.le_refl _, hd ys H hl p⟩
theorem comp_list {K : PySem.W.Frag} {a : Addr} {xs : List V} {caps : List (Str × Nat)} {te : TE} {σ : St} {H : Hp} {Q : VK} (Pv : Nat → List V → Hp → Prop) (h0 : Pv 0 [] H) (hn : xs.length < sizeLine)
    (hq : ∀ i ys H, i ≤ xs.length → Pv i ys H → SqL K H a xs)
    (hs : ∀ i x ys H, xs[i]? = some x → ys.length = i → Pv i ys H → te (capV caps σ ++ [some x]) H fun y H2 => ∃ m', m' < xs.length - i ∧ m' = xs.length - (i + 1) ∧ i + 1 ≤ xs.length ∧ (ys ++ [y]).length = i + 1 ∧ Pv (i + 1) (ys ++ [y]) H2) (hd : ∀ ys H, ys.length = xs.length → Pv xs.length ys H → ∀ D, H D = none → Q (.ref D) (upd H D (.lst ys))) :
    CompW (Itl K a) caps te σ H Q := by
  refine ⟨fun i m ys H => m = xs.length - i ∧ i ≤ xs.length ∧ ys.length = i ∧ Pv i ys H, ⟨xs.length, by simp, Nat.zero_le _, rfl, h0⟩, ?_⟩
  rintro i m ys H ⟨rfl, hi, hl, p⟩
  have q := hq i ys H hi p
  by_cases hlt : i < xs.length
  · refine .inr ⟨⟨xs, xs[i], q, by simp [hlt]⟩, by omega, fun x H' y => ?_⟩
    obtain ⟨e, y⟩ := y
    subst e
    exact hs i x ys _ (y xs q) hl p
  · have e : i = xs.length := by omega
    subst e
    exact .inl ⟨⟨xs, q, Nat.le_refl _⟩, hd ys H hl p⟩
/-- the turn's end of comp_range, comp_list -/
theorem comp_turn {n i : Nat} {ys : List V} {y : V} {R : Prop} (hi : i < n) (hl : ys.length = i) (r : R) : ∃ m', m' < n - i ∧ m' = n - (i + 1) ∧ i + 1 ≤ n ∧ (ys ++ [y]).length = i + 1 ∧ R :=
  ⟨n - (i + 1), by omega, rfl, hi, by simp [hl], r⟩
theorem atI_in {α : Type} (xs : List α) {i : Int} (h0 : 0 ≤ i) (h1 : i < xs.length) : ∃ v, xs[i.toNat]? = some v ∧ atI xs i = some v := by
  have h3 : i.toNat < xs.length := by omega
  refine ⟨xs[i.toNat], List.getElem?_eq_getElem h3, ?_⟩
  have q := atI_nat (xs := xs) (List.getElem?_eq_getElem h3)
  rw [Int.toNat_of_nonneg h0] at q
  exact q
theorem emod_rng (a : Int) {m : Int} (h : 0 < m) : 0 ≤ a % m ∧ a % m < m := ⟨Int.emod_nonneg _ (by omega), Int.emod_lt_of_pos _ h⟩
theorem sl_le {n : Nat} (h : n ≤ 1000000) : n ≤ sizeLine := Nat.le_trans h (by decide)
theorem sl_lt {n : Nat} (h : n ≤ 1000000) : n < sizeLine := Nat.lt_of_le_of_lt h (by decide)
/-- a field of the object in a slot -/
theorem fldv {K : PySem.W.Frag} {i : Nat} {f : Str} {σ : St} {H : Hp} {Q : VK} {a C dx : Addr} {fs : List (Str × V)} {v : V} (e : σ[i]? = some (some (.ref a))) (h : H a = some (.ins C dx fs)) (c : Cls K C) (n : NoAttr K C f) (l : fs.lookup f = some v) (q : Q v H) : tFld K (tVar i) f σ H Q :=
  ⟨_, e, a, C, dx, fs, v, rfl, h, c, n, l, q⟩
def ForW (J : It) (g : TG) (tb : TS) (D : Ends) (σ : St) (H1 : Hp) : Prop := ∃ W : Nat → Nat → St → Hp → Prop, (∃ m, W 0 m σ H1) ∧ ∀ i m σ H, W i m σ H →
  (J.stop i H ∧ D.nx σ H) ∨ (J.go i H ∧ ∃ N : St → Hp → Prop, (∀ σ' H', N σ' H' → ∃ m', m' < m ∧ W (i + 1) m' σ' H') ∧ ∀ x H', J.yld i H x H' → g x σ H' fun σ2 H2 => tb { D with nx := N, ct := N, bk := D.nx } σ2 H2)
def tForA (wi : TI) (g : TG) (tb : TS) : TS := fun D σ H => wi σ H fun J H1 => ForW J g tb D σ H1
theorem ps_forA {X : Cx} {tg iter : Expr} {body : List Stmt} {wi : TI} {g : TG} {tb : TS} {pos : Pos} (hp : PassesOwn (model X.prog X.w) X.A X.env X.xe) (hc : X.calm = true) (hi : PI X tg iter wi) (hg : PG X tg g) (hb : PSs X body tb)
    (hs : ∀ x, foldedSetIterable iter X.env x = pure x := by intro _; rfl) : PS X (.For tg iter body [] pos) (tForA wi g tb) := ps_for hp hc hi hg hb hs
theorem forW_range {lo : Int} {n : Nat} {g : TG} {tb : TS} {D : Ends} {σ : St} {H : Hp} (Pv : Nat → St → Hp → Prop) (h0 : Pv 0 σ H)
    (hs : ∀ i σ H, i < n → Pv i σ H → g (.int (lo + i)) σ H fun σ2 H2 => tb { D with nx := Pv (i + 1), ct := Pv (i + 1), bk := D.nx } σ2 H2) (hd : ∀ σ H, Pv n σ H → D.nx σ H) : ForW (Itr lo n) g tb D σ H := for_range Pv h0 hs hd
theorem forW_list {K : PySem.W.Frag} {a : Addr} {xs : List V} {g : TG} {tb : TS} {D : Ends} {σ : St} {H : Hp} (Pv : Nat → St → Hp → Prop) (h0 : Pv 0 σ H) (hl : ∀ i σ H, i ≤ xs.length → Pv i σ H → SqL K H a xs)
    (hs : ∀ i x σ H, xs[i]? = some x → Pv i σ H → g x σ H fun σ2 H2 => tb { D with nx := Pv (i + 1), ct := Pv (i + 1), bk := D.nx } σ2 H2) (hd : ∀ σ H, Pv xs.length σ H → D.nx σ H) : ForW (Itl K a) g tb D σ H := for_list Pv h0 hl hs hd
end L2
namespace L2
open PySem PySem.Spec PyProof.Rows

section
variable {κ : Type} [DecidableEq κ]
def valV (kvs : List (κ × V)) (k : κ) : Option V := (kvs.find? fun kv => decide (kv.1 = k)).map (·.2)
/-- in its place, or at the end -/
def putK (kvs : List (κ × V)) (k : κ) (v : V) : List (κ × V) :=
  if (kvs.any fun kv => decide (kv.1 = k)) = true then kvs.map (fun kv => if kv.1 = k then (kv.1, v) else kv) else kvs ++ [(k, v)]
theorem valV_pos {p : κ × V} {r : List (κ × V)} {k : κ} (e : p.1 = k) : valV (p :: r) k = some p.2 := by simp [valV, List.find?_cons, e]
theorem valV_neg {p : κ × V} {r : List (κ × V)} {k : κ} (e : ¬ p.1 = k) : valV (p :: r) k = valV r k := by simp [valV, List.find?_cons, e]
theorem valV_any (k : κ) : ∀ kvs : List (κ × V), (kvs.any fun kv => decide (kv.1 = k)) = (valV kvs k).isSome
  | [] => rfl
  | p :: r => by
    rw [List.any_cons]
    by_cases e : p.1 = k
    · simp only [valV_pos e, decide_eq_true e, Bool.true_or, Option.isSome_some]
    · rw [valV_neg e, decide_eq_false e, Bool.false_or]; exact valV_any k r
theorem valV_map (k j : κ) (y : V) : ∀ kvs : List (κ × V), valV (kvs.map fun kv => if kv.1 = k then (kv.1, y) else kv) j = (valV kvs j).map fun x => if j = k then y else x
  | [] => rfl
  | p :: r => by
    have ih := valV_map k j y r
    rw [List.map_cons]
    by_cases h : p.1 = k
    · rw [if_pos h]
      by_cases e : p.1 = j
      · rw [valV_pos (p := (p.1, y)) e, valV_pos e, Option.map_some, if_pos (e.symm.trans h)]
      · rw [valV_neg (p := (p.1, y)) e, valV_neg e, ih]
    · rw [if_neg h]
      by_cases e : p.1 = j
      · rw [valV_pos (p := p) e, valV_pos e, Option.map_some, if_neg (fun z => h (e.trans z))]
      · rw [valV_neg (p := p) e, valV_neg e, ih]
theorem valV_snoc (k j : κ) (y : V) : ∀ kvs : List (κ × V), valV kvs k = none → valV (kvs ++ [(k, y)]) j = if j = k then some y else valV kvs j
  | [], _ => by
    by_cases e : k = j
    · rw [if_pos e.symm]; exact valV_pos (p := (k, y)) e
    · rw [if_neg (fun z => e z.symm)]; exact valV_neg (p := (k, y)) e
  | p :: r, hn => by
    rw [List.cons_append]
    have hk : ¬ p.1 = k := fun z => by rw [valV_pos z] at hn; cases hn
    rw [valV_neg hk] at hn
    have ih := valV_snoc k j y r hn
    by_cases e : p.1 = j
    · rw [valV_pos e, valV_pos e, if_neg (fun z => hk (e.trans z))]
    · rw [valV_neg e, valV_neg e, ih]
theorem valV_put (kvs : List (κ × V)) (k j : κ) (y : V) : valV (putK kvs k y) j = if j = k then some y else valV kvs j := by
  unfold putK
  by_cases a : (kvs.any fun kv => decide (kv.1 = k)) = true
  · rw [if_pos a, valV_map]
    rw [valV_any] at a
    by_cases e : j = k
    · obtain ⟨x, hx⟩ := Option.isSome_iff_exists.mp a
      rw [if_pos e, e, hx, Option.map_some, if_pos rfl]
    · rw [if_neg e]
      cases valV kvs j with
      | none => rfl
      | some x => rw [Option.map_some, if_neg e]
  · rw [if_neg a]
    refine valV_snoc k j y kvs ?_
    rw [valV_any] at a
    cases q : valV kvs k with
    | none => rfl
    | some x => rw [q] at a; exact (a rfl).elim
theorem length_putK (kvs : List (κ × V)) (k : κ) (v : V) : (putK kvs k v).length ≤ kvs.length + 1 := by
  unfold putK
  split
  · rw [List.length_map]; omega
  · rw [List.length_append, List.length_cons, List.length_nil]; omega
theorem RelO.isSome_eq {o : Option V} {u : Option Value} (r : RelO o u) : o.isSome = u.isSome := by
  cases o with
  | none => cases u with
    | none => rfl
    | some _ => exact (show False from r).elim
  | some _ => cases u with
    | none => exact (show False from r).elim
    | some _ => rfl
theorem RelO.getD {o : Option V} {u : Option Value} {d : V} {d' : Value} (r : RelO o u) (rd : RelV d d') : RelV (o.getD d) (u.getD d') := by
  cases o with
  | none => cases u with
    | none => exact rd
    | some _ => exact (show False from r).elim
  | some _ => cases u with
    | none => exact (show False from r).elim
    | some _ => exact r

/-- raw tables of the same keys -/
theorem KV.val {kvs : List (κ × V)} {vs : List (κ × Value)} (r : KV kvs vs) (k : κ) : RelO (valV kvs k) (valueAt vs k) := by
  unfold KV at r
  induction r with
  | nil => exact True.intro
  | @cons p q ps qs h t ih =>
    obtain ⟨h1, h2⟩ := h
    by_cases e : p.1 = k
    · have e' : q.1 = k := h1.symm.trans e
      have b : valueAt (q :: qs) k = some q.2 := by simp [valueAt, List.find?_cons, e']
      rw [valV_pos e, b]; exact h2
    · have e' : ¬ q.1 = k := fun z => e (h1.trans z)
      have b : valueAt (q :: qs) k = valueAt qs k := by simp [valueAt, List.find?_cons, e']
      rw [valV_neg e, b]; exact ih
theorem KV.any {kvs : List (κ × V)} {vs : List (κ × Value)} (r : KV kvs vs) (k : κ) : (kvs.any fun kv => decide (kv.1 = k)) = vs.any fun kv => decide (kv.1 = k) := by
  unfold KV at r
  induction r with
  | nil => rfl
  | cons h t ih => rw [List.any_cons, List.any_cons, ih, h.1]
theorem KV.repl {kvs : List (κ × V)} {vs : List (κ × Value)} (r : KV kvs vs) (k : κ) {y : V} {u : Value} (ry : RelV y u) :
    KV (kvs.map fun kv => if kv.1 = k then (kv.1, y) else kv) (vs.map fun kv => if kv.1 = k then (kv.1, u) else kv) := by
  unfold KV at r ⊢
  induction r with
  | nil => exact .nil
  | @cons p q ps qs h t ih =>
    rw [List.map_cons, List.map_cons]
    refine .cons ?_ ih
    obtain ⟨h1, h2⟩ := h
    by_cases e : p.1 = k
    · rw [if_pos e, if_pos (h1.symm.trans e)]; exact ⟨h1, ry⟩
    · rw [if_neg e, if_neg (fun z => e (h1.trans z))]; exact ⟨h1, h2⟩
theorem KV.put {kvs : List (κ × V)} {vs : List (κ × Value)} (r : KV kvs vs) (k : κ) {y : V} {u : Value} (ry : RelV y u) : KV (putK kvs k y) (stored vs k u) := by
  unfold putK stored
  rw [r.any k]
  by_cases e : (vs.any fun kv => decide (kv.1 = k)) = true
  · rw [if_pos e, if_pos e]; exact r.repl k ry
  · rw [if_neg e, if_neg e]; exact Paired.snoc r ⟨rfl, ry⟩
theorem KV.length {kvs : List (κ × V)} {vs : List (κ × Value)} (r : KV kvs vs) : kvs.length = vs.length := Paired.length r
end


theorem kV_is {P : Program} {w : World} {k : Key} {u : Value} (r : RelV (kV k) u) : (mixKind P w).is k u = true := by
  cases k with
  | inl i => obtain ⟨t, e⟩ := (show ∃ t, u = Value.int i t from r); subst e; exact mixKind_int P w i t
  | inr x => obtain ⟨t, e⟩ := (show ∃ t, u = Value.str x t from r); subst e; exact mixKind_str P w x t
theorem items_are {P : Program} {w : World} : ∀ {ks : List Key} {us : List Value}, Vals (ks.map kV) us → ItemsAre (mixKind P w) ks us
  | [], _, r => by rw [List.map_nil] at r; cases r; exact .nil
  | k :: ks, _, r => by
    rw [List.map_cons] at r
    cases r with
    | cons h t => exact .cons (kV_is h) (items_are t)

/-- raw entries of a dict with tuple keys -/
abbrev KT (H : Hp) : List (List Key × V) → List (List Key × Addr × Value) → Prop := Paired fun p q => p.1 = q.1 ∧ H q.2.1 = some (.tup (p.1.map kV)) ∧ RelV p.2 q.2.2
theorem KT.val {H : Hp} {kvs : List (List Key × V)} {xs : List (List Key × Addr × Value)} (r : KT H kvs xs) (k : List Key) : RelO (valV kvs k) ((atKey xs k).map (·.2)) := by
  induction r with
  | nil => exact True.intro
  | @cons p q ps qs h t ih =>
    obtain ⟨h1, _, h2⟩ := h
    by_cases e : p.1 = k
    · have e' : q.1 = k := h1.symm.trans e
      have b : atKey (q :: qs) k = some q.2 := by simp [atKey, List.find?_cons, e']
      rw [valV_pos e, b]; exact h2
    · have e' : ¬ q.1 = k := fun z => e (h1.trans z)
      have b : atKey (q :: qs) k = atKey qs k := by simp [atKey, List.find?_cons, e']
      rw [valV_neg e, b]; exact ih
theorem KT.repl {H : Hp} {kvs : List (List Key × V)} {xs : List (List Key × Addr × Value)} (r : KT H kvs xs) (k : List Key) {y : V} {u : Value} (ry : RelV y u) :
    KT H (kvs.map fun kv => if kv.1 = k then (kv.1, y) else kv) (xs.map (putAt k u)) := by
  induction r with
  | nil => exact .nil
  | @cons p q ps qs h t ih =>
    rw [List.map_cons, List.map_cons]
    refine .cons ?_ ih
    obtain ⟨h1, h2, h3⟩ := h
    unfold putAt
    by_cases e : p.1 = k
    · rw [if_pos e, if_pos (h1.symm.trans e)]; exact ⟨h1, h2, ry⟩
    · rw [if_neg e, if_neg (fun z => e (h1.trans z))]; exact ⟨h1, h2, h3⟩
theorem KT.put {H : Hp} {kvs : List (List Key × V)} {xs : List (List Key × Addr × Value)} (r : KT H kvs xs) (k : List Key) {b : Addr} {y : V} {u : Value} (hb : H b = some (.tup (k.map kV))) (ry : RelV y u) :
    KT H (putK kvs k y) (storedH xs k b u) := by
  have e : (kvs.any fun kv => decide (kv.1 = k)) = (atKey xs k).isSome := by
    rw [valV_any, (r.val k).isSome_eq, Option.isSome_map]
  unfold putK storedH
  rw [e]
  by_cases q : (atKey xs k).isSome = true
  · rw [if_pos q, if_pos q]; exact r.repl k ry
  · rw [if_neg q, if_neg q]; exact Paired.snoc r ⟨rfl, hb, ry⟩
theorem KT.keeps {H H' : Hp} {kvs : List (List Key × V)} {xs : List (List Key × Addr × Value)} (r : KT H kvs xs) (ht : ∀ b ys, H b = some (.tup ys) → H' b = some (.tup ys)) : KT H' kvs xs :=
  Paired.mapP r fun _ _ z => ⟨z.1, ht _ _ z.2.1, z.2.2⟩

section
variable {P : Program} {w : World} {H : Hp} {h : Heap} {a : Addr}
theorem rd_of {u : HO} (ok : HOk P w H h) (e : Rd H a u) : ObjOk P w H h a u := e.ok ok
theorem dk_rd {kvs : List (Key × V)} (ok : HOk P w H h) (e : Rd H a (.dK kvs)) : kvs.length ≤ sizeLine ∧ (a == sysModules) = false ∧ ∃ vs, KV kvs vs ∧ h.DictOf (mixKind P w) a vs :=
  show ObjOk P w H h a (.dK kvs) from rd_of ok e
theorem dk_of {kvs : List (Key × V)} (ok : HOk P w H h) (e : H a = some (.dK kvs)) : kvs.length ≤ sizeLine ∧ (a == sysModules) = false ∧ ∃ vs, KV kvs vs ∧ h.DictOf (mixKind P w) a vs := dk_rd ok (.inl e)
/-- a tracked tuple of ints and texts is a key -/
theorem key_of {ks : List Key} (ok : HOk P w H h) (e : H a = some (.tup (ks.map kV))) : (tupleKind (mixKind P w)).is h ks a := by
  obtain ⟨_, its, r, o, h1, h2, n, h3⟩ := (show ObjOk P w H h a (.tup (ks.map kV)) from ok a _ e)
  exact ⟨o, its.toArray, n, h1, h2, h3, by simpa using items_are r⟩
theorem dt_rd {kvs : List (List Key × V)} (ok : HOk P w H h) (e : Rd H a (.dT kvs)) : kvs.length ≤ sizeLine ∧ (a == sysModules) = false ∧
    ∃ xs, KT H kvs xs ∧ h.DictOfH (tupleKind (mixKind P w)) a xs := by
  obtain ⟨z, y, xs, r, o, es, ep, h1, h2, h3, h4, h5⟩ := (show ObjOk P w H h a (.dT kvs) from rd_of ok e)
  refine ⟨z, y, xs, r, o, es, ep, h1, h2, h3, h4, fun x hx => ?_, h5⟩
  have all : ∀ {l : List (List Key × V)} {m : List (List Key × Addr × Value)}, KT H l m → ∀ x ∈ m, (tupleKind (mixKind P w)).is h x.1 x.2.1 := by
    intro l m q
    induction q with
    | nil => intro x hx; exact nomatch hx
    | @cons p q ps qs hq t ih =>
      intro x hx
      rcases List.mem_cons.mp hx with e | hx
      · subst e
        exact key_of ok (by rw [← hq.1]; exact hq.2.1)
      · exact ih x hx
  exact all r x hx
theorem dt_of {kvs : List (List Key × V)} (ok : HOk P w H h) (e : H a = some (.dT kvs)) : kvs.length ≤ sizeLine ∧ (a == sysModules) = false ∧
    ∃ xs, KT H kvs xs ∧ h.DictOfH (tupleKind (mixKind P w)) a xs := dt_rd ok (.inl e)
end

/-- what the dict at a holds at the key y -/
def DGet (H : Hp) (a : Addr) (y : V) (r : Option V) : Prop :=
  (∃ kvs k, Rd H a (.dK kvs) ∧ y = kV k ∧ r = valV kvs k) ∨ ∃ kvs k b, Rd H a (.dT kvs) ∧ y = .ref b ∧ H b = some (.tup (k.map kV)) ∧ r = valV kvs k
/-- the heap behind a[y] = v -/
def DPut (H : Hp) (a : Addr) (y v : V) (H' : Hp) : Prop :=
  (∃ kvs k, H a = some (.dK kvs) ∧ y = kV k ∧ kvs.length < sizeLine ∧ H' = upd H a (.dK (putK kvs k v))) ∨
  ∃ kvs k b, H a = some (.dT kvs) ∧ y = .ref b ∧ H b = some (.tup (k.map kV)) ∧ kvs.length < sizeLine ∧ H' = upd H a (.dT (putK kvs k v))
theorem DGet.k {H : Hp} {a : Addr} {kvs : List (Key × V)} {k : Key} (e : H a = some (.dK kvs)) : DGet H a (kV k) (valV kvs k) := .inl ⟨kvs, k, .inl e, rfl, rfl⟩
theorem DPut.k {H : Hp} {a : Addr} {kvs : List (Key × V)} {k : Key} {v : V} (e : H a = some (.dK kvs)) (hl : kvs.length < sizeLine) : DPut H a (kV k) v (upd H a (.dK (putK kvs k v))) := .inl ⟨kvs, k, e, rfl, hl, rfl⟩
section
variable {X : Cx} {pins : List (Addr × Obj)} {σ : St} {H : Hp} {s : Shared} {a : Addr} {y v : V} {u r : Value} {o : Option V} {A : Around} {E : Value → Shared → Prop}

theorem Inv.big (I : Inv X pins σ H s) : sysModules < s.heap.objs.size := by
  have h : mainGlobals < s.heap.objs.size := (I.mod.glob.keeps I.bk).lt
  exact Nat.lt_trans (by decide) h

theorem d_notIn {Q : Value → Shared → Prop} (hu : A.units + 1 < cLine) (I : Inv X pins σ H s) (g : DGet H a y o) (ry : RelV y u) (h : ∀ s', Inv X pins σ H s' → Q (.bool (!o.isSome)) s') :
    wpAny (model X.prog X.w) A (compareOp .NotIn u (.ref a)) Q E s := by
  rcases g with ⟨kvs, k, e, ey, l⟩ | ⟨kvs, k, b, e, ey, eb, l⟩
  · subst ey
    obtain ⟨z, hd, vs, rel, dd⟩ := dk_rd I.hok e
    refine wpAny_notIn_of (kV_is ry) hd dd.mapOf ?_
    rw [← (rel.val k).isSome_eq, ← l]
    exact h _ (I.tok _)
  · subst ey
    cases (show u = Value.ref b from ry)
    obtain ⟨z, hd, xs, rel, dd⟩ := dt_rd I.hok e
    refine wpAny_notIn_heap (tupleKind_room_in1 hu) (key_of I.hok eb) hd dd ?_
    have q := (rel.val k).isSome_eq
    rw [Option.isSome_map] at q
    rw [← q, ← l]
    exact h _ (I.tok _)
/-- a dict's object is replaced -/
theorem d_write {h' : Heap} {t' : Nat} {ob : HO} (I : Inv X pins σ H s) (mu : Mut (H a)) (hs : Heap.SameBut a s.heap h') (he : ∃ q, h'.get? a = some q) (new : ObjOk X.prog X.w (upd H a ob) h' a ob) :
    Inv X pins σ (upd H a ob) { s with heap := h', toks := t' } :=
  I.write (x := a) (e := a) mu (.inl rfl) (fun b q hb z => (hs.2 b hb).trans z) he new
theorem dk_new {P : Program} {w : World} {H' : Hp} {h' : Heap} {kvs : List (Key × V)} {vs : List (Key × Value)} (z : kvs.length ≤ sizeLine) (hd : (a == sysModules) = false) (rel : KV kvs vs) (dd : h'.DictOf (mixKind P w) a vs) :
    ObjOk P w H' h' a (.dK kvs) := ⟨z, hd, vs, rel, dd⟩
/-- d[y] = v -/
theorem d_setItem {H' : Hp} {Q : Unit → Shared → Prop} (hu : A.units + 1 < cLine) (I : Inv X pins σ H s) (g : DPut H a y v H') (ry : RelV y u) (rv : RelV v r) (h : ∀ s', Inv X pins σ H' s' → Q () s') :
    wpAny (model X.prog X.w) A (setItem (.ref a) u r) Q E s := by
  rcases g with ⟨kvs, k, e, ey, l, eH⟩ | ⟨kvs, k, b, e, ey, eb, l, eH⟩
  · subst ey eH
    obtain ⟨z, hd, vs, rel, dd⟩ := dk_of I.hok e
    have hz : vs.length ≤ sizeLine := by rw [← rel.length]; exact z
    have hl : (putK kvs k v).length ≤ sizeLine := by have := length_putK kvs k v; omega
    refine wpAny_setItem_pairs (hsz := hz) (kV_is ry) dd fun h' dd' hs => h _ ?_
    have he : ∃ q, h'.get? a = some q := let ⟨q, _, _, hq, _⟩ := dd'; ⟨q, hq⟩
    exact d_write I (by rw [e]; exact True.intro) hs he (dk_new hl hd (rel.put k rv) dd')
  · subst ey eH
    cases (show u = Value.ref b from ry)
    obtain ⟨z, hd, xs, rel, dd⟩ := dt_of I.hok e
    have hz : xs.length ≤ sizeLine := by rw [← Paired.length rel]; exact z
    have hl : (putK kvs k v).length ≤ sizeLine := by have := length_putK kvs k v; omega
    refine wpAny_setItem_heap (hsz := hz) (tupleKind_room_in1 hu) (key_of I.hok eb) dd fun h' dd' hs => h _ ?_
    obtain ⟨q, es, ep, hq, h2, h3, h4, _, h5⟩ := dd'
    refine d_write I (by rw [e]; exact True.intro) hs ⟨q, hq⟩ ⟨hl, hd, _, (rel.put k eb rv).keeps fun c ys ec => ?_, q, es, ep, hq, h2, h3, h4, h5⟩
    rw [upd_ne (ne_of ec e (fun z => nomatch z))]
    exact ec
end

section
variable {X : Cx} {pins : List (Addr × Obj)} {σ : St} {H : Hp} {s : Shared} {a : Addr} {kvs : List (Key × V)} {k : Key} {u : Value} {A : Around} {E : Value → Shared → Prop}
/-- len(d) -/
theorem d_len {Q : Value → Shared → Prop} (I : Inv X pins σ H s) (e : Rd H a (.dK kvs)) (h : ∀ t s', Inv X pins σ H s' → Q (.int kvs.length t) s') : wpAny (model X.prog X.w) A (call (.builtin "len") [.ref a]) Q E s := by
  obtain ⟨z, hd, vs, rel, dd⟩ := dk_rd I.hok e
  refine call_len_dict hd dd (by rw [← rel.length]; rw [sizeLine_eq] at z; omega) ?_
  rw [← rel.length]
  exact h _ _ (I.tok _)
end


def tDNotIn (ty td : TE) : TE := fun σ H Q => ty σ H fun y H1 => td σ H1 fun x H2 => ∃ a o, x = .ref a ∧ DGet H2 a y o ∧ Q (.bl (!o.isSome)) H2
/-- d[y] = v -/
def sDPut (td ty tv : TE) : TS := fun D σ H => tv σ H fun v H1 => td σ H1 fun x H2 => ty σ H2 fun y H3 => ∃ a H4, x = .ref a ∧ DPut H3 a y v H4 ∧ D.nx σ H4
section
variable {X : Cx} {o i e value : Expr} {pos pos' tpos : Pos} {td ty tv : TE}
theorem pc_dnotin (hu : X.A.units + 1 < cLine) (hi : PE X i ty) (ho : PE X o td) : PC X .NotIn i o (tDNotIn ty td) := by
  intro pins s σ H Q I h
  refine thn (hi pins s σ H _ I h) fun iv s1 ⟨y, H1, I1, ry, q1⟩ => thn (ho pins s1 σ H1 _ I1 q1) fun u s2 ⟨x, H2, I2, rx, a, ov, ex, g, q2⟩ => ?_
  subst ex
  obtain rfl : u = Value.ref a := rx
  exact d_notIn hu I2 g ry fun s3 I3 => ⟨.bl (!ov.isSome), H2, I3, rfl, q2⟩
theorem ps_dput (hu : X.A.units + 1 < cLine) (ho : PE X o td) (hi : PE X i ty) (hv : PE X value tv) (hs : swapsWith value (some (.Subscript o i pos')) pos.line X.env = pure false) :
    PS X (.Assign [.Subscript o i pos'] value pos) (sDPut td ty tv) := by
  intro pins s σ H D I h
  refine wpAny_Assign_Subscript (thn (hv pins s σ H _ I h) fun r s1 ⟨v, H1, I1, rv, q1⟩ => thn (ho pins s1 σ H1 _ I1 q1) fun u s2 ⟨x, H2, I2, rx, q2⟩ => thn (hi pins s2 σ H2 _ I2 q2) fun iv s3 ⟨y, H3, I3, ry, a, H4, ex, g, q3⟩ => ?_) hs
  subst ex
  obtain rfl : u = Value.ref a := rx
  exact d_setItem hu I3 g ry rv fun s4 I4 => ⟨σ, H4, I4, q3⟩
end


theorem dk_empty {P : Program} {w : World} {H : Hp} (h : Heap) (hb : sysModules < h.objs.size) : ObjOk P w H (h.push { cls := .type "dict", data := .dict #[] }) h.objs.size (.dK []) :=
  ⟨Nat.zero_le _, beq_eq_false_iff_ne.mpr (Ne.symm (Nat.ne_of_lt hb)), [], .nil, Heap.DictOf.new h⟩
/-- {}, to be a dict of the kind that is wanted -/
def tDNewK : TE := fun _ H Q => ∀ p, H p = none → Q (.ref p) (upd H p (.dK []))
section
variable {X : Cx} {pos : Pos}
theorem pe_dnewK : PE X (.Dict [] [] pos) tDNewK := fun pins s σ H Q I h =>
  wpAny_Dict_empty ⟨.ref s.heap.objs.size, _, I.laid (a := s.heap.objs.size) (o := .dK []) (t' := s.toks) (fun _ _ q => Heap.get?_push_of_some _ q) (Nat.le_refl _) (dk_empty s.heap I.big), rfl, h _ (I.hok.fresh (Nat.le_refl _))⟩
end

/-- a method call o.m(e) of a built-in, with one argument: what must be seen of the text -/
structure M1 (X : Cx) (o : Expr) (m : Str) (apos : Pos) (e : Expr) (cpos : Pos) : Prop where
  base : attributeBase o m X.env (eval o X.env) = eval o X.env
  few : ((backTo cpos (starEach [e] X.env)).all (fun x => !x.1) && (backToKw cpos (keywordEach [] X.env)).all (fun x => x.1.isSome)
    && decide (([e] : List Expr).length + ([] : List Keyword).length + (if ([] : List Keyword).isEmpty then 0 else 1) < 30)) = true
  line : (apos.endLine == cpos.line) = true
  trees : backTo cpos (starEach [e] X.env) = [(false, eval e X.env)]
/-- a is a dict, whatever its keys -/
def IsD (H : Hp) (a : Addr) : Prop := (∃ kvs, Rd H a (.dK kvs)) ∨ ∃ kvs, Rd H a (.dT kvs)
theorem isD_at {X : Cx} {pins : List (Addr × Obj)} {σ : St} {H : Hp} {s : Shared} {a : Addr} (I : Inv X pins σ H s) (d : IsD H a) :
    s.TypeIs (.ref a) "dict" ∧ (∀ b, Value.ref a = .ref b → ∃ ob, s.heap.get? b = some ob ∧ ob.dict = none) ∧ (a == sysModules) = false := by
  rcases d with ⟨kvs, e⟩ | ⟨kvs, e⟩
  · obtain ⟨_, hd, vs, _, dd⟩ := dk_rd I.hok e
    refine ⟨dd.typeIs, fun b q => ?_, hd⟩
    cases q
    obtain ⟨ob, _, _, h1, h2, _⟩ := dd
    exact ⟨ob, h1, h2.2.1⟩
  · obtain ⟨_, hd, xs, _, dd⟩ := dt_rd I.hok e
    refine ⟨dd.typeIs, fun b q => ?_, hd⟩
    cases q
    obtain ⟨ob, _, _, h1, h2, _⟩ := dd
    exact ⟨ob, h1, h2.2.1⟩

section
variable {X : Cx} {pins : List (Addr × Obj)} {σ : St} {H : Hp} {s : Shared} {a : Addr} {y d : V} {u r : Value} {o : Option V} {A : Around} {E : Value → Shared → Prop}
/-- d.get(y) -/
theorem d_get1 {Q : Value → Shared → Prop} (hu : A.units + 1 < cLine) (I : Inv X pins σ H s) (g : DGet H a y o) (ry : RelV y u) (h : ∀ w' s', Inv X pins σ H s' → RelV (o.getD .non) w' → Q w' s') :
    wpAny (model X.prog X.w) A (call (.builtin "dict.get") [.ref a, u]) Q E s := by
  rcases g with ⟨kvs, k, e, ey, l⟩ | ⟨kvs, k, b, e, ey, eb, l⟩
  · subst ey
    obtain ⟨z, hd, vs, rel, dd⟩ := dk_rd I.hok e
    refine call_meetsIn PySem.F.slot_dict_get dd.typeIs PySem.F.entry_dict_get (PySem.F.args_dict_get_2 _ _) (meets_dict_get (mixKind X.prog X.w) a (kV_is ry) hd) ⟨_, dd.mapOf, h _ _ (I.tok _) ?_⟩
    rw [l]
    exact (rel.val k).getD rfl
  · subst ey
    cases (show u = Value.ref b from ry)
    obtain ⟨z, hd, xs, rel, dd⟩ := dt_rd I.hok e
    refine call_meetsIn PySem.F.slot_dict_get dd.typeIs PySem.F.entry_dict_get (PySem.F.args_dict_get_2 _ _) (meetsH_dict_get (tupleKind (mixKind X.prog X.w)) a b hd) ⟨tupleKind_room_in1 hu, k, xs, key_of I.hok eb, dd, h _ _ (I.tok _) ?_⟩
    rw [l]
    exact (rel.val k).getD rfl
end

def tDGet1 (td ty : TE) : TE := fun σ H Q => td σ H fun x H1 => ∃ a, x = .ref a ∧ IsD H1 a ∧ ty σ H1 fun y H2 => ∃ o, DGet H2 a y o ∧ Q (o.getD .non) H2
section
variable {X : Cx} {o e f : Expr} {apos cpos : Pos} {td ty tx : TE}
theorem pe_dget1 (hu : X.A.units + 1 < cLine) (ho : PE X o td) (he : PE X e ty) (m : M1 X o "get" apos e cpos) : PE X (.Call (.Attribute o "get" apos) [e] [] cpos) (tDGet1 td ty) := by
  intro pins s σ H Q I h
  refine wpAny_Call_method m.base m.few m.line PySem.F.plainAttrs_dict PySem.F.slot_dict_get PySem.F.type_dict_get (thn (ho pins s σ H _ I h) fun u s1 ⟨x, H1, I1, rx, a, ex, d, q1⟩ => ?_)
  subst ex
  obtain rfl : u = Value.ref a := rx
  obtain ⟨t1, t2, _⟩ := isD_at I1 d
  refine ⟨t1, t2, ?_⟩
  rw [m.trees]
  refine Calls.callWith_builtin rfl (Calls.evalArgs_plain (Calls.spliced_cons (thn (he pins s1 σ H1 _ I1 q1) fun iv s2 ⟨y, H2, I2, ry, ov, g, q2⟩ => Calls.spliced_nil ?_)))
  exact d_get1 hu I2 g ry fun w' s3 I3 rw' => ⟨_, H2, I3, rw', q2⟩
end

section
variable {X : Cx} {pins : List (Addr × Obj)} {σ : St} {H : Hp} {s : Shared} {a : Addr} {kvs : List (Key × V)} {A : Around} {E : Value → Shared → Prop}
end


section
variable {X : Cx} {pins : List (Addr × Obj)} {σ : St} {H : Hp} {s : Shared} {a : Addr} {y : V} {u : Value} {A : Around} {E : Value → Shared → Prop}
end
section
variable {X : Cx}
/-- len of a dict -/
theorem call_lenD : CallR X (.builtin "len") (fun xs H Q => ∃ a kvs, xs = [V.ref a] ∧ H a = some (.dK kvs) ∧ Q (.int kvs.length) H) := by
  intro pins s σ H xs us Q I r h
  obtain ⟨a, kvs, rfl, ha, q⟩ := h
  obtain ⟨u, rfl, ru⟩ := vals1 r
  cases ru
  exact d_len I (.inl ha) fun t s' I' => ⟨.int kvs.length, H, I', ⟨t, rfl⟩, q⟩
end
section
variable {κ : Type} [DecidableEq κ]
end
end L2
namespace L2
open PySem PySem.Spec PyProof.Rows
section
variable {X : Cx}
def rSplit : V → List V → Hp → VK → Prop := fun x vs H Q => ∃ a b : Str, x = .str a ∧ vs = [.str b] ∧ (b.length == 0) = false ∧ a.length + 2 ≤ sizeLine ∧ ∀ p, H p = none → Q (.ref p) (upd H p (.lst ((PySem.Txt.split a b).map V.str)))
theorem vals_strs : ∀ (n : Nat) (ys : List Str), Vals (ys.map V.str) (strsFrom n ys) := by
  intro n ys
  rw [strsFrom_eq]
  have aux : ∀ (l : List (Str × Tok)), Vals ((l.map (·.1)).map V.str) (strValues l) := by
    intro l
    induction l with
    | nil => exact .nil
    | cons p r ih => exact .cons ⟨p.2, rfl⟩ ih
  have := aux (numbered n ys)
  rwa [numbered_texts] at this
theorem mt_split : MtR X "str.split" rSplit := by
  intro pins s σ H x vs v us Q I rx rv h
  obtain ⟨a, b, rfl, rfl, hb, hz, q⟩ := h
  obtain ⟨t, rfl⟩ := rx
  obtain ⟨u, rfl, ru⟩ := rv.one
  obtain ⟨t1, rfl⟩ := ru
  have q0 := q s.heap.objs.size (I.hok.fresh (Nat.le_refl _))
  have hle := PyProof.Rows.split_le a b
  cases h1 : (decide (a.length < b.length) || decide (Builtin.Str.strKind a < Builtin.Str.strKind b))
  · cases hf : (Builtin.Str.occurrences a b 0 a.length (a.length + 1)).isEmpty
    · have e : PySem.Txt.split a b = Builtin.Str.partsBetween a (Builtin.Str.occurrences a b 0 a.length (a.length + 1)) b.length := by
        unfold PySem.Txt.split
        rw [if_neg (ne_true_of_eq_false h1), if_neg (ne_true_of_eq_false hf)]
      rw [e] at q0 hle
      refine call_meets F.slot_str_split (typeIs_str _ _ _) F.entry_str_split (F.args_str_split_2 _ _) (meets_str_split_sep a b t t1 h1 hb hf (by omega) (by omega)) ?_
      exact ⟨.ref _, _, I.lnew (t' := _) (vals_strs s.toks _) (by rw [List.length_map]; omega), rfl, q0⟩
    · have e : PySem.Txt.split a b = [a] := by
        unfold PySem.Txt.split
        rw [if_neg (ne_true_of_eq_false h1), if_pos hf]
      rw [e] at q0
      refine call_meets F.slot_str_split (typeIs_str _ _ _) F.entry_str_split (F.args_str_split_2 _ _) (meets_str_split_not_found a b t t1 h1 hb hf) ?_
      exact ⟨.ref _, _, I.lnew (ys := [.str a]) (t' := s.toks) (.cons ⟨t, rfl⟩ .nil) (by show 1 ≤ sizeLine; decide), rfl, q0⟩
  · have e : PySem.Txt.split a b = [a] := by
      unfold PySem.Txt.split
      rw [if_pos h1]
    rw [e] at q0
    refine call_meets F.slot_str_split (typeIs_str _ _ _) F.entry_str_split (F.args_str_split_2 _ _) (meets_str_split_cannot_occur a b t t1 h1) ?_
    exact ⟨.ref _, _, I.lnew (ys := [.str a]) (t' := s.toks) (.cons ⟨t, rfl⟩ .nil) (by show 1 ≤ sizeLine; decide), rfl, q0⟩
theorem boolsAre_of {bs : List Bool} : ∀ {us : List Value}, Vals (bs.map V.bl) us → LSm.BoolsAre us bs := by
  induction bs with
  | nil => intro us r; cases r; exact .nil
  | cons y r ih =>
    intro us h
    cases h with
    | cons h t =>
      cases h
      exact .cons _ (ih t)
theorem call_allL (hc : X.calm = true) : CallR X (.builtin "all") (fun xs H Q => ∃ (p : Addr) (bs : List Bool), xs = [.ref p] ∧ SqL X.K H p (bs.map V.bl) ∧ Q (.bl (bs.all id)) H) := by
  intro pins s σ H xs us Q I r h
  obtain ⟨p, bs, rfl, hq, q⟩ := h
  obtain ⟨u, rfl, rx⟩ := vals1 r
  cases rx
  obtain ⟨its, r', pl, hz⟩ := I.list hq
  have hb := boolsAre_of r'
  have hl := pl.isList
  have hlt : p < s.heap.objs.size := by obtain ⟨_, e, _⟩ := hl; exact Heap.lt_size e
  refine call_all_walk (wpAny_pyIter_list hl ?_)
  refine ⟨s.heap.objs.size, [s.heap.objs.size, p], [s.heap.objs.size], its.toArray.size, _, _, fun i => (bs[i]?).getD true, rfl, Walks.list (A := X.A.in1) (I.ok.hd hc) _ p (Nat.ne_of_lt hlt) its.toArray,
    ⟨⟨_, Heap.get?_push_size _ rfl, rfl, rfl⟩, hl.push _⟩, fun i v s' Q' E' hP hQ => ?_, fun h' tk hk => ?_⟩
  · obtain ⟨b, e, rfl⟩ := hb.get i v (by simpa using hP)
    simp only [e, Option.getD_some] at hQ
    exact wpAny_truthy_bool hQ
  · have e : ((List.range its.toArray.size).all fun i => (bs[i]?).getD true) = bs.all id := by
      rw [List.size_toArray, hb.length]; exact LSm.range_all bs
    rw [e]
    exact ⟨.bl _, H, I.kept (t' := tk) (LSm.kept_iter hk), rfl, q⟩
end
def Its (z : Str) : It := ⟨fun i _ => i < z.length, fun i H x H' => H' = H ∧ ∃ c, z.cps.toList[i]? = some c ∧ x = .str ⟨#[c]⟩, fun i _ => z.length ≤ i⟩
section
variable {X : Cx} {tg : Expr}
theorem turn_walk {P : Program} {w : World} {K : PySem.W.Frag} {x : Str} {px : Pos} (z : Str) (it : Addr) (St : Nat → Heap → Prop) (cl : ∀ i h, St i h → ∃ o, h.get? it = some o ∧ ∀ v, o.data ≠ .cell v)
    (fr : ∀ i h h', St i h → (∀ o, h.get? it = some o → h'.get? it = some o) → St i h') (sf : ∀ (A : Around) (i : Nat) (s : Shared) (Q : Value → Shared → Prop) (E : Value → Shared → Prop), St i s.heap → Q (.ref it) s → wpAny (model P w) A (pyIter (.ref it)) Q E s)
    (W : ∀ A : Around, A.handled = none → Walks P w A it [it] [it] z.cps.size (SignAt z) St) : Turn P w K (.Name x px) (Its z) [it] it (fun i h => St i h ∧ i ≤ z.length) where
  mem := by simp
  obj := fun i h st b hb => by
    have e : b = it := by simpa using hb
    subst e
    exact cl i h st.1
  keep := fun i h h' st k => ⟨fr i h h' st.1 fun o e => k it (by simp) o e, st.2⟩
  item := by
    intro X hP hw hK hc i pins s σ H E I hf st hg
    subst hP hw hK
    obtain ⟨f0, f1, f2, f3, f4, f5⟩ := hf it (by simp)
    refine (W X.A (I.ok.hd hc)).item i s _ E hg st.1 fun v h' tk hP st' hk => ?_
    obtain ⟨c, u, e1, rfl⟩ := hP
    refine ⟨_, rfl, ?_⟩
    show wpAny _ _ (pure ()) _ _ _
    refine wpAny_pure ⟨.str ⟨#[c]⟩, H, I.turned (t' := tk) (fun b o hb e => hk b o (by simpa using hb) e) f0 f1 f3 f4 f5, ⟨u, rfl⟩, ⟨rfl, c, by simpa using e1, rfl⟩, ⟨st', hg⟩, fun b hb => (hf b hb).1⟩
  done := by
    intro X hP hw hK hc i pins s σ H E I hf st hg
    subst hP hw hK
    obtain ⟨f0, f1, f2, f3, f4, f5⟩ := hf it (by simp)
    have e : i = z.cps.size := Nat.le_antisymm st.2 hg
    subst e
    exact (W X.A (I.ok.hd hc)).done s _ E st.1 fun h' tk hk => ⟨rfl, I.turned (t' := tk) (fun b o hb e => hk b o (by simpa using hb) e) f0 f1 f3 f4 f5⟩
  self := fun A i s Q E st h => sf A i s Q E st.1 h
def iStr (te : TE) : TI := fun σ H R => te σ H fun x H1 => ∃ z : Str, x = .str z ∧ R (Its z) H1
theorem pi_str {e : Expr} {te : TE} {x : Str} {px : Pos} (he : PE X e te) : PI X (.Name x px) e (iStr te) := by
  intro pins s σ H R I h
  refine thn (he pins s σ H _ I h) fun v s1 ⟨y, H1, I1, r1, q1⟩ => ?_
  obtain ⟨z, rfl, q⟩ := q1
  obtain ⟨t, rfl⟩ := r1
  have fin : ∀ (o : Obj) (St : Nat → Heap → Prop), Turn X.prog X.w X.K (.Name x px) (Its z) [s1.heap.objs.size] s1.heap.objs.size St → St 0 (s1.heap.push o) → PIE X pins σ (.Name x px) R (.ref s1.heap.objs.size) { s1 with heap := s1.heap.push o } := fun o St T st => by
    refine ⟨s1.heap.objs.size, [s1.heap.objs.size], _, _, H1, rfl, I1.kept (t' := s1.toks) fun b o e => Heap.get?_push_of_some _ e, T, st, fun b hb => ?_, q⟩
    have e : b = s1.heap.objs.size := by simpa using hb
    subst e
    exact I1.fpOk (Nat.le_refl _) (I1.hok.fresh (Nat.le_refl _))
  have cl : ∀ ty (i : Nat) (h : Heap), h.IsStrIter s1.heap.objs.size ty z t i → ∃ o, h.get? s1.heap.objs.size = some o ∧ ∀ v, o.data ≠ .cell v := fun ty i h st => by
    obtain ⟨o, e, c, d⟩ := st
    exact ⟨o, e, fun v q => by rw [d] at q; cases q⟩
  have fr : ∀ ty (i : Nat) (h h' : Heap), h.IsStrIter s1.heap.objs.size ty z t i → (∀ o, h.get? s1.heap.objs.size = some o → h'.get? s1.heap.objs.size = some o) → h'.IsStrIter s1.heap.objs.size ty z t i := fun ty i h h' st k => by
    obtain ⟨o, e, r⟩ := st
    exact ⟨o, k o e, r⟩
  cases ha : z.cps.all (· < 128)
  · exact wpAny_pyIter_wide ha (fin _ _ (turn_walk z _ _ (cl _) (fr _) (fun A i s Q E st h => wpAny_pyIter_striter_wide st h) (fun A hA => Walks.strWide hA _ z t)) ⟨⟨_, Heap.get?_push_size _ rfl, rfl, rfl⟩, Nat.zero_le _⟩)
  · exact wpAny_pyIter_ascii ha (fin _ _ (turn_walk z _ _ (cl _) (fr _) (fun A i s Q E st h => wpAny_pyIter_striter_ascii st h) (fun A hA => Walks.strAscii hA _ z t)) ⟨⟨_, Heap.get?_push_size _ rfl, rfl, rfl⟩, Nat.zero_le _⟩)
def Ite (K : PySem.W.Frag) (a : Addr) : It :=
  ⟨fun i H => ∃ xs x, SqL K H a xs ∧ xs[i]? = some x, fun i H x H' => ∃ p v, H p = none ∧ x = .ref p ∧ H' = upd H p (.tup [.int i, v]) ∧ ∀ xs, SqL K H a xs → xs[i]? = some v, fun i H => ∃ xs, SqL K H a xs ∧ xs.length ≤ i⟩
theorem turn_enum {P : Program} {w : World} {K : PySem.W.Frag} {elts : List Expr} {x1} {pos : Pos} (a e it : Addr) (hne : e ≠ it) : Turn P w K (.Tuple elts x1 pos) (Ite K a) [e, it] e (fun i h => ∃ old, IsEnum h e it i old ∧ h.IsListIter it a i) where
  mem := by simp
  obj := fun i h st b hb => by
    obtain ⟨old, st, si⟩ := st
    rcases List.mem_cons.mp hb with z | z
    · subst z
      exact ⟨_, st, fun v q => by cases q⟩
    · have e : b = it := by simpa using z
      subst e
      obtain ⟨o, e, c, d⟩ := si
      exact ⟨o, e, fun v q => by rw [d] at q; cases q⟩
  keep := fun i h h' st k => by
    obtain ⟨old, st, si⟩ := st
    exact ⟨old, k e (by simp) _ st, si.at fun o q => k it (by simp) o q⟩
  item := by
    intro X hP hw hK hc i pins s σ H E I hf st hg
    subst hP hw hK
    obtain ⟨old, st, si⟩ := st
    obtain ⟨xs, x, hq, hx⟩ := hg
    obtain ⟨its, rv, p, hz⟩ := I.list hq
    obtain ⟨u, hu, ru⟩ := rv.get hx
    have f := hf e (by simp)
    have g := hf it (by simp)
    refine wpAny_pyNext_enum_item st si p.isList (x := u) (by simpa using hu) hne fun h1 eo si1 ht hsz hk => ?_
    refine ⟨_, rfl, wpAny_letOwnedTupleGo_enum (s := { s with heap := h1, toks := s.toks + 1 }) eo fun h2 en sb => ?_⟩
    have hs1 : e ≠ s.heap.objs.size := Nat.ne_of_lt (Heap.lt_size st)
    have hs2 : it ≠ s.heap.objs.size := by obtain ⟨o, q, _⟩ := si; exact Nat.ne_of_lt (Heap.lt_size q)
    have k2 : ∀ b o, b ≠ e → b ≠ it → s.heap.get? b = some o → h2.get? b = some o := fun b o n1 n2 q => (sb.2 b n1).trans (hk b o n1 n2 q)
    have fresh := I.hok.fresh (Nat.le_refl s.heap.objs.size)
    have I1 : Inv X pins σ (upd H s.heap.objs.size (.tup [.int i, x])) { s with heap := h2, toks := s.toks + 1 } := by
      refine I.step (g' := s.gens) (d' := s.drawn) (ch := [e, it]) (fun b hb => ?_) (fun b o _ _ hc q _ => ?_) (fun b o _ _ hc q _ => ?_) (fun b o hc q n => ?_) (fun b o hc q => ?_) (fun b ys q => ?_) (fun b o ys q => ?_) (fun b ps q => ?_) (fun m hm => ?_) (fun b u' q => ?_) I.bare
      · rcases List.mem_cons.mp hb with z | z
        · rw [z]; exact ⟨f.2.2.2.1, f.2.1, f.2.2.2.2.1, f.2.2.2.2.2⟩
        · have z : b = it := by simpa using z
          rw [z]; exact ⟨g.2.2.2.1, g.2.1, g.2.2.2.2.1, g.2.2.2.2.2⟩
      · exact k2 b o (fun z => hc (by simp [z])) (fun z => hc (by simp [z])) q
      · exact ⟨o.slots, k2 b o (fun z => hc (by simp [z])) (fun z => hc (by simp [z])) q⟩
      · rw [upd_ne (Nat.ne_of_lt (Heap.lt_size q))]; exact n
      · exact ⟨o, k2 b o (fun z => hc (by simp [z])) (fun z => hc (by simp [z])) q⟩
      · rw [upd_ne (ne_of_none q fresh)]; exact q
      · rw [upd_ne (ne_of_none q fresh)]; exact q
      · exact ⟨#[], by rw [upd_ne (ne_of_none q fresh), q]; simp⟩
      · obtain ⟨o, es, ep, ho, r⟩ := hm
        exact ⟨o, es, ep, k2 _ o (Ne.symm f.2.1) (Ne.symm g.2.1) ho, r⟩
      · by_cases hb : b = s.heap.objs.size
        · subst hb
          rw [upd_same] at q; cases q
          refine ⟨by show 2 ≤ sizeLine; decide, [_, u], .cons ⟨_, rfl⟩ (.cons ru .nil), ⟨_, (sb.2 _ (Ne.symm hs1)).trans ht, rfl, _, rfl⟩⟩
        · rw [upd_ne hb] at q
          refine (I.hok b u' q).stay (fun c v hc' r => k2 c v ?_ ?_ r) (fun c r => by rw [upd_ne (ne_of_none r fresh)]; exact r) fun c ys r => by rw [upd_ne (ne_of_none r fresh)]; exact r
          · rcases hc' with z | z
            · rw [z]; exact ne_of_none q f.1
            · exact ne_of_none z f.1
          · rcases hc' with z | z
            · rw [z]; exact ne_of_none q g.1
            · exact ne_of_none z g.1
    refine ⟨.ref s.heap.objs.size, _, I1, rfl, ⟨_, x, fresh, rfl, rfl, fun ys hy => by rw [I.list_inj hy hq]; exact hx⟩, ⟨_, en, ?_⟩, fun b hb => ?_⟩
    · obtain ⟨o, q, r⟩ := si1
      exact ⟨o, (sb.2 it (Ne.symm hne)).trans q, r⟩
    · have hb' := (hf b hb).1
      rcases List.mem_cons.mp hb with z | z
      · rw [upd_ne (by rw [z]; exact hs1)]; exact hb'
      · have z : b = it := by simpa using z
        rw [upd_ne (by rw [z]; exact hs2)]; exact hb'
  done := by
    intro X hP hw hK hc i pins s σ H E I hf st hg
    subst hP hw hK
    obtain ⟨old, st, si⟩ := st
    obtain ⟨xs, hq, hx⟩ := hg
    obtain ⟨its, rv, p, hz⟩ := I.list hq
    obtain ⟨f0, f1, f2, f3, f4, f5⟩ := hf it (by simp)
    have hl := rv.length
    exact wpAny_pyNext_enum_end (I.ok.hd hc) st si p.isList (by simp; omega) fun h' eb => ⟨rfl, I.turned (t' := s.toks) (fun b o hb e => eb b o hb e) f0 f1 f3 f4 f5⟩
  self := fun _ _ _ _ _ st h => by
    obtain ⟨old, st, si⟩ := st
    exact wpAny_pyIter_enum st h
def iEnum (K : PySem.W.Frag) (ta : TA) : TI := fun σ H R => ta σ H fun vs H1 => ∃ a xs, vs = [.ref a] ∧ SqL K H1 a xs ∧ R (Ite K a) H1
theorem pi_enum {a : Expr} {ta : TA} {p pos tp : Pos} {elts : List Expr} {x1} (hg : Gl X "enumerate") (hm : X.mg "enumerate" = none) (ha : PA X [a] ta) (hs : starEach [a] X.env = [(false, eval a X.env)] := by rfl) :
    PI X (.Tuple elts x1 tp) (.Call (.Name "enumerate" p) [a] [] pos) (iEnum X.K ta) := by
  intro pins s σ H R I h
  refine Call_ (ld_blt I hg hm (show bootBuiltins "enumerate" = some (.type "enumerate") by decide +kernel) (PyProof.Rows.callWith_type1 (thn (ha pos pins s σ H _ I h) fun us s1 ⟨vs, H1, I1, r1, q1⟩ => ?_) hs rfl))
  obtain ⟨l, xs, rfl, hq, q⟩ := q1
  obtain ⟨u, rfl, ru⟩ := r1.one
  cases ru
  obtain ⟨its, rv, pl, hz⟩ := I1.list hq
  refine call_enumerate_list pl.isList fun h' he hi hsz hk => ?_
  refine wpAny_pyIter_enum (s := { s1 with heap := h' }) he ?_
  refine ⟨s1.heap.objs.size + 1, [s1.heap.objs.size + 1, s1.heap.objs.size], _, _, H1, rfl, I1.kept (t' := s1.toks) hk, turn_enum l _ _ (Nat.succ_ne_self _), ⟨_, he, hi⟩, fun b hb => ?_, q⟩
  have hb' : s1.heap.objs.size ≤ b := by
    rcases List.mem_cons.mp hb with z | z
    · rw [z]; exact Nat.le_succ _
    · have z : b = s1.heap.objs.size := by simpa using z
      rw [z]; exact Nat.le_refl _
  exact I1.fpOk hb' (I1.hok.fresh hb')
end
end L2
namespace L2
open PySem PySem.Spec PyProof.Rows
theorem str_ext {x y : Str} (h : x.cps.toList = y.cps.toList) : x = y := by
  obtain ⟨a⟩ := x
  obtain ⟨b⟩ := y
  have : a = b := Array.toList_inj.mp h
  rw [this]
theorem cps_app (x y : Str) : (x ++ y).cps.toList = x.cps.toList ++ y.cps.toList := by
  show (x.cps ++ y.cps).toList = _
  simp
def joinL (c : Nat) : List (List Nat) → List Nat
  | [] => []
  | [x] => x
  | x :: y :: r => x ++ c :: joinL c (y :: r)
theorem join_cps (c : Nat) : ∀ ps : List Str, (Str.join ⟨#[c]⟩ ps).cps.toList = joinL c (ps.map fun p => p.cps.toList)
  | [] => rfl
  | [x] => rfl
  | x :: y :: r => by
    show (x ++ ⟨#[c]⟩ ++ Str.join ⟨#[c]⟩ (y :: r)).cps.toList = x.cps.toList ++ c :: joinL c ((y :: r).map fun p => p.cps.toList)
    rw [cps_app, cps_app, join_cps c (y :: r)]
    simp
theorem app_inj {c : Nat} : ∀ {a b r s : List Nat}, c ∉ a → c ∉ b → a ++ c :: r = b ++ c :: s → a = b ∧ r = s
  | [], [], r, s, _, _, h => ⟨rfl, by simpa using h⟩
  | [], y :: b, r, s, _, hb, h => by
    simp at h
    exact absurd (by simp [h.1]) hb
  | x :: a, [], r, s, ha, _, h => by
    simp at h
    exact absurd (by simp [h.1]) ha
  | x :: a, y :: b, r, s, ha, hb, h => by
    simp only [List.cons_append, List.cons.injEq] at h
    obtain ⟨e1, e2⟩ := app_inj (fun z => ha (List.mem_cons_of_mem _ z)) (fun z => hb (List.mem_cons_of_mem _ z)) h.2
    exact ⟨by rw [h.1, e1], e2⟩
theorem joinL_inj {c : Nat} : ∀ {ps qs : List (List Nat)}, ps ≠ [] → qs ≠ [] → (∀ p ∈ ps, c ∉ p) → (∀ q ∈ qs, c ∉ q) → joinL c ps = joinL c qs → ps = qs
  | [], _, h, _, _, _, _ => absurd rfl h
  | _ :: _, [], _, h, _, _, _ => absurd rfl h
  | [x], [y], _, _, _, _, h => by simp only [joinL] at h; rw [h]
  | [x], y :: z :: r, _, _, hx, _, h => by
    simp only [joinL] at h
    exact absurd (by rw [h]; simp) (hx x (by simp))
  | x :: z :: r, [y], _, _, _, hy, h => by
    simp only [joinL] at h
    exact absurd (by rw [← h]; simp) (hy y (by simp))
  | x :: x2 :: r, y :: y2 :: s, _, _, hx, hy, h => by
    simp only [joinL] at h
    obtain ⟨e1, e2⟩ := app_inj (hx x (by simp)) (hy y (by simp)) h
    have := joinL_inj (ps := x2 :: r) (qs := y2 :: s) (by simp) (by simp) (fun p hp => hx p (List.mem_cons_of_mem _ hp)) (fun q hq => hy q (List.mem_cons_of_mem _ hq)) e2
    rw [e1, this]
/-- what was joined is parted again -/
theorem split_join {c : Nat} {ps : List Str} (hn : ps ≠ []) (hf : ∀ p ∈ ps, c ∉ p.cps.toList) : PySem.Txt.split (Str.join ⟨#[c]⟩ ps) ⟨#[c]⟩ = ps := by
  have h1 := PySem.StrLaws.join_split (Str.join ⟨#[c]⟩ ps) ⟨#[c]⟩
  have h2 := PySem.StrLaws.split_free (Str.join ⟨#[c]⟩ ps) c
  have h3 := PyProof.Rows.split_pos (Str.join ⟨#[c]⟩ ps) ⟨#[c]⟩
  generalize PySem.Txt.split (Str.join ⟨#[c]⟩ ps) ⟨#[c]⟩ = qs at h1 h2 h3
  have h4 := congrArg (fun x : Str => x.cps.toList) h1
  simp only [join_cps] at h4
  have inj : ∀ {a b : List Str}, (a.map fun p => p.cps.toList) = (b.map fun p => p.cps.toList) → a = b := by
    intro a
    induction a with
    | nil => intro b h; cases b with
      | nil => rfl
      | cons _ _ => cases h
    | cons x r ih => 
      intro b h
      cases b with
      | nil => cases h
      | cons y s =>
        simp only [List.map_cons, List.cons.injEq] at h
        rw [str_ext h.1, ih h.2]
  refine inj (joinL_inj (c := c) ?_ ?_ ?_ ?_ h4)
  · intro z
    have := congrArg List.length z
    simp at this
    rw [this] at h3
    simp at h3
  · intro z
    have := congrArg List.length z
    simp at this
    exact hn this
  · intro p hp
    obtain ⟨q, hq, rfl⟩ := List.mem_map.mp hp
    exact h2 q hq
  · intro p hp
    obtain ⟨q, hq, rfl⟩ := List.mem_map.mp hp
    exact hf q hq
end L2
namespace L2
open PySem PySem.Spec PyProof.Rows
theorem thnE {α : Type} {t : Sem α} {Q Q' : α → Shared → Prop} {M : Model} {A : Around} {E E' : Value → Shared → Prop} {s : Shared} (h : wpAny M A t Q E s) (hQ : ∀ a s, Q a s → Q' a s) (hE : ∀ a s, E a s → E' a s) : wpAny M A t Q' E' s := wpAny_mono h hQ hE
section
variable {X : Cx} {o e : Expr} {to te : TE} {apos cpos pos p1 p2 p3 p4 p5 : Pos} {j1 j2 j3 : Nat}
/-- what x.replace(y, z) asks, y and z written and unlike -/
def rRepl (y z : Str) : V → Hp → VK → Prop := fun x H Q => ∃ a : Str, x = .str a ∧ a.length + (a.length + 1) * z.length ≤ 16777216 ∧ Q (.str (PySem.Txt.replace a y z)) H
theorem repl_core {y z : Str} (hyz : (y == z) = false) {pins : List (Addr × Obj)} {s : Shared} {σ : St} {H : Hp} {Q : VK} (I : Inv X pins σ H s)
    (ho : wpAny (model X.prog X.w) X.A (eval o X.env) (fun u s' => 1 ≤ s'.toks ∧ EP X pins σ (fun x H1 => rRepl y z x H1 Q) u s') X.xe s)
    (hbase : attributeBase o "replace" X.env (eval o X.env) = eval o X.env := by rfl) (hline : (apos.endLine == cpos.line) = true := by rfl) :
    wpAny (model X.prog X.w) X.A (eval (.Call (.Attribute o "replace" apos) [.Constant (.str y) j1 p1, .Constant (.str z) j2 p2] [] cpos) X.env) (EP X pins σ Q) X.xe s := by
  refine wpAny_Call_method_late hbase rfl hline rfl (thn ho fun v s1 ⟨hk, x, H1, I1, r1, q1⟩ => ?_)
  obtain ⟨a, rfl, hz, q⟩ := q1
  obtain ⟨t, rfl⟩ := r1
  refine ⟨"str", "str.replace", F.plainAttrs_str, F.slot_str_replace, F.type_str_replace, typeIs_str _ _ _, (fun _ e => nomatch e), ?_⟩
  refine Calls.callWith_builtin rfl (Calls.evalArgs_plain ?_)
  refine Calls.spliced_cons (Calls.Constant_str (k := j1) (pos := p1) (Calls.spliced_cons (Calls.Constant_str (k := j2) (pos := p2) (Calls.spliced_nil ?_))))
  exact SC.replace (u := s1.toks) (v := s1.toks + 1) (Nat.ne_of_gt hk) (Nat.succ_ne_zero _) ns1 hyz hz fun t' k => ⟨.str _, H1, I1.tok _, ⟨t', rfl⟩, q⟩
/-- e[k:].replace(y, z) -/
theorem pe_repl_sl {y z : Str} {k : Int} (hyz : (y == z) = false) (he : PE X e te)
    (hbase : attributeBase (.Subscript e (.Slice (some (.Constant (.int k) j3 p4)) none none p3) p5) "replace" X.env (eval (.Subscript e (.Slice (some (.Constant (.int k) j3 p4)) none none p3) p5) X.env) = eval (.Subscript e (.Slice (some (.Constant (.int k) j3 p4)) none none p3) p5) X.env := by rfl)
    (hline : (apos.endLine == cpos.line) = true := by rfl) :
    PE X (.Call (.Attribute (.Subscript e (.Slice (some (.Constant (.int k) j3 p4)) none none p3) p5) "replace" apos) [.Constant (.str y) j1 p1, .Constant (.str z) j2 p2] [] cpos) (fun σ H Q => te σ H fun x H1 => ∃ w : Str, x = .str w ∧ w.length ≤ sizeLine ∧ rRepl y z (.str (PySem.Txt.slice w (some k) none)) H1 Q) := by
  intro pins s σ H Q I h
  refine repl_core hyz I ?_ hbase hline
  refine Subscript_ (thn (he pins s σ H _ I h) fun v s1 ⟨x, H1, I1, r1, w, hx, hw, q1⟩ => ?_)
  subst hx
  obtain ⟨t, rfl⟩ := r1
  refine wpAny_Slice ?_
  rw [evalPart_some]
  refine wpAny_Constant_int ?_
  rw [evalPart_none]
  refine wpAny_pure ?_
  refine wpAny_pure ?_
  have I2 : Inv X pins σ H1 { s1 with toks := s1.toks + 1 } := I1.tok _
  have I4 : Inv X pins σ H1 { s1 with toks := s1.toks + 1, heap := s1.heap.push { cls := .type "slice", data := .fields #[.int k s1.toks, .none, .none] } } := I2.kept (t' := s1.toks + 1) fun b ob q => Heap.get?_push_of_some _ q
  obtain ⟨T, id, hT, ht, hg⟩ := sl_str (X := X) pins { s1 with toks := s1.toks + 1, heap := s1.heap.push { cls := .type "slice", data := .fields #[.int k s1.toks, .none, .none] } } σ H1 (.str w) (.str w t) (.int k s1.toks) .none (some k) none s1.heap.objs.size (fun x H1 => rRepl y z x H1 Q) I4 ⟨t, rfl⟩ (Heap.IsSliceOf.new ..) (.int k _) .none ⟨w, rfl, hw, q1⟩
  have fin := tail_any (value := e) (slice := .Slice (some (.Constant (.int k) j3 p4)) none none p3) (ops := [.ref s1.heap.objs.size, .str w t]) ht hT hg (by with_unfolding_all rfl)
  exact thnE (wpAny_toks_of (n := 1) (show 1 ≤ s1.toks + 1 by omega) fin) (fun _ _ q => q) fun _ _ q => q.2
end
end L2
namespace L2
open PySem PySem.Spec PyProof.Rows
section
variable {X : Cx}
/-- a module's constant that is known up to its token -/
theorem pe_globE {x : Str} {v : V} {pos : Pos} (hg : Gl X x) (h : ∃ u, X.mg x = some u ∧ RelV v u) (hd : (x == ("__debug__" : Str)) = false := by decide) : PE X (.Name x pos) (tC v) := by
  obtain ⟨u, e, r⟩ := h
  exact pe_glob hg e r hd
/-- for x in a text, by what holds -/
theorem comp_str {caps : List (Str × Nat)} {z : Str} {te : TE} {σ : St} {H : Hp} {Q : VK} (Pv : Nat → List V → Hp → Prop) (h0 : Pv 0 [] H) (hn : z.length < sizeLine)
    (hs : ∀ i c ys H, z.cps.toList[i]? = some c → ys.length = i → Pv i ys H → te (capV caps σ ++ [some (.str ⟨#[c]⟩)]) H fun y H2 => ∃ m', m' < z.length - i ∧ m' = z.length - (i + 1) ∧ i + 1 ≤ z.length ∧ (ys ++ [y]).length = i + 1 ∧ Pv (i + 1) (ys ++ [y]) H2) (hd : ∀ ys H, ys.length = z.length → Pv z.length ys H → ∀ D, H D = none → Q (.ref D) (upd H D (.lst ys))) :
    CompW (Its z) caps te σ H Q := by
  refine ⟨fun i m ys H => m = z.length - i ∧ i ≤ z.length ∧ ys.length = i ∧ Pv i ys H, ⟨z.length, by simp, Nat.zero_le _, rfl, h0⟩, ?_⟩
  rintro i m ys H ⟨rfl, hi, hl, p⟩
  by_cases hlt : i < z.length
  · refine .inr ⟨hlt, by omega, fun x H' y => ?_⟩
    obtain ⟨e, c, e1, rfl⟩ := y
    subst e
    exact hs i c ys _ e1 hl p
  · have e : i = z.length := by omega
    subst e
    exact .inl ⟨Nat.le_refl _, hd ys H hl p⟩
theorem forW_enum {K : PySem.W.Frag} {a : Addr} {xs : List V} {g : TG} {tb : TS} {D : Ends} {σ : St} {H : Hp} (Pv : Nat → St → Hp → Prop) (h0 : Pv 0 σ H) (hl : ∀ i σ H, i ≤ xs.length → Pv i σ H → SqL K H a xs)
    (hs : ∀ i x p σ H, xs[i]? = some x → H p = none → Pv i σ H → g (.ref p) σ (upd H p (.tup [.int i, x])) fun σ2 H2 => tb { D with nx := Pv (i + 1), ct := Pv (i + 1), bk := D.nx } σ2 H2) (hd : ∀ σ H, Pv xs.length σ H → D.nx σ H) : ForW (Ite K a) g tb D σ H := by
  refine ⟨fun i m σ H => m = xs.length - i ∧ i ≤ xs.length ∧ Pv i σ H, ⟨xs.length, by simp, Nat.zero_le _, h0⟩, ?_⟩
  rintro i m σ H ⟨rfl, hi, p⟩
  have q := hl i σ H hi p
  by_cases hlt : i < xs.length
  · refine .inr ⟨⟨xs, xs[i], q, by simp [hlt]⟩, Pv (i + 1), fun σ' H' p' => ⟨xs.length - (i + 1), by omega, rfl, hlt, p'⟩, fun x H' y => ?_⟩
    obtain ⟨pp, v, h1, rfl, rfl, h2⟩ := y
    exact hs i v pp σ H (h2 xs q) h1 p
  · have e : i = xs.length := by omega
    subst e
    exact .inl ⟨⟨xs, q, Nat.le_refl _⟩, hd σ H p⟩
end
/-- all that was tracked is as it was, but at p -/
def Adv (H H' : Hp) (p : Addr) : Prop := ∀ b o, H b = some o → b ≠ p → H' b = some o
theorem Adv.trans {H H1 H2 : Hp} {p : Addr} (a : Adv H H1 p) (b : Adv H1 H2 p) : Adv H H2 p := fun c o h n => b c o (a c o h n) n
theorem Adv.same {H H1 H2 : Hp} {p : Addr} (a : Adv H H1 p) (b : Same H1 H2) : Adv H H2 p := fun c o h n => b c o (a c o h n)
theorem Same.adv {H H1 H2 : Hp} {p : Addr} (a : Same H H1) (b : Adv H1 H2 p) : Adv H H2 p := fun c o h n => b c o (a c o h) n
theorem Adv.upd {H : Hp} {p : Addr} {o : HO} : Adv H (L2.upd H p o) p := fun b u h n => by rw [upd_ne n]; exact h
end L2
namespace L2
open PySem PySem.Spec PyProof.Rows
section
variable {X : Cx}
/-- a list comprehension, whatever becomes of its list -/
theorem comp_gen {sc csc : Scope} {N : List Str} {elt iter : Expr} {x : Str} {px pos ppos : Pos} {caps : List (Str × Nat)} {wi : TI} {te : TE} (ck : CompOk sc csc N x caps) (hi : PI X (.Name x px) iter wi)
    (he : ∀ C s2 H2 fp, PE (compCx X (caps.map (·.1) ++ [x]) csc C s2 H2 fp) elt te) (hc : X.calm = true) (hsc : X.env.scope = sc) (hXN : X.N = N) (hs : ∀ x, foldedSetIterable iter X.env x = pure x)
    {pins : List (Addr × Obj)} {s : Shared} {σ : St} {H : Hp} {Q : VK} (I : Inv X pins σ H s) (h : tComp caps wi te σ H Q) (use : Option (Value → Sem Unit)) (QQ : Value → Shared → Prop)
    (fin : ∀ (s2 : Shared) (H2 : Hp) (D C : Addr) (ys : List V) (H' : Hp) (s4 : Shared) (m : Str → Option Value), Inv X pins σ H2 s2 → s2.heap.objs.size ≤ C → s2.heap.objs.size ≤ D → D ≠ C → s4.heap.Ns C m →
      (∀ h', Heap.SameBut C s4.heap h' → Inv X pins σ (upd H' D (.lst ys)) { s4 with heap := h' }) → H' C = none → Q (.ref D) (upd H' D (.lst ys)) →
      compPost (model X.prog X.w) X.A X.xe use QQ (.ref D) C (.ok .next) s4) :
    wpAny (model X.prog X.w) X.A (comprehension (.ListComp elt [⟨.Name x px, iter, [], 0⟩] csc pos) csc X.env ppos (newList []) false (eval iter X.env) use) QQ X.xe s := by
  subst hsc hXN
  have cellsOk : ∀ p ∈ csc.names, p.2 = .free → ∃ c, X.env.cells.lookup p.1 = some c := fun p hp e => I.ok.has p.1 (.inl (ck.free p hp e))
  refine wpAny_comprehension_free (use := use) rfl hs (closureFor_eq cellsOk) ck.kind ck.loc (thn (hi pins s σ H _ I h) fun v s1 h1 => thn h1 fun itv s2 h2 => ?_)
  obtain ⟨it, fp, tn, J, H2, e, I2, T, st2, f2, W, ⟨m0, w0⟩, turn⟩ := h2
  subst e
  refine wpAny_newObj_type (wpAny_newFunctionEnv ck.cell (by intro y hy; simp at hy) (fun h4 hns4 hsb4 => ?_) ck.kind)
  dsimp only at hns4 hsb4 ⊢
  generalize hD : s2.heap.objs.size = D at hns4 hsb4 ⊢
  generalize hH2 : s2.heap.push { cls := .type "list", dict := none, data := .seq ([] : List Value).toArray } = G at hns4 hsb4 ⊢
  have hGs : G.objs.size = D + 1 := by rw [← hH2, Heap.size_push, hD]
  rw [hGs] at hns4 hsb4 ⊢
  have lt2 : ∀ b o, s2.heap.get? b = some o → b < D := fun b o e => hD ▸ Heap.lt_size e
  have old : ∀ b o, s2.heap.get? b = some o → b ≠ D + 1 ∧ b ≠ D := fun b o e => ⟨nlt1 (lt2 b o e), nlt (lt2 b o e)⟩
  have leD : s2.heap.objs.size ≤ D := Nat.le_of_eq hD
  have leD1 : s2.heap.objs.size ≤ D + 1 := Nat.le_succ_of_le leD
  have keep4 : ∀ b o, s2.heap.get? b = some o → h4.get? b = some o := fun b o e => hsb4.extBut b o (old b o e).1 (Heap.get?_push_of_some _ (hH2 ▸ Heap.get?_push_of_some _ e))
  have hDo : h4.get? D = some { cls := .type "list", data := .seq ([] : List Value).toArray 0 } := by
    refine hsb4.extBut D _ ns1 (Heap.get?_push_of_some _ ?_)
    rw [← hH2, ← hD]
    exact Heap.get?_push_size _ rfl
  have fps : ∀ b ∈ fp, b < s2.heap.objs.size := fun b hb => by
    obtain ⟨o, e, _⟩ := T.obj _ _ st2 b hb
    exact Heap.lt_size e
  have I4 : ∀ t4, Inv (compCx X (caps.map (·.1) ++ [x]) csc (D + 1) s2 H2 fp) [] (capV caps σ ++ [none]) H2 { s2 with heap := h4, toks := t4 } := fun t4 => comp_start (m0 := fun x => [].reverse.lookup x) I2 ck f2 fps leD1 keep4 hns4
  have cellsLt : ∀ y c, (clFold X.env csc.names []).lookup y = some c → c < D := fun y c e => by
    obtain ⟨v, o, ho, _⟩ := I2.cell y c (clFold_in _ _ cellsOk (fun y c h => by simp at h) y c e)
    exact lt2 c o ho
  have fsLt : ∀ b ∈ frs X.stack, b < D := fun b hb => by
    obtain ⟨_, o, ho, _⟩ := I2.stack.mem hb
    exact lt2 b o ho
  -- the iterator's objects within the block
  have fpC : ∀ {pl : List (Addr × Obj)} {H' : Hp}, (∀ p ∈ pl, p.1 = D) → (∀ b ∈ fp, H' b = none) → ∀ b ∈ fp, FpOk (compCx X (caps.map (·.1) ++ [x]) csc (D + 1) s2 H2 fp) pl H' b := fun {pl H'} hpl hn b hb => by
    have hb' : b < D := hD ▸ fps b hb
    refine ⟨hn b hb, nlt1 hb', ?_, .inl hb, fun y c e => ?_, fun p hp => ?_⟩
    · intro z
      rcases List.mem_cons.mp (I2.stkSub b z) with e | e
      · exact (f2 b hb).2.1 e
      · exact (f2 b hb).2.2.1 e
    · exact (f2 b hb).2.2.2.2.1 y c (clFold_in _ _ cellsOk (fun y c h => by simp at h) y c e)
    · have : p.1 = D := hpl p (by simpa using hp)
      rw [this]; exact fun z => nlt hb' z.symm
  have loop : ∀ t4, codeAny (model X.prog X.w) X.A (.compLoop (.ListComp elt [⟨.Name x px, iter, [], 0⟩] csc pos) 0 (.ref it) (.ref D) (compEnvC csc (clFold X.env csc.names []) (D + 1) X.env))
      (compPost (model X.prog X.w) X.A X.xe use QQ (.ref D) (D + 1)) { s2 with heap := h4, toks := t4 } := by
    intro t4
    refine compLoop_go (fun n s' => ∃ (i : Nat) (ys : List V) (its : List Value) (k : Nat) (σ' : St) (H' : Hp), Inv (compCx X (caps.map (·.1) ++ [x]) csc (D + 1) s2 H2 fp) [(D, { cls := .type "list", data := .seq its.toArray k })] σ' H' s' ∧ tn i s'.heap ∧ (∀ b ∈ fp, H' b = none) ∧ Vals ys its ∧ ys.length ≤ sizeLine ∧ W i n ys H' ∧ (∃ z, σ' = capV caps σ ++ [z])) ?_ m0 ?_
    · rintro n s3 ⟨i, ys, its, k, σ3, H3, I3, st3, fr3, hv, hz, w3, z3, rfl⟩
      have pl1 : ∀ p ∈ [((D, { cls := .type "list", data := .seq its.toArray k }) : Addr × Obj)], p.1 = D := fun p hp => by rw [List.mem_singleton.mp hp]
      rcases turn i n ys H3 w3 with ⟨stop, qn⟩ | ⟨go, hlt, step⟩
      · refine wpAny_mono (T.done (compCx X (caps.map (·.1) ++ [x]) csc (D + 1) s2 H2 fp) rfl rfl rfl hc i _ s3 _ H3 (fun _ _ => False) I3 (fpC pl1 fr3) st3 stop) (fun r s4 ⟨hr, I4'⟩ => ?_) fun _ _ f => f.elim
        subst hr
        obtain ⟨m, hn, _⟩ := id I4'.loc
        have pD := I4'.pin (D, { cls := .type "list", data := .seq its.toArray k }) (by simp)
        exact fin s2 H2 D (D + 1) ys H3 s4 m I2 leD1 leD ns1 hn (fun h' hs' => comp_done I2 I4' f2 leD1 leD ns1 hs' hv hz pD.1 pD.2.1) I4'.free (qn D pD.2.1)
      · refine wpAny_mono (T.item (compCx X (caps.map (·.1) ++ [x]) csc (D + 1) s2 H2 fp) rfl rfl rfl hc i _ s3 _ H3 (fun _ _ => False) I3 (fpC pl1 fr3) st3 go) (fun r s4 ⟨u, hr, h4'⟩ => ?_) fun _ _ f => f.elim
        subst hr
        refine wpAny_mono h4' (fun _ s4 ⟨xv, H5, I5, r5, y5, st5, fr5⟩ => ?_) fun _ _ f => f.elim
        have I5' := I5.pinned (fpC pl1 fr5) (T.obj _ _ st5)
        have hiN : (caps.map (·.1) ++ [x])[caps.length]? = some x := by rw [List.getElem?_append_right (by simp)]; simp
        refine wpAny_mono (pg_name (X := compCx X (caps.map (·.1) ++ [x]) csc (D + 1) s2 H2 fp) (i := caps.length) ck.nd hiN (.inl (lookup_relabel_local ck.tg)) (.inr (lookup_relabel_local ck.tg)) _ s4 _ H5 xv u _ I5' r5 (show gName caps.length xv _ H5 (fun σ6 H6 => σ6 = capV caps σ ++ [some xv] ∧ H6 = H5) from ⟨?_, rfl⟩)) (fun _ s6 ⟨σ6, H6, I6, hσ, hH⟩ => ?_) fun _ _ f => f.elim
        · rw [List.set_append_right _ _ (by rw [capV_len]; exact Nat.le_refl _), capV_len, Nat.sub_self]; rfl
        subst hσ hH
        refine wpAny_mono (he (D + 1) s2 H2 fp _ s6 _ H6 _ I6 (step xv H6 y5)) (fun w7 s7 ⟨y, H7, I7, r7, m', hm, w8⟩ => ?_) fun _ _ f => f.elim
        have pD := I7.pin (D, { cls := .type "list", data := .seq its.toArray k }) (by simp)
        have hll := hv.length
        refine call_meets F.slot_list_append ⟨_, pD.1, rfl⟩ F.entry_list_append (F.args_list_append_2 _ _) (PySem.list_append D its.toArray k w7 (by rw [List.size_toArray]; omega)) ⟨pD.1, ?_⟩
        have q := PySem.IsL.update pD.1 (·.push w7)
        have hpush : its.toArray.push w7 = (its ++ [w7]).toArray := by simp
        rw [hpush] at q
        obtain ⟨k', q⟩ : ∃ k', (s7.heap.update D (Obj.mapSeq (·.push w7))).get? D = some { cls := .type "list", data := .seq (its ++ [w7]).toArray k' } := ⟨_, q⟩
        have I7u : Inv (compCx X (caps.map (·.1) ++ [x]) csc (D + 1) s2 H2 fp) (pinsAt fp s4.heap) _ H7 s7 := I7.pins_of fun p hp => I7.pin p (List.mem_append_right _ (List.mem_append_right _ hp))
        have pfp : ∀ p ∈ pinsAt fp s4.heap, p.1 < D := fun p hp => hD ▸ fps p.1 (of_pinsAt hp).1
        have I8 := I7u.turned (h' := s7.heap.update D (Obj.mapSeq (·.push w7))) (t' := s7.toks) (it := D) (fun b o hb e => (Heap.get?_update_other s7.heap _ (Ne.symm hb)).trans e) pD.2.1 ns1 (.inr leD) (fun y c e => nlt (cellsLt y c e)) (fun p hp => nlt (pfp p (by simpa using hp)))
        refine ⟨m', hm, i + 1, ys ++ [y], its ++ [w7], k', _, H7, I8.pins_of fun p hp => ?_, T.keep _ _ _ st5 fun b hb o e => (I8.pin (b, o) (List.mem_append_right _ (mem_pinsAt hb e))).1, fun b hb => ?_, hv.append (.cons r7 .nil), ?_, w8, _, rfl⟩
        · rw [List.mem_singleton.mp hp]
          exact ⟨q, pD.2.1, pD.2.2.1, pD.2.2.2.1, fun v => by simp⟩
        · obtain ⟨o, e, d⟩ := T.obj _ _ st5 b hb
          exact (I8.pin (b, o) (List.mem_append_right _ (mem_pinsAt hb e))).2.1
        · rw [List.length_append, List.length_singleton]; omega
    · refine ⟨0, [], [], 0, _, H2, (I4 t4).pins_of fun p hp => ?_, T.keep _ _ _ st2 fun b hb o e => keep4 b o e, fun b hb => (f2 b hb).1, .nil, Nat.zero_le _, w0, _, rfl⟩
      rw [List.mem_singleton.mp hp]
      refine ⟨hDo, I2.hok.fresh leD, ns1, fun z => absurd (fsLt D z) (Nat.lt_irrefl _), fun v => by simp⟩
  exact codeAny_compStart_list (loop _) (T.self _ 0 _ _ _ (T.keep _ _ _ st2 fun b hb o e => keep4 b o e) (loop _))

/-- x = [..]: the list is stored ahead of the block's own names being let go -/
theorem ps_setC {i : Nat} {y : Str} {sc csc : Scope} {N : List Str} {elt iter : Expr} {x : Str} {px pos pos' spos : Pos} {caps : List (Str × Nat)} {wi : TI} {te : TE} (hN : X.N.Nodup) (hiy : X.N[i]? = some y) (hy : Loc X.env.scope y) (ck : CompOk sc csc N x caps) (hi : PI X (.Name x px) iter wi)
    (he : ∀ C s2 H2 fp, PE (compCx X (caps.map (·.1) ++ [x]) csc C s2 H2 fp) elt te) (hc : X.calm = true := by rfl) (hsc : X.env.scope = sc := by rfl) (hXN : X.N = N := by rfl) (hs : ∀ x, foldedSetIterable iter X.env x = pure x := by intro _; rfl)
    (hsw : swapsWith (.ListComp elt [⟨.Name x px, iter, [], 0⟩] csc pos) (some (.Name y pos')) spos.line X.env = pure true := by rfl) (hf : X.fn y = true ∨ X.env.scope.names.lookup y = some .local := by first | exact .inl rfl | exact .inr rfl | assumption) :
    PS X (.Assign [.Name y pos'] (.ListComp elt [⟨.Name x px, iter, [], 0⟩] csc pos) spos) (tAsg (tComp caps wi te) (gName i)) := by
  intro pins s σ H D I h
  rw [exec_Assign_Name_used _ _ _ _ hsw]
  refine wpAny_bind (wpAny_standAt (wpAny_bind ?_))
  show wpAny _ X.A (do let _ ← comprehension (.ListComp elt [⟨.Name x px, iter, [], 0⟩] csc pos) csc X.env _ (newList []) false (eval iter X.env) (some (assign (.Name y pos') X.env))) _ _ s
  refine wpAny_bind (wpAny_mono (comp_gen ck hi he hc hsc hXN hs I h (some (assign (.Name y pos') X.env)) (fun _ s' => SP X pins D .next s') ?_) (fun _ s' hq => wpAny_pure (wpAny_pure hq)) fun _ _ e => e)
  intro s2 H2 Dl C ys H' s4 m I2 leC leD nDC hns hI hfC q
  have I0 : Inv X pins σ (upd H' Dl (.lst ys)) s4 := hI s4.heap (Heap.SameBut.refl _ _)
  have hCD : C ≠ Dl := Ne.symm nDC
  have hHC : upd H' Dl (.lst ys) C = none := by rw [upd_ne hCD]; exact hfC
  have hCL : C ≠ X.env.locals := fun z => by have := I2.lt; rw [← z] at this; exact absurd this (Nat.not_lt.mpr leC)
  have hCfs : C ∉ X.fs := I2.nofs leC
  have pinlt : ∀ p ∈ X.pn ++ pins, p.1 ≠ C := fun p hp z => by
    have := (I2.pin p hp).1
    have := Heap.lt_size this
    rw [z] at this
    exact absurd this (Nat.not_lt.mpr leC)
  have celllt : ∀ z c, X.env.cells.lookup z = some c → c ≠ C := fun z c e w => by
    obtain ⟨v, o, ho, _⟩ := I2.cell z c e
    have := Heap.lt_size ho
    rw [w] at this
    exact absurd this (Nat.not_lt.mpr leC)
  obtain ⟨oC, es, ep, eC, dC, rC⟩ := id hns
  have I1 : Inv X (pins ++ [(C, oC)]) σ (upd H' Dl (.lst ys)) s4 := I0.pins_of fun p hp => by
    rcases List.mem_append.mp hp with hp | hp
    · exact I0.pin p (List.mem_append_right _ hp)
    · rw [List.mem_singleton.mp hp]
      exact ⟨eC, hHC, hCL, hCfs, fun v z => by rw [dC] at z; cases z⟩
  refine thn (pg_name (i := i) (pos := pos') hN hiy hy hf (pins ++ [(C, oC)]) s4 σ _ (.ref Dl) (.ref Dl) D.nx I1 rfl q) fun _ s5 ⟨σ5, H5, I5, q5⟩ => ?_
  have pC := I5.pin (C, oC) (by simp)
  refine ⟨m, ⟨oC, es, ep, pC.1, dC, rC⟩, fun h' hs' => ?_⟩
  have I6 : Inv X pins σ5 H5 s5 := I5.pins_of fun p hp => I5.pin p (List.mem_append_right _ (List.mem_append_left _ hp))
  exact ⟨σ5, H5, I6.turned (h' := h') (t' := s5.toks) (it := C) (fun b o hb e => (hs'.2 b hb).trans e) pC.2.1 hCL (.inr (Nat.le_trans I2.sz leC)) celllt pinlt, q5⟩
theorem pe_fldK {K : PySem.W.Frag} {e : Expr} {ta : TE} {f : Str} {pos : Pos} (he : PE X e ta) (hb : attributeBase e f X.env (eval e X.env) = eval e X.env) (hK : X.K = K := by rfl) : PE X (.Attribute e f pos) (tFld K ta f) := by
  subst hK; exact pe_fld he hb
theorem ix_listK {K : PySem.W.Frag} (hK : X.K = K) : IxR X (rIxL K) := by subst hK; exact ix_list
theorem ix_tupK {K : PySem.W.Frag} (hK : X.K = K) : IxR X (rIxT K) := by subst hK; exact ix_tup
end
end L2
namespace L2
open PySem PySem.Spec PyProof.Rows
section
variable {X : Cx}
def strsOf : List Expr → Option (List Str)
  | [] => some []
  | e :: r => match e with
    | .Constant (.str x) _ _ => (strsOf r).map (x :: ·)
    | _ => none
theorem pa_strs : ∀ {es : List Expr} {xs : List Str}, strsOf es = some xs → PA X es (fun _ H Q => Q (xs.map V.str) H)
  | [], xs, h => by
    have e : xs = [] := (Option.some.inj h).symm
    subst e
    exact pa_nil
  | e :: r, xs, h => by
    unfold strsOf at h
    split at h
    · rename_i x j p
      obtain ⟨ys, h1, h2⟩ := Option.map_eq_some_iff.mp h
      subst h2
      exact pa_cons (te := tC (.str x)) (t := fun _ H Q => Q (ys.map V.str) H) pe_str (pa_strs h1) rfl
    · cases h
end
end L2
namespace L2
open PySem PySem.Spec PyProof.Rows
/-- all is kept, but the slots of the frames at F, and the records at ch -/
structure Kept (F ch : List Addr) (g h : Heap) : Prop where
  keep : ∀ b o, g.get? b = some o → b ∉ F → b ∉ ch → h.get? b = some o
  slot : ∀ b o, g.get? b = some o → b ∈ F → b ∉ ch → ∃ sl, h.get? b = some { o with slots := sl }
  there : ∀ b o, g.get? b = some o → ∃ u, h.get? b = some u
theorem Kept.trans {F c1 c2 : List Addr} {g h k : Heap} (x : Kept F c1 g h) (y : Kept F c2 h k) : Kept F (c1 ++ c2) g k where
  keep b o e n1 n2 := y.keep b o (x.keep b o e n1 fun z => n2 (List.mem_append_left _ z)) n1 fun z => n2 (List.mem_append_right _ z)
  slot b o e n1 n2 := by
    obtain ⟨sl, e1⟩ := x.slot b o e n1 fun z => n2 (List.mem_append_left _ z)
    obtain ⟨sl2, e2⟩ := y.slot b _ e1 n1 fun z => n2 (List.mem_append_right _ z)
    exact ⟨sl2, e2⟩
  there b o e := let ⟨u, e1⟩ := x.there b o e; y.there b u e1
/-- one record changed -/
theorem Kept.one {F : List Addr} {h : Heap} {a : Addr} {o : Obj} {f : Obj → Obj} (e : h.get? a = some o) (nf : (f o).isFreed = false) : Kept F [a] h (h.update a f) where
  keep b u q n1 n2 := by rw [Heap.get?_update_other _ _ (fun z => n2 (by simp [z]))]; exact q
  slot b u q n1 n2 := ⟨u.slots, by rw [Heap.get?_update_other _ _ (fun z => n2 (by simp [z]))]; exact q⟩
  there b u q := by
    by_cases z : b = a
    · subst z; exact ⟨_, Heap.get?_update_self _ e nf⟩
    · exact ⟨u, by rw [Heap.get?_update_other _ _ (Ne.symm z)]; exact q⟩
theorem Kept.push {F : List Addr} {h : Heap} {o : Obj} : Kept F [] h (h.push o) :=
  ⟨fun b u q _ _ => Heap.get?_push_of_some _ q, fun b u q _ _ => ⟨u.slots, Heap.get?_push_of_some _ q⟩, fun b u q => ⟨u, Heap.get?_push_of_some _ q⟩⟩
theorem Kept.slots {F : List Addr} {h k : Heap} (x : Heap.SlotsOnly F h k) : Kept F [] h k :=
  ⟨fun b u q n _ => (x.2.1 b n).trans q, fun b u q _ _ => x.2.2 b u q, fun b u q => let ⟨sl, e⟩ := x.2.2 b u q; ⟨_, e⟩⟩
theorem Kept.mono {F c1 c2 : List Addr} {g h : Heap} (x : Kept F c1 g h) (s : ∀ b ∈ c1, b ∈ c2) : Kept F c2 g h :=
  ⟨fun b o e n1 n2 => x.keep b o e n1 fun z => n2 (s b z), fun b o e n1 n2 => x.slot b o e n1 fun z => n2 (s b z), x.there⟩
theorem Kept.frame {ch : List Addr} {g h : Heap} (x : Kept [] ch g h) (F : List Addr) : Kept F ch g h :=
  ⟨fun b o e _ n => x.keep b o e (by simp) n, fun b o e _ n => ⟨o.slots, x.keep b o e (by simp) n⟩, x.there⟩
/-- what is tracked stands by itself: the records that change are not tracked -/
theorem Kept.un {F ch : List Addr} {g h : Heap} {H : Hp} (x : Kept F ch g h) : Un F ch H H g h :=
  ⟨fun b o e _ n1 n2 => x.keep b o e n1 n2, fun b o e _ n1 n2 => x.slot b o e n1 n2, fun _ _ _ n _ => n, fun b o e _ => x.there b o e, fun _ _ e => e, fun _ _ _ e => e, fun b ps e => ⟨#[], by rw [e]; simp⟩⟩
theorem Kept.hok {P : Program} {w : World} {F ch : List Addr} {g h : Heap} {H : Hp} (x : Kept F ch g h) (k : HOk P w H g) (hF : ∀ b ∈ F, H b = none) (hc : ∀ b ∈ ch, H b = none) : HOk P w H h := fun a o e => by
  refine (k a o e).stay (fun b u hb q => x.keep b u q (fun z => ?_) fun z => ?_) (fun _ q => q) fun _ _ q => q
  · rcases hb with y | y
    · rw [y] at z; rw [hF a z] at e; cases e
    · rw [hF b z] at y; cases y
  · rcases hb with y | y
    · rw [y] at z; rw [hc a z] at e; cases e
    · rw [hc b z] at y; cases y
section
variable {M : Model} {A : Around} {E : Value → Shared → Prop} {s : Shared} {base : Heap} {env : Env} {outer : List Env} {L e : Addr}
/-- a frame's entry is made -/
theorem note_core {oe : Obj} {vs : Array Value} {head : Value} {hn : Bool} {Q : Unit → Shared → Prop} (hfr : A.frames = some (env :: outer)) (hl : s.heap.FunFrames base (env :: outer)) (hf : env.frame = some L)
    (he : s.heap.get? e = some oe) (hd : oe.data = .fields vs) (hsz : 1 < vs.size)
    (h : ∀ (h2 : Heap) (T : Addr) (oT : Obj) (ts : Array Value), Kept (frs (env :: outer)) [e] s.heap h2 → s.heap.objs.size ≤ T → T ≠ e → h2.get? e = some (oe.mapFields (·.setIfInBounds 1 (.ref T))) → h2.get? T = some oT → oT.data = .fields ts → ts[3]? = some (rawInt L) → Q () { s with heap := h2 }) :
    wpAny M A (do let a ← frameOf env; let pl ← entryPlaceOf L hn; let b ← EntryCells.newEntry head a .none (rawInt L) .none pl; setField (.ref e) 1 b) Q E s := by
  have ef : e ∉ frs (env :: outer) := fun z => by
    obtain ⟨_, o, q, nf⟩ := hl.mem z
    rw [he] at q; cases q
    exact nf vs hd
  refine wpAny_bind (wpAny_frameOf_fun hfr hl hf fun g1 so => ?_)
  have k1 : Kept (frs (env :: outer)) [] s.heap g1 := Kept.slots so
  refine wpAny_bind (wpAny_entryPlaceOf fun pl isp => ?_)
  unfold EntryCells.newEntry newFields
  refine wpAny_bind (wpAny_newObj_type ?_ (isp.sizeOk5 _ _ _ _ _))
  have e1 : g1.get? e = some oe := k1.keep e oe he ef (by simp)
  generalize hO : ({ cls := .type "traceback", dict := none, data := .fields ([head, .ref L, .none, rawInt L, .none] ++ (if pl.isEmpty then List.replicate 6 Value.none else pl)).toArray } : Obj) = O
  have dO : O.data = .fields ([head, .ref L, .none, rawInt L, .none] ++ (if pl.isEmpty then List.replicate 6 Value.none else pl)).toArray := by rw [← hO]
  have fO : O.isFreed = false := Obj.isFreed_of_fields dO
  have e2 : (g1.push O).get? e = some oe := Heap.get?_push_of_some _ e1
  have d3 := Obj.data_mapFields hd (·.setIfInBounds 1 (Value.ref g1.objs.size))
  have nT : g1.objs.size ≠ e := Nat.ne_of_gt (Heap.lt_size e1)
  refine wpAny_setField e2 hd hsz (h _ g1.objs.size O _ ?_ ?_ nT (Heap.get?_update_self _ e2 (Obj.isFreed_of_fields d3)) ?_ dO ?_)
  · exact ((k1.trans Kept.push).trans (Kept.one e2 (Obj.isFreed_of_fields d3))).mono (by simp)
  · exact Nat.le_of_eq so.1.symm
  · rw [Heap.get?_update_other _ _ (Ne.symm nT)]
    exact Heap.get?_push_size g1 fO
  · simp
end
/-- the exception at e of the class C, with the dict d: its newest entry stands at T, and says fl of the flight -/
structure Flown (h : Heap) (e C : Addr) (d : Option Addr) (T : Addr) (fl : Value) : Prop where
  ob : ∃ oe vs, h.get? e = some oe ∧ oe.cls = .ref C ∧ oe.dict = d ∧ oe.data = .fields vs ∧ vs[1]? = some (.ref T)
  ne : T ≠ e
  tb : ∃ oT ts, h.get? T = some oT ∧ oT.data = .fields ts ∧ ts[3]? = some fl
/-- a new one: no frame has noted it -/
def Unflown (h : Heap) (e C : Addr) (d : Option Addr) : Prop := ∃ oe vs, h.get? e = some oe ∧ oe.cls = .ref C ∧ oe.dict = d ∧ oe.data = .fields vs ∧ vs[1]? = some .none
section
variable {M : Model} {A : Around} {E : Value → Shared → Prop} {s : Shared} {base : Heap} {env : Env} {outer : List Env} {L e C T : Addr} {d : Option Addr}
theorem note_new {Q : Unit → Shared → Prop} (hfr : A.frames = some (env :: outer)) (hl : s.heap.FunFrames base (env :: outer)) (hf : env.frame = some L) (x : Unflown s.heap e C d)
    (h : ∀ (h2 : Heap) (T : Addr), Kept (frs (env :: outer)) [e] s.heap h2 → s.heap.objs.size ≤ T → Flown h2 e C d T (rawInt L) → Q () { s with heap := h2 }) : wpAny M A (noteFrame (.ref e) env) Q E s := by
  obtain ⟨oe, vs, h1, h2, h3, h4, h5⟩ := x
  unfold noteFrame
  simp only [hf]
  refine wpAny_bind (wpAny_field h1 h4 h5 ?_)
  rw [if_neg (by decide)]
  have sz : 1 < vs.size := (Array.getElem?_eq_some_iff.mp h5).1
  refine note_core hfr hl hf h1 h4 sz fun g T oT ts k n ne q1 q2 q3 q4 => h g T k n ⟨⟨_, _, q1, ?_, ?_, Obj.data_mapFields h4 _, ?_⟩, ne, oT, ts, q2, q3, q4⟩
  · rw [Obj.cls_mapFields]; exact h2
  · obtain ⟨c, dd, dt, sl⟩ := oe
    cases dt <;> exact h3
  · simp [sz]
theorem note_on {Q : Unit → Shared → Prop} (hfr : A.frames = some (env :: outer)) (hl : s.heap.FunFrames base (env :: outer)) (hf : env.frame = some L) (x : Flown s.heap e C d T .none)
    (h : ∀ (h2 : Heap) (T2 : Addr), Kept (frs (env :: outer)) [T, e] s.heap h2 → s.heap.objs.size ≤ T2 → Flown h2 e C d T2 (rawInt L) → Q () { s with heap := h2 }) : wpAny M A (noteFrame (.ref e) env) Q E s := by
  obtain ⟨⟨oe, vs, h1, h2, h3, h4, h5⟩, ne, oT, ts, t1, t2, t3⟩ := x
  unfold noteFrame
  simp only [hf]
  refine wpAny_bind (wpAny_field h1 h4 h5 ?_)
  rw [if_pos (by simp)]
  refine wpAny_bind (wpAny_field t1 t2 t3 ?_)
  rw [if_neg (by simp [rawInt])]
  have sT : 3 < ts.size := (Array.getElem?_eq_some_iff.mp t3).1
  refine wpAny_bind (wpAny_setField t1 t2 sT ?_)
  have dT := Obj.data_mapFields t2 (·.setIfInBounds 3 Value.none)
  have kT : Kept (frs (env :: outer)) [T] s.heap (s.heap.update T (Obj.mapFields (·.setIfInBounds 3 Value.none))) := Kept.one t1 (Obj.isFreed_of_fields dT)
  have he2 : (s.heap.update T (Obj.mapFields (·.setIfInBounds 3 Value.none))).get? e = some oe := by rw [Heap.get?_update_other _ _ ne]; exact h1
  have hl2 : (s.heap.update T (Obj.mapFields (·.setIfInBounds 3 Value.none))).FunFrames base (env :: outer) := hl.of_keeps fun b o q nf => ⟨o, by
    rw [Heap.get?_update_other _ _ (fun z => by rw [← z, t1] at q; cases q; exact nf ts t2)]; exact q, rfl⟩
  have sz : 1 < vs.size := (Array.getElem?_eq_some_iff.mp h5).1
  refine note_core (s := { s with heap := s.heap.update T (Obj.mapFields (·.setIfInBounds 3 Value.none)) }) hfr hl2 hf he2 h4 sz fun g T2 o2 ts2 k n ne2 q1 q2 q3 q4 => h g T2 (kT.trans k) ?_ ⟨⟨_, _, q1, ?_, ?_, Obj.data_mapFields h4 _, ?_⟩, ne2, o2, ts2, q2, q3, q4⟩
  · have n : (s.heap.update T (Obj.mapFields (·.setIfInBounds 3 Value.none))).objs.size ≤ T2 := n
    rw [Heap.size_after_update] at n
    exact n
  · rw [Obj.cls_mapFields]; exact h2
  · obtain ⟨c, dd, dt, sl⟩ := oe
    cases dt <;> exact h3
  · simp [sz]
/-- the frame lets it go -/
theorem flight_none {fl : Value} {Q : Unit → Shared → Prop} (x : Flown s.heap e C d T fl) (h : ∀ h2 : Heap, Kept [] [T] s.heap h2 → Flown h2 e C d T .none → Q () { s with heap := h2 }) : wpAny M A (setFlight (.ref e) none) Q E s := by
  obtain ⟨⟨oe, vs, h1, h2, h3, h4, h5⟩, ne, oT, ts, t1, t2, t3⟩ := x
  have sT : 3 < ts.size := (Array.getElem?_eq_some_iff.mp t3).1
  unfold setFlight
  refine wpAny_bind (wpAny_field h1 h4 h5 ?_)
  rw [if_pos (by simp)]
  have dT := Obj.data_mapFields t2 (·.setIfInBounds 3 ((none : Option Addr).elim Value.none fun f => rawInt f))
  refine wpAny_setField t1 t2 sT (h _ (Kept.one t1 (Obj.isFreed_of_fields dT)) ⟨⟨oe, vs, ?_, h2, h3, h4, h5⟩, ne, _, _, Heap.get?_update_self _ t1 (Obj.isFreed_of_fields dT), dT, ?_⟩)
  · rw [Heap.get?_update_other _ _ ne]; exact h1
  · simp [sT]
theorem leave_new {Q : Unit → Shared → Prop} (hfr : A.frames = some (env :: outer)) (hl : s.heap.FunFrames base (env :: outer)) (hf : env.frame = some L) (x : Unflown s.heap e C d)
    (h : ∀ (h2 : Heap) (T : Addr), Kept (frs (env :: outer)) [e, T] s.heap h2 → s.heap.objs.size ≤ T → Flown h2 e C d T .none → Q () { s with heap := h2 }) : wpAny M A (leaving env (.ref e)) Q E s := by
  unfold leaving
  refine wpAny_bind (note_new hfr hl hf x fun g T k n y => flight_none (s := { s with heap := g }) y fun g2 k2 y2 => h g2 T (k.trans (k2.frame _)) n y2)
theorem leave_on {Q : Unit → Shared → Prop} (hfr : A.frames = some (env :: outer)) (hl : s.heap.FunFrames base (env :: outer)) (hf : env.frame = some L) (x : Flown s.heap e C d T .none)
    (h : ∀ (h2 : Heap) (T2 : Addr), Kept (frs (env :: outer)) [T, e, T2] s.heap h2 → s.heap.objs.size ≤ T2 → Flown h2 e C d T2 .none → Q () { s with heap := h2 }) : wpAny M A (leaving env (.ref e)) Q E s := by
  unfold leaving
  refine wpAny_bind (note_on hfr hl hf x fun g T2 k n y => flight_none (s := { s with heap := g }) y fun g2 k2 y2 => h g2 T2 (k.trans (k2.frame _)) n y2)
end
end L2
namespace L2
open PySem PySem.Spec PyProof.Rows
def xobj (e C : Addr) (d : Option Addr) : HO := .ext fun h => ∃ oe vs, h.get? e = some oe ∧ oe.cls = .ref C ∧ oe.dict = d ∧ oe.data = .fields vs ∧ 1 < vs.size
theorem xobj_ok {P : Program} {w : World} {H : Hp} {h : Heap} {e C : Addr} {d : Option Addr} {oe : Obj} {vs : Array Value} (h1 : h.get? e = some oe) (h2 : oe.cls = .ref C) (h3 : oe.dict = d) (h4 : oe.data = .fields vs) (h5 : 1 < vs.size) : ObjOk P w H h e (xobj e C d) :=
  ⟨⟨oe, vs, h1, h2, h3, h4, h5⟩, ⟨oe, h1⟩, fun g1 g2 ⟨o, v, q1, q2⟩ k => ⟨o, v, k o q1, q2⟩⟩
theorem Flown.ok {P : Program} {w : World} {H : Hp} {h : Heap} {e C T : Addr} {d : Option Addr} {fl : Value} (x : Flown h e C d T fl) : ObjOk P w H h e (xobj e C d) := by
  obtain ⟨oe, vs, h1, h2, h3, h4, h5⟩ := x.ob
  exact xobj_ok h1 h2 h3 h4 (Array.getElem?_eq_some_iff.mp h5).1
/-- what is tracked stands by itself, the exception too -/
theorem Kept.hokX {P : Program} {w : World} {F ch : List Addr} {g h : Heap} {H : Hp} {e C : Addr} {d : Option Addr} (x : Kept F ch g h) (k : HOk P w H g) (hF : ∀ b ∈ F, H b = none) (hc : ∀ b ∈ ch, b = e ∨ H b = none) (he : H e = some (xobj e C d)) (ok : ObjOk P w H h e (xobj e C d)) : HOk P w H h := fun a o q => by
  by_cases z : a = e
  · subst z
    rw [he] at q
    cases q
    exact ok
  refine (k a o q).stay (fun b u hb r => x.keep b u r (fun y => ?_) fun y => ?_) (fun _ r => r) fun _ _ r => r
  · rcases hb with v | v
    · rw [v] at y; rw [hF a y] at q; cases q
    · rw [hF b y] at v; cases v
  · rcases hc b y with n | n
    · rcases hb with v | v
      · exact z (v.symm.trans n)
      · rw [n, he] at v; cases v
    · rcases hb with v | v
      · rw [v] at n; rw [n] at q; cases q
      · rw [n] at v; cases v
theorem ObjOk.there {P : Program} {w : World} {H : Hp} {h : Heap} {a : Addr} {o : HO} (x : ObjOk P w H h a o) : ∃ ob, h.get? a = some ob := by
  induction o with
  | lst xs => obtain ⟨_, _, _, _, e⟩ := x; exact ⟨_, e⟩
  | tup xs => obtain ⟨_, _, _, p⟩ := x; obtain ⟨ob, e, _⟩ := p; exact ⟨ob, e⟩
  | dK kvs => obtain ⟨_, _, _, _, o, _, _, e, _⟩ := x; exact ⟨o, e⟩
  | dT kvs => obtain ⟨_, _, _, _, o, _, _, e, _⟩ := x; exact ⟨o, e⟩
  | set S n => obtain ⟨o, _, _, _, e, _⟩ := x; exact ⟨o, e⟩
  | ins C dx fs => obtain ⟨_, _, _, e, _⟩ := x; exact ⟨_, e⟩
  | own y => exact x
  | xd fs => obtain ⟨_, ⟨o, _, _, e, _⟩, _⟩ := x; exact ⟨o, e⟩
  | met f y => exact ⟨_, x⟩
  | rng lo hi => obtain ⟨_, _, _, e⟩ := x; exact ⟨_, e⟩
  | frz o u _ => exact ⟨o, x.1⟩
  | tbl ps => exact ⟨_, x⟩
  | ext φ => exact x.2.1
theorem HOk.new {P : Program} {w : World} {H : Hp} {h : Heap} {a : Addr} (k : HOk P w H h) (e : h.get? a = none) : H a = none := by
  cases q : H a with
  | none => rfl
  | some o =>
    obtain ⟨ob, q2⟩ := (k a o q).there
    rw [e] at q2; cases q2
/-- how an exception lies behind a call: it is new, tracked, and flies through the callers' frames -/
def CXE (P : Program) (w : World) : CXT := fun outer H s E ev s' => ∃ (e C T : Addr) (d : Option Addr) (H' : Hp), ev = .ref e ∧ Flown s'.heap e C d T .none ∧ s'.os = s.os ∧ AllBare s'.gens ∧ Un (frs outer) [] H H' s.heap s'.heap ∧ HOk P w H' s'.heap ∧
  H' e = some (xobj e C d) ∧ H' T = none ∧ s.heap.objs.size ≤ T ∧ s.heap.get? e = none ∧ E (.ref C) (some e) H'
section
variable {P : Program} {w : World} {K : PySem.W.Frag} {mg : Str → Option Value} {base : Heap} {N : List Str} {qual : Str} {scope : Scope} {f : Addr} {cd : Value} {A : Around} {outer : List Env} {s : Shared} {H : Hp} {E : XK}
theorem xe_end {X : Cx} {pins : List (Addr × Obj)} {σ : St} {H' : Hp} {s' : Shared} {h2 : Heap} {e C T2 : Addr} {d : Option Addr} {ch : List Addr} (hfs : X.fs = frs outer) (hex : X.ex = []) (hH : X.H₀ = H) (hs : X.s₀ = s) (hP : X.prog = P) (hw : X.w = w) (J : Inv X pins σ H' s') (k : Kept (frs X.stack) ch s'.heap h2) (y : Flown h2 e C d T2 .none)
    (he : H' e = some (xobj e C d)) (l2 : s'.heap.objs.size ≤ T2) (le : s.heap.get? e = none) (hch : ∀ b ∈ ch, (b = e ∨ H' b = none) ∧ s.heap.get? b = none) (hE : E (.ref C) (some e) H') : CXE P w outer H s E (.ref e) { s' with heap := h2 } := by
  subst hH hs hP hw
  have ll : ∀ b o, X.s₀.heap.get? b = some o → b ∉ ch ∧ b ≠ X.env.locals := fun b o q => by
    have lt := Heap.lt_size q
    refine ⟨(fun z => by rw [(hch b z).2] at q; cases q), fun z => ?_⟩
    have := J.ok.above
    rw [← z] at this
    exact absurd this (Nat.not_le.mpr lt)
  have nst : ∀ b o, X.s₀.heap.get? b = some o → b ∉ frs outer → b ∉ frs X.stack := fun b o q n z => by
    rcases List.mem_cons.mp (J.stkSub b z) with y | y
    · exact (ll b o q).2 y
    · rw [hfs] at y; exact n y
  have hb := J.base
  rw [hfs, hex] at hb
  refine ⟨e, C, T2, d, H', rfl, y, J.os, J.bare, ⟨fun b o q n n1 n2 => ?_, fun b o q n n1 n2 => ?_, fun b o q n n2 => hb.free b o q n n2, fun b o q n2 => ?_, hb.tups, hb.frzs, hb.tbls⟩, k.hokX J.hok J.stkFree (fun b z => (hch b z).1) he y.ok, he, J.hok.fresh l2, Nat.le_trans J.sz l2, le, hE⟩
  · exact k.keep b o (hb.keep b o q n n1 n2) (nst b o q n1) (ll b o q).1
  · obtain ⟨sl, q2⟩ := hb.slot b o q n n1 n2
    by_cases z : b ∈ frs X.stack
    · obtain ⟨sl2, q3⟩ := k.slot b _ q2 z (ll b o q).1
      exact ⟨sl2, q3⟩
    · exact ⟨sl, k.keep b _ q2 z (ll b o q).1⟩
  · obtain ⟨u, q2⟩ := hb.there b o q n2
    exact k.there b u q2
/-- a callee's exception passes on through this body -/
theorem passE : Passes (CXE P w) (cxOf (CXE P w) P w K mg base N qual scope f cd A outer s H E) E := by
  rintro pins σ H1 s1 ev s' I ⟨e, C, T, d, H', rfl, fl, os, bare, un, hok, he, hT, lT, le, hE⟩
  have J := I.call' (ch := []) os un hok bare (by simp)
  refine leave_on (base := base) J.ok.frames J.stack rfl fl fun h2 T2 k n y => ?_
  have szJ := J.sz
  have back : ∀ b, s1.heap.get? b = none → s.heap.get? b = none := fun b z => by
    cases q : s.heap.get? b with
    | none => rfl
    | some o =>
      obtain ⟨u, q2⟩ := I.base.there b o q (by show b ∉ []; simp)
      rw [z] at q2; cases q2
  refine xe_end (X := cxOf (CXE P w) P w K mg base N qual scope f cd A outer s H E) rfl rfl rfl rfl rfl rfl J k y he n (back e le) (fun b hb => ?_) hE
  simp only [List.mem_cons, List.not_mem_nil, or_false] at hb
  rcases hb with z | z | z
  · rw [z]; exact ⟨.inr hT, back T (Heap.get?_none_of_le lT)⟩
  · rw [z]; exact ⟨.inl rfl, back e le⟩
  · rw [z]; exact ⟨.inr (J.hok.fresh n), Heap.get?_none_of_le (Nat.le_trans szJ n)⟩
/-- an exception that is raised here -/
theorem raiseE {pins : List (Addr × Obj)} {σ : St} {H1 : Hp} {s1 : Shared} {e C : Addr} {d : Option Addr} (I : Inv (cxOf (CXE P w) P w K mg base N qual scope f cd A outer s H E) pins σ H1 s1) (u : Unflown s1.heap e C d) (he : H1 e = some (xobj e C d)) (le : s.heap.get? e = none) (hE : E (.ref C) (some e) H1) :
    (cxOf (CXE P w) P w K mg base N qual scope f cd A outer s H E).xe (.ref e) s1 := by
  refine leave_new (base := base) I.ok.frames I.stack rfl u fun h2 T2 k n y => ?_
  have szJ := I.sz
  refine xe_end (X := cxOf (CXE P w) P w K mg base N qual scope f cd A outer s H E) rfl rfl rfl rfl rfl rfl I k y he n le (fun b hb => ?_) hE
  simp only [List.mem_cons, List.not_mem_nil, or_false] at hb
  rcases hb with z | z
  · rw [z]; exact ⟨.inl rfl, le⟩
  · rw [z]; exact ⟨.inr (I.hok.fresh n), Heap.get?_none_of_le (Nat.le_trans szJ n)⟩
end
end L2
namespace L2
open PySem PySem.Spec PyProof.Rows
section
variable {X : Cx} {pins : List (Addr × Obj)} {σ : St} {H : Hp} {s : Shared} {h' : Heap}
/-- a new object at an address that was free -/
theorem Inv.laidN {a : Addr} {o : HO} {t' : Nat} (I : Inv X pins σ H s) (k : ∀ b u, s.heap.get? b = some u → h'.get? b = some u) (hp : s.heap.get? a = none) (new : ObjOk X.prog X.w (upd H a o) h' a o) : Inv X pins σ (upd H a o) { s with heap := h', toks := t' } := by
  have hn : H a = none := I.hok.new hp
  have ne : ∀ b u, s.heap.get? b = some u → b ≠ a := fun b u q z => by rw [z, hp] at q; cases q
  have ne2 : ∀ b u, H b = some u → b ≠ a := fun b u q => ne_of_none q hn
  refine I.un ⟨fun b u q _ _ _ => k b u q, fun b u q _ _ _ => ⟨u.slots, k b u q⟩, fun b u q n _ => by rw [upd_ne (ne b u q)]; exact n, fun b u q _ => ⟨u, k b u q⟩, fun b xs q => by rw [upd_ne (ne2 b _ q)]; exact q, fun b u xs q => by rw [upd_ne (ne2 b _ q)]; exact q, fun b ps q => ⟨#[], by rw [upd_ne (ne2 b _ q), q]; simp⟩⟩ fun b u q => ?_
  by_cases z : b = a
  · subst z
    rw [upd_same] at q
    cases q
    exact new
  · rw [upd_ne z] at q
    exact (I.hok b u q).stay (fun c v _ r => k c v r) (fun c r => by rw [upd_ne (ne2 c _ r)]; exact r) fun c xs r => by rw [upd_ne (ne2 c _ r)]; exact r
end
/-- the classes under ValueError -/
abbrev VE : List Value := [.type "ValueError", .type "Exception", .type "BaseException", .type "object"]
structure ExcAt (h : Heap) (C : Addr) (bm : List Value) (Nn : Addr) (mN : Str → Option Value) : Prop where
  ob : ∃ nm q bs hdct sn sub ab col dd k0 k1 k2 k3 k5, h.get? C = some (excClassObj nm q C Nn bs bm hdct sn sub ab col dd k0 k1 k2 k3 k5 "ValueError.__new__")
  ns : h.Ns Nn mN
  tail : OwnTail h VE bm
theorem ExcAt.keeps {h h2 : Heap} {C Nn : Addr} {bm : List Value} {mN : Str → Option Value} (x : ExcAt h C bm Nn mN) (k : ∀ b o, h.get? b = some o → h2.get? b = some o) : ExcAt h2 C bm Nn mN :=
  ⟨let ⟨a1, a2, a3, a4, a5, a6, a7, a8, a9, b0, b1, b2, b3, b4, e⟩ := x.ob; ⟨a1, a2, a3, a4, a5, a6, a7, a8, a9, b0, b1, b2, b3, b4, k _ _ e⟩, x.ns.keeps k, x.tail.keeps k⟩
section
variable {P : Program} {w : World} {K : PySem.W.Frag} {mg : Str → Option Value} {base : Heap} {N : List Str} {qual : Str} {scope : Scope} {f : Addr} {cd : Value} {A : Around} {outer : List Env} {s : Shared} {H : Hp} {E : XK}
end
end L2
namespace L2
open PySem PySem.Spec PyProof.Rows
section
variable {M : Model} {A : Around} {E : Value → Shared → Prop}
/-- does the clause's class take the exception? -/
theorem exc_match {hp : Heap} {g : Array GenState} {dr : Drawn} {tk : Nat} {os : OsState} {e C C2 Nn N2 : Addr} {bm bm2 : List Value} {mN m2 : Str → Option Value} {oe : Obj} {b : Bool} {Q : Bool → Shared → Prop} (x : ExcAt hp C bm Nn mN) (y : ExcAt hp C2 bm2 N2 m2) (he : hp.get? e = some oe) (hcls : oe.cls = .ref C)
    (hb : (Value.ref C :: bm).contains (.ref C2) = b) (hq : Q b ⟨hp, g, dr, tk, os⟩) : wpAny M A (excMatches (.ref e) (.ref C2)) Q E ⟨hp, g, dr, tk, os⟩ := by
  obtain ⟨a1, a2, a3, a4, a5, a6, a7, a8, a9, b0, b1, b2, b3, b4, eC⟩ := x.ob
  obtain ⟨c1, c2, c3, c4, c5, c6, c7, c8, c9, d0, d1, d2, d3, d4, eD⟩ := y.ob
  have base2 : (Value.ref C2 :: bm2).contains (.type "BaseException") = true := by rw [List.contains_cons, y.tail.hasType (b := true) (by decide), Bool.or_true]
  have nt := tc_notTuple
  unfold excMatches
  repeat (first
    | (with_reducible refine wpAny_loadPart_at he ?_; rw [hcls])
    | with_reducible refine wpAny_loadPart_at eD ?_
    | (with_reducible refine wpAny_isSubtype_exc eD ?_; rw [base2])
    | (with_reducible refine wpAny_isSubtype_exc eC ?_; rw [hb])
    | wp_step)
  cases b <;> (try wp_walk) <;> exact hq
end
end L2
namespace L2
open PySem PySem.Spec PyProof.Rows
section
variable {X : Cx} {pins pins' : List (Addr × Obj)} {σ : St} {H : Hp} {s : Shared}
/-- what is wanted of an exception that leaves a try's body: it flies, and Th holds of it and of the names as they are -/
def TryX (X : Cx) (pins : List (Addr × Obj)) (Th : St → Addr → Addr → Hp → Prop) (ev : Value) (s' : Shared) : Prop :=
  ∃ (e C T : Addr) (d : Option Addr) (σ : St) (H' : Hp), ev = .ref e ∧ Inv X pins σ H' s' ∧ Flown s'.heap e C d T .none ∧ H' e = some (xobj e C d) ∧ H' T = none ∧ X.s₀.heap.objs.size ≤ T ∧ (∀ p ∈ X.pn ++ pins, p.1 ≠ T) ∧ Th σ C e H'
abbrev Cx.trying (X : Cx) (pins : List (Addr × Obj)) (Th : St → Addr → Addr → Hp → Prop) : Cx := { X with pn := X.pn ++ pins, xe := TryX X pins Th }
theorem Cx.Ok.cast {X Y : Cx} (ok : X.Ok) (h1 : Y.K = X.K) (h2 : Y.mg = X.mg) (h3 : Y.base = X.base) (h4 : Y.env = X.env) (h5 : Y.s₀ = X.s₀) (h6 : Y.H₀ = X.H₀) (h7 : Y.outer = X.outer) (h8 : Y.stack = X.stack) (h9 : Y.ex = X.ex) (h10 : Y.fn = X.fn) (hd : Y.calm = true → Y.A.handled = none) (hf : Y.A.frames = some Y.stack) : Y.Ok := by
  obtain ⟨P, w, K, mg, base, A, N, s0, H0, env, outer, stack, ex, fn, calm, pn, xe⟩ := Y
  dsimp only at h1 h2 h3 h4 h5 h6 h7 h8 h9 h10
  subst h1 h2 h3 h4 h5 h6 h7 h8 h9 h10
  exact ⟨ok.mod, ok.kind, ok.glob, ok.blt, ok.above, ok.inj, ok.has, ok.cab, hd, hf, ok.stk, ok.exf, ok.bs, ok.bsz, ok.noex, ok.exfs, ok.funs, ok.frf⟩
theorem Inv.trying (I : Inv X pins σ H s) (Th : St → Addr → Addr → Hp → Prop) : Inv (X.trying pins Th) [] σ H s :=
  ⟨I.ok.cast rfl rfl rfl rfl rfl rfl rfl rfl rfl rfl I.ok.hd I.ok.frames, I.os, I.bare, I.base, I.loc, I.cell, I.free, I.freeC, fun p hp => I.pin p (by simpa using hp), I.hok, I.len⟩
theorem Inv.tried {Th : St → Addr → Addr → Hp → Prop} (I : Inv (X.trying pins Th) pins' σ H s) : Inv X pins σ H s :=
  ⟨I.ok.cast rfl rfl rfl rfl rfl rfl rfl rfl rfl rfl I.ok.hd I.ok.frames, I.os, I.bare, I.base, I.loc, I.cell, I.free, I.freeC, fun p hp => I.pin p (List.mem_append_left _ hp), I.hok, I.len⟩
/-- within an except suite -/
abbrev Cx.held (X : Cx) (e : Addr) : Cx := { X with A := X.A.mark (some (.ref e)), calm := false, xe := fun _ _ => False }
theorem Inv.held (I : Inv X pins σ H s) (e : Addr) : Inv (X.held e) pins σ H s :=
  ⟨I.ok.cast rfl rfl rfl rfl rfl rfl rfl rfl rfl rfl (fun z => nomatch z) I.ok.frames, I.os, I.bare, I.base, I.loc, I.cell, I.free, I.freeC, I.pin, I.hok, I.len⟩
theorem Inv.unheld {e : Addr} (hd : X.calm = true → X.A.handled = none) (I : Inv (X.held e) pins σ H s) : Inv X pins σ H s :=
  ⟨I.ok.cast rfl rfl rfl rfl rfl rfl rfl rfl rfl rfl hd I.ok.frames, I.os, I.bare, I.base, I.loc, I.cell, I.free, I.freeC, I.pin, I.hok, I.len⟩
/-- an exception of a callee, the names being σ -/
def PassesAt (CX : CXT) (X : Cx) (σ : St) (E : XK) : Prop := ∀ (pins : List (Addr × Obj)) (H : Hp) (s : Shared) (e : Value) (s' : Shared), Inv X pins σ H s → CX X.stack H s E e s' → X.xe e s'
theorem pass_try {P : Program} {w : World} {Th : St → Addr → Addr → Hp → Prop} {E : XK} (hP : X.prog = P) (hw : X.w = w) (hE : ∀ C e H', E (.ref C) (some e) H' → Th σ C e H') : PassesAt (CXE P w) (X.trying pins Th) σ E := by
  subst hP hw
  rintro pins1 H1 s1 ev s' I ⟨e, C, T, d, H', rfl, fl, os, bare, un, hok, he, hT, lT, le, hE'⟩
  have J := I.call' (ch := []) os un hok bare (by simp)
  refine ⟨e, C, T, d, σ, H', rfl, J.tried, fl, he, hT, Nat.le_trans I.sz lT, fun p hp z => ?_, hE _ _ _ hE'⟩
  have := (I.tried.pin p hp).1
  have := Heap.lt_size this
  rw [z] at this
  exact absurd lT (Nat.not_le.mpr this)
/-- the frame's own names changed, none that is known but the i-th -/
theorem Inv.forget {i : Nat} {n : Str} {m : Str → Option Value} {v : Option Value} {h' : Heap} {t' : Nat} (I : Inv X pins σ H s) (hN : X.N.Nodup) (hi : X.N[i]? = some n) (hn : s.heap.Ns X.env.locals m)
    (hk : ∀ (j : Nat) (x : Str) (v : V), X.N[j]? = some x → σ[j]? = some (some v) → Vis X.env.scope x → ∃ u, RelV v u ∧ Look X.env s.heap m x u) (hn' : h'.Ns X.env.locals (fun x => if x = n then v else m x)) (hs : Heap.SameBut X.env.locals s.heap h') : Inv X pins (σ.set i none) H { s with heap := h', toks := t' } := by
  have cne := I.cne
  have nl : ∀ b o, X.s₀.heap.get? b = some o → b ≠ X.env.locals := fun b o q => Nat.ne_of_lt (Nat.lt_of_lt_of_le (Heap.lt_size q) I.ok.above)
  refine ⟨I.ok, I.os, I.bare, ⟨fun b o q a1 a2 a3 => (hs.2 b (nl b o q)).trans (I.base.keep b o q a1 a2 a3), fun b o q a1 a2 a3 => ?_, I.base.free, fun b o q a1 => ?_, I.base.tups, I.base.frzs, I.base.tbls⟩, ⟨_, hn', fun j y w' q1 q2 q3 => ?_⟩, fun y c q => ?_, I.free, I.freeC, fun p hp => ?_, fun b o q => ?_, by rw [List.length_set]; exact I.len⟩
  · obtain ⟨sl, z⟩ := I.base.slot b o q a1 a2 a3
    exact ⟨sl, (hs.2 b (nl b o q)).trans z⟩
  · obtain ⟨u, z⟩ := I.base.there b o q a1
    exact ⟨u, (hs.2 b (nl b o q)).trans z⟩
  · have hj : j ≠ i := fun z => by
      rw [z] at q2
      have : i < σ.length := by rw [I.len]; exact (List.getElem?_eq_some_iff.mp hi).1
      rw [List.getElem?_set_self this] at q2
      cases q2
    rw [List.getElem?_set_ne (Ne.symm hj)] at q2
    obtain ⟨u, r, l⟩ := hk j y w' q1 q2 q3
    refine ⟨u, r, ?_⟩
    rcases l with ⟨k1, k2⟩ | ⟨k1, c, k2, k3⟩
    · have : y ≠ n := fun z => hj (nodup_ix hN q1 (z ▸ hi))
      exact .inl ⟨k1, by simp [this, k2]⟩
    · exact .inr ⟨k1, c, k2, k3.sameBut hs (cne y c k2)⟩
  · obtain ⟨w', z⟩ := I.cell y c q
    exact ⟨w', z.sameBut hs (cne y c q)⟩
  · obtain ⟨a1, a2, a3, a4, a5⟩ := I.pin p hp
    exact ⟨(hs.2 p.1 a3).trans a1, a2, a3, a4, a5⟩
  · refine (I.hok b o q).stay (fun c u hc r => (hs.2 c fun z => ?_).trans r) (fun _ r => r) fun _ _ r => r
    have fr := I.free
    rw [← z] at fr
    rcases hc with y | y
    · rw [y] at fr; rw [fr] at q; cases q
    · rw [fr] at y; cases y
end
end L2
namespace L2
open PySem PySem.Spec PyProof.Rows
section
variable {X : Cx} {pins : List (Addr × Obj)} {σ : St} {H : Hp} {s : Shared} {h2 : Heap} {e C T T2 : Addr} {d : Option Addr}
theorem Inv.noFields (I : Inv X pins σ H s) {o : Obj} {vs : Array Value} (q : s.heap.get? T = some o) (z : o.data = .fields vs) : T ≠ X.env.locals ∧ ∀ x c, X.env.cells.lookup x = some c → c ≠ T := by
  obtain ⟨m, ⟨o1, es, ep, q1, d1, _⟩, _⟩ := I.loc
  refine ⟨fun y => ?_, fun x c l y => ?_⟩
  · rw [y, q1] at q; cases q; rw [d1] at z; cases z
  · obtain ⟨v, o2, q2, d2⟩ := I.cell x c l
    rw [y, q] at q2; cases q2; rw [z] at d2; cases d2
/-- the frame has noted the exception -/
theorem Inv.noted (hst : X.stack = X.env :: X.outer) (I : Inv X pins σ H s) (fl : Flown s.heap e C d T .none) (he : H e = some (xobj e C d)) (hT : H T = none) (lT : X.s₀.heap.objs.size ≤ T) (pT : ∀ p ∈ X.pn ++ pins, p.1 ≠ T)
    (k : Kept (frs (X.env :: X.outer)) [T, e] s.heap h2) (y : ObjOk X.prog X.w H h2 e (xobj e C d)) : Inv X pins σ H { s with heap := h2 } := by
  rw [← hst] at k
  obtain ⟨oT, ts, t1, t2, _⟩ := fl.tb
  obtain ⟨n1, n2⟩ := I.noFields t1 t2
  have nin : ∀ b, H b = none → b ∉ [T] → b ∉ [T, e] := fun b hb z w => by
    simp only [List.mem_cons, List.not_mem_nil, or_false] at z w
    rcases w with w | w
    · exact z w
    · rw [w, he] at hb; cases hb
  refine I.call' (s' := { s with heap := h2 }) (ch := [T]) rfl ⟨fun b o q a1 a2 a3 => k.keep b o q a2 (nin b a1 a3), fun b o q a1 a2 a3 => k.slot b o q a2 (nin b a1 a3), fun _ _ _ n _ => n, fun b o q _ => k.there b o q, fun _ _ q => q, fun _ _ _ q => q, fun b ps q => ⟨#[], by rw [q]; simp⟩⟩ ?_ I.bare ?_
  · refine k.hokX I.hok I.stkFree (fun b hb => ?_) he y
    simp only [List.mem_cons, List.not_mem_nil, or_false] at hb
    rcases hb with z | z
    · rw [z]; exact .inr hT
    · exact .inl z
  · intro b hb
    rw [List.mem_singleton.mp hb]
    exact ⟨.inr lT, n1, n2, pT⟩
/-- a record of the flight turned -/
theorem Inv.flown {o : Obj} {vs : Array Value} (I : Inv X pins σ H s) (q : s.heap.get? T = some o) (z : o.data = .fields vs) (hT : H T = none) (lT : X.s₀.heap.objs.size ≤ T) (pT : ∀ p ∈ X.pn ++ pins, p.1 ≠ T) (k : Kept [] [T] s.heap h2) : Inv X pins σ H { s with heap := h2 } := by
  obtain ⟨n1, n2⟩ := I.noFields q z
  refine I.call' (s' := { s with heap := h2 }) (ch := [T]) rfl (k.frame _).un (k.hok I.hok (by simp) fun b hb => ?_) I.bare fun b hb => ?_
  · rw [List.mem_singleton.mp hb]; exact hT
  · rw [List.mem_singleton.mp hb]; exact ⟨.inr lT, n1, n2, pT⟩
/-- the clause takes it: the suite runs, then its name goes -/
theorem catch_as {x n : Str} {np hpos : Pos} {b0 : Stmt} {suite : List Stmt} {rest : List ExceptHandler} {i : Nat} {C2 : Addr} {D : Ends} (hst : X.stack = X.env :: X.outer) (hfr : X.env.frame = some X.env.locals) (hN : X.N.Nodup) (hi : X.N[i]? = some n) (hloc : X.env.scope.names.lookup n = some .local)
    (hg : Gl (X.held e) x) (hm : X.mg x = some (.ref C2)) (hdb : (x == ("__debug__" : Str)) = false) (hC : ∃ bm Nn mN, ExcAt X.base C bm Nn mN ∧ (Value.ref C :: bm).contains (.ref C2) = true) (hC2 : ∃ bm Nn mN, ExcAt X.base C2 bm Nn mN)
    (I : Inv X pins σ H s) (fl : Flown s.heap e C d T .none) (he : H e = some (xobj e C d)) (hT : H T = none) (lT : X.s₀.heap.objs.size ≤ T) (pT : ∀ p ∈ X.pn ++ pins, p.1 ≠ T)
    (hs : At (X.held e) { nx := fun σ2 H2 => D.nx (σ2.set i none) H2, rt := D.rt, bk := fun σ2 H2 => D.bk (σ2.set i none) H2, ct := fun σ2 H2 => D.ct (σ2.set i none) H2 } (b0 :: suite) (σ.set i (some (.ref e))) H) :
    wpAny (model X.prog X.w) X.A (noteFrame (.ref e) X.env) (fun _ s2 => wpAny (model X.prog X.w) X.A (setFlight (.ref e) none) (fun _ s3 =>
      wpAny (model X.prog X.w) X.A (handleBy (.ref e) X.env (.ExceptHandler (some (.Name x np)) (some n) (b0 :: suite) hpos :: rest)) (SP X pins D) X.xe s3) X.xe s2) X.xe s := by
  obtain ⟨bm, Nn, mN, xC, sub⟩ := hC
  obtain ⟨bm2, N2, m2, xC2⟩ := hC2
  have fs : s.heap.FunFrames X.base (X.env :: X.outer) := hst ▸ I.stack
  have ff : X.A.frames = some (X.env :: X.outer) := by rw [I.ok.frames, hst]
  refine note_on (base := X.base) ff fs hfr fl fun g2 T2 k n2 y => ?_
  have I2 := I.noted hst fl he hT lT pT k y.ok
  have l2 : X.s₀.heap.objs.size ≤ T2 := Nat.le_trans I.sz n2
  have h2T : H T2 = none := I.hok.fresh n2
  have p2 : ∀ p ∈ X.pn ++ pins, p.1 ≠ T2 := fun p hp z => by
    have := Heap.lt_size (I.pin p hp).1
    rw [z] at this
    exact absurd n2 (Nat.not_le.mpr this)
  refine flight_none (s := { s with heap := g2 }) y fun g3 k3 y3 => ?_
  obtain ⟨oT2, ts2, u1, u2, _⟩ := y.tb
  have I3 := I2.flown u1 u2 h2T l2 p2 k3
  refine wpAny_handleBy_cons (codeAny_handlers_test ?_) (by intro q; cases q)
  refine wpAny_mono (ld_glob (X := X.held e) (pos := np) (E := fun _ _ => False) (Q := fun u s4 => u = .ref C2 ∧ s4 = { s with heap := g3 }) (I3.held e) hg hm ⟨rfl, rfl⟩ hdb) (fun u s4 z => ?_) fun _ _ z => z.elim
  obtain ⟨rfl, rfl⟩ := z
  obtain ⟨oe, vs, o1, o2, _⟩ := y3.ob
  obtain ⟨hp, gg, dr, tk, os⟩ := s
  refine exc_match (xC.keeps I3.bk) (xC2.keeps I3.bk) o1 o2 sub ?_
  show codeAny _ _ _ _ _
  refine codeAny_handlers_suite_as ?_
  refine flight_none (s := ⟨g3, gg, dr, tk, os⟩) y3 fun g4 k4 y4 => ?_
  obtain ⟨oT3, ts3, w1, w2, _⟩ := y3.tb
  have I4 := I3.flown w1 w2 h2T l2 p2 k4
  refine store_ok (X := X.held e) (v := .ref e) (I4.held e) hN hi (.inl hloc) rfl (fun s5 I5 => ?_) (.inr hloc)
  refine wpAny_mono (hs pins s5 I5) (fun fw s6 sp => ?_) fun _ _ z => z.elim
  have fin : ∀ {σ6 : St} {H6 : Hp} {Q : Unit → Shared → Prop}, Inv (X.held e) pins σ6 H6 s6 → (∀ s7, Inv X pins (σ6.set i none) H6 s7 → Q () s7) → wpAny (model X.prog X.w) X.A (do bindName X.env n .none; unbindBehindTheSuite X.env n hpos) Q X.xe s6 := fun {σ6 H6 Q} I6 q => by
    obtain ⟨m, hn, hk⟩ := I6.loc
    exact wpAny_nameGoes_keeps hloc hn (by rw [I6.ok.kind]; rfl) fun h7 v hn7 hs7 => q _ ((I6.unheld I.ok.hd).forget hN hi hn hk hn7 hs7)
  cases fw with
  | next => obtain ⟨σ6, H6, I6, q⟩ := sp; exact fin I6 fun s7 I7 => ⟨_, H6, I7, q⟩
  | brk => obtain ⟨σ6, H6, I6, q⟩ := sp; exact fin I6 fun s7 I7 => ⟨_, H6, I7, q⟩
  | cont => obtain ⟨σ6, H6, I6, q⟩ := sp; exact fin I6 fun s7 I7 => ⟨_, H6, I7, q⟩
  | ret u => obtain ⟨v, σ6, H6, I6, r, q⟩ := sp; exact fin I6 fun s7 I7 => ⟨v, _, H6, I7, r, q⟩
end
end L2
namespace L2
open PySem PySem.Spec PyProof.Rows
section
variable {X : Cx}
/-- the ends of a suite behind which the i-th name goes -/
abbrev Ends.less (D : Ends) (i : Nat) : Ends := { nx := fun σ2 H2 => D.nx (σ2.set i none) H2, rt := D.rt, bk := fun σ2 H2 => D.bk (σ2.set i none) H2, ct := fun σ2 H2 => D.ct (σ2.set i none) H2 }
/-- what the clause's class takes -/
def Takes (X : Cx) (C C2 : Addr) : Prop := ∃ bm Nn mN, ExcAt X.base C bm Nn mN ∧ (Value.ref C :: bm).contains (.ref C2) = true
theorem ps_try {x n : Str} {np hpos pos : Pos} {b0 : Stmt} {body suite : List Stmt} {i : Nat} {C2 : Addr} (hst : X.stack = X.env :: X.outer) (hfr : X.env.frame = some X.env.locals) (hN : X.N.Nodup) (hi : X.N[i]? = some n) (hloc : X.env.scope.names.lookup n = some .local)
    (hg : Gl X x) (hm : X.mg x = some (.ref C2)) (hdb : (x == ("__debug__" : Str)) = false) (hC2 : ∃ bm Nn mN, ExcAt X.base C2 bm Nn mN) :
    PS X (.Try body [.ExceptHandler (some (.Name x np)) (some n) (b0 :: suite) hpos] [] [] pos) (fun D σ H => ∃ Th, (∀ pins, At (X.trying pins Th) D body σ H) ∧
      ∀ σ' C e H', Th σ' C e H' → Takes X C C2 ∧ At (X.held e) (D.less i) (b0 :: suite) (σ'.set i (some (.ref e))) H') := by
  rintro pins s σ H D I ⟨Th, hb, hh⟩
  refine wpAny_Try_except (wpAny_mono (hb pins [] s (I.trying Th)) (fun f s1 sp => ?_) fun ev s1 z => ?_)
  · cases f with
    | next => obtain ⟨σ1, H1, I1, q⟩ := sp; exact wpAny_execs_nil ⟨σ1, H1, I1.tried, q⟩
    | brk => obtain ⟨σ1, H1, I1, q⟩ := sp; exact ⟨σ1, H1, I1.tried, q⟩
    | cont => obtain ⟨σ1, H1, I1, q⟩ := sp; exact ⟨σ1, H1, I1.tried, q⟩
    | ret u => obtain ⟨v, σ1, H1, I1, r, q⟩ := sp; exact ⟨v, σ1, H1, I1.tried, r, q⟩
  · obtain ⟨e, C, T, d, σ1, H1, rfl, I1, fl, he, hT, lT, pT, th⟩ := z
    obtain ⟨tk, hs⟩ := hh σ1 C e H1 th
    exact catch_as hst hfr hN hi hloc hg hm hdb tk hC2 I1 fl he hT lT pT hs
end
section
variable {X : Cx} {CX : CXT} {k : Nat} {f C : Addr} {fd : FuncData} {ps : List Str} {sp : Sp} {dvs : List V} {ds : List Value} {x m : Str} {p pos apos : Pos} {e o : Expr} {es : List Expr} {ta : TE} {t : TA}
/-- the promise, and how its exceptions pass -/
abbrev Thru (CX : CXT) (X : Cx) (sp : Sp) (σ : St) (vs : List V) (H : Hp) (Q : VK) : Prop := ∃ E, PassesAt CX X σ E ∧ sp vs H Q E
theorem run_thru {pins : List (Addr × Obj)} {σ : St} {H : Hp} {s : Shared} {Q : VK} {us : List Value} {vs : List V} (F : FnOk X.prog X.w X.K X.mg X.base CX k f fd ps sp) (hr : Room k X.A) (hb : Binds X.K fd ps ds) (hd : Vals dvs ds)
    (I : Inv X pins σ H s) (r : Vals vs us) (h : Thru CX X sp σ (vs ++ dvs) H Q) : wpAny (model X.prog X.w) X.A (call (.ref f) us) (EP X pins σ Q) X.xe s := by
  obtain ⟨E, hx, h⟩ := h
  have r2 : Vals (vs ++ dvs) (us ++ ds) := r.append hd
  have hl : (us ++ ds).length = ps.length := (F.len _ _ _ _ h ▸ r2.length).symm
  refine wpAny_call (codeAny_mono (F.run X.A X.stack s H ⟨us, []⟩ _ _ Q E hr I.env0 (hb s us I.kIn hl) r2 h) fun y s' hq => ?_)
  match y, hq with
  | .error ev, hq => exact hx pins H s ev s' I hq
  | .ok (.ret _), hq => exact I.after hq
def tCallX (CX : CXT) (X : Cx) (sp : Sp) (dvs : List V) (t : TA) : TE := fun σ H Q => t σ H fun vs H1 => Thru CX X sp σ (vs ++ dvs) H1 Q
/-- x(e, ..) -/
theorem pe_callX (F : FnOk X.prog X.w X.K X.mg X.base CX k f fd ps sp) (hr : Room k X.A) (hg : Gl X x) (hm : X.mg x = some (.ref f)) (hk : PySem.W.keepIn X.K (.ref f) = true) (hb : Binds X.K fd ps ds) (hd : Vals dvs ds)
    (ha : PA X (e :: es) t) (hdb : (x == ("__debug__" : Str)) = false := by decide) (he : starEach (e :: es) X.env = (false, eval e X.env) :: starEach es X.env := by rfl) (hpl : (backTo pos (starEach es X.env)).any (·.1) = false := by rfl) :
    PE X (.Call (.Name x p) (e :: es) [] pos) (tCallX CX X sp dvs t) := fun pins s σ H Q I h =>
  wpAny_Call_Name_kw (ld_glob I hg hm (PySem.W.callWith_K (h₀ := X.base) I.ok.mod.kin hk (thn (ha pos pins s σ H _ I h) fun us s1 ⟨vs, H1, I1, r, q⟩ => ⟨I1.kIn, run_thru F hr hb hd I1 r q⟩) he hpl) hdb)
end
section
variable {P : Program} {w : World} {K : PySem.W.Frag} {mg : Str → Option Value} {base : Heap}
theorem Fun.okE {x qual : Str} {st : Stmt} {f : Addr} {fd : FuncData} {N ps : List Str} {k : Nat} {sp : Sp} (F : Fun K x qual st f fd) (S : FnScope N ps (defScope st)) (len : ∀ vs H Q E, sp vs H Q E → vs.length = ps.length)
    (hbody : ∀ (cdv : Value) (A : Around) (outer : List Env) (s : Shared) (H : Hp) (vs : List V) (Q : VK) (E : XK), Room k (A.deeper (envOfC qual (defScope st) s.heap.objs.size f cdv)) → sp vs H Q E →
      At (cxOf (CXE P w) P w K mg base N qual (defScope st) f cdv A outer s H E) { nx := fun _ H' => Q .non H', rt := Q } (defBody st) (start N vs) H) : FnOk P w K mg base (CXE P w) (k + 1) f fd ps sp := by
  obtain ⟨oc, od, kV, doc, pm, an, cdv, ct, osl, rfl, lk, hcd⟩ := F.ex
  exact fn_of lk hcd S len fun A outer s H vs Q E hr hsp => at_body (hbody cdv A outer s H vs Q E hr hsp)
end
end L2
namespace L2
open PySem PySem.Spec PyProof.Rows PySem.W
/-- the class's own say on attributes is none -/
structure ExcGet (K : Frag) (C : Addr) : Prop where
  ga : findIn K (.ref C) "__getattribute__" = some (some (.builtin "BaseException.__getattribute__"))
  gh : findIn K (.ref C) "__getattr__" = some none
  sub : mroIn K C (.type "BaseException") = some true
section
variable {prog : Program} {w : World} {A : Around} {E : Value → Shared → Prop} {s : Shared} {K : Frag} {x C : Addr} {ox : Obj} {od : Option Obj} {name : Str}
theorem bex_check {M : Model} {nm : Value} {Q : Unit → Shared → Prop} (G : ExcGet K C) (X : K.In s.heap) (I : InstAt s.heap x ox C od) (q : Q () s) : wpAny M A (checkBuiltinCall "BaseException.__getattribute__" ⟨[.ref x, nm], []⟩) Q E s := by
  obtain ⟨h0, g, d, tt, os⟩ := s
  have k1 : builtinKind "BaseException.__getattribute__" = some .slot := by decide +kernel
  have k2 : splitId "BaseException.__getattribute__" = some ("BaseException", "__getattribute__") := by decide +kernel
  have k3 := F.args_bexc_ga (.ref x) nm
  have LI : Looks M h0 (isInstance (.ref x) (.type "BaseException")) true := I.type.andThen (looks_mroIn X G.sub)
  simp only [checkBuiltinCall, k1, k2]
  refine wpAny_bind (LI.at ?_)
  repeat (first | assumption | wp_step)
theorem bex_by {fill ex : Bool} {tk : Tok} {Q : Value → Shared → Prop} (G : ExcGet K C) (X : K.In s.heap) (I : InstAt s.heap x ox C od)
    (h : wpAny (model prog w) A.in1 (Builtin.«object.__getattribute__» ⟨[.ref x, .str name tk], []⟩) (fun fin s' => match fin with
      | .done (.ret v) => wpAny (model prog w) A (handedOut v) Q E s'
      | _ => False) (fun _ _ => False) s) : wpAny (model prog w) A (getAttrBy (.ref x) (.str name tk) fill ex) Q E s := by
  have X0 := X
  have I0 := I
  obtain ⟨h0, g, d, tt, os⟩ := s
  have f3 := (F.excAttr_ValueError).ga.bind (.ref x)
  have e0 : (ex && onTheHeap (Value.builtin "BaseException.__getattribute__")) = false := by cases ex <;> rfl
  have e2 : (Value.builtin "BaseException.__getattribute__" == Value.builtin "object.__getattribute__") = false := by decide +kernel
  have e1 : (onTheHeap (Value.ref C) && Value.builtin "BaseException.__getattribute__" == Value.builtin "object.__getattribute__") = false := by rw [e2]; rfl
  unfold getAttrBy
  refine wpAny_holding (wpAny_bind (I.type.at (wpAny_bind ((looks_findIn X G.ga).at ?_))))
  dsimp only
  rw [e1]
  unfold getAttrByItsOwn hookBefore callGetattribute boundAndCalled
  rw [e0]
  refine wpAny_bind (show wpAny _ _ (if onTheHeap (Value.ref C) = true then typeLookup (.ref C) "__getattr__" else pure none) _ _ _ from ?_)
  refine ((looks_findIn X G.gh).at ?_)
  simp only [Bool.false_eq_true, if_false]
  refine wpAny_bind (wpAny_attempt (wpAny_holding ?_))
  refine wpAny_bind ?_
  rw [f3]
  refine wpAny_pure ?_
  refine wpAny_call (codeAny_call_builtin (F.excAttr_ValueError).ga.plain F.entry_bexc_ga (bex_check (s := ⟨h0, g, d, tt, os⟩) G X0 I0 (wpAny_mono h (fun fin s' z => ?_) fun _ _ z => z.elim)))
  rcases fin with (_ | _ | _ | _) | _ <;> first | exact z.elim | exact z
/-- what stands in its own dict -/
theorem bex_value {ex : Bool} {v : Value} {Q : Value → Shared → Prop} (G : ExcGet K C) (X : K.In s.heap) (I : InstAt s.heap x ox C od) (hf : findObj K C od name = some (.value v)) (hh : handedIn v = true) (h : Q v { s with toks := s.toks + 1 }) :
    wpAny (model prog w) A (getAttr (.ref x) name ex) Q E s := by
  have L1 : ∀ M, Looks M s.heap _ _ := fun M => looks_find (M := M) X I hf
  have L0 : ∀ M, Looks M s.heap _ _ := fun M => I.type (M := M)
  obtain ⟨h0, g, d, tt, os⟩ := s
  refine wpAny_bind (wpAny_mkText (bex_by (s := ⟨h0, g, d, tt + 1, os⟩) G X I ?_))
  unfold Builtin.«object.__getattribute__»
  refine wpAny_bind (wpAny_pure (wpAny_bind (wpAny_pure (wpAny_bind ((L0 _).at (wpAny_bind ((L1 _).at ?_)))))))
  refine wpAny_pure ?_
  show wpAny _ _ (handedOut v) _ _ _
  rw [handedOut_of hh]
  exact wpAny_pure h
/-- its class -/
theorem bex_class {Q : Option Value → Shared → Prop} (G : ExcGet K C) (X : K.In s.heap) (I : InstAt s.heap x ox C od) (hm : mroIn K C (.type "object") = some true) (hf : findObj K C od "__class__" = some (.bind (.builtin "getset_descriptor.__get__") (.builtin "object.__class__")))
    (h : Q (some (.ref C)) { s with toks := s.toks + 1 }) : wpAny (model prog w) A (getAttr? (.ref x) "__class__") Q E s := by
  have L1 : ∀ M, Looks M s.heap _ _ := fun M => looks_find (M := M) X I hf
  have L0 : ∀ M, Looks M s.heap _ _ := fun M => I.type (M := M)
  obtain ⟨h0, g, d, tt, os⟩ := s
  unfold getAttr? getAttrBy?
  refine wpAny_bind (wpAny_mkText (wpAny_bind (wpAny_attempt (bex_by (s := ⟨h0, g, d, tt + 1, os⟩) G X I ?_))))
  unfold Builtin.«object.__getattribute__»
  refine wpAny_bind (wpAny_pure (wpAny_bind (wpAny_pure (wpAny_bind ((L0 _).at (wpAny_bind ((L1 _).at ?_)))))))
  refine wpAny_bind (wpAny_holding (wpAny_call (class_get (s := ⟨h0, g, d, tt + 1, os⟩) X I hm ?_)))
  refine wpAny_pure ?_
  show wpAny _ _ (handedOut (.ref C)) _ _ _
  exact wpAny_pure (wpAny_pure h)
/-- isinstance takes it -/
theorem kitx_exc {cd : ClassData} (G : ExcGet K C) (hc : clsIn K C = some cd) (hm : mroIn K C (.type "object") = some true) (ha : findIn K (.ref C) "__class__" = some (some (.builtin "object.__class__")))
    (hn : specialIn K (.builtin "object.__class__") "__get__" = some (some (.builtin "getset_descriptor.__get__"))) (htk : takesIn K (.builtin "object.__class__") = some true) : KitX K (.ref x) (.ref C) (fun h => ∃ ox od, InstAt h x ox C od) where
  ty := fun _ _ _ ⟨_, _, I⟩ => I.type
  it := fun _ _ X _ => by
    unfold clsIn at hc
    split at hc
    next ho => exact fun A' Q' E' s' k q => wpAny_bind (wpAny_loadPart (k _ _ (X _ _ ho)) (wpAny_pure q))
    next => cases hc
  ne := fun h tp dd its n sl X htp => by
    refine Bool.eq_false_iff.mpr fun q => ?_
    have e : C = tp := Value.ref.inj (beq_iff_eq.mp q)
    unfold clsIn at hc
    split at hc
    next ho => rw [e] at ho; have z := (X _ _ ho).symm.trans htp; cases z
    next => cases hc
  ca := fun X ⟨_, _, I⟩ k => bex_class G X I hm (by unfold findObj; rw [hc]; simp only [Option.bind_some, ha, hn, htk]) k
end
end L2
namespace L2
open PySem PySem.Spec PyProof.Rows PySem.W
def excC (K : Frag) (C : Addr) : Bool :=
  match K.lookup C with
  | some ⟨.type "type", _, .cls cd, sl⟩ =>
    match cd.mro, sl.toList with
    | .ref D :: r, [_, _, _, _, some (.builtin m), _] => (D == C && m == "ValueError.__new__") && (!cd.hasDel && (tailIn K VE r && nsOkIn K cd.ns))
    | _, _ => false
  | _ => false
theorem exc_atC {K : Frag} {h : Heap} {C : Addr} (kin : K.In h) (q : excC K C = true) : ∃ bm Nn mN, ExcAt h C bm Nn mN := by
  unfold excC at q
  split at q
  next dd cd sl look =>
    split at q
    next D r c0 c1 c2 c3 m c5 em es =>
      simp only [Bool.and_eq_true, beq_iff_eq, Bool.not_eq_true'] at q
      obtain ⟨⟨e1, e2⟩, del, tl, nsok⟩ := q
      subst e1 e2
      have esl : sl = #[c0, c1, c2, c3, some (.builtin "ValueError.__new__"), c5] := Array.toList_inj.mp es
      obtain ⟨f1, f2, f3, f4, f5, f6, f7, f8, f9, f10, f11⟩ := cd
      have em : f3 = .ref D :: r := em
      have del : f11 = false := del
      subst em del esl
      exact ⟨r, f4, _, ⟨_, _, _, _, _, _, _, _, _, _, _, _, _, _, kin _ _ look⟩, .of_isNs (isNs_of_in kin nsok), tail_of_in kin tl⟩
    next => cases q
  next => cases q
section
variable {prog : Program} {w : World} {A : Around} {E : Value → Shared → Prop} {h : Heap} {g : Array GenState} {d : Drawn} {t : Nat} {os : OsState} {K : Frag} {C fI : Addr} {oI : Obj} {bm : List Value} {Nn : Addr} {mN : Str → Option Value} {rest : List Value}
theorem exc_typecall {Q : Fin → Shared → Prop} (X : K.In h) (x : ExcAt h C bm Nn mN) (hi : findIn K (.ref C) "__init__" = some (some (.ref fI))) (hf : h.get? fI = some oI) (hfc : oI.cls = .type "function") (sz : rest.length ≤ sizeLine)
    (hq : ∀ h2 e, Heap.MadeExcOf h h2 e (.ref C) rest → wpAny (model prog w) A (call (.ref fI) (.ref e :: rest)) (fun r s2 => r = .none ∧ Q (.done (.ret (.ref e))) s2) E ⟨h2, g, d, t, os⟩) :
    wpAny (model prog w) A (Builtin.«type.__call__» ⟨.ref C :: rest, []⟩) Q E ⟨h, g, d, t, os⟩ := by
  obtain ⟨a1, a2, a3, a4, a5, a6, a7, a8, a9, b0, b1, b2, b3, b4, eC⟩ := x.ob
  have B := PySem.F.excBase_ValueError
  repeat (first | with_reducible refine wpAny_loadPart_at eC ?_ | with_reducible refine wpAny_madeBy_exc eC ?_ | wp_step)
  refine codeAny_call_builtin_code (Code.quiet_builtin _ B.quiet) (wpAny_check_new_subU B (by decide) x.tail eC (codeAny_exc_new_subU B (by decide) B x.tail eC ?_ sz))
  show wpAny _ _ _ _ _ _
  generalize e2 : (h.push { cls := .type "tuple", data := .seq rest.toArray }).push { cls := .ref C, data := .fields #[.ref h.objs.size, .none, .none, .none, .bool false, .none] } = h2
  have k : ∀ b o, h.get? b = some o → h2.get? b = some o := fun b o q => by rw [← e2]; exact Heap.get?_push_of_some _ (Heap.get?_push_of_some _ q)
  have ge : h2.get? (h.objs.size + 1) = some { cls := .ref C, data := .fields #[.ref h.objs.size, .none, .none, .none, .bool false, .none] } := by rw [← e2]; heap_get
  have eC2 := k _ _ eC
  have L : Looks (model prog w) h2 (typeLookup (.ref C) "__init__") (some (.ref fI)) := looks_findIn (fun a o q => k _ _ (X a o q)) hi
  have self : (Value.ref C :: bm).contains (.ref C) = true := by simp
  unfold isInstance
  repeat (first | with_reducible refine wpAny_loadPart_at ge ?_ | (with_reducible refine wpAny_isSubtype_exc eC2 ?_; rw [self]) | wp_step)
  refine L.at ?_
  refine wpAny_holding (wpAny_bind ?_)
  unfold bindSpecial
  refine wpAny_bind (wpAny_typeOf (T := "function") ⟨_, k _ _ hf, hfc⟩ ?_)
  rw [if_pos (by decide)]
  refine wpAny_pure (wpAny_bind (thn (hq h2 (h.objs.size + 1) ⟨k, Heap.get?_none_of_le (Nat.le_succ _), h.objs.size, ge, Heap.get?_none_of_le (Nat.le_refl _), ?_⟩) fun r s2 z => ?_))
  · rw [← e2]; exact Heap.get?_push_of_some _ (Heap.get?_push_at rfl rfl)
  · obtain ⟨z1, z2⟩ := z
    subst z1
    wp_walk
    exact z2
theorem exc_call {Q : Value → Shared → Prop} (X : K.In h) (x : ExcAt h C bm Nn mN) (hi : findIn K (.ref C) "__init__" = some (some (.ref fI))) (hf : h.get? fI = some oI) (hfc : oI.cls = .type "function") (sz : rest.length ≤ sizeLine)
    (hq : ∀ h2 e, Heap.MadeExcOf h h2 e (.ref C) rest → wpAny (model prog w) (A.under (.builtin "type.__call__" ⟨.ref C :: rest, []⟩)) (call (.ref fI) (.ref e :: rest)) (fun r s2 => r = .none ∧ Q (.ref e) s2) E ⟨h2, g, d, t, os⟩) :
    wpAny (model prog w) A (call (.ref C) rest) Q E ⟨h, g, d, t, os⟩ := by
  obtain ⟨a1, a2, a3, a4, a5, a6, a7, a8, a9, b0, b1, b2, b3, b4, eC⟩ := id x.ob
  have f1 := tc_lookup
  have f2 := tc_bind (.ref C)
  have hT : (⟨h, g, d, t, os⟩ : Shared).TypeIs (.ref C) "type" := ⟨_, eC, rfl⟩
  refine wpAny_call (codeAny_of_tree (show wpAny _ _ (callAny (.ref C) _) _ _ _ from ?_))
  repeat (any_goals (first | assumption | with_reducible refine wpAny_loadPart_at eC ?_ | wp_step))
  exact ⟨rfl, codeAny_call_builtin_at (Code.quiet_builtin _ (by decide +kernel)) entry_typeCall (wpAny_check_type_call_sub eC (exc_typecall X x hi hf hfc sz hq))⟩
/-- raise of an exception that is at hand -/
theorem raise_obj {s : Shared} {env : Env} {M : Model} {x : Sem Value} {Q : Flow → Shared → Prop} (hh : A.handled = none)
    (h : wpAny M A x (fun v s1 => ∃ e C bm Nn mN oe vs, v = .ref e ∧ ExcAt s1.heap C bm Nn mN ∧ s1.heap.get? e = some oe ∧ oe.cls = .ref C ∧ oe.data = .fields vs ∧ vs[1]? = some .none ∧ E (.ref e) s1) E s) : wpAny M A (raiseStmt env (some x) none) Q E s := by
  unfold raiseStmt
  refine wpAny_bind (thn h fun v s1 ⟨e, C, bm, Nn, mN, oe, vs, ev, xx, ge, gc, gd, g1, hE⟩ => ?_)
  subst ev
  obtain ⟨a1, a2, a3, a4, a5, a6, a7, a8, a9, b0, b1, b2, b3, b4, eC⟩ := xx.ob
  have hb : (Value.ref C :: bm).contains (.type "BaseException") = true := by rw [List.contains_cons, xx.tail.hasType (b := true) (by decide), Bool.or_true]
  obtain ⟨oc, od, odt, osl⟩ := oe
  dsimp only at gc gd
  subst gc gd
  obtain ⟨hp, gg, dr, tk, os1⟩ := s1
  have fl : ∀ {R : Value → Shared → Prop}, R .none ⟨hp, gg, dr, tk, os1⟩ → wpAny M A (field (.ref e) 1) R E ⟨hp, gg, dr, tk, os1⟩ := fun r => wpAny_field ge rfl g1 r
  repeat (first | with_reducible refine wpAny_loadPart_at ge ?_ | with_reducible refine wpAny_loadPart_at eC ?_ | (with_reducible refine wpAny_isSubtype_exc eC ?_; rw [hb]) | with_reducible refine fl ?_ | wp_step)
  exact wpAny_raiseNew_none hh hE
end
end L2
namespace L2
open PySem PySem.Spec PyProof.Rows PySem.W
theorem tail_passes {h : Heap} {bm : List Value} (self : Value) (t : OwnTail h VE bm) : refuseLoop self "__setattr__" bm = pure () := by
  induction t with
  | base => exact PySem.F.store_ValueError.passes self
  | own _ _ _ _ ih => rw [refuseLoop_ref]; exact ih
section
variable {prog : Program} {w : World} {A : Around} {E : Value → Shared → Prop} {s : Shared} {K : Frag} {e C : Addr} {oe : Obj} {od : Option Obj} {bm : List Value} {Nn : Addr} {mN : Str → Option Value} {name : Str} {v : Value} {vs : Array Value}
theorem exc_osa {tk : Tok} {R : Result → Shared → Prop} (X : K.In s.heap) (I : InstAt s.heap e oe C od) (x : ExcAt s.heap C bm Nn mN) (hn : findIn K (.ref C) name = some none) (hm : mroIn K C (.type "object") = some true)
    (h : wpAny (model prog w) A.in1 (Builtin.ObjectAttr.storeInOwnDict (.ref e) (.ref C) (.str name tk) name v false) (fun fin s2 => match fin with | .done f => R (.ok f) s2 | .again c => c.quiet = true ∧ codeAny (model prog w) A c R s2) (fun ev s2 => R (.error ev) s2) s) :
    codeAny (model prog w) A (.call (.builtin "object.__setattr__") ⟨[.ref e, .str name tk, v], []⟩) R s := by
  have SF := PySem.F.store_object
  obtain ⟨a1, a2, a3, a4, a5, a6, a7, a8, a9, b0, b1, b2, b3, b4, eC⟩ := x.ob
  have sub : Looks (model prog w) s.heap (isInstance (.ref e) (.type "object")) true := I.type.andThen (looks_mroIn X hm)
  refine codeAny_call_builtin SF.slot.plain SF.entry (@check_slot (model prog w) _ _ s "object.__setattr__" "object" "__setattr__" (.ref e) [.str name tk, v] [] _ SF.kind SF.split sub (SF.args (.ref e) (.str name tk) v) ?_)
  have pass : refuseLoop (.ref e) "__setattr__" (.ref C :: bm) = pure () := by rw [refuseLoop_ref]; exact tail_passes _ x.tail
  rw [osa_eq, refuse_eq]
  refine wpAny_bind (wpAny_bind (I.type.here (wpAny_bind ?_)))
  obtain ⟨hp, g, dr, t, os⟩ := s
  refine wpAny_mroOf_exc eC ?_
  rw [pass]
  exact wpAny_pure (wpAny_bind (I.type.here (wpAny_bind ((looks_findIn X hn).here (wpAny_bind (wpAny_pure h))))))
/-- the dict is there -/
theorem exc_store {dx : Addr} {mA : Str → Option Value} {ns : List Str} {Q : Unit → Shared → Prop} {cd : ClassData} (X : K.In s.heap) (I : InstAt s.heap e oe C od) (x : ExcAt s.heap C bm Nn mN) (hs : findIn K (.ref C) "__setattr__" = some (some (.builtin "object.__setattr__")))
    (hn : findIn K (.ref C) name = some none) (hm : mroIn K C (.type "object") = some true) (hc : clsIn K C = some cd) (hh : cd.hasDict = true) (hd : oe.dict = some dx) (hda : oe.data = .fields vs) (hns : s.heap.Ns1 dx mA) (hw : Within mA ns) (sz : ns.length ≤ sizeLine)
    (h : ∀ h2 tk, h2.Ns1 dx (fun y => if y = name then some v else mA y) → Heap.SameBut dx s.heap h2 → Q () { s with heap := h2, toks := tk }) : wpAny (model prog w) A (setAttr (.ref e) name v) Q E s := by
  obtain ⟨oc, odt, oda, osl⟩ := oe
  have cl : oc = .ref C := I.cls
  dsimp only at hd hda
  subst cl hd hda
  refine set_plain X I hs (exc_osa (s := { s with toks := s.toks + 1 }) X I x hn hm ?_)
  refine wpAny_bind (wpAny_pure (wpAny_bind (wpAny_bind (wpAny_loadPart I.at_ (wpAny_bind (Looks.here (s := { s with toks := s.toks + 1 }) (looks_clsIn X hc) ?_))))))
  rw [hh]
  refine wpAny_pure (a := some dx) (wpAny_bind (wpAny_pure (wpAny_bind ?_)))
  refine wpAny_nsSet1 (s := { s with toks := s.toks + 1 }) hns fun h2 n2 s2 => ?_
  obtain ⟨oD, esD, epD, hoD, hdD, hcD⟩ := n2.count (Within.cons name v hw)
  exact wpAny_bind (wpAny_lookBehind hoD (by rw [hdD]; exact pastItsLine_dict (Nat.le_trans hcD (by rw [List.length_cons]; omega))) (wpAny_pure (h _ _ n2 s2)))
/-- the dict is made -/
theorem exc_store0 {Q : Unit → Shared → Prop} {cd : ClassData} (X : K.In s.heap) (I : InstAt s.heap e oe C od) (x : ExcAt s.heap C bm Nn mN) (hs : findIn K (.ref C) "__setattr__" = some (some (.builtin "object.__setattr__")))
    (hn : findIn K (.ref C) name = some none) (hm : mroIn K C (.type "object") = some true) (hc : clsIn K C = some cd) (hh : cd.hasDict = true) (hd : oe.dict = none) (hda : oe.data = .fields vs)
    (h : ∀ h2 tk, h2.get? e = some { oe with dict := some s.heap.objs.size } → h2.Ns1 s.heap.objs.size (fun y => if y = name then some v else none) → (∀ b o, b ≠ e → s.heap.get? b = some o → h2.get? b = some o) → Q () { s with heap := h2, toks := tk }) : wpAny (model prog w) A (setAttr (.ref e) name v) Q E s := by
  obtain ⟨oc, odt, oda, osl⟩ := oe
  have cl : oc = .ref C := I.cls
  dsimp only at hd hda
  subst cl hd hda
  refine set_plain X I hs (exc_osa (s := { s with toks := s.toks + 1 }) X I x hn hm ?_)
  refine wpAny_bind (wpAny_pure (wpAny_bind (wpAny_bind (wpAny_loadPart I.at_ (wpAny_bind (Looks.here (s := { s with toks := s.toks + 1 }) (looks_clsIn X hc) ?_))))))
  rw [hh]
  have he1 := Heap.get?_push_of_some { cls := .type "dict", data := .dict #[] } I.at_
  have nes : e ≠ s.heap.objs.size := Nat.ne_of_lt (Heap.lt_size I.at_)
  refine wpAny_bind (wpAny_alloc' (wpAny_bind (wpAny_update' he1 (wpAny_pure ?_))))
  generalize e2 : (Heap.update (Heap.push s.heap { cls := .type "dict", data := .dict #[] }) e fun o => { cls := o.cls, dict := some s.heap.objs.size, data := o.data, slots := o.slots }) = h1
  have g1 : h1.get? s.heap.objs.size = some { cls := .type "dict", data := .dict #[] } := by rw [← e2]; exact (Heap.get?_update_ne _ _ _ _ nes.symm).trans (Heap.get?_push_at rfl rfl)
  have n1 : h1.Ns s.heap.objs.size (fun _ => none) := ⟨_, #[], _, g1, rfl, fun z hz => absurd hz (by simp), fun _ => rfl⟩
  have ge : h1.get? e = some ⟨.ref C, some s.heap.objs.size, .fields vs, osl⟩ := by rw [← e2]; exact Heap.get?_update_self _ he1 rfl
  refine wpAny_bind (wpAny_pure (wpAny_bind (wpAny_nsSet1 (Heap.Ns1.of_empty n1) fun h2 n2 s2 => ?_)))
  obtain ⟨oD, esD, epD, hoD, hdD, hcD⟩ := n2.count (Within.cons name v Within.nil)
  refine wpAny_bind (wpAny_lookBehind hoD (by rw [hdD]; exact pastItsLine_dict (Nat.le_trans hcD (by rw [List.length_cons, List.length_nil, sizeLine_eq]; omega))) (wpAny_pure ?_))
  exact h h2 _ ((s2.2 e nes).trans ge) n2 fun b o nb q => (s2.2 b (Nat.ne_of_lt (Heap.lt_size q))).trans (by rw [← e2]; exact (Heap.get?_update_ne _ _ _ _ nb).trans (Heap.get?_push_of_some _ q))
end
end L2
namespace L2
open PySem PySem.Spec PyProof.Rows PySem.W
def xnew (e C : Addr) (d : Option Addr) : HO := .ext fun h => Unflown h e C d
theorem xnew_ok {P : Program} {w : World} {H : Hp} {h : Heap} {e C : Addr} {d : Option Addr} (u : Unflown h e C d) : ObjOk P w H h e (xnew e C d) := by
  obtain ⟨oe, vs, g1, g2⟩ := id u
  exact ⟨u, ⟨oe, g1⟩, fun a b ⟨o, v, q1, q2⟩ k => ⟨o, v, k o q1, q2⟩⟩
/-- what of the text an exception's class must have -/
structure ExcC (K : Frag) (C : Addr) : Prop where
  at_ : excC K C = true
  ge : ExcGet K C
  sa : findIn K (.ref C) "__setattr__" = some (some (.builtin "object.__setattr__"))
  ob : mroIn K C (.type "object") = some true
  hd : hasDictIn K C = true
section
variable {X : Cx} {pins : List (Addr × Obj)} {σ : St} {H : Hp} {s : Shared} {e C dx : Addr} {d : Option Addr} {fs : List (Str × V)} {f : Str} {A : Around} {E : Value → Shared → Prop}
theorem xd_get {P : Program} {w : World} {h : Heap} (k : HOk P w H h) (q : H dx = some (.xd fs)) : ∃ mA, h.Ns1 dx mA ∧ ∀ g, RelO (fs.lookup g) (mA g) := k dx _ q
theorem xd_within {mA : Str → Option Value} (r : ∀ g, RelO (fs.lookup g) (mA g)) : Within mA (fs.map (·.1)) := by
  intro g hg
  cases q : fs.lookup g with
  | none =>
    have := RelO.none_of (o := mA g) (by rw [← q]; exact r g)
    exact absurd this hg
  | some y => exact List.mem_map_of_mem (PySem.mem_of_lookup q)
/-- e.f, read -/
theorem xget_ok {o : HO} {b : Bool} {y : V} {Q : Value → Shared → Prop} (I : Inv X pins σ H s) (he : H e = some o) (ho : o = xobj e C (some dx) ∨ o = xnew e C (some dx)) (hx : H dx = some (.xd fs)) (c : ExcC X.K C) (n : NoAttr X.K C f) (l : fs.lookup f = some y)
    (h : ∀ u s', Inv X pins σ H s' → RelV y u → Q u s') : wpAny (model X.prog X.w) A (getAttr (.ref e) f b) Q E s := by
  obtain ⟨mA, n1, r⟩ := xd_get I.hok hx
  obtain ⟨u, hu, ru⟩ := RelO.some_of (v := y) (o := mA f) (by rw [← l]; exact r f)
  obtain ⟨od, god, look⟩ := lookIn_ns n1
  have ob : ∃ oe vs, s.heap.get? e = some oe ∧ oe.cls = .ref C ∧ oe.dict = some dx ∧ oe.data = .fields vs := by
    rcases ho with z | z <;> subst z
    · obtain ⟨oe, vs, a1, a2, a3, a4, _⟩ := (I.hok e _ he).1; exact ⟨oe, vs, a1, a2, a3, a4⟩
    · obtain ⟨oe, vs, a1, a2, a3, a4, _⟩ := (I.hok e _ he).1; exact ⟨oe, vs, a1, a2, a3, a4⟩
  obtain ⟨oe, vs, a1, a2, a3, a4⟩ := ob
  have J : InstAt s.heap e oe C (some od) := ⟨a1, a2, by unfold notCls; rw [a4], by rw [a3]; exact god⟩
  exact bex_value c.ge I.kIn J (findObj_own c.hd n rfl (by rw [look, hu])) (handed_of ru) (h u _ (I.tok _) ru)
/-- self.f = v, the dict being there -/
theorem xset_ok {y : V} {u : Value} {Q : Unit → Shared → Prop} (I : Inv X pins σ H s) (he : H e = some (xnew e C (some dx))) (hx : H dx = some (.xd fs)) (c : ExcC X.K C) (n : NoAttr X.K C f) (hl : fs.length < 1000) (ry : RelV y u)
    (h : ∀ s', Inv X pins σ (upd H dx (.xd ((f, y) :: fs))) s' → Q () s') : wpAny (model X.prog X.w) A (setAttr (.ref e) f u) Q E s := by
  obtain ⟨mA, n1, r⟩ := xd_get I.hok hx
  obtain ⟨od, god, look⟩ := lookIn_ns n1
  obtain ⟨oe, vs, a1, a2, a3, a4, a5⟩ := (I.hok e _ he).1
  have J : InstAt s.heap e oe C (some od) := ⟨a1, a2, by unfold notCls; rw [a4], by rw [a3]; exact god⟩
  obtain ⟨bm, Nn, mN, xx⟩ := exc_atC I.kIn c.at_
  obtain ⟨cd, hc, hh⟩ := any_some c.hd
  refine exc_store I.kIn J xx c.sa n c.ob hc hh a3 a4 n1 (xd_within r) (by rw [List.length_map, sizeLine_eq]; omega) fun h2 tk m2 sb => h _ ?_
  have ned : e ≠ dx := fun z => by rw [z, hx] at he; cases he
  refine I.un ⟨fun b o q a _ _ => (sb.2 b fun z => ?_).trans q, fun b o q a _ _ => ⟨o.slots, (sb.2 b fun z => ?_).trans q⟩, fun b o q a _ => ?_, fun b o q _ => ?_, fun b xs q => ?_, fun b o v q => ?_, fun b ps q => ?_⟩ fun b o q => ?_
  · rw [z, hx] at a; cases a
  · rw [z, hx] at a; cases a
  · rw [upd_ne (fun z => by rw [z, hx] at a; cases a)]; exact a
  · by_cases z : b = dx
    · obtain ⟨o2, _, _, g2, _⟩ := m2; exact ⟨o2, z ▸ g2⟩
    · exact ⟨o, (sb.2 b z).trans q⟩
  · rw [upd_ne (fun z => by rw [z, hx] at q; cases q)]; exact q
  · rw [upd_ne (fun z => by rw [z, hx] at q; cases q)]; exact q
  · exact ⟨#[], by rw [upd_ne (fun z => by rw [z, hx] at q; cases q), q]; simp⟩
  · by_cases z : b = dx
    · subst z
      rw [upd_same] at q
      cases q
      refine ⟨_, m2, fun g => ?_⟩
      rw [List.lookup_cons]
      by_cases w : g = f
      · subst w; simp only [beq_self_eq_true, if_true]; exact ry
      · rw [if_neg w, show (g == f) = false from beq_eq_false_iff_ne.mpr w]; exact r g
    · rw [upd_ne z] at q
      refine (I.hok b o q).stay (fun cc v hcc rr => (sb.2 cc fun y => ?_).trans rr) (fun cc rr => ?_) fun cc xs rr => ?_
      · rcases hcc with p | p
        · exact z (p.symm.trans y)
        · rw [y, hx] at p; cases p
      · rw [upd_ne (fun y => by rw [y, hx] at rr; cases rr)]; exact rr
      · rw [upd_ne (fun y => by rw [y, hx] at rr; cases rr)]; exact rr
/-- self.f = v, the dict being made -/
theorem xset0_ok {y : V} {u : Value} {Q : Unit → Shared → Prop} (I : Inv X pins σ H s) (he : H e = some (xnew e C none)) (c : ExcC X.K C) (n : NoAttr X.K C f) (ry : RelV y u)
    (h : ∀ dx s', H dx = none → Inv X pins σ (upd (upd H dx (.xd [(f, y)])) e (xnew e C (some dx))) s' → Q () s') : wpAny (model X.prog X.w) A (setAttr (.ref e) f u) Q E s := by
  obtain ⟨oe, vs, a1, a2, a3, a4, a5⟩ := (I.hok e _ he).1
  have J : InstAt s.heap e oe C none := ⟨a1, a2, by unfold notCls; rw [a4], by rw [a3]; trivial⟩
  obtain ⟨bm, Nn, mN, xx⟩ := exc_atC I.kIn c.at_
  obtain ⟨cd, hc, hh⟩ := any_some c.hd
  have fr : H s.heap.objs.size = none := I.hok.fresh (Nat.le_refl _)
  refine exc_store0 I.kIn J xx c.sa n c.ob hc hh a3 a4 fun h2 tk ge m2 k => h s.heap.objs.size _ fr ?_
  have ned : s.heap.objs.size ≠ e := fun z => by rw [z, he] at fr; cases fr
  have old : ∀ {b o}, s.heap.get? b = some o → b ≠ s.heap.objs.size := fun q => Nat.ne_of_lt (Heap.lt_size q)
  have ne2 : ∀ {b o}, H b = some o → b ≠ s.heap.objs.size := fun q z => by rw [z, fr] at q; cases q
  have nee : ∀ {b}, H b = none → b ≠ e := fun q z => by rw [z, he] at q; cases q
  refine I.un ⟨fun b o q a _ _ => k b o (nee a) q, fun b o q a _ _ => ⟨o.slots, k b o (nee a) q⟩, fun b o q a _ => ?_, fun b o q _ => ?_, fun b xs q => ?_, fun b o v q => ?_, fun b ps q => ?_⟩ fun b o q => ?_
  · rw [upd_ne (nee a), upd_ne (old q)]; exact a
  · by_cases z : b = e
    · exact ⟨_, z ▸ ge⟩
    · exact ⟨o, k b o z q⟩
  · rw [upd_ne (fun z => by rw [z, he] at q; cases q), upd_ne (ne2 q)]; exact q
  · rw [upd_ne (fun z => by rw [z, he] at q; cases q), upd_ne (ne2 q)]; exact q
  · exact ⟨#[], by rw [upd_ne (fun z => by rw [z, he] at q; cases q), upd_ne (ne2 q), q]; simp⟩
  · by_cases z : b = e
    · subst z
      rw [upd_same] at q
      cases q
      exact xnew_ok ⟨_, vs, ge, a2, rfl, a4, a5⟩
    · rw [upd_ne z] at q
      by_cases z2 : b = s.heap.objs.size
      · rw [z2, upd_same] at q
        cases q
        rw [z2]
        refine ⟨_, m2, fun g => ?_⟩
        rw [List.lookup_cons]
        by_cases w : g = f
        · subst w; simp only [beq_self_eq_true, if_true]; exact ry
        · rw [if_neg w, show (g == f) = false from beq_eq_false_iff_ne.mpr w]; trivial
      · rw [upd_ne z2] at q
        refine (I.hok b o q).stay (fun cc v hcc rr => k cc v (fun y => ?_) rr) (fun cc rr => ?_) fun cc xs rr => ?_
        · rcases hcc with p | p
          · exact z (p.symm.trans y)
          · rw [y, he] at p; cases p
        · rw [upd_ne (fun y => by rw [y, he] at rr; cases rr), upd_ne (ne2 rr)]; exact rr
        · rw [upd_ne (fun y => by rw [y, he] at rr; cases rr), upd_ne (ne2 rr)]; exact rr
end
end L2
namespace L2
open PySem PySem.Spec PyProof.Rows PySem.W
section
variable {X : Cx} {o value ex : Expr} {f : Str} {pos pos' : Pos} {ta tv : TE}
/-- e.f, read -/
def tFldX (K : Frag) (ta : TE) (f : Str) : TE := fun σ H Q => ta σ H fun x H1 => ∃ e C dx fs y ho, x = .ref e ∧ H1 e = some ho ∧ (ho = xobj e C (some dx) ∨ ho = xnew e C (some dx)) ∧ H1 dx = some (.xd fs) ∧ ExcC K C ∧ NoAttr K C f ∧ fs.lookup f = some y ∧ Q y H1
theorem pe_fldX (he : PE X ex ta) (hb : attributeBase ex f X.env (eval ex X.env) = eval ex X.env) : PE X (.Attribute ex f pos) (tFldX X.K ta f) := by
  intro pins s σ H Q I h
  refine attr_of hb (thn (he pins s σ H _ I h) fun u s1 ⟨x, H1, I1, rx, e, C, dx, fs, y, ho, z1, z2, z3, z4, c, n, l, q⟩ => ?_)
  subst z1
  obtain rfl : u = Value.ref e := rx
  exact xget_ok I1 z2 z3 z4 c n l fun u2 s2 I2 ru => ⟨y, H1, I2, ru, q⟩
/-- self.f = v -/
def sFldX (K : Frag) (ta tv : TE) (f : Str) : TS := fun D σ H => tv σ H fun y H1 => ta σ H1 fun x H2 => ∃ e C, x = .ref e ∧ ExcC K C ∧ NoAttr K C f ∧
  ((H2 e = some (xnew e C none) ∧ ∀ dx, H2 dx = none → D.nx σ (upd (upd H2 dx (.xd [(f, y)])) e (xnew e C (some dx)))) ∨
    ∃ dx fs, H2 e = some (xnew e C (some dx)) ∧ H2 dx = some (.xd fs) ∧ fs.length < 1000 ∧ D.nx σ (upd H2 dx (.xd ((f, y) :: fs))))
theorem ps_fldX (ha : PE X o ta) (hv : PE X value tv) (hs : swapsWith value (some (.Attribute o f pos')) pos.line X.env = pure false) : PS X (.Assign [.Attribute o f pos'] value pos) (sFldX X.K ta tv f) := by
  intro pins s σ H D I h
  refine plainObj_wpAny_Assign_Attribute (thn (hv pins s σ H _ I h) fun u s1 ⟨y, H1, I1, ry, q⟩ => thn (ha pins s1 σ H1 _ I1 q) fun ov s2 ⟨x, H2, I2, rx, e, C, z1, c, n, q2⟩ => ?_) hs
  subst z1
  obtain rfl : ov = Value.ref e := rx
  rcases q2 with ⟨he, q3⟩ | ⟨dx, fs, he, hd, l, q3⟩
  · exact xset0_ok I2 he c n ry fun dx s3 fr I3 => ⟨σ, _, I3, q3 dx fr⟩
  · exact xset_ok I2 he hd c n l ry fun s3 I3 => ⟨σ, _, I3, q3⟩
/-- isinstance of an exception -/
structure ExcI (K : Frag) (C : Addr) : Prop extends ExcC K C where
  ca : findIn K (.ref C) "__class__" = some (some (.builtin "object.__class__"))
  cg : specialIn K (.builtin "object.__class__") "__get__" = some (some (.builtin "getset_descriptor.__get__"))
  ct : takesIn K (.builtin "object.__class__") = some true
theorem xisinst {pins : List (Addr × Obj)} {σ : St} {H : Hp} {s : Shared} {e C : Addr} {d : Option Addr} {c : Value} {b : Bool} {A : Around} {E : Value → Shared → Prop} {Q : Value → Shared → Prop} (I : Inv X pins σ H s) (he : H e = some (xobj e C d)) (hd : ∀ dx, d = some dx → ∃ fs, H dx = some (.xd fs))
    (k : ExcI X.K C) (q : kitOne X.K (.ref C) c = some b) (h : ∀ tk, Q (.bool b) { s with toks := tk }) : wpAny (model X.prog X.w) A (call (.builtin "isinstance") [.ref e, c]) Q E s := by
  obtain ⟨oe, vs, a1, a2, a3, a4, _⟩ := (I.hok e _ he).1
  obtain ⟨cd, hc, _⟩ := any_some k.hd
  refine kia_one (kitx_exc k.ge hc k.ob k.ca k.cg k.ct) I.kIn ?_ q (fun z => nomatch z) h
  cases d with
  | none => exact ⟨oe, none, a1, a2, by unfold notCls; rw [a4], by rw [a3]; trivial⟩
  | some dx =>
    obtain ⟨fs, hx⟩ := hd dx rfl
    obtain ⟨mA, n1, _⟩ := xd_get I.hok hx
    obtain ⟨od, god, _⟩ := lookIn_ns n1
    exact ⟨oe, some od, a1, a2, by unfold notCls; rw [a4], by rw [a3]; exact god⟩
theorem call_isiX : CallR X (.builtin "isinstance") (fun xs H Q => ∃ e C d a b, xs = [.ref e, .ref a] ∧ H e = some (xobj e C d) ∧ (∀ dx, d = some dx → ∃ fs, H dx = some (.xd fs)) ∧ ExcI X.K C ∧ kitOne X.K (.ref C) (.ref a) = some b ∧ Q (.bl b) H) := by
  intro pins s σ H xs us Q I r h
  obtain ⟨e, C, d, a, b, rfl, he, hd, k, kk, q⟩ := h
  obtain ⟨u, w', rfl, ru, rw'⟩ := vals2 r
  cases rw'
  cases ru
  exact xisinst I he hd k kk fun tk => ⟨.bl b, H, I.tok _, rfl, q⟩
end
end L2
namespace L2
open PySem PySem.Spec PyProof.Rows PySem.W
theorem Inv.xold {X : Cx} {pins : List (Addr × Obj)} {σ : St} {H : Hp} {s : Shared} {e C : Addr} {d : Option Addr} (I : Inv X pins σ H s) (he : H e = some (xnew e C d)) : Inv X pins σ (upd H e (xobj e C d)) s := by
  have ne : ∀ {b}, H b = none → b ≠ e := fun q z => by rw [z, he] at q; cases q
  refine I.un (h' := s.heap) (t' := s.toks) ⟨fun b o q _ _ _ => q, fun b o q _ _ _ => ⟨o.slots, q⟩, fun b o q a _ => by rw [upd_ne (ne a)]; exact a, fun b o q _ => ⟨o, q⟩, fun b xs q => ?_, fun b o v q => ?_, fun b ps q => ?_⟩ fun b o q => ?_
  · rw [upd_ne (fun z => by rw [z, he] at q; cases q)]; exact q
  · rw [upd_ne (fun z => by rw [z, he] at q; cases q)]; exact q
  · exact ⟨#[], by rw [upd_ne (fun z => by rw [z, he] at q; cases q), q]; simp⟩
  · by_cases z : b = e
    · subst z
      rw [upd_same] at q
      cases q
      obtain ⟨oe, vs, a1, a2, a3, a4, a5⟩ := (I.hok b _ he).1
      exact xobj_ok a1 a2 a3 a4 (Array.getElem?_eq_some_iff.mp a5).1
    · rw [upd_ne z] at q
      refine (I.hok b o q).stay (fun _ _ _ r => r) (fun cc rr => ?_) fun cc xs rr => ?_
      · rw [upd_ne (fun y => by rw [y, he] at rr; cases rr)]; exact rr
      · rw [upd_ne (fun y => by rw [y, he] at rr; cases rr)]; exact rr
section
variable {P : Program} {w : World} {K : PySem.W.Frag} {mg : Str → Option Value} {base : Heap} {N : List Str} {qual : Str} {scope : Scope} {f : Addr} {cd : Value} {A : Around} {outer : List Env} {s : Shared} {H : Hp} {E : XK}
theorem ps_raise1 {x : Str} {np cpos pos : Pos} {e1 : Expr} {es : List Expr} {ta : TA} {C fI : Addr} {k : Nat} {fd : FuncData} {ps : List Str} {sp : Sp} (c : ExcC K C) (hi : findIn K (.ref C) "__init__" = some (some (.ref fI))) (hfn : isFn K (.ref fI) = true) (hkp : keepIn K (.ref C) = true)
    (F : FnOk P w K mg base CX0 k fI fd ps sp) (hb : Binds K fd ps []) (hr : Room (k + 1) (cxOf (CXE P w) P w K mg base N qual scope f cd A outer s H E).A) (hg : Gl (cxOf (CXE P w) P w K mg base N qual scope f cd A outer s H E) x) (hm : mg x = some (.ref C))
    (ha : PA (cxOf (CXE P w) P w K mg base N qual scope f cd A outer s H E) (e1 :: es) ta) (hd : (x == ("__debug__" : Str)) = false := by decide)
    (he : starEach (e1 :: es) (cxOf (CXE P w) P w K mg base N qual scope f cd A outer s H E).env = (false, eval e1 (cxOf (CXE P w) P w K mg base N qual scope f cd A outer s H E).env) :: starEach es (cxOf (CXE P w) P w K mg base N qual scope f cd A outer s H E).env := by rfl)
    (hpl : (backTo cpos (starEach es (cxOf (CXE P w) P w K mg base N qual scope f cd A outer s H E).env)).any (·.1) = false := by rfl) :
    PS (cxOf (CXE P w) P w K mg base N qual scope f cd A outer s H E) (.Raise (some (.Call (.Name x np) (e1 :: es) [] cpos)) none pos) (fun _ σ H1 => ta σ H1 fun vs H2 => vs.length ≤ sizeLine ∧ ∀ e, H2 e = none → sp (.ref e :: vs) (upd H2 e (xnew e C none)) (fun v H3 => v = .non ∧ ∃ d, H3 e = some (xnew e C d) ∧ E (.ref C) (some e) (upd H3 e (xobj e C d))) E0) := by
  intro pins s1 σ H1 D I h
  rw [arm_exec_Raise]
  refine wpAny_bind (wpAny_standAt (raise_obj (I.ok.hd rfl) (wpAny_bind (wpAny_mono (wpAny_Call_Name_kw (ld_glob I hg hm (PySem.W.callWith_K (h₀ := base) I.ok.mod.kin hkp (thn (ha cpos pins s1 σ H1 _ I h) fun us s3 ⟨vs, H3, I3, rv, sz, kk⟩ => ⟨I3.kIn, ?_⟩) he hpl) hd)) (fun v s4 h4 => wpAny_bind (wpAny_standAt (wpAny_pure h4))) fun _ _ z => z))))
  obtain ⟨bm, Nn, mN, xx⟩ := exc_atC I3.kIn c.at_
  have lk := beq_iff_eq.mp hfn
  have fo : ∃ oI, s3.heap.get? fI = some oI ∧ oI.cls = .type "function" := by
    obtain ⟨oI, l1, l2⟩ := Option.map_eq_some_iff.mp lk
    exact ⟨oI, I3.kIn _ _ l1, l2⟩
  obtain ⟨oI, fo1, fo2⟩ := fo
  obtain ⟨hp, g, dr, t, os⟩ := s3
  refine exc_call I3.kIn xx hi fo1 fo2 (show us.length ≤ sizeLine by rw [← rv.length]; exact sz) fun h2 e md => ?_
  obtain ⟨t0, g1, _, _⟩ := md.there
  have new := I3.hok.new md.new
  have I4 := I3.laidN (h' := h2) (t' := t) (o := xnew e C none) md.keeps md.new (xnew_ok ⟨_, _, g1, rfl, rfl, rfl, rfl⟩)
  have r2 : Vals (V.ref e :: vs) (Value.ref e :: us) := .cons rfl rv
  have hsp := kk e new
  have hl : (Value.ref e :: us).length = ps.length := (F.len _ _ _ _ hsp ▸ r2.length).symm
  have bnd := hb _ (Value.ref e :: us) I4.kIn (by rw [List.append_nil]; exact hl)
  rw [List.append_nil] at bnd
  refine wpAny_call (codeAny_mono (F.run _ (cxOf (CXE P w) P w K mg base N qual scope f cd A outer s H E).stack _ _ ⟨Value.ref e :: us, []⟩ (Value.ref e :: us) (V.ref e :: vs) _ E0 (hr.make C us []) (I4.env0.make C us []) bnd r2 hsp) fun y s' hq => ?_)
  match y, hq with
  | .ok (.ret u), hq =>
    obtain ⟨v, H5, I5, rv5, z1, d5, z2, z3⟩ := I4.after hq
    subst z1
    obtain ⟨bm5, N5, m5, x5⟩ := exc_atC I5.kIn c.at_
    refine ⟨rv5, e, C, bm5, N5, m5, ?_⟩
    obtain ⟨oe, ws, a1, a2, a3, a4, a5⟩ := (I5.hok e _ z2).1
    refine ⟨oe, ws, rfl, x5, a1, a2, a4, a5, raiseE (I5.xold z2) ⟨oe, ws, a1, a2, a3, a4, a5⟩ upd_same ?_ z3⟩
    cases z : s.heap.get? e with
    | none => rfl
    | some o =>
        obtain ⟨u2, z4⟩ := I3.base.there e o z (by show e ∉ []; simp)
        rw [md.new] at z4; cases z4
end
end L2
namespace L2
open PySem PySem.Spec PyProof.Rows PySem.W
section
variable {P : Program} {w : World} {K : Frag} {mg : Str → Option Value} {base : Heap} {CX : CXT} {k : Nat} {f : Addr} {fd : FuncData} {ps : List Str} {sp : Sp}
end
section
variable {X : Cx} {CX : CXT} {k : Nat} {f : Addr} {fd : FuncData} {ps : List Str} {sp : Sp} {x : Str} {p pos : Pos} {e : Expr} {es : List Expr} {t : TA} {E : XK}
end
end L2
namespace L2
open PySem PySem.Spec PyProof.Rows PySem.W
section
variable {X : Cx} {pins : List (Addr × Obj)} {σ : St} {H : Hp} {s : Shared} {e C : Addr} {d : Option Addr} {A : Around} {E : Value → Shared → Prop}
end
section
variable {X : Cx} {T : Str} {tp apos pos : Pos} {e1 : Expr} {es : List Expr} {t : TA} {D : Addr}
end
end L2
namespace L2
open PySem PySem.Spec PyProof.Rows PySem.W
/-- the clause's class takes it, out of the text -/
theorem takes_of {X : Cx} {C C2 : Addr} (kin : X.K.In X.base) (q : excC X.K C = true) (m : mroIn X.K C (.ref C2) = some true) : Takes X C C2 := by
  unfold excC at q
  split at q
  next dd cd sl look =>
    split at q
    next D r c0 c1 c2 c3 mm c5 em es =>
      simp only [Bool.and_eq_true, beq_iff_eq, Bool.not_eq_true'] at q
      obtain ⟨⟨e1, e2⟩, del, tl, nsok⟩ := q
      subst e1 e2
      have esl : sl = #[c0, c1, c2, c3, some (.builtin "ValueError.__new__"), c5] := Array.toList_inj.mp es
      have con : cd.mro.contains (.ref C2) = true := by
        unfold mroIn clsIn at m
        rw [look] at m
        simp only [Option.bind_some] at m
        split at m
        · cases m
        · exact Option.some.inj m
      obtain ⟨f1, f2, f3, f4, f5, f6, f7, f8, f9, f10, f11⟩ := cd
      have em : f3 = .ref D :: r := em
      have del : f11 = false := del
      subst em del esl
      exact ⟨r, f4, _, ⟨⟨_, _, _, _, _, _, _, _, _, _, _, _, _, _, kin _ _ look⟩, .of_isNs (isNs_of_in kin nsok), tail_of_in kin tl⟩, con⟩
    next => cases q
  next => cases q
end L2
namespace L2
open PySem PySem.Spec PyProof.Rows
section
variable {X : Cx} {pins : List (Addr × Obj)} {σ : St} {H : Hp} {s : Shared}
end
/-- try, by what the text says of the classes -/
theorem ps_tryK {X : Cx} {x n : Str} {np hpos pos : Pos} {b0 : Stmt} {body suite : List Stmt} {i : Nat} {C2 : Addr} (hst : X.stack = X.env :: X.outer) (hfr : X.env.frame = some X.env.locals) (hN : X.N.Nodup) (hi : X.N[i]? = some n) (hloc : X.env.scope.names.lookup n = some .local)
    (hg : Gl X x) (hm : X.mg x = some (.ref C2)) (hdb : (x == ("__debug__" : Str)) = false) (h2 : excC X.K C2 = true) :
    PS X (.Try body [.ExceptHandler (some (.Name x np)) (some n) (b0 :: suite) hpos] [] [] pos) (fun D σ H => ∃ Th, (∀ pins, At (X.trying pins Th) D body σ H) ∧
      ∀ σ' C e H', Th σ' C e H' → excC X.K C = true ∧ PySem.W.mroIn X.K C (.ref C2) = some true ∧ At (X.held e) (D.less i) (b0 :: suite) (σ'.set i (some (.ref e))) H') := fun pins s σ H D I ⟨Th, hb, hh⟩ =>
  (ps_try hst hfr hN hi hloc hg hm hdb (exc_atC I.ok.mod.kin h2)) pins s σ H D I ⟨Th, hb, fun σ' C e H' th => let ⟨a, b, c⟩ := hh σ' C e H' th; ⟨takes_of I.ok.mod.kin a b, c⟩⟩
end L2
namespace L2
open PySem PySem.Spec PyProof.Rows
section
variable {X : Cx} {pins : List (Addr × Obj)} {σ : St} {H : Hp} {s : Shared}
def PlainV (xs ys : List V) : Prop := ∀ x ∈ xs, ∀ y ∈ ys, flatV x = true ∧ flatV y = true ∧ eqV x y = decide (x = y)
theorem plain_items {xs ys : List V} {is js : List Value} {A : Around} (p : PlainV xs ys) (r1 : Vals xs is) (r2 : Vals ys js) :
    ∀ j (h1 : j < is.toArray.size) (h2 : j < js.toArray.size), SeqAt.EqAt A s is.toArray[j] js.toArray[j] ((fun j => decide (xs[j]? = ys[j]?)) j) := by
  intro j h1 h2
  have l1 := r1.length
  have l2 := r2.length
  have j1 : j < xs.length := by simpa [l1] using h1
  have j2 : j < ys.length := by simpa [l2] using h2
  have e1 := List.getElem?_eq_getElem j1
  have e2 := List.getElem?_eq_getElem j2
  obtain ⟨u1, g1, q1⟩ := r1.get e1
  obtain ⟨u2, g2, q2⟩ := r2.get e2
  have g1' : is.toArray[j] = u1 := by simpa [List.getElem?_eq_some_iff] using (List.getElem?_eq_some_iff.mp g1).2
  have g2' : js.toArray[j] = u2 := by simpa [List.getElem?_eq_some_iff] using (List.getElem?_eq_some_iff.mp g2).2
  rw [g1', g2']
  obtain ⟨f1, f2, f3⟩ := p _ (List.getElem_mem j1) _ (List.getElem_mem j2)
  have := eqAt_V (A := A) (s := s) q1 q2 f1 f2
  rw [f3] at this
  have e : decide (xs[j]? = ys[j]?) = decide (xs[j] = ys[j]) := by rw [e1, e2]; simp
  show SeqAt.EqAt A s u1 u2 (decide (xs[j]? = ys[j]?))
  rw [e]
  exact this
theorem all_same {xs ys : List V} (h : xs.length = ys.length) : ((List.range xs.length).all fun j => decide (xs[j]? = ys[j]?)) = decide (xs = ys) := by
  rw [Bool.eq_iff_iff, List.all_eq_true, decide_eq_true_eq]
  constructor
  · intro z
    refine List.ext_getElem? fun j => ?_
    by_cases hj : j < xs.length
    · simpa using z j (List.mem_range.mpr hj)
    · rw [List.getElem?_eq_none (by omega), List.getElem?_eq_none (by omega)]
  · intro z j _
    rw [z]; simp
def rEqLs (K : PySem.W.Frag) : R2 := fun x y H Q => ∃ a b xs ys, x = .ref a ∧ y = .ref b ∧ SqL K H a xs ∧ SqL K H b ys ∧ PlainV xs ys ∧ Q (.bl (decide (xs = ys))) H
theorem op_eqLs (hu : X.A.units < cLine) : OpR X (compareOp .Eq) (rEqLs X.K) := by
  intro pins s σ H x y v u Q I rx ry h
  obtain ⟨a, b, xs, ys, rfl, rfl, ha, hb, hp, q⟩ := h
  cases rx
  cases ry
  obtain ⟨is, r1, p1, _⟩ := I.list ha
  obtain ⟨js, r2, p2, _⟩ := I.list hb
  obtain ⟨o1, n1, e1, c1, _, d1⟩ := p1
  obtain ⟨o2, n2, e2, c2, _, d2⟩ := p2
  have l1 := r1.length
  have l2 := r2.length
  by_cases hl : xs.length = ys.length
  · refine PySem.SeqAt.eq_listAt (e := fun j => decide (xs[j]? = ys[j]?)) ⟨o1, e1, c1, n1, d1⟩ ⟨o2, e2, c2, n2, d2⟩ (by simp [← l1, ← l2, hl]) hu (plain_items hp r1 r2) ?_
    have z : is.toArray.size = xs.length := by simp [← l1]
    rw [z, all_same hl]
    exact ⟨.bl _, H, I, rfl, q⟩
  · refine PySem.SeqAt.eq_list_lengthsAt ⟨o1, e1, c1, n1, d1⟩ ⟨o2, e2, c2, n2, d2⟩ (by simpa [← l1, ← l2] using hl) hu ?_
    rw [decide_eq_false (fun z => hl (by rw [z]))] at q
    exact ⟨.bl false, H, I, rfl, q⟩
theorem plain_ints {α β : Type} (f : α → Int) (g : β → Int) (xs : List α) (ys : List β) : PlainV (xs.map fun x => V.int (f x)) (ys.map fun y => V.int (g y)) := by
  intro x hx y hy
  obtain ⟨a, _, rfl⟩ := List.mem_map.mp hx
  obtain ⟨b, _, rfl⟩ := List.mem_map.mp hy
  refine ⟨rfl, rfl, ?_⟩
  show (f a == g b) = _
  rw [Bool.eq_iff_iff]
  simp
end
end L2
namespace L2
open PySem PySem.Spec PyProof.Rows
section
variable {X : Cx} {pins : List (Addr × Obj)} {σ : St} {H : Hp} {s : Shared}
end
end L2
namespace L2
open PySem PySem.Spec PyProof.Rows
section
variable {X : Cx} {pins : List (Addr × Obj)} {σ : St} {H : Hp} {s : Shared}
end
end L2
namespace L2
open PySem PySem.Spec PyProof.Rows
section
variable {X : Cx} {e v1 v2 : Expr} {es : List Expr} {te : TE} {pos : Pos}
variable {t : TF}
end
end L2
namespace L2
open PySem PySem.Spec PyProof.Rows PySem.W
section
variable {X : Cx}
end
end L2
namespace L2
open PySem PySem.Spec PyProof.Rows
/-- the loop of a comprehension with a test -/
theorem compIfLoop_go {prog : Program} {w : World} {A : Around} {R : Result → Shared → Prop} {s : Shared} {elt target iter c : Expr} {scope : Scope} {pos : Pos} {it acc : Value} {env : Env} (J : Nat → Shared → Prop)
    (turn : ∀ n s, J n s → wpAny (model prog w) A (pyNext it) (fun r s₁ => match r with
      | none => R (.ok .next) s₁
      | some v => wpAny (model prog w) A (letOwnedTupleGo target it v) (fun _ s₁ => wpAny (model prog w) A (assign target env v) (fun _ s₂ => wpAny (model prog w) A (isTrue c env (eval c env)) (fun ok s₂ => if ok = true then wpAny (model prog w) A (eval elt env) (fun x s₃ =>
          wpAny (model prog w) A (call (.builtin "list.append") [acc, x]) (fun _ s₄ => ∃ m, m < n ∧ J m s₄) (fun _ _ => False) s₃)
          (fun _ _ => False) s₂ else ∃ m, m < n ∧ J m s₂) (fun _ _ => False) s₂) (fun _ _ => False) s₁) (fun _ _ => False) s₁) (fun _ _ => False) s)
    (n : Nat) (h : J n s) :
    codeAny (model prog w) A (.compLoop (.ListComp elt [⟨target, iter, [c], 0⟩] scope pos) 0 it acc env) R s := by
  refine codeAny_loop rfl J (fun n s hI => ?_) n h
  show wpAny _ _ ((compTurn (.ListComp elt [⟨target, iter, [c], 0⟩] scope pos) 0 it acc env).onRaise (fun x => do noteFrame x env; theTreesLotGoes x)) _ _ s
  refine wpAny_noted ?_
  rw [compTurn_list]
  refine wpAny_bind (wpAny_standAt (wpAny_bind (wpAny_mono (turn n s hI) (fun r s₁ h₁ => ?_) fun _ _ h' => h'.elim)))
  cases r with
  | none => exact wpAny_pure h₁
  | some v =>
    refine wpAny_bind (wpAny_mono h₁ (fun _ s₁' h₁ => ?_) fun _ _ h' => h'.elim)
    refine wpAny_bind (wpAny_mono h₁ (fun _ s₂ h₂ => wpAny_bind (wpAny_tests_one (wpAny_mono h₂ (fun ok s₃ h₃ => ?_) fun _ _ h' => h'.elim))) fun _ _ h' => h'.elim)
    cases ok with
    | false =>
      rw [if_neg (by decide)] at h₃
      exact wpAny_pure ⟨rfl, h₃⟩
    | true =>
      rw [if_pos rfl] at h₃
      refine wpAny_bind (wpAny_bind (wpAny_mono h₃ (fun x s₃ h₃ => wpAny_bind (wpAny_mono h₃
        (fun _ s₄ h₄ => wpAny_pure (wpAny_pure ⟨rfl, h₄⟩)) fun _ _ h' => h'.elim)) fun _ _ h' => h'.elim))
section
variable {X : Cx}
def CompIfW (J : It) (caps : List (Str × Nat)) (tt : TT) (te : TE) (σ : St) (H1 : Hp) (Q : VK) : Prop := ∃ W : Nat → Nat → List V → Hp → Prop, (∃ m, W 0 m [] H1) ∧ ∀ i m ys H, W i m ys H →
  (J.stop i H ∧ ∀ D, H D = none → Q (.ref D) (upd H D (.lst ys))) ∨ (J.go i H ∧ ys.length < sizeLine ∧ ∀ x H', J.yld i H x H' → tt (capV caps σ ++ [some x]) H' fun b H2 => if b = true then te (capV caps σ ++ [some x]) H2 fun y H3 => ∃ m', m' < m ∧ W (i + 1) m' (ys ++ [y]) H3 else ∃ m', m' < m ∧ W (i + 1) m' ys H2)
def tCompIf (caps : List (Str × Nat)) (wi : TI) (tt : TT) (te : TE) : TE := fun σ H Q => wi σ H fun J H1 => CompIfW J caps tt te σ H1 Q
theorem pe_compIf {sc csc : Scope} {N : List Str} {elt iter c : Expr} {x : Str} {px pos : Pos} {caps : List (Str × Nat)} {wi : TI} {te : TE} {tt : TT} (ck : CompOk sc csc N x caps) (hi : PI X (.Name x px) iter wi)
    (ht : ∀ C s2 H2 fp, PT (compCx X (caps.map (·.1) ++ [x]) csc C s2 H2 fp) c tt) (he : ∀ C s2 H2 fp, PE (compCx X (caps.map (·.1) ++ [x]) csc C s2 H2 fp) elt te) (hc : X.calm = true := by rfl) (hsc : X.env.scope = sc := by rfl) (hXN : X.N = N := by rfl) (hs : ∀ x, foldedSetIterable iter X.env x = pure x := by intro _; rfl) :
    PE X (.ListComp elt [⟨.Name x px, iter, [c], 0⟩] csc pos) (tCompIf caps wi tt te) := by
  subst hsc hXN
  intro pins s σ H Q I h
  rw [eval_ListComp]
  have cellsOk : ∀ p ∈ csc.names, p.2 = .free → ∃ c, X.env.cells.lookup p.1 = some c := fun p hp e => I.ok.has p.1 (.inl (ck.free p hp e))
  refine wpAny_comprehension_free (use := none) rfl hs (closureFor_eq cellsOk) ck.kind ck.loc (thn (hi pins s σ H _ I h) fun v s1 h1 => thn h1 fun itv s2 h2 => ?_)
  obtain ⟨it, fp, tn, J, H2, e, I2, T, st2, f2, W, ⟨m0, w0⟩, turn⟩ := h2
  subst e
  refine wpAny_newObj_type (wpAny_newFunctionEnv ck.cell (by intro y hy; simp at hy) (fun h4 hns4 hsb4 => ?_) ck.kind)
  dsimp only at hns4 hsb4 ⊢
  generalize hD : s2.heap.objs.size = D at hns4 hsb4 ⊢
  generalize hH2 : s2.heap.push { cls := .type "list", dict := none, data := .seq ([] : List Value).toArray } = G at hns4 hsb4 ⊢
  have hGs : G.objs.size = D + 1 := by rw [← hH2, Heap.size_push, hD]
  rw [hGs] at hns4 hsb4 ⊢
  have lt2 : ∀ b o, s2.heap.get? b = some o → b < D := fun b o e => hD ▸ Heap.lt_size e
  have old : ∀ b o, s2.heap.get? b = some o → b ≠ D + 1 ∧ b ≠ D := fun b o e => ⟨nlt1 (lt2 b o e), nlt (lt2 b o e)⟩
  have leD : s2.heap.objs.size ≤ D := Nat.le_of_eq hD
  have leD1 : s2.heap.objs.size ≤ D + 1 := Nat.le_succ_of_le leD
  have keep4 : ∀ b o, s2.heap.get? b = some o → h4.get? b = some o := fun b o e => hsb4.extBut b o (old b o e).1 (Heap.get?_push_of_some _ (hH2 ▸ Heap.get?_push_of_some _ e))
  have hDo : h4.get? D = some { cls := .type "list", data := .seq ([] : List Value).toArray 0 } := by
    refine hsb4.extBut D _ ns1 (Heap.get?_push_of_some _ ?_)
    rw [← hH2, ← hD]
    exact Heap.get?_push_size _ rfl
  have fps : ∀ b ∈ fp, b < s2.heap.objs.size := fun b hb => by
    obtain ⟨o, e, _⟩ := T.obj _ _ st2 b hb
    exact Heap.lt_size e
  have I4 : ∀ t4, Inv (compCx X (caps.map (·.1) ++ [x]) csc (D + 1) s2 H2 fp) [] (capV caps σ ++ [none]) H2 { s2 with heap := h4, toks := t4 } := fun t4 => comp_start (m0 := fun x => [].reverse.lookup x) I2 ck f2 fps leD1 keep4 hns4
  have cellsLt : ∀ y c, (clFold X.env csc.names []).lookup y = some c → c < D := fun y c e => by
    obtain ⟨v, o, ho, _⟩ := I2.cell y c (clFold_in _ _ cellsOk (fun y c h => by simp at h) y c e)
    exact lt2 c o ho
  have fsLt : ∀ b ∈ frs X.stack, b < D := fun b hb => by
    obtain ⟨_, o, ho, _⟩ := I2.stack.mem hb
    exact lt2 b o ho
  -- the iterator's objects within the block
  have fpC : ∀ {pl : List (Addr × Obj)} {H' : Hp}, (∀ p ∈ pl, p.1 = D) → (∀ b ∈ fp, H' b = none) → ∀ b ∈ fp, FpOk (compCx X (caps.map (·.1) ++ [x]) csc (D + 1) s2 H2 fp) pl H' b := fun {pl H'} hpl hn b hb => by
    have hb' : b < D := hD ▸ fps b hb
    refine ⟨hn b hb, nlt1 hb', ?_, .inl hb, fun y c e => ?_, fun p hp => ?_⟩
    · intro z
      rcases List.mem_cons.mp (I2.stkSub b z) with e | e
      · exact (f2 b hb).2.1 e
      · exact (f2 b hb).2.2.1 e
    · exact (f2 b hb).2.2.2.2.1 y c (clFold_in _ _ cellsOk (fun y c h => by simp at h) y c e)
    · have : p.1 = D := hpl p (by simpa using hp)
      rw [this]; exact fun z => nlt hb' z.symm
  have loop : ∀ t4, codeAny (model X.prog X.w) X.A (.compLoop (.ListComp elt [⟨.Name x px, iter, [c], 0⟩] csc pos) 0 (.ref it) (.ref D) (compEnvC csc (clFold X.env csc.names []) (D + 1) X.env))
      (compPost (model X.prog X.w) X.A X.xe none (EP X pins σ Q) (.ref D) (D + 1)) { s2 with heap := h4, toks := t4 } := by
    intro t4
    refine compIfLoop_go (fun n s' => ∃ (i : Nat) (ys : List V) (its : List Value) (k : Nat) (σ' : St) (H' : Hp), Inv (compCx X (caps.map (·.1) ++ [x]) csc (D + 1) s2 H2 fp) [(D, { cls := .type "list", data := .seq its.toArray k })] σ' H' s' ∧ tn i s'.heap ∧ (∀ b ∈ fp, H' b = none) ∧ Vals ys its ∧ ys.length ≤ sizeLine ∧ W i n ys H' ∧ (∃ z, σ' = capV caps σ ++ [z])) ?_ m0 ?_
    · rintro n s3 ⟨i, ys, its, k, σ3, H3, I3, st3, fr3, hv, hz, w3, z3, rfl⟩
      have pl1 : ∀ p ∈ [((D, { cls := .type "list", data := .seq its.toArray k }) : Addr × Obj)], p.1 = D := fun p hp => by rw [List.mem_singleton.mp hp]
      rcases turn i n ys H3 w3 with ⟨stop, qn⟩ | ⟨go, hlt, step⟩
      · refine wpAny_mono (T.done (compCx X (caps.map (·.1) ++ [x]) csc (D + 1) s2 H2 fp) rfl rfl rfl hc i _ s3 _ H3 (fun _ _ => False) I3 (fpC pl1 fr3) st3 stop) (fun r s4 ⟨hr, I4'⟩ => ?_) fun _ _ f => f.elim
        subst hr
        obtain ⟨m, hn, _⟩ := id I4'.loc
        have pD := I4'.pin (D, { cls := .type "list", data := .seq its.toArray k }) (by simp)
        refine ⟨m, hn, fun h' hs' => ⟨.ref D, _, comp_done I2 I4' f2 leD1 leD ns1 hs' hv hz pD.1 pD.2.1, rfl, qn D pD.2.1⟩⟩
      · refine wpAny_mono (T.item (compCx X (caps.map (·.1) ++ [x]) csc (D + 1) s2 H2 fp) rfl rfl rfl hc i _ s3 _ H3 (fun _ _ => False) I3 (fpC pl1 fr3) st3 go) (fun r s4 ⟨u, hr, h4'⟩ => ?_) fun _ _ f => f.elim
        subst hr
        refine wpAny_mono h4' (fun _ s4 ⟨xv, H5, I5, r5, y5, st5, fr5⟩ => ?_) fun _ _ f => f.elim
        have I5' := I5.pinned (fpC pl1 fr5) (T.obj _ _ st5)
        have hiN : (caps.map (·.1) ++ [x])[caps.length]? = some x := by rw [List.getElem?_append_right (by simp)]; simp
        refine wpAny_mono (pg_name (X := compCx X (caps.map (·.1) ++ [x]) csc (D + 1) s2 H2 fp) (i := caps.length) ck.nd hiN (.inl (lookup_relabel_local ck.tg)) (.inr (lookup_relabel_local ck.tg)) _ s4 _ H5 xv u _ I5' r5 (show gName caps.length xv _ H5 (fun σ6 H6 => σ6 = capV caps σ ++ [some xv] ∧ H6 = H5) from ⟨?_, rfl⟩)) (fun _ s6 ⟨σ6, H6, I6, hσ, hH⟩ => ?_) fun _ _ f => f.elim
        · rw [List.set_append_right _ _ (by rw [capV_len]; exact Nat.le_refl _), capV_len, Nat.sub_self]; rfl
        subst hσ hH
        refine wpAny_mono (ht (D + 1) s2 H2 fp _ s6 _ H6 _ I6 (step xv H6 y5)) (fun ok s6 ⟨H6, I6, q6⟩ => ?_) fun _ _ f => f.elim
        cases ok with
        | false =>
          rw [if_neg (by decide)] at q6 ⊢
          obtain ⟨m', hm, w8⟩ := q6
          have pD := I6.pin (D, { cls := .type "list", data := .seq its.toArray k }) (by simp)
          refine ⟨m', hm, i + 1, ys, its, k, _, H6, I6.pins_of fun p hp => ?_, T.keep _ _ _ st5 fun b hb o e => (I6.pin (b, o) (List.mem_append_right _ (List.mem_append_right _ (mem_pinsAt hb e)))).1, fun b hb => ?_, hv, hz, w8, _, rfl⟩
          · rw [List.mem_singleton.mp hp]; exact pD
          · obtain ⟨o, e, d⟩ := T.obj _ _ st5 b hb
            exact (I6.pin (b, o) (List.mem_append_right _ (List.mem_append_right _ (mem_pinsAt hb e)))).2.1
        | true =>
        rw [if_pos rfl] at q6 ⊢
        refine wpAny_mono (he (D + 1) s2 H2 fp _ s6 _ H6 _ I6 q6) (fun w7 s7 ⟨y, H7, I7, r7, m', hm, w8⟩ => ?_) fun _ _ f => f.elim
        have pD := I7.pin (D, { cls := .type "list", data := .seq its.toArray k }) (by simp)
        have hll := hv.length
        refine call_meets F.slot_list_append ⟨_, pD.1, rfl⟩ F.entry_list_append (F.args_list_append_2 _ _) (PySem.list_append D its.toArray k w7 (by rw [List.size_toArray]; omega)) ⟨pD.1, ?_⟩
        have q := PySem.IsL.update pD.1 (·.push w7)
        have hpush : its.toArray.push w7 = (its ++ [w7]).toArray := by simp
        rw [hpush] at q
        obtain ⟨k', q⟩ : ∃ k', (s7.heap.update D (Obj.mapSeq (·.push w7))).get? D = some { cls := .type "list", data := .seq (its ++ [w7]).toArray k' } := ⟨_, q⟩
        have I7u : Inv (compCx X (caps.map (·.1) ++ [x]) csc (D + 1) s2 H2 fp) (pinsAt fp s4.heap) _ H7 s7 := I7.pins_of fun p hp => I7.pin p (List.mem_append_right _ (List.mem_append_right _ hp))
        have pfp : ∀ p ∈ pinsAt fp s4.heap, p.1 < D := fun p hp => hD ▸ fps p.1 (of_pinsAt hp).1
        have I8 := I7u.turned (h' := s7.heap.update D (Obj.mapSeq (·.push w7))) (t' := s7.toks) (it := D) (fun b o hb e => (Heap.get?_update_other s7.heap _ (Ne.symm hb)).trans e) pD.2.1 ns1 (.inr leD) (fun y c e => nlt (cellsLt y c e)) (fun p hp => nlt (pfp p (by simpa using hp)))
        refine ⟨m', hm, i + 1, ys ++ [y], its ++ [w7], k', _, H7, I8.pins_of fun p hp => ?_, T.keep _ _ _ st5 fun b hb o e => (I8.pin (b, o) (List.mem_append_right _ (mem_pinsAt hb e))).1, fun b hb => ?_, hv.append (.cons r7 .nil), ?_, w8, _, rfl⟩
        · rw [List.mem_singleton.mp hp]
          exact ⟨q, pD.2.1, pD.2.2.1, pD.2.2.2.1, fun v => by simp⟩
        · obtain ⟨o, e, d⟩ := T.obj _ _ st5 b hb
          exact (I8.pin (b, o) (List.mem_append_right _ (mem_pinsAt hb e))).2.1
        · rw [List.length_append, List.length_singleton]; omega
    · refine ⟨0, [], [], 0, _, H2, (I4 t4).pins_of fun p hp => ?_, T.keep _ _ _ st2 fun b hb o e => keep4 b o e, fun b hb => (f2 b hb).1, .nil, Nat.zero_le _, w0, _, rfl⟩
      rw [List.mem_singleton.mp hp]
      refine ⟨hDo, I2.hok.fresh leD, ns1, fun z => absurd (fsLt D z) (Nat.lt_irrefl _), fun v => by simp⟩
  exact codeAny_compStart_list (loop _) (T.self _ 0 _ _ _ (T.keep _ _ _ st2 fun b hb o e => keep4 b o e) (loop _))
theorem compIf_turn {n i : Nat} {ys : List V} {R : Prop} (hi : i < n) (hl : ys.length ≤ i + 1) (r : R) : ∃ m', m' < n - i ∧ m' = n - (i + 1) ∧ i + 1 ≤ n ∧ ys.length ≤ i + 1 ∧ R := ⟨n - (i + 1), by omega, rfl, hi, hl, r⟩
theorem compIf_list {K : PySem.W.Frag} {a : Addr} {xs : List V} {caps : List (Str × Nat)} {tt : TT} {te : TE} {σ : St} {H : Hp} {Q : VK} (Pv : Nat → List V → Hp → Prop) (h0 : Pv 0 [] H) (hn : xs.length < sizeLine)
    (hq : ∀ i ys H, i ≤ xs.length → Pv i ys H → SqL K H a xs)
    (hs : ∀ i x ys H, xs[i]? = some x → ys.length ≤ i → Pv i ys H → tt (capV caps σ ++ [some x]) H fun b H2 => if b = true then te (capV caps σ ++ [some x]) H2 fun y H3 => ∃ m', m' < xs.length - i ∧ m' = xs.length - (i + 1) ∧ i + 1 ≤ xs.length ∧ (ys ++ [y]).length ≤ i + 1 ∧ Pv (i + 1) (ys ++ [y]) H3
      else ∃ m', m' < xs.length - i ∧ m' = xs.length - (i + 1) ∧ i + 1 ≤ xs.length ∧ ys.length ≤ i + 1 ∧ Pv (i + 1) ys H2) (hd : ∀ ys H, ys.length ≤ xs.length → Pv xs.length ys H → ∀ D, H D = none → Q (.ref D) (upd H D (.lst ys))) :
    CompIfW (Itl K a) caps tt te σ H Q := by
  refine ⟨fun i m ys H => m = xs.length - i ∧ i ≤ xs.length ∧ ys.length ≤ i ∧ Pv i ys H, ⟨xs.length, by simp, Nat.zero_le _, Nat.zero_le _, h0⟩, ?_⟩
  rintro i m ys H ⟨rfl, hi, hl, p⟩
  have q := hq i ys H hi p
  by_cases hlt : i < xs.length
  · refine .inr ⟨⟨xs, xs[i], q, by simp [hlt]⟩, by omega, fun x H' y => ?_⟩
    obtain ⟨e, y⟩ := y
    subst e
    exact hs i x ys _ (y xs q) hl p
  · have e : i = xs.length := by omega
    subst e
    exact .inl ⟨⟨xs, q, Nat.le_refl _⟩, hd ys H hl p⟩
end
end L2
namespace L2
open PySem PySem.Spec PyProof.Rows
section
variable {X : Cx}
end
theorem call_list_ofK {X : Cx} {K : PySem.W.Frag} (hK : X.K = K) : CallR X (.type "list") (fun xs H Q => ∃ p ys, xs = [.ref p] ∧ (SqL K H p ys ∨ SqT K H p ys) ∧ ∀ l, H l = none → Q (.ref l) (upd H l (.lst ys))) := by subst hK; exact call_list_of
end L2
namespace L2
open PySem PySem.Spec PyProof.Rows
section
variable {X : Cx}
end
end L2
namespace L2
open PySem PySem.Spec PyProof.Rows
variable {X : Cx}
/-- tuples of one length, of plain values -/
def rEqTs (K : PySem.W.Frag) : R2 := fun x y H Q => ∃ a b xs ys, x = .ref a ∧ y = .ref b ∧ SqT K H a xs ∧ SqT K H b ys ∧ xs.length = ys.length ∧ PlainV xs ys ∧ Q (.bl (decide (xs = ys))) H
def rNeTs (K : PySem.W.Frag) : R2 := fun x y H Q => ∃ a b xs ys, x = .ref a ∧ y = .ref b ∧ SqT K H a xs ∧ SqT K H b ys ∧ xs.length = ys.length ∧ PlainV xs ys ∧ Q (.bl (!decide (xs = ys))) H
theorem op_eqTs (hu : X.A.units < cLine) : OpR X (compareOp .Eq) (rEqTs X.K) := by
  intro pins s σ H x y v u Q I rx ry h
  obtain ⟨a, b, xs, ys, rfl, rfl, ha, hb, hl, hp, q⟩ := h
  cases rx
  cases ry
  obtain ⟨is, r1, p1, _⟩ := I.tuple ha
  obtain ⟨js, r2, p2, _⟩ := I.tuple hb
  obtain ⟨o1, e1, c1, n1, d1⟩ := p1
  obtain ⟨o2, e2, c2, n2, d2⟩ := p2
  have l1 := r1.length
  have l2 := r2.length
  refine PySem.SeqAt.eq_tupleAt (e := fun j => decide (xs[j]? = ys[j]?)) ⟨o1, e1, c1, n1, d1⟩ ⟨o2, e2, c2, n2, d2⟩ hu (plain_items hp r1 r2) ?_
  have z1 : is.toArray.size = xs.length := by simp [← l1]
  have z2 : js.toArray.size = xs.length := by simp [← l2, hl]
  rw [z1, z2, Nat.min_self, beq_self_eq_true, Bool.and_true, all_same hl]
  exact ⟨.bl _, H, I, rfl, q⟩
theorem op_neTs (hu : X.A.units < cLine) : OpR X (compareOp .NotEq) (rNeTs X.K) := by
  intro pins s σ H x y v u Q I rx ry h
  obtain ⟨a, b, xs, ys, rfl, rfl, ha, hb, hl, hp, q⟩ := h
  cases rx
  cases ry
  obtain ⟨is, r1, p1, _⟩ := I.tuple ha
  obtain ⟨js, r2, p2, _⟩ := I.tuple hb
  obtain ⟨o1, e1, c1, n1, d1⟩ := p1
  obtain ⟨o2, e2, c2, n2, d2⟩ := p2
  have l1 := r1.length
  have l2 := r2.length
  refine PySem.SeqAt.RcNeAt.tuples (e := fun j => decide (xs[j]? = ys[j]?)) ⟨o1, e1, c1, n1, d1⟩ ⟨o2, e2, c2, n2, d2⟩ hu (plain_items hp r1 r2) _ _ _ _ ?_
  have z1 : is.toArray.size = xs.length := by simp [← l1]
  have z2 : js.toArray.size = xs.length := by simp [← l2, hl]
  rw [z1, z2, Nat.min_self, beq_self_eq_true, Bool.and_true, all_same hl]
  exact ⟨.bl _, H, I, rfl, q⟩
theorem plain_ints2 {xs ys : List Int} : PlainV (xs.map V.int) (ys.map V.int) := plain_ints id id xs ys
/-- a comprehension within a comprehension -/
theorem pe_compN {sc csc : Scope} {N : List Str} {elt iter : Expr} {x : Str} {px pos : Pos} {caps : List (Str × Nat)} {wi : TI} {te : TE} (ck : CompOk sc csc N x caps) (hi : PI X (.Name x px) iter wi)
    (he : ∀ C s2 H2 fp, PE (compCx X (caps.map (·.1) ++ [x]) csc C s2 H2 fp) elt te) (hf : (csc.names.all fun p => p.2 != .free) = true := by decide +kernel) (hc : X.calm = true := by rfl) (hXN : X.N = N := by rfl) (hs : ∀ x, foldedSetIterable iter X.env x = pure x := by intro _; rfl) :
    PE X (.ListComp elt [⟨.Name x px, iter, [], 0⟩] csc pos) (tComp caps wi te) := pe_comp ⟨ck.cell, ck.kind, ck.loc, ck.tg, fun p hp e => by
      have := List.all_eq_true.mp hf p hp
      rw [e] at this
      exact absurd this (by decide), ck.cap, ck.nd⟩ hi he hc rfl hXN hs
theorem mt_joinK {K : PySem.W.Frag} (hK : X.K = K) : MtR X "str.join" (rJoin K) := by subst hK; exact mt_join
theorem pi_listK {K : PySem.W.Frag} {tg l : Expr} {tl : TE} (hK : X.K = K) (hl : PE X l tl) : PI X tg l (iList K tl) := by subst hK; exact pi_list hl
theorem pe_bmK {K : PySem.W.Frag} {o e : Expr} {es : List Expr} {to : TE} {t : TA} {name : Str} {apos cpos : Pos} {T id : String} {r : V → List V → Hp → VK → Prop} (hK : X.K = K) (pa : PlainAttrs T) (slot : Slot T name id) (hty : typeOf (Value.builtin id) = pure (Value.type "method_descriptor")) (hm : MtR X id r) (ho : PE X o to) (ha : PA X (e :: es) t)
    (hbase : attributeBase o name X.env (eval o X.env) = eval o X.env := by rfl)
    (hfew : ((((backTo cpos (starEach (e :: es) X.env)).all fun x => !x.1) && (backToKw cpos (keywordEach [] X.env)).all fun x => x.1.isSome) && decide (((e :: es).length + ([] : List (Option Str × Expr)).length + if ([] : List (Option Str × Expr)).isEmpty = true then 0 else 1) < 30)) = true := by rfl)
    (hline : (apos.endLine == cpos.line) = true := by rfl) (hs : starEach (e :: es) X.env = (false, eval e X.env) :: starEach es X.env := by rfl) (hplain : ((backTo cpos (starEach es X.env)).any fun x => x.1) = false := by rfl) :
    PE X ((o.Attribute name apos).Call (e :: es) [] cpos) (tBM K T r to t) := by subst hK; exact pe_bm pa slot hty hm ho ha hbase hfew hline hs hplain
end L2
namespace K03
open PySem L2
def top (i : Nat) : Stmt := PySem.Challenge.pw_tintrow_k03_rules_refused.main.body.getD i (.Pass ⟨0, 0, 0, 0⟩)
abbrev s__wall : Stmt := top 0
theorem sc__wall : FnScope ["k"] ["k"] (defScope s__wall) := ⟨rfl, rfl, rfl, by decide +kernel, rfl, by decide +kernel, by decide +kernel⟩
abbrev s_NoRules___init__ : Stmt := inClass (top 3) 0
theorem sc_NoRules___init__ : FnScope ["self", "row", "word"] ["self", "row", "word"] (defScope s_NoRules___init__) := ⟨rfl, rfl, rfl, by decide +kernel, rfl, by decide +kernel, by decide +kernel⟩
abbrev s_Pattern_eaten : Stmt := inClass (top 5) 0
theorem sc_Pattern_eaten : FnScope ["self", "row", "at"] ["self", "row", "at"] (defScope s_Pattern_eaten) := ⟨rfl, rfl, rfl, by decide +kernel, rfl, by decide +kernel, by decide +kernel⟩
abbrev s_Pattern_eats : Stmt := inClass (top 5) 1
theorem sc_Pattern_eats : FnScope ["self"] ["self"] (defScope s_Pattern_eats) := ⟨rfl, rfl, rfl, by decide +kernel, rfl, by decide +kernel, by decide +kernel⟩
abbrev s_Word___init__ : Stmt := inClass (top 6) 0
theorem sc_Word___init__ : FnScope ["self", "text"] ["self", "text"] (defScope s_Word___init__) := ⟨rfl, rfl, rfl, by decide +kernel, rfl, by decide +kernel, by decide +kernel⟩
abbrev s_Word_eaten : Stmt := inClass (top 6) 1
theorem sc_Word_eaten : FnScope ["self", "row", "at"] ["self", "row", "at"] (defScope s_Word_eaten) := ⟨rfl, rfl, rfl, by decide +kernel, rfl, by decide +kernel, by decide +kernel⟩
abbrev s_Word_eats : Stmt := inClass (top 6) 2
theorem sc_Word_eats : FnScope ["self"] ["self"] (defScope s_Word_eats) := ⟨rfl, rfl, rfl, by decide +kernel, rfl, by decide +kernel, by decide +kernel⟩
abbrev s_One___init__ : Stmt := inClass (top 7) 0
theorem sc_One___init__ : FnScope ["self", "signs"] ["self", "signs"] (defScope s_One___init__) := ⟨rfl, rfl, rfl, by decide +kernel, rfl, by decide +kernel, by decide +kernel⟩
abbrev s_One_eaten : Stmt := inClass (top 7) 1
theorem sc_One_eaten : FnScope ["self", "row", "at"] ["self", "row", "at"] (defScope s_One_eaten) := ⟨rfl, rfl, rfl, by decide +kernel, rfl, by decide +kernel, by decide +kernel⟩
abbrev s_One_eats : Stmt := inClass (top 7) 2
theorem sc_One_eats : FnScope ["self"] ["self"] (defScope s_One_eats) := ⟨rfl, rfl, rfl, by decide +kernel, rfl, by decide +kernel, by decide +kernel⟩
abbrev s_Without___init__ : Stmt := inClass (top 8) 0
theorem sc_Without___init__ : FnScope ["self", "signs"] ["self", "signs"] (defScope s_Without___init__) := ⟨rfl, rfl, rfl, by decide +kernel, rfl, by decide +kernel, by decide +kernel⟩
abbrev s_Without_eaten : Stmt := inClass (top 8) 1
theorem sc_Without_eaten : FnScope ["self", "row", "at"] ["self", "row", "at"] (defScope s_Without_eaten) := ⟨rfl, rfl, rfl, by decide +kernel, rfl, by decide +kernel, by decide +kernel⟩
abbrev s_Without_eats : Stmt := inClass (top 8) 2
theorem sc_Without_eats : FnScope ["self"] ["self"] (defScope s_Without_eats) := ⟨rfl, rfl, rfl, by decide +kernel, rfl, by decide +kernel, by decide +kernel⟩
abbrev s_Many___init__ : Stmt := inClass (top 9) 0
theorem sc_Many___init__ : FnScope ["self", "signs"] ["self", "signs"] (defScope s_Many___init__) := ⟨rfl, rfl, rfl, by decide +kernel, rfl, by decide +kernel, by decide +kernel⟩
abbrev s_Many_eaten : Stmt := inClass (top 9) 1
theorem sc_Many_eaten : FnScope ["self", "row", "at"] ["self", "row", "at"] (defScope s_Many_eaten) := ⟨rfl, rfl, rfl, by decide +kernel, rfl, by decide +kernel, by decide +kernel⟩
abbrev s_Many_eats : Stmt := inClass (top 9) 2
theorem sc_Many_eats : FnScope ["self"] ["self"] (defScope s_Many_eats) := ⟨rfl, rfl, rfl, by decide +kernel, rfl, by decide +kernel, by decide +kernel⟩
abbrev s_Any_eaten : Stmt := inClass (top 10) 0
theorem sc_Any_eaten : FnScope ["self", "row", "at"] ["self", "row", "at"] (defScope s_Any_eaten) := ⟨rfl, rfl, rfl, by decide +kernel, rfl, by decide +kernel, by decide +kernel⟩
abbrev s_Any_eats : Stmt := inClass (top 10) 1
theorem sc_Any_eats : FnScope ["self"] ["self"] (defScope s_Any_eats) := ⟨rfl, rfl, rfl, by decide +kernel, rfl, by decide +kernel, by decide +kernel⟩
abbrev s_Still_eaten : Stmt := inClass (top 11) 0
theorem sc_Still_eaten : FnScope ["self", "row", "at"] ["self", "row", "at"] (defScope s_Still_eaten) := ⟨rfl, rfl, rfl, by decide +kernel, rfl, by decide +kernel, by decide +kernel⟩
abbrev s_End_eaten : Stmt := inClass (top 12) 0
theorem sc_End_eaten : FnScope ["self", "row", "at"] ["self", "row", "at"] (defScope s_End_eaten) := ⟨rfl, rfl, rfl, by decide +kernel, rfl, by decide +kernel, by decide +kernel⟩
abbrev s_is_name : Stmt := top 16
theorem sc_is_name : FnScope ["word"] ["word"] (defScope s_is_name) := ⟨rfl, rfl, rfl, by decide +kernel, rfl, by decide +kernel, by decide +kernel⟩
abbrev s_Rule___init__ : Stmt := inClass (top 17) 0
theorem sc_Rule___init__ : FnScope ["self", "pattern", "colour", "deed", "goal", "fold"] ["self", "pattern", "colour", "deed", "goal", "fold"] (defScope s_Rule___init__) := ⟨rfl, rfl, rfl, by decide +kernel, rfl, by decide +kernel, by decide +kernel⟩
abbrev s_Mode___init__ : Stmt := inClass (top 18) 0
theorem sc_Mode___init__ : FnScope ["self", "name", "colour", "rules"] ["self", "name", "colour", "rules"] (defScope s_Mode___init__) := ⟨rfl, rfl, rfl, by decide +kernel, rfl, by decide +kernel, by decide +kernel⟩
abbrev s_Rules___init__ : Stmt := inClass (top 19) 0
theorem sc_Rules___init__ : FnScope ["self", "modes"] ["self", "modes"] (defScope s_Rules___init__) := ⟨rfl, rfl, rfl, by decide +kernel, rfl, by decide +kernel, by decide +kernel⟩
abbrev s_Cursor___init__ : Stmt := inClass (top 27) 0
theorem sc_Cursor___init__ : FnScope ["self", "row", "text"] ["self", "row", "text"] (defScope s_Cursor___init__) := ⟨rfl, rfl, rfl, by decide +kernel, rfl, by decide +kernel, by decide +kernel⟩
abbrev s_Cursor_more : Stmt := inClass (top 27) 1
theorem sc_Cursor_more : FnScope ["self"] ["self"] (defScope s_Cursor_more) := ⟨rfl, rfl, rfl, by decide +kernel, rfl, by decide +kernel, by decide +kernel⟩
abbrev s_Cursor_peek : Stmt := inClass (top 27) 2
theorem sc_Cursor_peek : FnScope ["self"] ["self"] (defScope s_Cursor_peek) := ⟨rfl, rfl, rfl, by decide +kernel, rfl, by decide +kernel, by decide +kernel⟩
abbrev s_Cursor_ask : Stmt := inClass (top 27) 3
theorem sc_Cursor_ask : FnScope ["self", "good"] ["self", "good"] (defScope s_Cursor_ask) := ⟨rfl, rfl, rfl, by decide +kernel, rfl, by decide +kernel, by decide +kernel⟩
abbrev s_Cursor_take : Stmt := inClass (top 27) 4
theorem sc_Cursor_take : FnScope ["self", "good", "word"] ["self", "good"] (defScope s_Cursor_take) := ⟨rfl, rfl, rfl, by decide +kernel, rfl, by decide +kernel, by decide +kernel⟩
abbrev s_Cursor_take_choice : Stmt := inClass (top 27) 5
theorem sc_Cursor_take_choice : FnScope ["self", "words"] ["self", "words"] (defScope s_Cursor_take_choice) := ⟨rfl, rfl, rfl, by decide +kernel, rfl, by decide +kernel, by decide +kernel⟩
abbrev s_Cursor_take_name : Stmt := inClass (top 27) 6
theorem sc_Cursor_take_name : FnScope ["self"] ["self"] (defScope s_Cursor_take_name) := ⟨rfl, rfl, rfl, by decide +kernel, rfl, by decide +kernel, by decide +kernel⟩
abbrev s_Cursor_take_signs : Stmt := inClass (top 27) 7
theorem sc_Cursor_take_signs : FnScope ["self", "word"] ["self"] (defScope s_Cursor_take_signs) := ⟨rfl, rfl, rfl, by decide +kernel, rfl, by decide +kernel, by decide +kernel⟩
abbrev s_read_rules : Stmt := top 28
theorem sc_read_rules : FnScope ["text", "rows", "numbers", "modes", "nowhere", "number", "row", "cursor", "rules"] ["text"] (defScope s_read_rules) := ⟨rfl, rfl, rfl, by decide +kernel, rfl, by decide +kernel, by decide +kernel⟩
abbrev s_mode_numbers : Stmt := top 29
theorem sc_mode_numbers : FnScope ["rows", "numbers", "row", "words"] ["rows"] (defScope s_mode_numbers) := ⟨rfl, rfl, rfl, by decide +kernel, rfl, by decide +kernel, by decide +kernel⟩
abbrev s_read_mode : Stmt := top 30
theorem sc_read_mode : FnScope ["cursor", "modes", "name", "colour"] ["cursor", "modes"] (defScope s_read_mode) := ⟨rfl, rfl, rfl, by decide +kernel, rfl, by decide +kernel, by decide +kernel⟩
abbrev s_read_rule : Stmt := top 31
theorem sc_read_rule : FnScope ["cursor", "numbers", "nowhere", "pattern", "colour", "deed", "goal", "fold"] ["cursor", "numbers", "nowhere"] (defScope s_read_rule) := ⟨rfl, rfl, rfl, by decide +kernel, rfl, by decide +kernel, by decide +kernel⟩
abbrev s_read_pattern : Stmt := top 32
theorem sc_read_pattern : FnScope ["cursor", "kind", "signs"] ["cursor"] (defScope s_read_pattern) := ⟨rfl, rfl, rfl, by decide +kernel, rfl, by decide +kernel, by decide +kernel⟩
abbrev s_read_goal : Stmt := top 33
theorem sc_read_goal : FnScope ["cursor", "numbers", "nowhere", "place", "name"] ["cursor", "numbers", "nowhere"] (defScope s_read_goal) := ⟨rfl, rfl, rfl, by decide +kernel, rfl, by decide +kernel, by decide +kernel⟩
abbrev s__law_draw : Stmt := top 35
theorem sc__law_draw : FnScope ["_law_script", "_law_k", "_law_many", "_law_cell", "_law_left", "_law_seed"] ["_law_script", "_law_k", "_law_many"] (defScope s__law_draw) := ⟨rfl, rfl, rfl, by decide +kernel, rfl, by decide +kernel, by decide +kernel⟩
abbrev s__law_rule : Stmt := top 36
theorem sc__law_rule : FnScope ["_law_script", "_law_base", "_law_names", "_law_sort", "_law_words", "_law_deed", "_law_fold"] ["_law_script", "_law_base", "_law_names"] (defScope s__law_rule) := ⟨rfl, rfl, rfl, by decide +kernel, rfl, by decide +kernel, by decide +kernel⟩
abbrev s__law_rows : Stmt := top 37
theorem sc__law_rows : FnScope ["_law_script", "_law_names", "_law_rows_here", "_law_k", "_law_i"] ["_law_script"] (defScope s__law_rows) := ⟨rfl, rfl, rfl, by decide +kernel, rfl, by decide +kernel, by decide +kernel⟩
abbrev s__law_strange : Stmt := top 38
theorem sc__law_strange : FnScope ["_law_script", "_law_k", "_law_role", "_law_some"] ["_law_script", "_law_k", "_law_role"] (defScope s__law_strange) := ⟨rfl, rfl, rfl, by decide +kernel, rfl, by decide +kernel, by decide +kernel⟩
abbrev s__law_spoiled : Stmt := top 39
theorem sc__law_spoiled : FnScope ["_law_script", "_law_rows_here", "_law_at", "_law_row", "_law_word", "_law_way", "_law_more", "_law_again", "_law_many", "_law_k", "_law_modes", "_law_strange_here", "_law_turned"] ["_law_script", "_law_rows_here"] (defScope s__law_spoiled) := ⟨rfl, rfl, rfl, by decide +kernel, rfl, by decide +kernel, by decide +kernel⟩
abbrev s__law_asked : Stmt := top 40
theorem sc__law_asked : FnScope ["_law_rows_here", "_law_text", "_law_told", "e"] ["_law_rows_here"] (defScope s__law_asked) := ⟨rfl, rfl, rfl, by decide +kernel, rfl, by decide +kernel, by decide +kernel⟩
abbrev s__law_nowhere : Stmt := top 41
theorem sc__law_nowhere : FnScope ["_law_script", "_law_rows_here", "_law_goals", "_law_k", "_law_i", "_law_first", "_law_turned"] ["_law_script", "_law_rows_here"] (defScope s__law_nowhere) := ⟨rfl, rfl, rfl, by decide +kernel, rfl, by decide +kernel, by decide +kernel⟩
abbrev s_law : Stmt := top 42
theorem sc_law : FnScope ["_law_script", "_law_rows_here", "_law_spoiled_here", "_law_told", "_law_found"] ["_law_script"] (defScope s_law) := ⟨rfl, rfl, rfl, by decide +kernel, rfl, by decide +kernel, by decide +kernel⟩
set_option genInjectivity false in
structure Adr where
  c_TintError : Addr
  c_NoRules : Addr
  c_Pattern : Addr
  c_Word : Addr
  c_One : Addr
  c_Without : Addr
  c_Many : Addr
  c_Any : Addr
  c_Still : Addr
  c_End : Addr
  c_Rule : Addr
  c_Mode : Addr
  c_Rules : Addr
  c_Cursor : Addr
  f__wall : Addr
  d__wall : FuncData
  f_NoRules___init__ : Addr
  d_NoRules___init__ : FuncData
  f_Pattern_eaten : Addr
  d_Pattern_eaten : FuncData
  f_Pattern_eats : Addr
  d_Pattern_eats : FuncData
  f_Word___init__ : Addr
  d_Word___init__ : FuncData
  f_Word_eaten : Addr
  d_Word_eaten : FuncData
  f_Word_eats : Addr
  d_Word_eats : FuncData
  f_One___init__ : Addr
  d_One___init__ : FuncData
  f_One_eaten : Addr
  d_One_eaten : FuncData
  f_One_eats : Addr
  d_One_eats : FuncData
  f_Without___init__ : Addr
  d_Without___init__ : FuncData
  f_Without_eaten : Addr
  d_Without_eaten : FuncData
  f_Without_eats : Addr
  d_Without_eats : FuncData
  f_Many___init__ : Addr
  d_Many___init__ : FuncData
  f_Many_eaten : Addr
  d_Many_eaten : FuncData
  f_Many_eats : Addr
  d_Many_eats : FuncData
  f_Any_eaten : Addr
  d_Any_eaten : FuncData
  f_Any_eats : Addr
  d_Any_eats : FuncData
  f_Still_eaten : Addr
  d_Still_eaten : FuncData
  f_End_eaten : Addr
  d_End_eaten : FuncData
  f_is_name : Addr
  d_is_name : FuncData
  f_Rule___init__ : Addr
  d_Rule___init__ : FuncData
  f_Mode___init__ : Addr
  d_Mode___init__ : FuncData
  f_Rules___init__ : Addr
  d_Rules___init__ : FuncData
  f_Cursor___init__ : Addr
  d_Cursor___init__ : FuncData
  f_Cursor_more : Addr
  d_Cursor_more : FuncData
  f_Cursor_peek : Addr
  d_Cursor_peek : FuncData
  f_Cursor_ask : Addr
  d_Cursor_ask : FuncData
  f_Cursor_take : Addr
  d_Cursor_take : FuncData
  f_Cursor_take_choice : Addr
  d_Cursor_take_choice : FuncData
  f_Cursor_take_name : Addr
  d_Cursor_take_name : FuncData
  f_Cursor_take_signs : Addr
  d_Cursor_take_signs : FuncData
  f_read_rules : Addr
  d_read_rules : FuncData
  f_mode_numbers : Addr
  d_mode_numbers : FuncData
  f_read_mode : Addr
  d_read_mode : FuncData
  f_read_rule : Addr
  d_read_rule : FuncData
  f_read_pattern : Addr
  d_read_pattern : FuncData
  f_read_goal : Addr
  d_read_goal : FuncData
  f__law_draw : Addr
  d__law_draw : FuncData
  f__law_rule : Addr
  d__law_rule : FuncData
  f__law_rows : Addr
  d__law_rows : FuncData
  f__law_strange : Addr
  d__law_strange : FuncData
  f__law_spoiled : Addr
  d__law_spoiled : FuncData
  f__law_asked : Addr
  d__law_asked : FuncData
  f__law_nowhere : Addr
  d__law_nowhere : FuncData
  g_PATTERNS : Addr
  g_DEEDS : Addr
  g_GOING : Addr
  g_FOLDS : Addr
structure Txt (K : PySem.W.Frag) (mg : Str → Option Value) (t : Adr) : Prop where
  mgc_TintError : mg "TintError" = some (.ref t.c_TintError)
  mgc_NoRules : mg "NoRules" = some (.ref t.c_NoRules)
  mgc_Pattern : mg "Pattern" = some (.ref t.c_Pattern)
  mgc_Word : mg "Word" = some (.ref t.c_Word)
  mgc_One : mg "One" = some (.ref t.c_One)
  mgc_Without : mg "Without" = some (.ref t.c_Without)
  mgc_Many : mg "Many" = some (.ref t.c_Many)
  mgc_Any : mg "Any" = some (.ref t.c_Any)
  mgc_Still : mg "Still" = some (.ref t.c_Still)
  mgc_End : mg "End" = some (.ref t.c_End)
  mgc_Rule : mg "Rule" = some (.ref t.c_Rule)
  mgc_Mode : mg "Mode" = some (.ref t.c_Mode)
  mgc_Rules : mg "Rules" = some (.ref t.c_Rules)
  mgc_Cursor : mg "Cursor" = some (.ref t.c_Cursor)
  F_NoRules___init__ : Fun K "__init__" "NoRules.__init__" s_NoRules___init__ t.f_NoRules___init__ t.d_NoRules___init__
  F_Pattern_eaten : Fun K "eaten" "Pattern.eaten" s_Pattern_eaten t.f_Pattern_eaten t.d_Pattern_eaten
  F_Pattern_eats : Fun K "eats" "Pattern.eats" s_Pattern_eats t.f_Pattern_eats t.d_Pattern_eats
  F_Word___init__ : Fun K "__init__" "Word.__init__" s_Word___init__ t.f_Word___init__ t.d_Word___init__
  F_Word_eaten : Fun K "eaten" "Word.eaten" s_Word_eaten t.f_Word_eaten t.d_Word_eaten
  F_Word_eats : Fun K "eats" "Word.eats" s_Word_eats t.f_Word_eats t.d_Word_eats
  F_One___init__ : Fun K "__init__" "One.__init__" s_One___init__ t.f_One___init__ t.d_One___init__
  F_One_eaten : Fun K "eaten" "One.eaten" s_One_eaten t.f_One_eaten t.d_One_eaten
  F_One_eats : Fun K "eats" "One.eats" s_One_eats t.f_One_eats t.d_One_eats
  F_Without___init__ : Fun K "__init__" "Without.__init__" s_Without___init__ t.f_Without___init__ t.d_Without___init__
  F_Without_eaten : Fun K "eaten" "Without.eaten" s_Without_eaten t.f_Without_eaten t.d_Without_eaten
  F_Without_eats : Fun K "eats" "Without.eats" s_Without_eats t.f_Without_eats t.d_Without_eats
  F_Many___init__ : Fun K "__init__" "Many.__init__" s_Many___init__ t.f_Many___init__ t.d_Many___init__
  F_Many_eaten : Fun K "eaten" "Many.eaten" s_Many_eaten t.f_Many_eaten t.d_Many_eaten
  F_Many_eats : Fun K "eats" "Many.eats" s_Many_eats t.f_Many_eats t.d_Many_eats
  F_Any_eaten : Fun K "eaten" "Any.eaten" s_Any_eaten t.f_Any_eaten t.d_Any_eaten
  F_Any_eats : Fun K "eats" "Any.eats" s_Any_eats t.f_Any_eats t.d_Any_eats
  F_Still_eaten : Fun K "eaten" "Still.eaten" s_Still_eaten t.f_Still_eaten t.d_Still_eaten
  F_End_eaten : Fun K "eaten" "End.eaten" s_End_eaten t.f_End_eaten t.d_End_eaten
  F_Rule___init__ : Fun K "__init__" "Rule.__init__" s_Rule___init__ t.f_Rule___init__ t.d_Rule___init__
  F_Mode___init__ : Fun K "__init__" "Mode.__init__" s_Mode___init__ t.f_Mode___init__ t.d_Mode___init__
  F_Rules___init__ : Fun K "__init__" "Rules.__init__" s_Rules___init__ t.f_Rules___init__ t.d_Rules___init__
  F_Cursor___init__ : Fun K "__init__" "Cursor.__init__" s_Cursor___init__ t.f_Cursor___init__ t.d_Cursor___init__
  F_Cursor_more : Fun K "more" "Cursor.more" s_Cursor_more t.f_Cursor_more t.d_Cursor_more
  F_Cursor_peek : Fun K "peek" "Cursor.peek" s_Cursor_peek t.f_Cursor_peek t.d_Cursor_peek
  F_Cursor_ask : Fun K "ask" "Cursor.ask" s_Cursor_ask t.f_Cursor_ask t.d_Cursor_ask
  F_Cursor_take : Fun K "take" "Cursor.take" s_Cursor_take t.f_Cursor_take t.d_Cursor_take
  F_Cursor_take_choice : Fun K "take_choice" "Cursor.take_choice" s_Cursor_take_choice t.f_Cursor_take_choice t.d_Cursor_take_choice
  F_Cursor_take_name : Fun K "take_name" "Cursor.take_name" s_Cursor_take_name t.f_Cursor_take_name t.d_Cursor_take_name
  F_Cursor_take_signs : Fun K "take_signs" "Cursor.take_signs" s_Cursor_take_signs t.f_Cursor_take_signs t.d_Cursor_take_signs
  F__wall : Fun K "_wall" "_wall" s__wall t.f__wall t.d__wall
  mg__wall : mg "_wall" = some (.ref t.f__wall)
  F_is_name : Fun K "is_name" "is_name" s_is_name t.f_is_name t.d_is_name
  mg_is_name : mg "is_name" = some (.ref t.f_is_name)
  F_read_rules : Fun K "read_rules" "read_rules" s_read_rules t.f_read_rules t.d_read_rules
  mg_read_rules : mg "read_rules" = some (.ref t.f_read_rules)
  F_mode_numbers : Fun K "mode_numbers" "mode_numbers" s_mode_numbers t.f_mode_numbers t.d_mode_numbers
  mg_mode_numbers : mg "mode_numbers" = some (.ref t.f_mode_numbers)
  F_read_mode : Fun K "read_mode" "read_mode" s_read_mode t.f_read_mode t.d_read_mode
  mg_read_mode : mg "read_mode" = some (.ref t.f_read_mode)
  F_read_rule : Fun K "read_rule" "read_rule" s_read_rule t.f_read_rule t.d_read_rule
  mg_read_rule : mg "read_rule" = some (.ref t.f_read_rule)
  F_read_pattern : Fun K "read_pattern" "read_pattern" s_read_pattern t.f_read_pattern t.d_read_pattern
  mg_read_pattern : mg "read_pattern" = some (.ref t.f_read_pattern)
  F_read_goal : Fun K "read_goal" "read_goal" s_read_goal t.f_read_goal t.d_read_goal
  mg_read_goal : mg "read_goal" = some (.ref t.f_read_goal)
  F__law_draw : Fun K "_law_draw" "_law_draw" s__law_draw t.f__law_draw t.d__law_draw
  mg__law_draw : mg "_law_draw" = some (.ref t.f__law_draw)
  F__law_rule : Fun K "_law_rule" "_law_rule" s__law_rule t.f__law_rule t.d__law_rule
  mg__law_rule : mg "_law_rule" = some (.ref t.f__law_rule)
  F__law_rows : Fun K "_law_rows" "_law_rows" s__law_rows t.f__law_rows t.d__law_rows
  mg__law_rows : mg "_law_rows" = some (.ref t.f__law_rows)
  F__law_strange : Fun K "_law_strange" "_law_strange" s__law_strange t.f__law_strange t.d__law_strange
  mg__law_strange : mg "_law_strange" = some (.ref t.f__law_strange)
  F__law_spoiled : Fun K "_law_spoiled" "_law_spoiled" s__law_spoiled t.f__law_spoiled t.d__law_spoiled
  mg__law_spoiled : mg "_law_spoiled" = some (.ref t.f__law_spoiled)
  F__law_asked : Fun K "_law_asked" "_law_asked" s__law_asked t.f__law_asked t.d__law_asked
  mg__law_asked : mg "_law_asked" = some (.ref t.f__law_asked)
  F__law_nowhere : Fun K "_law_nowhere" "_law_nowhere" s__law_nowhere t.f__law_nowhere t.d__law_nowhere
  mg__law_nowhere : mg "_law_nowhere" = some (.ref t.f__law_nowhere)
  cl_Word : Cls K t.c_Word
  mk_Word : Mk K t.c_Word t.f_Word___init__
  n_Word_wanted : NoAttr K t.c_Word "wanted"
  m_Word_eaten : Meth K t.c_Word "eaten" t.f_Word_eaten
  m_Word_eats : Meth K t.c_Word "eats" t.f_Word_eats
  cl_One : Cls K t.c_One
  mk_One : Mk K t.c_One t.f_One___init__
  n_One_signs : NoAttr K t.c_One "signs"
  m_One_eaten : Meth K t.c_One "eaten" t.f_One_eaten
  m_One_eats : Meth K t.c_One "eats" t.f_One_eats
  cl_Without : Cls K t.c_Without
  mk_Without : Mk K t.c_Without t.f_Without___init__
  n_Without_signs : NoAttr K t.c_Without "signs"
  m_Without_eaten : Meth K t.c_Without "eaten" t.f_Without_eaten
  m_Without_eats : Meth K t.c_Without "eats" t.f_Without_eats
  cl_Many : Cls K t.c_Many
  mk_Many : Mk K t.c_Many t.f_Many___init__
  n_Many_signs : NoAttr K t.c_Many "signs"
  m_Many_eaten : Meth K t.c_Many "eaten" t.f_Many_eaten
  m_Many_eats : Meth K t.c_Many "eats" t.f_Many_eats
  cl_Any : Cls K t.c_Any
  mk_Any : MkO K t.c_Any
  m_Any_eaten : Meth K t.c_Any "eaten" t.f_Any_eaten
  m_Any_eats : Meth K t.c_Any "eats" t.f_Any_eats
  cl_Still : Cls K t.c_Still
  mk_Still : MkO K t.c_Still
  m_Still_eaten : Meth K t.c_Still "eaten" t.f_Still_eaten
  m_Still_eats : Meth K t.c_Still "eats" t.f_Pattern_eats
  cl_End : Cls K t.c_End
  mk_End : MkO K t.c_End
  m_End_eaten : Meth K t.c_End "eaten" t.f_End_eaten
  m_End_eats : Meth K t.c_End "eats" t.f_Pattern_eats
  cl_Rule : Cls K t.c_Rule
  mk_Rule : Mk K t.c_Rule t.f_Rule___init__
  n_Rule_pattern : NoAttr K t.c_Rule "pattern"
  n_Rule_colour : NoAttr K t.c_Rule "colour"
  n_Rule_deed : NoAttr K t.c_Rule "deed"
  n_Rule_goal : NoAttr K t.c_Rule "goal"
  n_Rule_fold : NoAttr K t.c_Rule "fold"
  cl_Mode : Cls K t.c_Mode
  mk_Mode : Mk K t.c_Mode t.f_Mode___init__
  n_Mode_name : NoAttr K t.c_Mode "name"
  n_Mode_colour : NoAttr K t.c_Mode "colour"
  n_Mode_rules : NoAttr K t.c_Mode "rules"
  cl_Rules : Cls K t.c_Rules
  mk_Rules : Mk K t.c_Rules t.f_Rules___init__
  n_Rules_modes : NoAttr K t.c_Rules "modes"
  cl_Cursor : Cls K t.c_Cursor
  mk_Cursor : Mk K t.c_Cursor t.f_Cursor___init__
  n_Cursor_row : NoAttr K t.c_Cursor "row"
  n_Cursor_words : NoAttr K t.c_Cursor "words"
  n_Cursor_at : NoAttr K t.c_Cursor "at"
  m_Cursor_more : Meth K t.c_Cursor "more" t.f_Cursor_more
  m_Cursor_peek : Meth K t.c_Cursor "peek" t.f_Cursor_peek
  m_Cursor_ask : Meth K t.c_Cursor "ask" t.f_Cursor_ask
  m_Cursor_take : Meth K t.c_Cursor "take" t.f_Cursor_take
  m_Cursor_take_choice : Meth K t.c_Cursor "take_choice" t.f_Cursor_take_choice
  m_Cursor_take_name : Meth K t.c_Cursor "take_name" t.f_Cursor_take_name
  m_Cursor_take_signs : Meth K t.c_Cursor "take_signs" t.f_Cursor_take_signs
  x_TintError : ExcI K t.c_TintError
  xn_TintError : PySem.W.excIn K t.c_TintError VE "ValueError.__new__" = true
  x_NoRules : ExcI K t.c_NoRules
  xi_NoRules : PySem.W.findIn K (.ref t.c_NoRules) "__init__" = some (some (.ref t.f_NoRules___init__)) ∧ PySem.W.isFn K (.ref t.f_NoRules___init__) = true ∧ PySem.W.keepIn K (.ref t.c_NoRules) = true
  n_NoRules_row : NoAttr K t.c_NoRules "row"
  n_NoRules_word : NoAttr K t.c_NoRules "word"
  tk_NoRules_TintError : PySem.W.mroIn K t.c_NoRules (.ref t.c_TintError) = some true
  kx_NoRules_NoRules : PySem.W.kitOne K (.ref t.c_NoRules) (.ref t.c_NoRules) = some true
  kb_int_bool : PySem.W.kitOne K (.type "int") (.type "bool") = some false
  mgv_LETTERS : ∃ u, mg "LETTERS" = some u ∧ RelV (.str "abcdefghijklmnopqrstuvwxyz") u
  mgv_LONGEST_NAME : ∃ u, mg "LONGEST_NAME" = some u ∧ RelV (.int 8) u
  mgv_MOST_MODES : ∃ u, mg "MOST_MODES" = some u ∧ RelV (.int 12) u
  mgv_MOST_RULES : ∃ u, mg "MOST_RULES" = some u ∧ RelV (.int 12) u
  mgv_PATTERNS : mg "PATTERNS" = some (.ref t.g_PATTERNS)
  tv_PATTERNS : ∀ H, SqT K H t.g_PATTERNS [.str "word", .str "one", .str "none", .str "many", .str "any", .str "still", .str "end"]
  mgv_DEEDS : mg "DEEDS" = some (.ref t.g_DEEDS)
  tv_DEEDS : ∀ H, SqT K H t.g_DEEDS [.str "stay", .str "push", .str "pop", .str "into"]
  mgv_GOING : mg "GOING" = some (.ref t.g_GOING)
  tv_GOING : ∀ H, SqT K H t.g_GOING [.str "push", .str "into"]
  mgv_FOLDS : mg "FOLDS" = some (.ref t.g_FOLDS)
  tv_FOLDS : ∀ H, SqT K H t.g_FOLDS [.str "open", .str "close"]
  z_all : mg "all" = none
  z_bool : mg "bool" = none
  z_enumerate : mg "enumerate" = none
  z_isinstance : mg "isinstance" = none
  z_len : mg "len" = none
  z_list : mg "list" = none
  z_max : mg "max" = none
  z_range : mg "range" = none
theorem ls1 : ∀ {us : List Value}, us.length = 1 → ∃ a0, us = [a0]
  | [a0], _ => ⟨a0, rfl⟩
theorem ls2 : ∀ {us : List Value}, us.length = 2 → ∃ a0 a1, us = [a0, a1]
  | [a0, a1], _ => ⟨a0, a1, rfl⟩
theorem ls3 : ∀ {us : List Value}, us.length = 3 → ∃ a0 a1 a2, us = [a0, a1, a2]
  | [a0, a1, a2], _ => ⟨a0, a1, a2, rfl⟩
theorem ls4 : ∀ {us : List Value}, us.length = 4 → ∃ a0 a1 a2 a3, us = [a0, a1, a2, a3]
  | [a0, a1, a2, a3], _ => ⟨a0, a1, a2, a3, rfl⟩
theorem ls6 : ∀ {us : List Value}, us.length = 6 → ∃ a0 a1 a2 a3 a4 a5, us = [a0, a1, a2, a3, a4, a5]
  | [a0, a1, a2, a3, a4, a5], _ => ⟨a0, a1, a2, a3, a4, a5, rfl⟩
section
variable {P : Program} {w : World} {K : PySem.W.Frag} {mg : Str → Option Value} {base : Heap} {t : Adr}
theorem bd__wall (T : Txt K mg t) : Binds K t.d__wall ["k"] [] := T.F__wall.binds (by intro _ _ _ _ _ _ us hl; obtain ⟨_, rfl⟩ := ls1 hl; rfl)
theorem bd_NoRules___init__ (T : Txt K mg t) : Binds K t.d_NoRules___init__ ["self", "row", "word"] [] := T.F_NoRules___init__.binds (by intro _ _ _ _ _ _ us hl; obtain ⟨_, _, _, rfl⟩ := ls3 hl; rfl)
theorem bd_Pattern_eaten (T : Txt K mg t) : Binds K t.d_Pattern_eaten ["self", "row", "at"] [] := T.F_Pattern_eaten.binds (by intro _ _ _ _ _ _ us hl; obtain ⟨_, _, _, rfl⟩ := ls3 hl; rfl)
theorem bd_Pattern_eats (T : Txt K mg t) : Binds K t.d_Pattern_eats ["self"] [] := T.F_Pattern_eats.binds (by intro _ _ _ _ _ _ us hl; obtain ⟨_, rfl⟩ := ls1 hl; rfl)
theorem bd_Word___init__ (T : Txt K mg t) : Binds K t.d_Word___init__ ["self", "text"] [] := T.F_Word___init__.binds (by intro _ _ _ _ _ _ us hl; obtain ⟨_, _, rfl⟩ := ls2 hl; rfl)
theorem bd_Word_eaten (T : Txt K mg t) : Binds K t.d_Word_eaten ["self", "row", "at"] [] := T.F_Word_eaten.binds (by intro _ _ _ _ _ _ us hl; obtain ⟨_, _, _, rfl⟩ := ls3 hl; rfl)
theorem bd_Word_eats (T : Txt K mg t) : Binds K t.d_Word_eats ["self"] [] := T.F_Word_eats.binds (by intro _ _ _ _ _ _ us hl; obtain ⟨_, rfl⟩ := ls1 hl; rfl)
theorem bd_One___init__ (T : Txt K mg t) : Binds K t.d_One___init__ ["self", "signs"] [] := T.F_One___init__.binds (by intro _ _ _ _ _ _ us hl; obtain ⟨_, _, rfl⟩ := ls2 hl; rfl)
theorem bd_One_eaten (T : Txt K mg t) : Binds K t.d_One_eaten ["self", "row", "at"] [] := T.F_One_eaten.binds (by intro _ _ _ _ _ _ us hl; obtain ⟨_, _, _, rfl⟩ := ls3 hl; rfl)
theorem bd_One_eats (T : Txt K mg t) : Binds K t.d_One_eats ["self"] [] := T.F_One_eats.binds (by intro _ _ _ _ _ _ us hl; obtain ⟨_, rfl⟩ := ls1 hl; rfl)
theorem bd_Without___init__ (T : Txt K mg t) : Binds K t.d_Without___init__ ["self", "signs"] [] := T.F_Without___init__.binds (by intro _ _ _ _ _ _ us hl; obtain ⟨_, _, rfl⟩ := ls2 hl; rfl)
theorem bd_Without_eaten (T : Txt K mg t) : Binds K t.d_Without_eaten ["self", "row", "at"] [] := T.F_Without_eaten.binds (by intro _ _ _ _ _ _ us hl; obtain ⟨_, _, _, rfl⟩ := ls3 hl; rfl)
theorem bd_Without_eats (T : Txt K mg t) : Binds K t.d_Without_eats ["self"] [] := T.F_Without_eats.binds (by intro _ _ _ _ _ _ us hl; obtain ⟨_, rfl⟩ := ls1 hl; rfl)
theorem bd_Many___init__ (T : Txt K mg t) : Binds K t.d_Many___init__ ["self", "signs"] [] := T.F_Many___init__.binds (by intro _ _ _ _ _ _ us hl; obtain ⟨_, _, rfl⟩ := ls2 hl; rfl)
theorem bd_Many_eaten (T : Txt K mg t) : Binds K t.d_Many_eaten ["self", "row", "at"] [] := T.F_Many_eaten.binds (by intro _ _ _ _ _ _ us hl; obtain ⟨_, _, _, rfl⟩ := ls3 hl; rfl)
theorem bd_Many_eats (T : Txt K mg t) : Binds K t.d_Many_eats ["self"] [] := T.F_Many_eats.binds (by intro _ _ _ _ _ _ us hl; obtain ⟨_, rfl⟩ := ls1 hl; rfl)
theorem bd_Any_eaten (T : Txt K mg t) : Binds K t.d_Any_eaten ["self", "row", "at"] [] := T.F_Any_eaten.binds (by intro _ _ _ _ _ _ us hl; obtain ⟨_, _, _, rfl⟩ := ls3 hl; rfl)
theorem bd_Any_eats (T : Txt K mg t) : Binds K t.d_Any_eats ["self"] [] := T.F_Any_eats.binds (by intro _ _ _ _ _ _ us hl; obtain ⟨_, rfl⟩ := ls1 hl; rfl)
theorem bd_Still_eaten (T : Txt K mg t) : Binds K t.d_Still_eaten ["self", "row", "at"] [] := T.F_Still_eaten.binds (by intro _ _ _ _ _ _ us hl; obtain ⟨_, _, _, rfl⟩ := ls3 hl; rfl)
theorem bd_End_eaten (T : Txt K mg t) : Binds K t.d_End_eaten ["self", "row", "at"] [] := T.F_End_eaten.binds (by intro _ _ _ _ _ _ us hl; obtain ⟨_, _, _, rfl⟩ := ls3 hl; rfl)
theorem bd_is_name (T : Txt K mg t) : Binds K t.d_is_name ["word"] [] := T.F_is_name.binds (by intro _ _ _ _ _ _ us hl; obtain ⟨_, rfl⟩ := ls1 hl; rfl)
theorem bd_Rule___init__ (T : Txt K mg t) : Binds K t.d_Rule___init__ ["self", "pattern", "colour", "deed", "goal", "fold"] [] := T.F_Rule___init__.binds (by intro _ _ _ _ _ _ us hl; obtain ⟨_, _, _, _, _, _, rfl⟩ := ls6 hl; rfl)
theorem bd_Mode___init__ (T : Txt K mg t) : Binds K t.d_Mode___init__ ["self", "name", "colour", "rules"] [] := T.F_Mode___init__.binds (by intro _ _ _ _ _ _ us hl; obtain ⟨_, _, _, _, rfl⟩ := ls4 hl; rfl)
theorem bd_Rules___init__ (T : Txt K mg t) : Binds K t.d_Rules___init__ ["self", "modes"] [] := T.F_Rules___init__.binds (by intro _ _ _ _ _ _ us hl; obtain ⟨_, _, rfl⟩ := ls2 hl; rfl)
theorem bd_Cursor___init__ (T : Txt K mg t) : Binds K t.d_Cursor___init__ ["self", "row", "text"] [] := T.F_Cursor___init__.binds (by intro _ _ _ _ _ _ us hl; obtain ⟨_, _, _, rfl⟩ := ls3 hl; rfl)
theorem bd_Cursor_more (T : Txt K mg t) : Binds K t.d_Cursor_more ["self"] [] := T.F_Cursor_more.binds (by intro _ _ _ _ _ _ us hl; obtain ⟨_, rfl⟩ := ls1 hl; rfl)
theorem bd_Cursor_peek (T : Txt K mg t) : Binds K t.d_Cursor_peek ["self"] [] := T.F_Cursor_peek.binds (by intro _ _ _ _ _ _ us hl; obtain ⟨_, rfl⟩ := ls1 hl; rfl)
theorem bd_Cursor_ask (T : Txt K mg t) : Binds K t.d_Cursor_ask ["self", "good"] [] := T.F_Cursor_ask.binds (by intro _ _ _ _ _ _ us hl; obtain ⟨_, _, rfl⟩ := ls2 hl; rfl)
theorem bd_Cursor_take (T : Txt K mg t) : Binds K t.d_Cursor_take ["self", "good"] [] := T.F_Cursor_take.binds (by intro _ _ _ _ _ _ us hl; obtain ⟨_, _, rfl⟩ := ls2 hl; rfl)
theorem bd_Cursor_take_choice (T : Txt K mg t) : Binds K t.d_Cursor_take_choice ["self", "words"] [] := T.F_Cursor_take_choice.binds (by intro _ _ _ _ _ _ us hl; obtain ⟨_, _, rfl⟩ := ls2 hl; rfl)
theorem bd_Cursor_take_name (T : Txt K mg t) : Binds K t.d_Cursor_take_name ["self"] [] := T.F_Cursor_take_name.binds (by intro _ _ _ _ _ _ us hl; obtain ⟨_, rfl⟩ := ls1 hl; rfl)
theorem bd_Cursor_take_signs (T : Txt K mg t) : Binds K t.d_Cursor_take_signs ["self"] [] := T.F_Cursor_take_signs.binds (by intro _ _ _ _ _ _ us hl; obtain ⟨_, rfl⟩ := ls1 hl; rfl)
theorem bd_read_rules (T : Txt K mg t) : Binds K t.d_read_rules ["text"] [] := T.F_read_rules.binds (by intro _ _ _ _ _ _ us hl; obtain ⟨_, rfl⟩ := ls1 hl; rfl)
theorem bd_mode_numbers (T : Txt K mg t) : Binds K t.d_mode_numbers ["rows"] [] := T.F_mode_numbers.binds (by intro _ _ _ _ _ _ us hl; obtain ⟨_, rfl⟩ := ls1 hl; rfl)
theorem bd_read_mode (T : Txt K mg t) : Binds K t.d_read_mode ["cursor", "modes"] [] := T.F_read_mode.binds (by intro _ _ _ _ _ _ us hl; obtain ⟨_, _, rfl⟩ := ls2 hl; rfl)
theorem bd_read_rule (T : Txt K mg t) : Binds K t.d_read_rule ["cursor", "numbers", "nowhere"] [] := T.F_read_rule.binds (by intro _ _ _ _ _ _ us hl; obtain ⟨_, _, _, rfl⟩ := ls3 hl; rfl)
theorem bd_read_pattern (T : Txt K mg t) : Binds K t.d_read_pattern ["cursor"] [] := T.F_read_pattern.binds (by intro _ _ _ _ _ _ us hl; obtain ⟨_, rfl⟩ := ls1 hl; rfl)
theorem bd_read_goal (T : Txt K mg t) : Binds K t.d_read_goal ["cursor", "numbers", "nowhere"] [] := T.F_read_goal.binds (by intro _ _ _ _ _ _ us hl; obtain ⟨_, _, _, rfl⟩ := ls3 hl; rfl)
theorem bd__law_draw (T : Txt K mg t) : Binds K t.d__law_draw ["_law_script", "_law_k", "_law_many"] [] := T.F__law_draw.binds (by intro _ _ _ _ _ _ us hl; obtain ⟨_, _, _, rfl⟩ := ls3 hl; rfl)
theorem bd__law_rule (T : Txt K mg t) : Binds K t.d__law_rule ["_law_script", "_law_base", "_law_names"] [] := T.F__law_rule.binds (by intro _ _ _ _ _ _ us hl; obtain ⟨_, _, _, rfl⟩ := ls3 hl; rfl)
theorem bd__law_rows (T : Txt K mg t) : Binds K t.d__law_rows ["_law_script"] [] := T.F__law_rows.binds (by intro _ _ _ _ _ _ us hl; obtain ⟨_, rfl⟩ := ls1 hl; rfl)
theorem bd__law_strange (T : Txt K mg t) : Binds K t.d__law_strange ["_law_script", "_law_k", "_law_role"] [] := T.F__law_strange.binds (by intro _ _ _ _ _ _ us hl; obtain ⟨_, _, _, rfl⟩ := ls3 hl; rfl)
theorem bd__law_spoiled (T : Txt K mg t) : Binds K t.d__law_spoiled ["_law_script", "_law_rows_here"] [] := T.F__law_spoiled.binds (by intro _ _ _ _ _ _ us hl; obtain ⟨_, _, rfl⟩ := ls2 hl; rfl)
theorem bd__law_asked (T : Txt K mg t) : Binds K t.d__law_asked ["_law_rows_here"] [] := T.F__law_asked.binds (by intro _ _ _ _ _ _ us hl; obtain ⟨_, rfl⟩ := ls1 hl; rfl)
theorem bd__law_nowhere (T : Txt K mg t) : Binds K t.d__law_nowhere ["_law_script", "_law_rows_here"] [] := T.F__law_nowhere.binds (by intro _ _ _ _ _ _ us hl; obtain ⟨_, _, rfl⟩ := ls2 hl; rfl)
end
local macro_rules | `(tactic| walk_at "rd") => `(tactic| simp only [tSeq, tAsg, tIf, tTest, tB, tOp, tCB, tCons, tNil, tVar, tC, L2.start, rI, rI0, gName, tIfS, tAnd, tOr, tNot, tTup, tLst, tUn, rU, rEq, rNe, rIn, tRet, tNext, rIxL, rIxT, rIxS, tCall, tMeth, tMake, tMakeO, tDrop, tBM, tBM0, tAug, ipI, tAndV, tOrV, tNotV, tSl, rSlS, tPart, tNoPart, rJoin, rStarts3, rStarts2, rSplit, cxOf_K, capV, Option.join_some, Option.join_none, if_true, if_false, Bool.false_eq_true, List.map_cons, List.map_nil, List.length_cons, List.length_nil, List.replicate, List.cons_append, List.nil_append, List.append_nil, List.getElem?_cons_zero, List.getElem?_cons_succ, List.set_cons_zero, List.set_cons_succ, Option.some.injEq, exists_eq_left', exists_eq_left, V.int.injEq, V.str.injEq, V.ref.injEq, V.bl.injEq, List.cons.injEq, and_true, true_and, and_assoc, exists_and_left, exists_eq, exists_const])
local macro_rules | `(tactic| walk_at "ck") => `(tactic| exact ⟨by decide +kernel, rfl, by decide +kernel, by decide +kernel, by decide +kernel, by decide +kernel, by decide +kernel⟩)

section
variable {P : Program} {w : World} {K : PySem.W.Frag} {mg : Str → Option Value} {base : Heap} {t : Adr}

def isName (z : Str) : Bool := decide (1 ≤ z.length) && decide (z.length ≤ 8) && z.cps.toList.all fun c => decide (c ∈ (Str.ofString "abcdefghijklmnopqrstuvwxyz").cps.toList)
def spIsName : Sp := fun vs H Q _ => ∃ z : Str, vs = [.str z] ∧ z.length ≤ 100000 ∧ ∀ H', Same H H' → Q (.bl (isName z)) H'
theorem ok_is_name (T : Txt K mg t) : FnOk P w K mg base CX0 1 t.f_is_name t.d_is_name ["word"] spIsName := by
  refine T.F_is_name.ok sc_is_name (fun vs H Q E h => ?_) (fun cdv A outer s H vs Q E hr h => at_body ?_)
  · obtain ⟨z, rfl, _⟩ := h
    rfl
  · obtain ⟨z, rfl, hz, q⟩ := h
    refine at_consR (fun σ' H' => σ' = [some (.str z)] ∧ H' = H ∧ 1 ≤ z.length ∧ z.length ≤ 8) (ps_if (PW.pt (pw_or (pt_cmpR op_lt (pe_callB call_len_str (by rfl) T.z_len (by decide +kernel) (pa_cons (pv 0) pa_nil)) pe_int (nomark _)) (pw_or1 (pt_cmpR op_gt (pe_callB call_len_str (by rfl) T.z_len (by decide +kernel) (pa_cons (pv 0) pa_nil)) (pe_globE rfl T.mgv_LONGEST_NAME) (nomark _))))) pss_at pss_at) ?_ ?_
    · walk_at "rd"
      refine ⟨sl_le (by omega), ifd (fun h => ?_) (fun h => ?_)⟩
      · refine at_one (ps_ret pe_bl) ?_
        have := q H (Same.refl H)
        rw [isName, decide_eq_false (by omega)] at this
        exact this
      · refine ⟨sl_le (by omega), ifd (fun h => ?_) (fun h => at_nil ⟨rfl, rfl, by omega, by omega⟩)⟩
        refine at_one (ps_ret pe_bl) ?_
        have := q H (Same.refl H)
        rw [isName, decide_eq_false (p := z.length ≤ 8) (by omega), Bool.and_false] at this
        exact this
    rintro σ' H' ⟨rfl, e, h1, h2⟩
    rw [e]
    clear e H'
    refine at_one (ps_ret (pe_callB (call_allL rfl) (by rfl) T.z_all (by decide +kernel) (pa_cons (pe_comp (sc := defScope s_is_name) (N := ["word"]) (x := "sign") (caps := []) (by walk_at "ck") (pi_str (pv 0)) (fun _ _ _ _ => (pe_cmpR op_in_str (pv 0) (pe_globE rfl T.mgv_LETTERS) rfl))) pa_nil))) ?_
    refine ⟨_, rfl, z, rfl, comp_str (fun i ys H2 => H2 = H ∧ ys = (z.cps.toList.take i).map fun c => V.bl (decide (c ∈ (Str.ofString "abcdefghijklmnopqrstuvwxyz").cps.toList))) ⟨rfl, rfl⟩ (sl_lt (by omega)) ?_ ?_⟩
    · rintro i c ys H2 hc hl ⟨rfl, rfl⟩
      have hi : i < z.length := by
        have := (List.getElem?_eq_some_iff.mp hc).1
        simpa [Str.length] using this
      refine ⟨_, rfl, _, _, rfl, rfl, ?_⟩
      rw [PySem.StrLaws.found_one]
      refine comp_turn hi hl ⟨rfl, ?_⟩
      rw [List.take_succ, hc, List.map_append]
      rfl
    · rintro ys H2 hl ⟨rfl, rfl⟩ D hD
      refine ⟨D, (z.cps.toList.map fun c => decide (c ∈ (Str.ofString "abcdefghijklmnopqrstuvwxyz").cps.toList)), rfl, SqL.of (by rw [upd_same, List.take_of_length_le (by simp [Str.length]), List.map_map]; rfl), ?_⟩
      have := q _ (Same.upd (o := .lst (((z.cps.toList.take z.length)).map fun c => V.bl (decide (c ∈ (Str.ofString "abcdefghijklmnopqrstuvwxyz").cps.toList)))) hD)
      rw [isName, decide_eq_true h1, decide_eq_true h2] at this
      rw [List.all_map]
      exact this
def cf (row : Int) (lw : Addr) (i : Nat) : List (Str × V) := [("row", .int row), ("words", .ref lw), ("at", .int i)]
structure Cur (t : Adr) (H : Hp) (p dx lw : Addr) (row : Int) (ws : List Str) (i : Nat) : Prop where
  ob : H p = some (.ins t.c_Cursor dx (cf row lw i))
  ls : H lw = some (.lst (ws.map V.str))
  sz : ws.length ≤ 1000 ∧ ∀ w ∈ ws, w.length ≤ 100000
theorem Cur.ne {H : Hp} {p dx lw : Addr} {row : Int} {ws : List Str} {i : Nat} (c : Cur t H p dx lw row ws i) : p ≠ lw := ne_of c.ob c.ls (by intro z; cases z)
theorem Cur.same {H H' : Hp} {p dx lw : Addr} {row : Int} {ws : List Str} {i : Nat} (c : Cur t H p dx lw row ws i) (s : Same H H') : Cur t H' p dx lw row ws i := ⟨s _ _ c.ob, s _ _ c.ls, c.sz⟩
def pk (ws : List Str) (i : Nat) : Str := ws.getD i ""
theorem pk_lt {ws : List Str} {i : Nat} (h : i < ws.length) : pk ws i = ws[i] := by simp [pk, h]
theorem pk_ge {ws : List Str} {i : Nat} (h : ws.length ≤ i) : pk ws i = "" := by
  unfold pk
  rw [List.getD_eq_getElem?_getD, List.getElem?_eq_none h]
  rfl
theorem Cur.pkl {H : Hp} {p dx lw : Addr} {row : Int} {ws : List Str} {i : Nat} (c : Cur t H p dx lw row ws i) : (pk ws i).length ≤ 100000 := by
  by_cases h : i < ws.length
  · rw [pk_lt h]; exact c.sz.2 _ (List.getElem_mem h)
  · rw [pk_ge (by omega)]; decide
def spCInit (t : Adr) : Sp := fun vs H Q _ => ∃ (p dx : Addr) (row : Int) (text : Str), vs = [.ref p, .int row, .str text] ∧ H p = some (.ins t.c_Cursor dx []) ∧ text.length ≤ 100000 ∧ (PySem.Txt.split text ⟨#[32]⟩).length ≤ 1000 ∧
  ∀ lw H', H lw = none → Cur t H' p dx lw row (PySem.Txt.split text ⟨#[32]⟩) 0 → Adv H H' p → Q .non H'
theorem ok_Cursor___init__ (T : Txt K mg t) : FnOk P w K mg base CX0 1 t.f_Cursor___init__ t.d_Cursor___init__ ["self", "row", "text"] (spCInit t) := by
  refine T.F_Cursor___init__.ok sc_Cursor___init__ (fun vs H Q E h => ?_) (fun cdv A outer s H vs Q E hr h => at_body ?_)
  · obtain ⟨p, dx, row, text, rfl, _⟩ := h
    rfl
  · obtain ⟨p, dx, row, text, rfl, hp, hz, hn, q⟩ := h
    refine at_cons (ps_fld (pv 0) (pv 1) rfl) ⟨_, rfl, _, rfl, p, _, dx, [], rfl, hp, T.cl_Cursor, T.n_Cursor_row, by decide, ?_⟩
    refine at_cons (ps_fld (pv 0) (pe_bm PySem.F.plainAttrs_str PySem.F.slot_str_split PySem.F.type_str_split mt_split (pv 2) (pa_cons pe_str pa_nil)) rfl) ?_
    refine ⟨_, rfl, rfl, _, _, rfl, rfl, by decide, sl_le (by omega), fun lw hl => ⟨_, rfl, p, _, dx, [("row", .int row)], rfl, ?_, T.cl_Cursor, T.n_Cursor_words, by show 1 < 1000; decide, ?_⟩⟩
    · rw [upd_ne (ne_of_none upd_same hl)]; exact upd_same
    have npl : p ≠ lw := ne_of_none upd_same hl
    refine at_one (ps_fld (pv 0) pe_int rfl) ⟨_, rfl, p, _, dx, [("row", .int row), ("words", .ref lw)], rfl, upd_same, T.cl_Cursor, T.n_Cursor_at, by show 2 < 1000; decide, ?_⟩
    have hl0 : H lw = none := by rw [upd_ne (Ne.symm npl)] at hl; exact hl
    refine q lw _ hl0 ⟨upd_same, ?_, hn, fun w hw => Nat.le_trans (PyProof.Rows.part_short hw) hz⟩ fun b o hb nb => ?_
    · rw [upd_ne (Ne.symm npl), upd_ne (Ne.symm npl), upd_same]; rfl
    · rw [upd_ne nb, upd_ne nb, upd_ne (ne_of_none hb hl0), upd_ne nb]; exact hb
def spMore (t : Adr) : Sp := fun vs H Q _ => ∃ (p dx lw : Addr) (row : Int) (ws : List Str) (i : Nat), vs = [.ref p] ∧ Cur t H p dx lw row ws i ∧ Q (.bl (decide (i < ws.length))) H
theorem ok_Cursor_more (T : Txt K mg t) : FnOk P w K mg base CX0 1 t.f_Cursor_more t.d_Cursor_more ["self"] (spMore t) := by
  refine T.F_Cursor_more.ok sc_Cursor_more (fun vs H Q E h => ?_) (fun cdv A outer s H vs Q E hr h => at_body ?_)
  · obtain ⟨p, dx, lw, row, ws, i, rfl, _⟩ := h
    rfl
  · obtain ⟨p, dx, lw, row, ws, i, rfl, C, q⟩ := h
    refine at_one (ps_ret (pe_cmpR op_lt (pe_fld (pv 0) rfl) (pe_callB call_len_seq (by rfl) T.z_len (by decide +kernel) (pa_cons (pe_fld (pv 0) rfl) pa_nil)) (nomark _))) ?_
    simp only [tRet, tOp, tCB, tCons, tNil]
    refine fldv rfl C.ob T.cl_Cursor T.n_Cursor_at rfl ?_
    refine fldv rfl C.ob T.cl_Cursor T.n_Cursor_words rfl ?_
    refine ⟨_, _, rfl, .inl (SqL.of C.ls), _, _, rfl, rfl, ?_⟩
    rw [List.length_map]
    have e : decide ((i : Int) < (ws.length : Int)) = decide (i < ws.length) := by simp
    show Q (.bl (decide ((i : Int) < (ws.length : Int)))) H
    rw [e]
    exact q
def spPeek (t : Adr) : Sp := fun vs H Q _ => ∃ (p dx lw : Addr) (row : Int) (ws : List Str) (i : Nat), vs = [.ref p] ∧ Cur t H p dx lw row ws i ∧ Q (.str (pk ws i)) H
theorem ok_Cursor_peek (T : Txt K mg t) : FnOk P w K mg base CX0 2 t.f_Cursor_peek t.d_Cursor_peek ["self"] (spPeek t) := by
  refine T.F_Cursor_peek.ok sc_Cursor_peek (fun vs H Q E h => ?_) (fun cdv A outer s H vs Q E hr h => at_body ?_)
  · obtain ⟨p, dx, lw, row, ws, i, rfl, _⟩ := h
    rfl
  · obtain ⟨p, dx, lw, row, ws, i, rfl, C, q⟩ := h
    refine at_one (ps_ret (pe_ifExp (pt_val (pe_meth0 (pv 0) T.cl_Cursor T.m_Cursor_more (ok_Cursor_more T) (hr.mono (by decide)) (bd_Cursor_more T) .nil pass0)) (pe_ix ix_list (pe_fld (pv 0) rfl) (pe_fld (pv 0) rfl) (fun _ _ => rfl)) pe_str)) ?_
    refine ⟨_, rfl, p, dx, _, rfl, C.ob, rfl, p, dx, lw, row, ws, i, rfl, C, _, rfl, ifd (fun h => ?_) (fun h => ?_)⟩
    · refine fldv rfl C.ob T.cl_Cursor T.n_Cursor_words rfl ?_
      refine fldv rfl C.ob T.cl_Cursor T.n_Cursor_at rfl ?_
      refine ⟨_, _, _, .str (pk ws i), rfl, rfl, SqL.of C.ls, atI_nat ?_, q⟩
      rw [List.getElem?_map, List.getElem?_eq_getElem h, pk_lt h]
      rfl
    · rw [pk_ge (by omega)] at q
      exact q
theorem inV_strs {x : Str} {cs : List Str} : inV (.str x) (cs.map V.str) = decide (x ∈ cs) := by
  unfold inV
  rw [List.any_map, Bool.eq_iff_iff, List.any_eq_true, decide_eq_true_eq]
  constructor
  · rintro ⟨y, hy, e⟩
    have : (y == x) = true := e
    rw [← eq_of_beq this]; exact hy
  · intro h
    exact ⟨x, h, by show (x == x) = true; simp⟩
theorem flat_strs {cs : List Str} : (cs.map V.str).all flatV = true := by
  rw [List.all_map, List.all_eq_true]
  intro _ _
  rfl
end
local macro_rules | `(tactic| walk_at "u") => `(tactic| first | rfl | decide | exact Or.inl rfl | exact Or.inr rfl | exact Or.inr (Or.inl rfl) | exact Or.inr (Or.inr rfl) | assumption | (intro _; rfl) | exact nobehind _ (by decide) (by decide))
section
variable {P : Program} {w : World} {K : PySem.W.Frag} {mg : Str → Option Value} {base : Heap} {t : Adr}
/-- what is asked of a refusal at word `i` of row `row`: the exception, its fields, all but `S` as it was -/
def Nope (t : Adr) (E : XK) (S : Addr → Prop) (H : Hp) (row : Int) (i : Nat) : Prop := ∀ e dx H', H e = none → H' e = some (xobj e t.c_NoRules (some dx)) → H' dx = some (.xd [("word", .int i), ("row", .int row)]) → (∀ b o, H b = some o → ¬ S b → H' b = some o) → E (.ref t.c_NoRules) (some e) H'
theorem Nope.mono {E : XK} {S S' : Addr → Prop} {H H1 : Hp} {row : Int} {i : Nat} (h : Nope t E S H row i) (hs : ∀ b o, H b = some o → ¬ S b → H1 b = some o ∧ ¬ S' b) (hn : ∀ b, H1 b = none → H b = none) : Nope t E S' H1 row i :=
  fun e dx H' h0 h1 h2 h3 => h e dx H' (hn e h0) h1 h2 fun b o hb nb => h3 b o (hs b o hb nb).1 (hs b o hb nb).2
def spNR (t : Adr) : Sp := fun vs H Q _ => ∃ e y1 y2, vs = [.ref e, y1, y2] ∧ H e = some (xnew e t.c_NoRules none) ∧ ∀ dx, H dx = none → Q .non (upd (upd (upd H dx (.xd [("row", y1)])) e (xnew e t.c_NoRules (some dx))) dx (.xd [("word", y2), ("row", y1)]))
theorem ok_NoRules___init__ (T : Txt K mg t) : FnOk P w K mg base CX0 1 t.f_NoRules___init__ t.d_NoRules___init__ ["self", "row", "word"] (spNR t) := by
  refine T.F_NoRules___init__.ok sc_NoRules___init__ (fun vs H Q E h => ?_) (fun cdv A outer s H vs Q E hr h => at_body ?_)
  · obtain ⟨e, y1, y2, rfl, _⟩ := h
    rfl
  · obtain ⟨e, y1, y2, rfl, he, q⟩ := h
    refine @at_cons _ _ _ _ _ _ _ (ps_fldX (pv 0) (pv 1) rfl) ⟨_, rfl, _, rfl, e, _, rfl, T.x_NoRules.toExcC, T.n_NoRules_row, .inl ⟨he, fun dx fr => ?_⟩⟩
    have ne : dx ≠ e := fun z => by rw [z, he] at fr; cases fr
    exact @at_one _ _ _ _ _ _ (ps_fldX (pv 0) (pv 2) rfl) ⟨_, rfl, _, rfl, e, _, rfl, T.x_NoRules.toExcC, T.n_NoRules_word, .inr ⟨dx, _, upd_same, by rw [upd_ne ne, upd_same], by show 1 < 1000; decide, q dx fr⟩⟩
/-- the exception as it stands when it leaves -/
theorem Nope.go {E : XK} {S : Addr → Prop} {H : Hp} {row : Int} {i : Nat} (h : Nope t E S H row i) {e : Addr} (he : H e = none) : spNR t [.ref e, .int row, .int i] (upd H e (xnew e t.c_NoRules none)) (fun v H3 => v = .non ∧ ∃ d, H3 e = some (xnew e t.c_NoRules d) ∧ E (.ref t.c_NoRules) (some e) (upd H3 e (xobj e t.c_NoRules d))) E0 := by
  refine ⟨e, _, _, rfl, upd_same, fun dx hd => ⟨rfl, some dx, ?_, ?_⟩⟩
  · have ne : e ≠ dx := fun z => by rw [← z, upd_same] at hd; cases hd
    rw [upd_ne ne, upd_same]
  · have ne : e ≠ dx := fun z => by rw [← z, upd_same] at hd; cases hd
    have hd0 : H dx = none := by rw [upd_ne (Ne.symm ne)] at hd; exact hd
    refine h e dx _ he upd_same (by rw [upd_ne (Ne.symm ne), upd_same]) fun b o hb _ => ?_
    have n1 : b ≠ e := ne_of_none hb he
    have n2 : b ≠ dx := ne_of_none hb hd0
    rw [upd_ne n1, upd_ne n2, upd_ne n1, upd_ne n2, upd_ne n1]; exact hb
def spAsk (t : Adr) : Sp := fun vs H Q E => ∃ (p dx lw : Addr) (row : Int) (ws : List Str) (i : Nat) (b : Bool), vs = [.ref p, .bl b] ∧ Cur t H p dx lw row ws i ∧ (b = true → Q .non H) ∧ (b = false → Nope t E (· = p) H row i)
theorem ok_Cursor_ask (T : Txt K mg t) : FnOk P w K mg base (CXE P w) 3 t.f_Cursor_ask t.d_Cursor_ask ["self", "good"] (spAsk t) := by
  refine T.F_Cursor_ask.okE sc_Cursor_ask (fun vs H Q E h => ?_) (fun cdv A outer s H vs Q E hr h => ?_)
  · obtain ⟨p, dx, lw, row, ws, i, b, rfl, _⟩ := h
    rfl
  · obtain ⟨p, dx, lw, row, ws, i, b, rfl, C, q, qe⟩ := h
    cases b with
    | true => exact @at_one _ _ _ _ _ _ (@ps_if _ _ _ _ _ _ _ _ (@pt_not _ _ _ _ (@pt_val _ _ _ (pv 1) (by walk_at "u"))) pss_at pss_at) ⟨_, rfl, true, rfl, iteF (at_nil (q rfl))⟩
    | false =>
      refine @at_one _ _ _ _ _ _ (@ps_if _ _ _ _ _ _ _ _ (@pt_not _ _ _ _ (@pt_val _ _ _ (pv 1) (by walk_at "u"))) pss_at pss_at) ⟨_, rfl, false, rfl, iteT ?_⟩
      refine @at_one _ _ _ _ _ _ (ps_raise1 T.x_NoRules.toExcC T.xi_NoRules.1 T.xi_NoRules.2.1 T.xi_NoRules.2.2 (ok_NoRules___init__ T) (bd_NoRules___init__ T) (hr.mono (by decide)) rfl T.mgc_NoRules (pa_cons (pe_fld (pv 0) rfl) (pa_cons (pe_fld (pv 0) rfl) pa_nil))) ?_
      refine ⟨_, rfl, _, _, _, _, _, rfl, C.ob, T.cl_Cursor, T.n_Cursor_row, rfl, ?_⟩
      refine ⟨_, rfl, _, _, _, _, _, rfl, C.ob, T.cl_Cursor, T.n_Cursor_at, rfl, ?_⟩
      exact ⟨by show 2 ≤ sizeLine; decide, fun e he => (qe rfl).go he⟩
/-- one word taken, or refused -/
def spTake (t : Adr) : Sp := fun vs H Q E => ∃ (p dx lw : Addr) (row : Int) (ws : List Str) (i : Nat) (b : Bool), vs = [.ref p, .bl b] ∧ Cur t H p dx lw row ws i ∧ (b = true → ∀ H', Cur t H' p dx lw row ws (i + 1) → Adv H H' p → Q (.str (pk ws i)) H') ∧ (b = false → Nope t E (· = p) H row i)
theorem ok_Cursor_take (T : Txt K mg t) : FnOk P w K mg base (CXE P w) 4 t.f_Cursor_take t.d_Cursor_take ["self", "good"] (spTake t) := by
  refine T.F_Cursor_take.okE sc_Cursor_take (fun vs H Q E h => ?_) (fun cdv A outer s H vs Q E hr h => ?_)
  · obtain ⟨p, dx, lw, row, ws, i, b, rfl, _⟩ := h
    rfl
  · obtain ⟨p, dx, lw, row, ws, i, b, rfl, C, q, qe⟩ := h
    refine @at_cons _ _ _ _ _ _ _ (@ps_expr _ _ _ _ (@pe_meth _ _ _ _ _ _ _ _ _ _ _ _ _ _ _ _ _ _ _ _ (pv 0) T.cl_Cursor T.m_Cursor_ask (ok_Cursor_ask T) (hr.mono (by decide)) (bd_Cursor_ask T) .nil passE (@pa_cons _ _ _ _ _ (pv 1) pa_nil (by walk_at "u")) (by walk_at "u") (by walk_at "u") (by walk_at "u")) (by walk_at "u")) ⟨_, rfl, p, dx, _, rfl, C.ob, rfl, _, rfl, p, dx, lw, row, ws, i, b, rfl, C, fun hb => ?_, qe⟩
    refine @at_cons _ _ _ _ _ _ _ (@ps_set _ _ 2 _ _ _ _ sc_Cursor_take.nd rfl (Or.inl rfl) (@pe_meth0 _ _ _ _ _ _ _ _ _ _ _ _ _ _ _ _ _ (pv 0) T.cl_Cursor T.m_Cursor_peek (ok_Cursor_peek T) (hr.mono (by decide)) (bd_Cursor_peek T) .nil pass0 (by walk_at "u")) (by walk_at "u") (by walk_at "u")) ⟨_, rfl, p, dx, _, rfl, C.ob, rfl, p, dx, lw, row, ws, i, rfl, C, ?_⟩
    refine @at_cons _ _ _ _ _ _ _ (@ps_fldaug _ _ _ _ _ _ _ _ _ _ (pv 0) pe_int in_add) ⟨_, rfl, p, _, dx, _, _, rfl, C.ob, T.cl_Cursor, T.n_Cursor_at, rfl, ?_⟩
    refine ⟨_, _, rfl, rfl, dx, _, C.ob, by show 3 < 1000; decide, ?_⟩
    refine @at_one _ _ _ _ _ _ (@ps_ret _ _ _ _ (pv 2)) ⟨_, rfl, ?_⟩
    have C' : Cur t (upd H p (.ins t.c_Cursor dx (cf row lw (i + 1)))) p dx lw row ws (i + 1) := ⟨upd_same, by rw [upd_ne (Ne.symm C.ne)]; exact C.ls, C.sz⟩
    exact q hb _ C' Adv.upd
/-- a word out of some -/
def spChoice (K : PySem.W.Frag) (t : Adr) : Sp := fun vs H Q E => ∃ (p dx lw c : Addr) (cs : List Str) (row : Int) (ws : List Str) (i : Nat), vs = [.ref p, .ref c] ∧ Cur t H p dx lw row ws i ∧ SqT K H c (cs.map V.str) ∧ (pk ws i ∈ cs → ∀ H', Cur t H' p dx lw row ws (i + 1) → Adv H H' p → Q (.str (pk ws i)) H') ∧ (pk ws i ∉ cs → Nope t E (· = p) H row i)
theorem ok_Cursor_take_choice (T : Txt K mg t) : FnOk P w K mg base (CXE P w) 5 t.f_Cursor_take_choice t.d_Cursor_take_choice ["self", "words"] (spChoice K t) := by
  refine T.F_Cursor_take_choice.okE sc_Cursor_take_choice (fun vs H Q E h => ?_) (fun cdv A outer s H vs Q E hr h => ?_)
  · obtain ⟨p, dx, lw, c, cs, row, ws, i, rfl, _⟩ := h
    rfl
  · obtain ⟨p, dx, lw, c, cs, row, ws, i, rfl, C, hc, q, qe⟩ := h
    refine @at_one _ _ _ _ _ _ (@ps_ret _ _ _ _ (@pe_meth _ _ _ _ _ _ _ _ _ _ _ _ _ _ _ _ _ _ _ _ (pv 0) T.cl_Cursor T.m_Cursor_take (ok_Cursor_take T) (hr.mono (by decide)) (bd_Cursor_take T) .nil passE (@pa_cons _ _ _ _ _ (@pe_cmpR _ _ _ _ _ _ _ _ op_in_seq (@pe_meth0 _ _ _ _ _ _ _ _ _ _ _ _ _ _ _ _ _ (pv 0) T.cl_Cursor T.m_Cursor_peek (ok_Cursor_peek T) (hr.mono (by decide)) (bd_Cursor_peek T) .nil pass0 (by walk_at "u")) (pv 1) rfl) pa_nil (by walk_at "u")) (by walk_at "u") (by walk_at "u") (by walk_at "u"))) ?_
    refine ⟨_, rfl, p, dx, _, rfl, C.ob, rfl, ?_⟩
    refine ⟨_, rfl, p, dx, _, rfl, C.ob, rfl, p, dx, lw, row, ws, i, rfl, C, _, rfl, _, _, rfl, .inr hc, rfl, flat_strs, ?_⟩
    rw [inV_strs]
    exact ⟨p, dx, lw, row, ws, i, _, rfl, C, fun h => q (of_decide_eq_true h), fun h => qe (of_decide_eq_false h)⟩
def spName (t : Adr) : Sp := fun vs H Q E => ∃ (p dx lw : Addr) (row : Int) (ws : List Str) (i : Nat), vs = [.ref p] ∧ Cur t H p dx lw row ws i ∧ (isName (pk ws i) = true → ∀ H', Cur t H' p dx lw row ws (i + 1) → Adv H H' p → Q (.str (pk ws i)) H') ∧ (isName (pk ws i) = false → Nope t E (· = p) H row i)
theorem ok_Cursor_take_name (T : Txt K mg t) : FnOk P w K mg base (CXE P w) 5 t.f_Cursor_take_name t.d_Cursor_take_name ["self"] (spName t) := by
  refine T.F_Cursor_take_name.okE sc_Cursor_take_name (fun vs H Q E h => ?_) (fun cdv A outer s H vs Q E hr h => ?_)
  · obtain ⟨p, dx, lw, row, ws, i, rfl, _⟩ := h
    rfl
  · obtain ⟨p, dx, lw, row, ws, i, rfl, C, q, qe⟩ := h
    refine @at_one _ _ _ _ _ _ (@ps_ret _ _ _ _ (@pe_meth _ _ _ _ _ _ _ _ _ _ _ _ _ _ _ _ _ _ _ _ (pv 0) T.cl_Cursor T.m_Cursor_take (ok_Cursor_take T) (hr.mono (by decide)) (bd_Cursor_take T) .nil passE (@pa_cons _ _ _ _ _ (@pe_call _ _ _ _ _ _ _ _ _ _ _ _ _ _ _ _ (ok_is_name T) (hr.mono (by decide)) rfl T.mg_is_name T.F_is_name.kp (bd_is_name T) .nil pass0 (@pa_cons _ _ _ _ _ (@pe_meth0 _ _ _ _ _ _ _ _ _ _ _ _ _ _ _ _ _ (pv 0) T.cl_Cursor T.m_Cursor_peek (ok_Cursor_peek T) (hr.mono (by decide)) (bd_Cursor_peek T) .nil pass0 (by walk_at "u")) pa_nil (by walk_at "u")) (by walk_at "u") (by walk_at "u") (by walk_at "u")) pa_nil (by walk_at "u")) (by walk_at "u") (by walk_at "u") (by walk_at "u"))) ?_
    refine ⟨_, rfl, p, dx, _, rfl, C.ob, rfl, ?_⟩
    refine ⟨_, rfl, p, dx, _, rfl, C.ob, rfl, p, dx, lw, row, ws, i, rfl, C, pk ws i, rfl, C.pkl, fun H1 s1 => ?_⟩
    exact ⟨p, dx, lw, row, ws, i, _, rfl, C.same s1, fun h H2 C2 a2 => q h H2 C2 (s1.adv a2), fun h => (qe h).mono (fun b o hb nb => ⟨s1 b o hb, nb⟩) fun b hb => s1.free hb⟩
/-- a word that tells some signs -/
def sgOk (x : Str) : Bool := decide (1 < x.length) && (decide (0 + ("'" : Str).length ≤ x.length) && Builtin.Str.subAt x "'" 0)
def spSigns (t : Adr) : Sp := fun vs H Q E => ∃ (p dx lw : Addr) (row : Int) (ws : List Str) (i : Nat), vs = [.ref p] ∧ Cur t H p dx lw row ws i ∧ (sgOk (pk ws i) = true → ∀ z H', Cur t H' p dx lw row ws (i + 1) → Adv H H' p → Q (.str z) H') ∧ (sgOk (pk ws i) = false → Nope t E (· = p) H row i)
theorem ok_Cursor_take_signs (T : Txt K mg t) : FnOk P w K mg base (CXE P w) 5 t.f_Cursor_take_signs t.d_Cursor_take_signs ["self"] (spSigns t) := by
  refine T.F_Cursor_take_signs.okE sc_Cursor_take_signs (fun vs H Q E h => ?_) (fun cdv A outer s H vs Q E hr h => ?_)
  · obtain ⟨p, dx, lw, row, ws, i, rfl, _⟩ := h
    rfl
  · obtain ⟨p, dx, lw, row, ws, i, rfl, C, q, qe⟩ := h
    have hz := C.pkl
    refine @at_cons _ _ _ _ _ _ _ (@ps_set _ _ 1 _ _ _ _ sc_Cursor_take_signs.nd rfl (Or.inl rfl) (@pe_meth0 _ _ _ _ _ _ _ _ _ _ _ _ _ _ _ _ _ (pv 0) T.cl_Cursor T.m_Cursor_peek (ok_Cursor_peek T) (hr.mono (by decide)) (bd_Cursor_peek T) .nil pass0 (by walk_at "u")) (by walk_at "u") (by walk_at "u")) ⟨_, rfl, p, dx, _, rfl, C.ob, rfl, p, dx, lw, row, ws, i, rfl, C, ?_⟩
    refine @at_cons _ _ _ _ _ _ _ (@ps_expr _ _ _ _ (@pe_meth _ _ _ _ _ _ _ _ _ _ _ _ _ _ _ _ _ _ _ _ (pv 0) T.cl_Cursor T.m_Cursor_take (ok_Cursor_take T) (hr.mono (by decide)) (bd_Cursor_take T) .nil passE (@pa_cons _ _ _ _ _ (@pe_and _ _ _ _ _ _ _ (@pe_cmpR _ _ _ _ _ _ _ _ op_gt (@pe_callB _ _ _ _ _ _ _ _ _ call_len_str (by rfl) T.z_len (by decide +kernel) (@pa_cons _ _ _ _ _ (pv 1) pa_nil (by walk_at "u")) (by walk_at "u") (by walk_at "u") (by walk_at "u") (by walk_at "u")) pe_int (nomark _)) (@pe_one _ _ _ _ _ (@pe_bm _ _ _ _ _ _ _ _ _ _ _ _ PySem.F.plainAttrs_str PySem.F.slot_str_startswith PySem.F.type_str_startswith mt_starts2 (pv 1) (@pa_cons _ _ _ _ _ pe_str pa_nil (by walk_at "u")) (by walk_at "u") (by walk_at "u") (by walk_at "u") (by walk_at "u") (by walk_at "u")))) pa_nil (by walk_at "u")) (by walk_at "u") (by walk_at "u") (by walk_at "u")) (by walk_at "u")) ?_
    refine ⟨_, rfl, p, dx, _, rfl, C.ob, rfl, ?_⟩
    refine ⟨_, rfl, _, rfl, sl_le (by omega), _, _, rfl, rfl, _, rfl, ?_⟩
    by_cases h1 : 1 < (pk ws i).length
    · rw [decide_eq_true (by omega), if_pos rfl]
      refine ⟨_, rfl, rfl, _, _, rfl, rfl, ?_⟩
      refine ⟨p, dx, lw, row, ws, i, _, rfl, C, fun hb H1 C1 a1 => ?_, fun hb => qe (by rw [sgOk, decide_eq_true h1, hb]; rfl)⟩
      refine @at_one _ _ _ _ _ _ (@ps_ret _ _ _ _ (@pe_repl_sl _ _ _ _ _ _ _ _ _ _ _ _ _ _ _ _ (by decide +kernel) (pv 1) (by walk_at "u") (by walk_at "u"))) ⟨_, rfl, _, rfl, sl_le (by omega), _, rfl, ?_, ?_⟩
      · have h3 : (PySem.Txt.slice (pk ws i) (some 1) none).length ≤ 100000 := Nat.le_trans (PySem.Txt.slice_le _ _ _) (by omega)
        have h2 : (" " : Str).length = 1 := by decide +kernel
        rw [h2]
        omega
      · exact q (by rw [sgOk, decide_eq_true h1, hb]; rfl) _ H1 C1 a1
    · rw [decide_eq_false (by omega), if_neg (by decide)]
      exact ⟨p, dx, lw, row, ws, i, _, rfl, C, fun hb => (by cases hb), fun _ => qe (by rw [sgOk, decide_eq_false h1]; rfl)⟩
end
section
variable {P : Program} {w : World} {K : PySem.W.Frag} {mg : Str → Option Value} {base : Heap} {t : Adr}
def spEats (b : Bool) : Sp := fun vs H Q _ => ∃ p : V, vs = [p] ∧ Q (.bl b) H
def spInit (C : Addr) (f : Str) : Sp := fun vs H Q _ => ∃ (p dx : Addr) (z : Str), vs = [.ref p, .str z] ∧ H p = some (.ins C dx []) ∧ Q .non (upd H p (.ins C dx [(f, .str z)]))
theorem ok_Word___init__ (T : Txt K mg t) : FnOk P w K mg base CX0 1 t.f_Word___init__ t.d_Word___init__ ["self", "text"] (spInit t.c_Word "wanted") := by
  refine T.F_Word___init__.ok sc_Word___init__ (fun vs H Q E h => ?_) (fun cdv A outer s H vs Q E hr h => at_body ?_)
  · obtain ⟨p, dx, z, rfl, _⟩ := h
    rfl
  · obtain ⟨p, dx, z, rfl, hp, q⟩ := h
    refine @at_one _ _ _ _ _ _ (ps_fld (pv 0) (pv 1) rfl) ?_
    exact ⟨_, rfl, _, rfl, p, _, dx, [], rfl, hp, T.cl_Word, T.n_Word_wanted, by decide, q⟩
theorem ok_One___init__ (T : Txt K mg t) : FnOk P w K mg base CX0 1 t.f_One___init__ t.d_One___init__ ["self", "signs"] (spInit t.c_One "signs") := by
  refine T.F_One___init__.ok sc_One___init__ (fun vs H Q E h => ?_) (fun cdv A outer s H vs Q E hr h => at_body ?_)
  · obtain ⟨p, dx, z, rfl, _⟩ := h
    rfl
  · obtain ⟨p, dx, z, rfl, hp, q⟩ := h
    refine @at_one _ _ _ _ _ _ (ps_fld (pv 0) (pv 1) rfl) ?_
    exact ⟨_, rfl, _, rfl, p, _, dx, [], rfl, hp, T.cl_One, T.n_One_signs, by decide, q⟩
theorem ok_Without___init__ (T : Txt K mg t) : FnOk P w K mg base CX0 1 t.f_Without___init__ t.d_Without___init__ ["self", "signs"] (spInit t.c_Without "signs") := by
  refine T.F_Without___init__.ok sc_Without___init__ (fun vs H Q E h => ?_) (fun cdv A outer s H vs Q E hr h => at_body ?_)
  · obtain ⟨p, dx, z, rfl, _⟩ := h
    rfl
  · obtain ⟨p, dx, z, rfl, hp, q⟩ := h
    refine @at_one _ _ _ _ _ _ (ps_fld (pv 0) (pv 1) rfl) ?_
    exact ⟨_, rfl, _, rfl, p, _, dx, [], rfl, hp, T.cl_Without, T.n_Without_signs, by decide, q⟩
theorem ok_Many___init__ (T : Txt K mg t) : FnOk P w K mg base CX0 1 t.f_Many___init__ t.d_Many___init__ ["self", "signs"] (spInit t.c_Many "signs") := by
  refine T.F_Many___init__.ok sc_Many___init__ (fun vs H Q E h => ?_) (fun cdv A outer s H vs Q E hr h => at_body ?_)
  · obtain ⟨p, dx, z, rfl, _⟩ := h
    rfl
  · obtain ⟨p, dx, z, rfl, hp, q⟩ := h
    refine @at_one _ _ _ _ _ _ (ps_fld (pv 0) (pv 1) rfl) ?_
    exact ⟨_, rfl, _, rfl, p, _, dx, [], rfl, hp, T.cl_Many, T.n_Many_signs, by decide, q⟩
theorem ok_Pattern_eats (T : Txt K mg t) : FnOk P w K mg base CX0 1 t.f_Pattern_eats t.d_Pattern_eats ["self"] (spEats false) := by
  refine T.F_Pattern_eats.ok sc_Pattern_eats (fun vs H Q E h => ?_) (fun cdv A outer s H vs Q E hr h => at_body ?_)
  · obtain ⟨p, rfl, _⟩ := h
    rfl
  · obtain ⟨p, rfl, q⟩ := h
    exact @at_one _ _ _ _ _ _ (ps_ret pe_bl) q
theorem ok_Word_eats (T : Txt K mg t) : FnOk P w K mg base CX0 1 t.f_Word_eats t.d_Word_eats ["self"] (spEats true) := by
  refine T.F_Word_eats.ok sc_Word_eats (fun vs H Q E h => ?_) (fun cdv A outer s H vs Q E hr h => at_body ?_)
  · obtain ⟨p, rfl, _⟩ := h
    rfl
  · obtain ⟨p, rfl, q⟩ := h
    exact @at_one _ _ _ _ _ _ (ps_ret pe_bl) q
theorem ok_One_eats (T : Txt K mg t) : FnOk P w K mg base CX0 1 t.f_One_eats t.d_One_eats ["self"] (spEats true) := by
  refine T.F_One_eats.ok sc_One_eats (fun vs H Q E h => ?_) (fun cdv A outer s H vs Q E hr h => at_body ?_)
  · obtain ⟨p, rfl, _⟩ := h
    rfl
  · obtain ⟨p, rfl, q⟩ := h
    exact @at_one _ _ _ _ _ _ (ps_ret pe_bl) q
theorem ok_Without_eats (T : Txt K mg t) : FnOk P w K mg base CX0 1 t.f_Without_eats t.d_Without_eats ["self"] (spEats true) := by
  refine T.F_Without_eats.ok sc_Without_eats (fun vs H Q E h => ?_) (fun cdv A outer s H vs Q E hr h => at_body ?_)
  · obtain ⟨p, rfl, _⟩ := h
    rfl
  · obtain ⟨p, rfl, q⟩ := h
    exact @at_one _ _ _ _ _ _ (ps_ret pe_bl) q
theorem ok_Many_eats (T : Txt K mg t) : FnOk P w K mg base CX0 1 t.f_Many_eats t.d_Many_eats ["self"] (spEats true) := by
  refine T.F_Many_eats.ok sc_Many_eats (fun vs H Q E h => ?_) (fun cdv A outer s H vs Q E hr h => at_body ?_)
  · obtain ⟨p, rfl, _⟩ := h
    rfl
  · obtain ⟨p, rfl, q⟩ := h
    exact @at_one _ _ _ _ _ _ (ps_ret pe_bl) q
theorem ok_Any_eats (T : Txt K mg t) : FnOk P w K mg base CX0 1 t.f_Any_eats t.d_Any_eats ["self"] (spEats true) := by
  refine T.F_Any_eats.ok sc_Any_eats (fun vs H Q E h => ?_) (fun cdv A outer s H vs Q E hr h => at_body ?_)
  · obtain ⟨p, rfl, _⟩ := h
    rfl
  · obtain ⟨p, rfl, q⟩ := h
    exact @at_one _ _ _ _ _ _ (ps_ret pe_bl) q

def eatsB (sort : Str) : Bool := !decide (sort = "still" ∨ sort = "end")
structure PatE (P : Program) (w : World) (K : PySem.W.Frag) (mg : Str → Option Value) (base : Heap) (C fs : Addr) (ds : FuncData) (sort : Str) (fl : Str → List (Str × V)) : Prop where
  cl : Cls K C
  ms : Meth K C "eats" fs
  ns : ∀ z, (fl z).lookup ("eats" : Str) = none
  gs : FnOk P w K mg base CX0 1 fs ds ["self"] (spEats (eatsB sort))
  bs : Binds K ds ["self"] []
theorem pk_Word (T : Txt K mg t) : PatE P w K mg base t.c_Word t.f_Word_eats t.d_Word_eats "word" (fun z => [("wanted", .str z)]) :=
  ⟨T.cl_Word, T.m_Word_eats, fun _ => by rfl, by rw [show eatsB "word" = true by decide +kernel]; exact ok_Word_eats T, bd_Word_eats T⟩
theorem pk_One (T : Txt K mg t) : PatE P w K mg base t.c_One t.f_One_eats t.d_One_eats "one" (fun z => [("signs", .str z)]) :=
  ⟨T.cl_One, T.m_One_eats, fun _ => by rfl, by rw [show eatsB "one" = true by decide +kernel]; exact ok_One_eats T, bd_One_eats T⟩
theorem pk_Without (T : Txt K mg t) : PatE P w K mg base t.c_Without t.f_Without_eats t.d_Without_eats "none" (fun z => [("signs", .str z)]) :=
  ⟨T.cl_Without, T.m_Without_eats, fun _ => by rfl, by rw [show eatsB "none" = true by decide +kernel]; exact ok_Without_eats T, bd_Without_eats T⟩
theorem pk_Many (T : Txt K mg t) : PatE P w K mg base t.c_Many t.f_Many_eats t.d_Many_eats "many" (fun z => [("signs", .str z)]) :=
  ⟨T.cl_Many, T.m_Many_eats, fun _ => by rfl, by rw [show eatsB "many" = true by decide +kernel]; exact ok_Many_eats T, bd_Many_eats T⟩
theorem pk_Any (T : Txt K mg t) : PatE P w K mg base t.c_Any t.f_Any_eats t.d_Any_eats "any" (fun z => []) :=
  ⟨T.cl_Any, T.m_Any_eats, fun _ => by rfl, by rw [show eatsB "any" = true by decide +kernel]; exact ok_Any_eats T, bd_Any_eats T⟩
theorem pk_Still (T : Txt K mg t) : PatE P w K mg base t.c_Still t.f_Pattern_eats t.d_Pattern_eats "still" (fun z => []) :=
  ⟨T.cl_Still, T.m_Still_eats, fun _ => by rfl, by rw [show eatsB "still" = false by decide +kernel]; exact ok_Pattern_eats T, bd_Pattern_eats T⟩
theorem pk_End (T : Txt K mg t) : PatE P w K mg base t.c_End t.f_Pattern_eats t.d_Pattern_eats "end" (fun z => []) :=
  ⟨T.cl_End, T.m_End_eats, fun _ => by rfl, by rw [show eatsB "end" = false by decide +kernel]; exact ok_Pattern_eats T, bd_Pattern_eats T⟩
abbrev sorts : List Str := ["word", "one", "none", "many", "any", "still", "end"]
abbrev bare (s : Str) : Prop := s = "any" ∨ s = "still" ∨ s = "end"
def clsOf (t : Adr) (s : Str) : Addr := if s = "any" then t.c_Any else if s = "still" then t.c_Still else if s = "end" then t.c_End else if s = "word" then t.c_Word else if s = "one" then t.c_One else if s = "none" then t.c_Without else t.c_Many
def flOf (s z : Str) : List (Str × V) := if bare s then [] else if s = "word" then [("wanted", .str z)] else [("signs", .str z)]
theorem cls_any : clsOf t "any" = t.c_Any := by rw [clsOf, if_pos rfl]
theorem cls_still : clsOf t "still" = t.c_Still := by rw [clsOf, if_neg (by decide), if_pos rfl]
theorem cls_end : clsOf t "end" = t.c_End := by rw [clsOf, if_neg (by decide), if_neg (by decide), if_pos rfl]
theorem cls_word : clsOf t "word" = t.c_Word := by rw [clsOf, if_neg (by decide), if_neg (by decide), if_neg (by decide), if_pos rfl]
theorem cls_one : clsOf t "one" = t.c_One := by rw [clsOf, if_neg (by decide), if_neg (by decide), if_neg (by decide), if_neg (by decide), if_pos rfl]
theorem cls_none : clsOf t "none" = t.c_Without := by rw [clsOf, if_neg (by decide), if_neg (by decide), if_neg (by decide), if_neg (by decide), if_neg (by decide), if_pos rfl]
theorem cls_many : clsOf t "many" = t.c_Many := by rw [clsOf, if_neg (by decide), if_neg (by decide), if_neg (by decide), if_neg (by decide), if_neg (by decide), if_neg (by decide)]
theorem fl_any : flOf "any" = fun _ => [] := by funext z; rw [flOf, if_pos (by decide)]
theorem fl_still : flOf "still" = fun _ => [] := by funext z; rw [flOf, if_pos (by decide)]
theorem fl_end : flOf "end" = fun _ => [] := by funext z; rw [flOf, if_pos (by decide)]
theorem fl_word : flOf "word" = fun z => ([("wanted", .str z)] : List (Str × V)) := by funext z; rw [flOf, if_neg (by decide), if_pos rfl]
theorem fl_sg {s : Str} (h : ¬ bare s) (h2 : s ≠ "word") : flOf s = fun z => ([("signs", .str z)] : List (Str × V)) := by funext z; rw [flOf, if_neg h, if_neg h2]
theorem sorts_cases {s : Str} (h : s ∈ sorts) : s = "word" ∨ s = "one" ∨ s = "none" ∨ s = "many" ∨ s = "any" ∨ s = "still" ∨ s = "end" := by simpa using h
theorem patE (T : Txt K mg t) {s : Str} (h : s ∈ sorts) : ∃ fs ds, PatE P w K mg base (clsOf t s) fs ds s (flOf s) := by
  rcases sorts_cases h with rfl | rfl | rfl | rfl | rfl | rfl | rfl
  · rw [cls_word, fl_word]; exact ⟨_, _, pk_Word T⟩
  · rw [cls_one, fl_sg (by decide) (by decide)]; exact ⟨_, _, pk_One T⟩
  · rw [cls_none, fl_sg (by decide) (by decide)]; exact ⟨_, _, pk_Without T⟩
  · rw [cls_many, fl_sg (by decide) (by decide)]; exact ⟨_, _, pk_Many T⟩
  · rw [cls_any, fl_any]; exact ⟨_, _, pk_Any T⟩
  · rw [cls_still, fl_still]; exact ⟨_, _, pk_Still T⟩
  · rw [cls_end, fl_end]; exact ⟨_, _, pk_End T⟩
def IsPat (t : Adr) (H : Hp) (p : Addr) (s z : Str) : Prop := ∃ dx, H p = some (.ins (clsOf t s) dx (flOf s z))
theorem mk_same {H : Hp} {x dx : Addr} {o1 o2 o3 : HO} (h1 : H x = none) (h2 : H dx = none) : Same H (upd (upd (upd H dx o1) x o2) x o3) := fun b o e => by
  rw [upd_ne (ne_of_none e h1), upd_ne (ne_of_none e h1), upd_ne (ne_of_none e h2)]; exact e
theorem mk_same0 {H : Hp} {x dx : Addr} {o1 o2 : HO} (h1 : H x = none) (h2 : H dx = none) : Same H (upd (upd H dx o1) x o2) := fun b o e => by
  rw [upd_ne (ne_of_none e h1), upd_ne (ne_of_none e h2)]; exact e
/-- a rule made -/
def spRInit (t : Adr) : Sp := fun vs H Q _ => ∃ (x dx : Addr) (v1 v2 v3 v4 v5 : V), vs = [.ref x, v1, v2, v3, v4, v5] ∧ H x = some (.ins t.c_Rule dx []) ∧ ∀ o, Q .non (upd H x o)
theorem ok_Rule___init__ (T : Txt K mg t) : FnOk P w K mg base CX0 1 t.f_Rule___init__ t.d_Rule___init__ ["self", "pattern", "colour", "deed", "goal", "fold"] (spRInit t) := by
  refine T.F_Rule___init__.ok sc_Rule___init__ (fun vs H Q E h => ?_) (fun cdv A outer s H vs Q E hr h => at_body ?_)
  · obtain ⟨x, dx, v1, v2, v3, v4, v5, rfl, _⟩ := h
    rfl
  · obtain ⟨x, dx, v1, v2, v3, v4, v5, rfl, hx, q⟩ := h
    refine @at_cons _ _ _ _ _ _ _ (@ps_fld _ _ _ _ _ _ _ _ (pv 0) (pv 1) rfl) ⟨_, rfl, _, rfl, x, _, dx, [], rfl, hx, T.cl_Rule, T.n_Rule_pattern, by decide, ?_⟩
    refine @at_cons _ _ _ _ _ _ _ (@ps_fld _ _ _ _ _ _ _ _ (pv 0) (pv 2) rfl) ⟨_, rfl, _, rfl, x, _, dx, [("pattern", v1)], rfl, upd_same, T.cl_Rule, T.n_Rule_colour, by show 1 < 1000; decide, ?_⟩
    refine @at_cons _ _ _ _ _ _ _ (@ps_fld _ _ _ _ _ _ _ _ (pv 0) (pv 3) rfl) ⟨_, rfl, _, rfl, x, _, dx, [("pattern", v1), ("colour", v2)], rfl, upd_same, T.cl_Rule, T.n_Rule_deed, by show 2 < 1000; decide, ?_⟩
    refine @at_cons _ _ _ _ _ _ _ (@ps_fld _ _ _ _ _ _ _ _ (pv 0) (pv 4) rfl) ⟨_, rfl, _, rfl, x, _, dx, [("pattern", v1), ("colour", v2), ("deed", v3)], rfl, upd_same, T.cl_Rule, T.n_Rule_goal, by show 3 < 1000; decide, ?_⟩
    refine @at_one _ _ _ _ _ _ (@ps_fld _ _ _ _ _ _ _ _ (pv 0) (pv 5) rfl) ⟨_, rfl, _, rfl, x, _, dx, [("pattern", v1), ("colour", v2), ("deed", v3), ("goal", v4)], rfl, upd_same, T.cl_Rule, T.n_Rule_fold, by show 4 < 1000; decide, ?_⟩
    rw [upd_upd, upd_upd, upd_upd, upd_upd]
    exact q _
def mf (n c : Str) (l : Addr) : List (Str × V) := [("name", .str n), ("colour", .str c), ("rules", .ref l)]
def spMInit (t : Adr) : Sp := fun vs H Q _ => ∃ (x dx l : Addr) (n c : Str) (rs : List V), vs = [.ref x, .str n, .str c, .ref l] ∧ H x = some (.ins t.c_Mode dx []) ∧ H l = some (.lst rs) ∧
  ∀ l2 H', H l2 = none → H' x = some (.ins t.c_Mode dx (mf n c l2)) → H' l2 = some (.lst rs) → Adv H H' x → Q .non H'
theorem ok_Mode___init__ (T : Txt K mg t) : FnOk P w K mg base CX0 1 t.f_Mode___init__ t.d_Mode___init__ ["self", "name", "colour", "rules"] (spMInit t) := by
  refine T.F_Mode___init__.ok sc_Mode___init__ (fun vs H Q E h => ?_) (fun cdv A outer s H vs Q E hr h => at_body ?_)
  · obtain ⟨x, dx, l, n, c, rs, rfl, _⟩ := h
    rfl
  · obtain ⟨x, dx, l, n, c, rs, rfl, hx, hl, q⟩ := h
    have nlx : l ≠ x := ne_of hl hx (by intro z; cases z)
    refine @at_cons _ _ _ _ _ _ _ (@ps_fld _ _ _ _ _ _ _ _ (pv 0) (pv 1) rfl) ⟨_, rfl, _, rfl, x, _, dx, [], rfl, hx, T.cl_Mode, T.n_Mode_name, by decide, ?_⟩
    refine @at_cons _ _ _ _ _ _ _ (@ps_fld _ _ _ _ _ _ _ _ (pv 0) (pv 2) rfl) ⟨_, rfl, _, rfl, x, _, dx, [("name", .str n)], rfl, upd_same, T.cl_Mode, T.n_Mode_colour, by show 1 < 1000; decide, ?_⟩
    refine @at_one _ _ _ _ _ _ (@ps_fld _ _ _ _ _ _ _ _ (pv 0) (@pe_callTy _ _ _ _ _ _ _ _ _ call_list_of (by rfl) T.z_list (by decide +kernel) (@pa_cons _ _ _ _ _ (pv 3) pa_nil (by walk_at "u")) (by walk_at "u") (by walk_at "u") (by walk_at "u") (by walk_at "u")) rfl) ⟨_, rfl, l, rs, rfl, .inl (SqL.of (by rw [upd_ne nlx, upd_ne nlx]; exact hl)), fun l2 hl2 => ?_⟩
    have n2 : x ≠ l2 := ne_of_none upd_same hl2
    have hl0 : H l2 = none := by rw [upd_ne (Ne.symm n2), upd_ne (Ne.symm n2)] at hl2; exact hl2
    refine ⟨_, rfl, x, _, dx, [("name", .str n), ("colour", .str c)], rfl, by rw [upd_ne n2]; exact upd_same, T.cl_Mode, T.n_Mode_rules, by show 2 < 1000; decide, ?_⟩
    refine q l2 _ hl0 upd_same (by rw [upd_ne (Ne.symm n2)]; exact upd_same) fun b o hb nb => ?_
    rw [upd_ne nb, upd_ne (ne_of_none hb hl0), upd_ne nb, upd_ne nb]; exact hb
def spRsInit (t : Adr) : Sp := fun vs H Q _ => ∃ (x dx l : Addr) (rs : List V), vs = [.ref x, .ref l] ∧ H x = some (.ins t.c_Rules dx []) ∧ H l = some (.lst rs) ∧
  ∀ l2 H', H l2 = none → H' x = some (.ins t.c_Rules dx [("modes", .ref l2)]) → H' l2 = some (.lst rs) → Adv H H' x → Q .non H'
theorem ok_Rules___init__ (T : Txt K mg t) : FnOk P w K mg base CX0 1 t.f_Rules___init__ t.d_Rules___init__ ["self", "modes"] (spRsInit t) := by
  refine T.F_Rules___init__.ok sc_Rules___init__ (fun vs H Q E h => ?_) (fun cdv A outer s H vs Q E hr h => at_body ?_)
  · obtain ⟨x, dx, l, rs, rfl, _⟩ := h
    rfl
  · obtain ⟨x, dx, l, rs, rfl, hx, hl, q⟩ := h
    refine @at_one _ _ _ _ _ _ (@ps_fld _ _ _ _ _ _ _ _ (pv 0) (@pe_callTy _ _ _ _ _ _ _ _ _ call_list_of (by rfl) T.z_list (by decide +kernel) (@pa_cons _ _ _ _ _ (pv 1) pa_nil (by walk_at "u")) (by walk_at "u") (by walk_at "u") (by walk_at "u") (by walk_at "u")) rfl) ⟨_, rfl, l, rs, rfl, .inl (SqL.of hl), fun l2 hl2 => ?_⟩
    have n2 : x ≠ l2 := ne_of_none hx hl2
    refine ⟨_, rfl, x, _, dx, [], rfl, by rw [upd_ne n2]; exact hx, T.cl_Rules, T.n_Rules_modes, by decide, ?_⟩
    refine q l2 _ hl2 upd_same (by rw [upd_ne (Ne.symm n2)]; exact upd_same) fun b o hb nb => ?_
    rw [upd_ne nb, upd_ne (ne_of_none hb hl2)]; exact hb

theorem Nope.adv {E : XK} {p dx lw : Addr} {H H1 : Hp} {row r2 : Int} {i j : Nat} {ws : List Str} (h : Nope t E (· = p) H row i) (a : Adv H H1 p) (C : Cur t H1 p dx lw r2 ws j) : Nope t E (· = p) H1 row i :=
  h.mono (fun b o hb nb => ⟨a b o hb nb, nb⟩) fun b hb => by
    cases e : H b with
    | none => rfl
    | some o =>
      by_cases z : b = p
      · rw [z, C.ob] at hb; cases hb
      · rw [a b o e z] at hb; cases hb
def spRdPat (t : Adr) : Sp := fun vs H Q E => ∃ (p dx lw : Addr) (row : Int) (ws : List Str) (i : Nat), vs = [.ref p] ∧ Cur t H p dx lw row ws i ∧
  (pk ws i ∈ sorts → (¬ bare (pk ws i) → sgOk (pk ws (i + 1)) = true) → ∀ pa z H', IsPat t H' pa (pk ws i) z → Cur t H' p dx lw row ws (if bare (pk ws i) then i + 1 else i + 2) → Adv H H' p → Q (.ref pa) H') ∧
  (pk ws i ∉ sorts → Nope t E (· = p) H row i) ∧ (pk ws i ∈ sorts → ¬ bare (pk ws i) → sgOk (pk ws (i + 1)) = false → Nope t E (· = p) H row (i + 1))
theorem ok_read_pattern (T : Txt K mg t) : FnOk P w K mg base (CXE P w) 6 t.f_read_pattern t.d_read_pattern ["cursor"] (spRdPat t) := by
  refine T.F_read_pattern.okE sc_read_pattern (fun vs H Q E h => ?_) (fun cdv A outer s H vs Q E hr h => ?_)
  · obtain ⟨p, dx, lw, row, ws, i, rfl, _⟩ := h
    rfl
  · obtain ⟨p, dx, lw, row, ws, i, rfl, C, q, q0, q1⟩ := h
    refine @at_cons _ _ _ _ _ _ _ (@ps_set _ _ 1 _ _ _ _ sc_read_pattern.nd rfl (Or.inl rfl) (@pe_meth _ _ _ _ _ _ _ _ _ _ _ _ _ _ _ _ _ _ _ _ (pv 0) T.cl_Cursor T.m_Cursor_take_choice (ok_Cursor_take_choice T) (hr.mono (by decide)) (bd_Cursor_take_choice T) .nil passE (@pa_cons _ _ _ _ _ (@pe_glob _ _ (V.ref t.g_PATTERNS) _ _ rfl T.mgv_PATTERNS rfl (by walk_at "u")) pa_nil (by walk_at "u")) (by walk_at "u") (by walk_at "u") (by walk_at "u")) (by walk_at "u") (by walk_at "u")) ⟨_, rfl, p, dx, _, rfl, C.ob, rfl, p, dx, lw, t.g_PATTERNS, sorts, row, ws, i, rfl, C, T.tv_PATTERNS _, fun hs H1 C1 a1 => ?_, q0⟩
    have q := q hs
    have q1 := q1 hs
    clear q0
    generalize pk ws i = s at *
    refine @at_cons _ _ _ _ _ _ _ (@ps_if _ _ _ _ _ _ _ _ (@pt_cmpR _ _ _ _ _ _ _ _ op_eq (pv 1) pe_str (nomark _)) pss_at pss_at) ⟨_, rfl, rfl, _, rfl, ifd (fun h => ?_) (fun h1 => at_nil ?_)⟩
    · have h := V.str.inj h
      subst h
      refine @at_one _ _ _ _ _ _ (@ps_ret _ _ _ _ (@pe_makeO _ _ _ _ _ T.mk_Any rfl T.mgc_Any (by walk_at "u"))) fun x dx' nx ndx ne => ?_
      exact q (fun z => absurd (by decide) z) x ⟨#[]⟩ _ ⟨dx', by rw [cls_any, fl_any]; exact upd_same⟩ (by rw [if_pos (by decide)]; exact C1.same (mk_same0 nx ndx)) (a1.same (mk_same0 nx ndx))
    refine @at_cons _ _ _ _ _ _ _ (@ps_if _ _ _ _ _ _ _ _ (@pt_cmpR _ _ _ _ _ _ _ _ op_eq (pv 1) pe_str (nomark _)) pss_at pss_at) ⟨_, rfl, rfl, _, rfl, ifd (fun h => ?_) (fun h2 => at_nil ?_)⟩
    · have h := V.str.inj h
      subst h
      refine @at_one _ _ _ _ _ _ (@ps_ret _ _ _ _ (@pe_makeO _ _ _ _ _ T.mk_Still rfl T.mgc_Still (by walk_at "u"))) fun x dx' nx ndx ne => ?_
      exact q (fun z => absurd (by decide) z) x ⟨#[]⟩ _ ⟨dx', by rw [cls_still, fl_still]; exact upd_same⟩ (by rw [if_pos (by decide)]; exact C1.same (mk_same0 nx ndx)) (a1.same (mk_same0 nx ndx))
    refine @at_cons _ _ _ _ _ _ _ (@ps_if _ _ _ _ _ _ _ _ (@pt_cmpR _ _ _ _ _ _ _ _ op_eq (pv 1) pe_str (nomark _)) pss_at pss_at) ⟨_, rfl, rfl, _, rfl, ifd (fun h => ?_) (fun h3 => at_nil ?_)⟩
    · have h := V.str.inj h
      subst h
      refine @at_one _ _ _ _ _ _ (@ps_ret _ _ _ _ (@pe_makeO _ _ _ _ _ T.mk_End rfl T.mgc_End (by walk_at "u"))) fun x dx' nx ndx ne => ?_
      exact q (fun z => absurd (by decide) z) x ⟨#[]⟩ _ ⟨dx', by rw [cls_end, fl_end]; exact upd_same⟩ (by rw [if_pos (by decide)]; exact C1.same (mk_same0 nx ndx)) (a1.same (mk_same0 nx ndx))
    have nb : ¬ bare s := by
      rintro (e | e | e)
      · exact h1 (by rw [e])
      · exact h2 (by rw [e])
      · exact h3 (by rw [e])
    rw [if_neg nb] at q
    refine @at_cons _ _ _ _ _ _ _ (@ps_set _ _ 2 _ _ _ _ sc_read_pattern.nd rfl (Or.inl rfl) (@pe_meth0 _ _ _ _ _ _ _ _ _ _ _ _ _ _ _ _ _ (pv 0) T.cl_Cursor T.m_Cursor_take_signs (ok_Cursor_take_signs T) (hr.mono (by decide)) (bd_Cursor_take_signs T) .nil passE (by walk_at "u")) (by walk_at "u") (by walk_at "u")) ⟨_, rfl, p, dx, _, rfl, C1.ob, rfl, p, dx, lw, row, ws, i + 1, rfl, C1, fun hg z H2 C2 a2 => ?_, fun hg => (q1 nb hg).adv a1 C1⟩
    have a3 := a1.trans a2
    have q := q (fun _ => hg)
    refine @at_cons _ _ _ _ _ _ _ (@ps_if _ _ _ _ _ _ _ _ (@pt_cmpR _ _ _ _ _ _ _ _ op_eq (pv 1) pe_str (nomark _)) pss_at pss_at) ⟨_, rfl, rfl, _, rfl, ifd (fun h => ?_) (fun h4 => at_nil ?_)⟩
    · have h := V.str.inj h
      subst h
      refine @at_one _ _ _ _ _ _ (@ps_ret _ _ _ _ (@pe_make _ _ _ _ _ _ _ _ _ _ _ _ _ _ _ _ _ T.mk_Word (ok_Word___init__ T) (hr.mono (by decide)) rfl T.mgc_Word (bd_Word___init__ T) .nil pass0 (@pa_cons _ _ _ _ _ (pv 2) pa_nil (by walk_at "u")) (by walk_at "u") (by walk_at "u") (by walk_at "u"))) ⟨_, rfl, fun x dx' nx ndx ne => ⟨x, dx', z, rfl, upd_same, rfl, ?_⟩⟩
      exact q x z _ ⟨dx', by rw [cls_word, fl_word]; exact upd_same⟩ (C2.same (mk_same nx ndx)) (a3.same (mk_same nx ndx))
    refine @at_cons _ _ _ _ _ _ _ (@ps_if _ _ _ _ _ _ _ _ (@pt_cmpR _ _ _ _ _ _ _ _ op_eq (pv 1) pe_str (nomark _)) pss_at pss_at) ⟨_, rfl, rfl, _, rfl, ifd (fun h => ?_) (fun h5 => at_nil ?_)⟩
    · have h := V.str.inj h
      subst h
      refine @at_one _ _ _ _ _ _ (@ps_ret _ _ _ _ (@pe_make _ _ _ _ _ _ _ _ _ _ _ _ _ _ _ _ _ T.mk_One (ok_One___init__ T) (hr.mono (by decide)) rfl T.mgc_One (bd_One___init__ T) .nil pass0 (@pa_cons _ _ _ _ _ (pv 2) pa_nil (by walk_at "u")) (by walk_at "u") (by walk_at "u") (by walk_at "u"))) ⟨_, rfl, fun x dx' nx ndx ne => ⟨x, dx', z, rfl, upd_same, rfl, ?_⟩⟩
      exact q x z _ ⟨dx', by rw [cls_one, fl_sg nb (by decide)]; exact upd_same⟩ (C2.same (mk_same nx ndx)) (a3.same (mk_same nx ndx))
    refine @at_cons _ _ _ _ _ _ _ (@ps_if _ _ _ _ _ _ _ _ (@pt_cmpR _ _ _ _ _ _ _ _ op_eq (pv 1) pe_str (nomark _)) pss_at pss_at) ⟨_, rfl, rfl, _, rfl, ifd (fun h => ?_) (fun h6 => at_nil ?_)⟩
    · have h := V.str.inj h
      subst h
      refine @at_one _ _ _ _ _ _ (@ps_ret _ _ _ _ (@pe_make _ _ _ _ _ _ _ _ _ _ _ _ _ _ _ _ _ T.mk_Without (ok_Without___init__ T) (hr.mono (by decide)) rfl T.mgc_Without (bd_Without___init__ T) .nil pass0 (@pa_cons _ _ _ _ _ (pv 2) pa_nil (by walk_at "u")) (by walk_at "u") (by walk_at "u") (by walk_at "u"))) ⟨_, rfl, fun x dx' nx ndx ne => ⟨x, dx', z, rfl, upd_same, rfl, ?_⟩⟩
      exact q x z _ ⟨dx', by rw [cls_none, fl_sg nb (by decide)]; exact upd_same⟩ (C2.same (mk_same nx ndx)) (a3.same (mk_same nx ndx))
    have h : s = "many" := by
      rcases sorts_cases hs with e | e | e | e | e | e | e
      · exact absurd (by rw [e]) h4
      · exact absurd (by rw [e]) h5
      · exact absurd (by rw [e]) h6
      · exact e
      · exact absurd (by rw [e]) h1
      · exact absurd (by rw [e]) h2
      · exact absurd (by rw [e]) h3
    subst h
    refine @at_one _ _ _ _ _ _ (@ps_ret _ _ _ _ (@pe_make _ _ _ _ _ _ _ _ _ _ _ _ _ _ _ _ _ T.mk_Many (ok_Many___init__ T) (hr.mono (by decide)) rfl T.mgc_Many (bd_Many___init__ T) .nil pass0 (@pa_cons _ _ _ _ _ (pv 2) pa_nil (by walk_at "u")) (by walk_at "u") (by walk_at "u") (by walk_at "u"))) ⟨_, rfl, fun x dx' nx ndx ne => ⟨x, dx', z, rfl, upd_same, rfl, ?_⟩⟩
    exact q x z _ ⟨dx', by rw [cls_many, fl_sg nb (by decide)]; exact upd_same⟩ (C2.same (mk_same nx ndx)) (a3.same (mk_same nx ndx))
end
section
variable {P : Program} {w : World} {K : PySem.W.Frag} {mg : Str → Option Value} {base : Heap} {t : Adr}
abbrev deeds : List Str := ["stay", "push", "pop", "into"]
abbrev going (d : Str) : Prop := d = "push" ∨ d = "into"
abbrev foldsW : List Str := ["open", "close"]
def Kept (H H' : Hp) (p nw : Addr) : Prop := ∀ b o, H b = some o → b ≠ p → b ≠ nw → H' b = some o
/-- the list of places that lead nowhere: as it was, or one more -/
def Nws (H H' : Hp) (nw : Addr) (ns : List V) (row : Int) : Option Nat → Prop
  | none => H' nw = some (.lst ns)
  | some j => ∃ pt, H pt = none ∧ H' nw = some (.lst (ns ++ [.ref pt])) ∧ H' pt = some (.tup [.int row, .int j])
theorem Nws.alive {H H' : Hp} {nw : Addr} {ns : List V} {row : Int} {g : Option Nat} (h : Nws H H' nw ns row g) : ∃ xs, H' nw = some (.lst xs) := by
  cases g with
  | none => exact ⟨_, h⟩
  | some j => obtain ⟨pt, _, h, _⟩ := h; exact ⟨_, h⟩
theorem Kept.free {H H' : Hp} {p nw : Addr} {o1 o2 : HO} (k : Kept H H' p nw) (hp : H' p = some o1) (hw : H' nw = some o2) {b : Addr} (hb : H' b = none) : H b = none := by
  cases e : H b with
  | none => rfl
  | some o =>
    by_cases z : b = p
    · rw [z, hp] at hb; cases hb
    · by_cases z2 : b = nw
      · rw [z2, hw] at hb; cases hb
      · rw [k b o e z z2] at hb; cases hb
theorem Nope.kept {E : XK} {p nw : Addr} {H H' : Hp} {row : Int} {j : Nat} {o1 o2 : HO} (h : Nope t E (fun b => b = p ∨ b = nw) H row j) (k : Kept H H' p nw) (hp : H' p = some o1) (hw : H' nw = some o2) : Nope t E (· = p) H' row j :=
  h.mono (fun b o hb nb => ⟨k b o hb (fun z => nb (.inl z)) (fun z => nb (.inr z)), fun z => nb (.inl z)⟩) fun b hb => k.free hp hw hb
theorem Kept.adv {H H1 H2 : Hp} {p nw : Addr} (k : Kept H H1 p nw) (a : Adv H1 H2 p) : Kept H H2 p nw := fun b o hb n1 n2 => a b o (k b o hb n1 n2) n1
theorem Nws.adv {H H1 H2 : Hp} {p dx nw lw : Addr} {ns : List V} {row r2 : Int} {g : Option Nat} {ws : List Str} {i : Nat} (h : Nws H H1 nw ns row g) (C : Cur t H1 p dx lw r2 ws i) (a : Adv H1 H2 p) : Nws H H2 nw ns row g := by
  cases g with
  | none => exact a _ _ h (ne_of h C.ob (by intro z; cases z))
  | some j =>
    obtain ⟨pt, h0, h1, h2⟩ := h
    exact ⟨pt, h0, a _ _ h1 (ne_of h1 C.ob (by intro z; cases z)), a _ _ h2 (ne_of h2 C.ob (by intro z; cases z))⟩
theorem Nws.same {H H1 H2 : Hp} {nw : Addr} {ns : List V} {row : Int} {g : Option Nat} (h : Nws H H1 nw ns row g) (s : Same H1 H2) : Nws H H2 nw ns row g := by
  cases g with
  | none => exact s _ _ h
  | some j => obtain ⟨pt, h0, h1, h2⟩ := h; exact ⟨pt, h0, s _ _ h1, s _ _ h2⟩
def knows (kvs : List (Key × V)) (x : Str) : Bool := (valV kvs (.inr x)).isSome
def spRdGoal (t : Adr) : Sp := fun vs H Q E => ∃ (p dx lw d nw : Addr) (row : Int) (ws : List Str) (i : Nat) (kvs : List (Key × V)) (ns : List V), vs = [.ref p, .ref d, .ref nw] ∧ Cur t H p dx lw row ws i ∧ H d = some (.dK kvs) ∧ H nw = some (.lst ns) ∧ ns.length ≤ 1000 ∧ lw ≠ nw ∧
  (isName (pk ws i) = true → ∀ v H', Cur t H' p dx lw row ws (i + 1) → Kept H H' p nw → Nws H H' nw ns row (if knows kvs (pk ws i) = true then none else some i) → Q v H') ∧ (isName (pk ws i) = false → Nope t E (· = p) H row i)
theorem ok_read_goal (T : Txt K mg t) : FnOk P w K mg base (CXE P w) 6 t.f_read_goal t.d_read_goal ["cursor", "numbers", "nowhere"] (spRdGoal t) := by
  refine T.F_read_goal.okE sc_read_goal (fun vs H Q E h => ?_) (fun cdv A outer s H vs Q E hr h => ?_)
  · obtain ⟨p, dx, lw, d, nw, row, ws, i, kvs, ns, rfl, _⟩ := h
    rfl
  · obtain ⟨p, dx, lw, d, nw, row, ws, i, kvs, ns, rfl, C, hd, hw, hns, nlw, q, qe⟩ := h
    refine @at_cons _ _ _ _ _ _ _ (@ps_set _ _ 3 _ _ _ _ sc_read_goal.nd rfl (Or.inl rfl) (@pe_tup _ _ _ _ _ (@pa_cons _ _ _ _ _ (@pe_fld _ _ _ _ _ (pv 0) rfl) (@pa_cons _ _ _ _ _ (@pe_fld _ _ _ _ _ (pv 0) rfl) pa_nil (by walk_at "u")) (by walk_at "u"))) (by walk_at "u") (by walk_at "u")) ?_
    refine ⟨_, rfl, _, _, _, _, _, rfl, C.ob, T.cl_Cursor, T.n_Cursor_row, rfl, ?_⟩
    refine ⟨_, rfl, _, _, _, _, _, rfl, C.ob, T.cl_Cursor, T.n_Cursor_at, rfl, ?_⟩
    refine ⟨by show 2 ≤ sizeLine; decide, fun pt hpt => ?_⟩
    have s1 : Same H (upd H pt (.tup [.int row, .int i])) := Same.upd hpt
    have C1 := C.same s1
    have ht1 : upd H pt (.tup [.int row, .int i]) pt = some (.tup [.int row, .int i]) := upd_same
    generalize upd H pt (.tup [.int row, .int i]) = H1 at s1 C1 ht1
    refine @at_cons _ _ _ _ _ _ _ (@ps_set _ _ 4 _ _ _ _ sc_read_goal.nd rfl (Or.inl rfl) (@pe_meth0 _ _ _ _ _ _ _ _ _ _ _ _ _ _ _ _ _ (pv 0) T.cl_Cursor T.m_Cursor_take_name (ok_Cursor_take_name T) (hr.mono (by decide)) (bd_Cursor_take_name T) .nil passE (by walk_at "u")) (by walk_at "u") (by walk_at "u")) ⟨_, rfl, p, dx, _, rfl, C1.ob, rfl, p, dx, lw, row, ws, i, rfl, C1, fun hn H2 C2 a2 => ?_, fun hn => (qe hn).mono (fun b o hb nb => ⟨s1 b o hb, nb⟩) fun b hb => s1.free hb⟩
    have q := q hn
    have npd : d ≠ p := ne_of hd C.ob (by intro z; cases z)
    have npw : nw ≠ p := ne_of hw C.ob (by intro z; cases z)
    have npt : pt ≠ p := ne_of ht1 C1.ob (by intro z; cases z)
    have hd2 : H2 d = some (.dK kvs) := a2 _ _ (s1 _ _ hd) npd
    have hw2 : H2 nw = some (.lst ns) := a2 _ _ (s1 _ _ hw) npw
    have ht2 := a2 _ _ ht1 npt
    refine @at_cons _ _ _ _ _ _ _ (@ps_if _ _ _ _ _ _ _ _ (@pt_cmp _ _ _ _ _ _ (@pc_dnotin _ _ _ _ _ (hu_of hr) (pv 4) (pv 1)) (by walk_at "u")) pss_at pss_at) ⟨_, rfl, _, rfl, d, _, rfl, DGet.k (k := .inr (pk ws i)) hd2, _, rfl, ?_⟩
    unfold knows at q
    cases hv : valV kvs (.inr (pk ws i)) with
    | some g =>
      rw [hv] at q
      refine iteF (at_nil ?_)
      refine @at_one _ _ _ _ _ _ (@ps_ret _ _ _ _ (@pe_dget1 _ _ _ _ _ _ _ (hu_of hr) (pv 1) (pv 4) ⟨rfl, rfl, rfl, rfl⟩)) ⟨_, rfl, d, rfl, .inl ⟨kvs, .inl hd2⟩, _, rfl, _, DGet.k (k := .inr (pk ws i)) hd2, ?_⟩
      rw [hv]
      exact q _ H2 C2 (fun b o hb n1 _ => a2 b o (s1 b o hb) n1) hw2
    | none =>
      rw [hv] at q
      refine iteT ?_
      refine @at_one _ _ _ _ _ _ (@ps_expr _ _ _ _ (@pe_bm _ _ _ _ _ _ _ _ _ _ _ _ PySem.F.plainAttrs_list PySem.F.slot_list_append PySem.F.type_list_append mt_append (pv 2) (@pa_cons _ _ _ _ _ (pv 3) pa_nil (by walk_at "u")) (by walk_at "u") (by walk_at "u") (by walk_at "u") (by walk_at "u") (by walk_at "u")) (by walk_at "u")) ⟨_, rfl, .inl ⟨rfl, _, SqL.of hw2⟩, _, rfl, nw, _, _, rfl, rfl, hw2, sl_lt (by omega), ?_⟩
      have nwt : pt ≠ nw := ne_of ht2 hw2 (by intro z; cases z)
      have nwd : d ≠ nw := ne_of hd2 hw2 (by intro z; cases z)
      have hd3 : upd H2 nw (.lst (ns ++ [.ref pt])) d = some (.dK kvs) := by rw [upd_ne nwd]; exact hd2
      refine @at_one _ _ _ _ _ _ (@ps_ret _ _ _ _ (@pe_dget1 _ _ _ _ _ _ _ (hu_of hr) (pv 1) (pv 4) ⟨rfl, rfl, rfl, rfl⟩)) ⟨_, rfl, d, rfl, .inl ⟨kvs, .inl hd3⟩, _, rfl, _, DGet.k (k := .inr (pk ws i)) hd3, ?_⟩
      rw [hv]
      refine q _ _ ⟨by rw [upd_ne (Ne.symm npw)]; exact C2.ob, by rw [upd_ne nlw]; exact C2.ls, C2.sz⟩ (fun b o hb n1 n2 => by rw [upd_ne n2]; exact a2 b o (s1 b o hb) n1) ⟨pt, hpt, upd_same, by rw [upd_ne nwt]; exact ht2⟩
/-- a row of a rule: the word at which it is refused, or the place of a goal that is nowhere -/
def rd4 (ws : List Str) (i : Nat) (g : Option Nat) : Nat ⊕ Option Nat :=
  if i < ws.length then (if pk ws i ∈ foldsW then (if i + 1 < ws.length then .inl (i + 1) else .inr g) else .inl i) else .inr g
def rd3 (kn : Str → Bool) (ws : List Str) (i : Nat) : Nat ⊕ Option Nat :=
  if pk ws i ∈ deeds then (if going (pk ws i) then (if isName (pk ws (i + 1)) = true then rd4 ws (i + 2) (if kn (pk ws (i + 1)) = true then none else some (i + 1)) else .inl (i + 1)) else rd4 ws (i + 1) none) else .inl i
def rd2 (kn : Str → Bool) (ws : List Str) (s : Str) (i : Nat) : Nat ⊕ Option Nat :=
  if eatsB s = true then (if isName (pk ws i) = true then rd3 kn ws (i + 1) else .inl i) else rd3 kn ws i
def rdRule (kn : Str → Bool) (ws : List Str) : Nat ⊕ Option Nat :=
  if pk ws 0 ∈ sorts then (if bare (pk ws 0) then rd2 kn ws (pk ws 0) 1 else if sgOk (pk ws 1) = true then rd2 kn ws (pk ws 0) 2 else .inl 1) else .inl 0
/-- what is asked of what comes out -/
def Outc (t : Adr) (Q : VK) (E : XK) (p nw : Addr) (H : Hp) (ns : List V) (row : Int) : Nat ⊕ Option Nat → Prop
  | .inl j => Nope t E (fun b => b = p ∨ b = nw) H row j
  | .inr g => ∀ r H', Kept H H' p nw → Nws H H' nw ns row g → Q (.ref r) H'
def spRdRule (t : Adr) : Sp := fun vs H Q E => ∃ (p dx lw d nw : Addr) (row : Int) (ws : List Str) (kvs : List (Key × V)) (ns : List V), vs = [.ref p, .ref d, .ref nw] ∧ Cur t H p dx lw row ws 0 ∧ H d = some (.dK kvs) ∧ H nw = some (.lst ns) ∧ ns.length ≤ 1000 ∧ lw ≠ nw ∧ Outc t Q E p nw H ns row (rdRule (knows kvs) ws)
/-- between two statements of read_rule -/
structure Mid (t : Adr) (H H' : Hp) (p dx lw d nw : Addr) (row : Int) (ws : List Str) (kvs : List (Key × V)) (ns : List V) (i : Nat) (g : Option Nat) : Prop where
  cu : Cur t H' p dx lw row ws i
  kp : Kept H H' p nw
  nw : Nws H H' nw ns row g
  di : H' d = some (.dK kvs)
theorem Mid.adv {H H1 H2 : Hp} {p dx lw d nw : Addr} {row : Int} {ws : List Str} {kvs : List (Key × V)} {ns : List V} {i j : Nat} {g : Option Nat} (M : Mid t H H1 p dx lw d nw row ws kvs ns i g) (a : Adv H1 H2 p) (C : Cur t H2 p dx lw row ws j) : Mid t H H2 p dx lw d nw row ws kvs ns j g :=
  ⟨C, M.kp.adv a, M.nw.adv M.cu a, a _ _ M.di (ne_of M.di M.cu.ob (by intro z; cases z))⟩
theorem Mid.no {E : XK} {H H1 : Hp} {p dx lw d nw : Addr} {row : Int} {ws : List Str} {kvs : List (Key × V)} {ns : List V} {i j : Nat} {g : Option Nat} (M : Mid t H H1 p dx lw d nw row ws kvs ns i g) (h : Nope t E (fun b => b = p ∨ b = nw) H row j) : Nope t E (· = p) H1 row j := by
  obtain ⟨xs, hx⟩ := M.nw.alive
  exact h.kept M.kp M.cu.ob hx
theorem ok_read_rule (T : Txt K mg t) : FnOk P w K mg base (CXE P w) 7 t.f_read_rule t.d_read_rule ["cursor", "numbers", "nowhere"] (spRdRule t) := by
  refine T.F_read_rule.okE sc_read_rule (fun vs H Q E h => ?_) (fun cdv A outer s H vs Q E hr h => ?_)
  · obtain ⟨p, dx, lw, d, nw, row, ws, kvs, ns, rfl, _⟩ := h
    rfl
  · obtain ⟨p, dx, lw, d, nw, row, ws, kvs, ns, rfl, C, hd, hw, hns, nlw, q⟩ := h
    have npd : d ≠ p := ne_of hd C.ob (by intro z; cases z)
    have npw : nw ≠ p := ne_of hw C.ob (by intro z; cases z)
    have M0 : Mid t H H p dx lw d nw row ws kvs ns 0 none := ⟨C, fun b o hb _ _ => hb, hw, hd⟩
    refine @at_cons _ _ _ _ _ _ _ (@ps_set _ _ 3 _ _ _ _ sc_read_rule.nd rfl (Or.inl rfl) (@pe_call _ _ _ _ _ _ _ _ _ _ _ _ _ _ _ _ (ok_read_pattern T) (hr.mono (by decide)) rfl T.mg_read_pattern T.F_read_pattern.kp (bd_read_pattern T) .nil passE (@pa_cons _ _ _ _ _ (pv 0) pa_nil (by walk_at "u")) (by walk_at "u") (by walk_at "u") (by walk_at "u")) (by walk_at "u") (by walk_at "u")) ⟨_, rfl, p, dx, lw, row, ws, 0, rfl, C, fun hs hg pa z H1 hp1 C1 a1 => ?_, fun hs => ?_, fun hs hb hg => ?_⟩
    rotate_left
    · rw [rdRule, if_neg hs] at q; exact M0.no q
    · rw [rdRule, if_pos hs, if_neg hb, if_neg (by rw [hg]; decide)] at q; exact M0.no q
    obtain ⟨fs, ds, PK⟩ := patE (P := P) (w := w) (base := base) T hs
    generalize hj1 : (if bare (pk ws 0) then 0 + 1 else 0 + 2) = j1 at C1
    have M1 := M0.adv a1 C1
    have q : Outc t Q E p nw H ns row (rd2 (knows kvs) ws (pk ws 0) j1) := by
      rw [rdRule, if_pos hs] at q
      by_cases hb : bare (pk ws 0)
      · rw [if_pos hb] at q hj1; rw [← hj1]; exact q
      · rw [if_neg hb, if_pos (hg hb)] at q; rw [if_neg hb] at hj1; rw [← hj1]; exact q
    clear hj1 hg C1 a1 C hd hw
    -- colour
    refine @at_consR _ _ _ _ _ _ _ (fun σ' H' => ∃ j v, σ' = [some (.ref p), some (.ref d), some (.ref nw), some (.ref pa), some v, none, none, none] ∧ Mid t H H' p dx lw d nw row ws kvs ns j none ∧ Outc t Q E p nw H ns row (rd3 (knows kvs) ws j)) (@ps_set _ _ 4 _ _ _ _ sc_read_rule.nd rfl (Or.inl rfl) (@pe_ifExp _ _ _ _ _ _ _ _ (@pt_val _ _ _ (@pe_meth0 _ _ _ _ _ _ _ _ _ _ _ _ _ _ _ _ _ (pv 3) PK.cl PK.ms PK.gs (hr.mono (by decide)) PK.bs .nil pass0 (by walk_at "u")) (by walk_at "u")) (@pe_meth0 _ _ _ _ _ _ _ _ _ _ _ _ _ _ _ _ _ (pv 0) T.cl_Cursor T.m_Cursor_take_name (ok_Cursor_take_name T) (hr.mono (by decide)) (bd_Cursor_take_name T) .nil passE (by walk_at "u")) pe_str) (by walk_at "u") (by walk_at "u")) ?_ ?_
    · obtain ⟨dpa, hpa⟩ := hp1
      refine ⟨_, rfl, pa, dpa, _, rfl, hpa, PK.ns _, _, rfl, _, rfl, ifb (fun h => ?_) (fun h => ?_)⟩
      · rw [rd2, if_pos h] at q
        refine ⟨_, rfl, p, dx, _, rfl, M1.cu.ob, rfl, p, dx, lw, row, ws, j1, rfl, M1.cu, fun hn H2 C2 a2 => ?_, fun hn => ?_⟩
        · rw [if_pos hn] at q
          exact ⟨j1 + 1, _, rfl, M1.adv a2 C2, q⟩
        · rw [if_neg (by rw [hn]; decide)] at q; exact M1.no q
      · rw [rd2, if_neg (by rw [h]; decide)] at q
        exact ⟨j1, _, rfl, M1, q⟩
    rintro σ' H2 ⟨j2, vc, rfl, M2, q⟩
    refine @at_cons _ _ _ _ _ _ _ (@ps_set _ _ 5 _ _ _ _ sc_read_rule.nd rfl (Or.inl rfl) (@pe_meth _ _ _ _ _ _ _ _ _ _ _ _ _ _ _ _ _ _ _ _ (pv 0) T.cl_Cursor T.m_Cursor_take_choice (ok_Cursor_take_choice T) (hr.mono (by decide)) (bd_Cursor_take_choice T) .nil passE (@pa_cons _ _ _ _ _ (@pe_glob _ _ (V.ref t.g_DEEDS) _ _ rfl T.mgv_DEEDS rfl (by walk_at "u")) pa_nil (by walk_at "u")) (by walk_at "u") (by walk_at "u") (by walk_at "u")) (by walk_at "u") (by walk_at "u")) ⟨_, rfl, p, dx, _, rfl, M2.cu.ob, rfl, p, dx, lw, t.g_DEEDS, deeds, row, ws, j2, rfl, M2.cu, T.tv_DEEDS _, fun hdd H3 C3 a3 => ?_, fun hdd => ?_⟩
    rotate_left
    · rw [rd3, if_neg hdd] at q; exact M2.no q
    have M3 := M2.adv a3 C3
    rw [rd3, if_pos hdd] at q
    -- goal
    refine @at_consR _ _ _ _ _ _ _ (fun σ' H' => ∃ j v g, σ' = [some (.ref p), some (.ref d), some (.ref nw), some (.ref pa), some vc, some (.str (pk ws j2)), some v, none] ∧ Mid t H H' p dx lw d nw row ws kvs ns j g ∧ Outc t Q E p nw H ns row (rd4 ws j g)) (@ps_set _ _ 6 _ _ _ _ sc_read_rule.nd rfl (Or.inl rfl) (@pe_ifExp _ _ _ _ _ _ _ _ (@pt_cmpR _ _ _ _ _ _ _ _ op_in_seq (pv 5) (@pe_glob _ _ (V.ref t.g_GOING) _ _ rfl T.mgv_GOING rfl (by walk_at "u")) rfl) (@pe_call _ _ _ _ _ _ _ _ _ _ _ _ _ _ _ _ (ok_read_goal T) (hr.mono (by decide)) rfl T.mg_read_goal T.F_read_goal.kp (bd_read_goal T) .nil passE (@pa_cons _ _ _ _ _ (pv 0) (@pa_cons _ _ _ _ _ (pv 1) (@pa_cons _ _ _ _ _ (pv 2) pa_nil (by walk_at "u")) (by walk_at "u")) (by walk_at "u")) (by walk_at "u") (by walk_at "u") (by walk_at "u")) pe_non) (by walk_at "u") (by walk_at "u")) ?_ ?_
    · refine ⟨_, rfl, _, _, rfl, .inr (T.tv_GOING _), rfl, rfl, _, rfl, ?_⟩
      rw [show ([.str "push", .str "into"] : List V) = (["push", "into"] : List Str).map V.str from rfl, inV_strs]
      refine ifd (fun h => ?_) (fun h => ?_)
      · have h : going (pk ws j2) := by simpa using h
        rw [if_pos h] at q
        refine ⟨_, rfl, _, rfl, _, rfl, p, dx, lw, d, nw, row, ws, j2 + 1, kvs, ns, rfl, M3.cu, M3.di, M3.nw, hns, nlw, fun hn v H4 C4 k4 w4 => ?_, fun hn => ?_⟩
        · rw [if_pos hn] at q
          refine ⟨j2 + 2, v, _, rfl, ⟨C4, fun b o hb n1 n2 => k4 b o (M3.kp b o hb n1 n2) n1 n2, ?_, ?_⟩, q⟩
          · revert w4
            split
            · exact fun w4 => w4
            · rintro ⟨pt, w1, w2, w3⟩
              exact ⟨pt, M3.kp.free M3.cu.ob M3.nw w1, w2, w3⟩
          · exact k4 _ _ M3.di (ne_of M3.di M3.cu.ob (by intro z; cases z)) (ne_of M3.di M3.nw (by intro z; cases z))
        · rw [if_neg (by rw [hn]; decide)] at q; exact M3.no q
      · have h : ¬ going (pk ws j2) := by simpa using h
        rw [if_neg h] at q
        exact ⟨_, _, _, rfl, M3, q⟩
    rintro σ' H4 ⟨j4, vg, g, rfl, M4, q⟩
    -- fold
    refine @at_consR _ _ _ _ _ _ _ (fun σ' H' => ∃ j v, σ' = [some (.ref p), some (.ref d), some (.ref nw), some (.ref pa), some vc, some (.str (pk ws j2)), some vg, some v] ∧ Mid t H H' p dx lw d nw row ws kvs ns j g ∧ Outc t Q E p nw H ns row (if j < ws.length then .inl j else .inr g)) (@ps_set _ _ 7 _ _ _ _ sc_read_rule.nd rfl (Or.inl rfl) (@pe_ifExp _ _ _ _ _ _ _ _ (@pt_val _ _ _ (@pe_meth0 _ _ _ _ _ _ _ _ _ _ _ _ _ _ _ _ _ (pv 0) T.cl_Cursor T.m_Cursor_more (ok_Cursor_more T) (hr.mono (by decide)) (bd_Cursor_more T) .nil pass0 (by walk_at "u")) (by walk_at "u")) (@pe_meth _ _ _ _ _ _ _ _ _ _ _ _ _ _ _ _ _ _ _ _ (pv 0) T.cl_Cursor T.m_Cursor_take_choice (ok_Cursor_take_choice T) (hr.mono (by decide)) (bd_Cursor_take_choice T) .nil passE (@pa_cons _ _ _ _ _ (@pe_glob _ _ (V.ref t.g_FOLDS) _ _ rfl T.mgv_FOLDS rfl (by walk_at "u")) pa_nil (by walk_at "u")) (by walk_at "u") (by walk_at "u") (by walk_at "u")) pe_str) (by walk_at "u") (by walk_at "u")) ?_ ?_
    · refine ⟨_, rfl, p, dx, _, rfl, M4.cu.ob, rfl, p, dx, lw, row, ws, j4, rfl, M4.cu, _, rfl, ifd (fun h => ?_) (fun h => ?_)⟩
      · rw [rd4, if_pos h] at q
        refine ⟨_, rfl, p, dx, _, rfl, M4.cu.ob, rfl, p, dx, lw, t.g_FOLDS, foldsW, row, ws, j4, rfl, M4.cu, T.tv_FOLDS _, fun hf H5 C5 a5 => ?_, fun hf => ?_⟩
        · rw [if_pos hf] at q
          exact ⟨_, _, rfl, M4.adv a5 C5, q⟩
        · rw [if_neg hf] at q; exact M4.no q
      · rw [rd4, if_neg h] at q
        exact ⟨_, _, rfl, M4, by rw [if_neg h]; exact q⟩
    rintro σ' H5 ⟨j5, vf, rfl, M5, q⟩
    refine @at_cons _ _ _ _ _ _ _ (@ps_expr _ _ _ _ (@pe_meth _ _ _ _ _ _ _ _ _ _ _ _ _ _ _ _ _ _ _ _ (pv 0) T.cl_Cursor T.m_Cursor_ask (ok_Cursor_ask T) (hr.mono (by decide)) (bd_Cursor_ask T) .nil passE (@pa_cons _ _ _ _ _ (@pe_not _ _ _ _ (@pe_meth0 _ _ _ _ _ _ _ _ _ _ _ _ _ _ _ _ _ (pv 0) T.cl_Cursor T.m_Cursor_more (ok_Cursor_more T) (hr.mono (by decide)) (bd_Cursor_more T) .nil pass0 (by walk_at "u"))) pa_nil (by walk_at "u")) (by walk_at "u") (by walk_at "u") (by walk_at "u")) (by walk_at "u")) ⟨_, rfl, p, dx, _, rfl, M5.cu.ob, rfl, ⟨_, rfl, p, dx, _, rfl, M5.cu.ob, rfl, p, dx, lw, row, ws, j5, rfl, M5.cu, _, rfl, ?_⟩⟩
    refine ⟨p, dx, lw, row, ws, j5, _, rfl, M5.cu, fun hb => ?_, fun hb => ?_⟩
    · have hb : ¬ j5 < ws.length := by simpa using hb
      rw [if_neg hb] at q
      refine @at_one _ _ _ _ _ _ (@ps_ret _ _ _ _ (@pe_make _ _ _ _ _ _ _ _ _ _ _ _ _ _ _ _ _ T.mk_Rule (ok_Rule___init__ T) (hr.mono (by decide)) rfl T.mgc_Rule (bd_Rule___init__ T) .nil pass0 (@pa_cons _ _ _ _ _ (pv 3) (@pa_cons _ _ _ _ _ (pv 4) (@pa_cons _ _ _ _ _ (pv 5) (@pa_cons _ _ _ _ _ (pv 6) (@pa_cons _ _ _ _ _ (pv 7) pa_nil (by walk_at "u")) (by walk_at "u")) (by walk_at "u")) (by walk_at "u")) (by walk_at "u")) (by walk_at "u") (by walk_at "u") (by walk_at "u"))) ⟨_, rfl, _, rfl, _, rfl, _, rfl, _, rfl, fun x dx' nx ndx ne => ⟨x, dx', _, _, _, _, _, rfl, upd_same, fun o => ⟨rfl, ?_⟩⟩⟩
      exact q x _ (fun b o hb n1 n2 => mk_same nx ndx _ _ (M5.kp b o hb n1 n2)) (M5.nw.same (mk_same nx ndx))
    · have hb : j5 < ws.length := by simpa using hb
      rw [if_pos hb] at q
      exact M5.no q
end
section
variable {P : Program} {w : World} {K : PySem.W.Frag} {mg : Str → Option Value} {base : Heap} {t : Adr}
structure GoodWord (x : Str) : Prop where
  b : 32 ∉ x.cps.toList
  n : 10 ∉ x.cps.toList
  l : x.length ≤ 202
theorem len_cps (x : Str) : x.cps.toList.length = x.length := by simp [Str.length]
theorem mem_joinL {c d : Nat} (hcd : d ≠ c) : ∀ {ps : List (List Nat)}, (∀ p ∈ ps, d ∉ p) → d ∉ joinL c ps
  | [], _, z => by cases z
  | [x], h, z => h x (by simp) z
  | x :: y :: r, h, z => by
    unfold joinL at z
    rcases List.mem_append.mp z with z | z
    · exact h x (by simp) z
    · rcases List.mem_cons.mp z with z | z
      · exact hcd z
      · exact mem_joinL hcd (fun p hp => h p (List.mem_cons_of_mem _ hp)) z
theorem len_joinL {c m : Nat} : ∀ {ps : List (List Nat)}, (∀ p ∈ ps, p.length ≤ m) → (joinL c ps).length ≤ ps.length * (m + 1)
  | [], _ => by simp [joinL]
  | [x], h => by have := h x (by simp); simp [joinL]; omega
  | x :: y :: r, h => by
    have h1 := h x (by simp)
    have h2 := len_joinL (c := c) (ps := y :: r) (fun p hp => h p (List.mem_cons_of_mem _ hp))
    unfold joinL
    rw [List.length_append, List.length_cons, List.length_cons, Nat.succ_mul]
    omega
theorem snoc_get {α : Type} {as : List α} {a x : α} {i : Nat} (h : (as ++ [a])[i]? = some x) : as[i]? = some x ∨ (i = as.length ∧ x = a) := by
  by_cases hi : i < as.length
  · rw [List.getElem?_append_left hi] at h; exact .inl h
  · rw [List.getElem?_append_right (by omega)] at h
    have : i - as.length = 0 := by
      cases e : i - as.length with
      | zero => rfl
      | succ n => rw [e] at h; simp at h
    rw [this] at h
    simp at h
    exact .inr ⟨by omega, h.symm⟩
theorem take_snoc {α : Type} {l : List α} {i : Nat} {x : α} (h : l[i]? = some x) : l.take (i + 1) = l.take i ++ [x] := by rw [List.take_succ, h]; rfl
structure WokR (ws : List Str) : Prop where
  ne : ws ≠ []
  gw : ∀ x ∈ ws, GoodWord x
  len : ws.length ≤ 20
structure WokT (wss : List (List Str)) : Prop where
  ne : wss ≠ []
  rw_ : ∀ ws ∈ wss, WokR ws
  len : wss.length ≤ 200
def rowT (ws : List Str) : Str := Str.join ⟨#[32]⟩ ws
def rowsT (wss : List (List Str)) : List Str := wss.map rowT
theorem row_good {ws : List Str} (G : WokR ws) : 10 ∉ (rowT ws).cps.toList ∧ (rowT ws).length ≤ 4060 ∧ PySem.Txt.split (rowT ws) ⟨#[32]⟩ = ws := by
  refine ⟨?_, ?_, split_join G.ne fun p hp => (G.gw p hp).b⟩
  · unfold rowT
    rw [join_cps]
    refine mem_joinL (by decide) fun p hp => ?_
    obtain ⟨x, hx, rfl⟩ := List.mem_map.mp hp
    exact (G.gw x hx).n
  · have h4 := len_joinL (c := 32) (m := 202) (ps := ws.map fun p => p.cps.toList) (fun p hp => by
      obtain ⟨x, hx, rfl⟩ := List.mem_map.mp hp
      rw [len_cps]; exact (G.gw x hx).l)
    have := G.len
    rw [← join_cps, len_cps, List.length_map] at h4
    unfold rowT
    omega
theorem rows_at {wss : List (List Str)} {i : Nat} {x : Str} (h : (rowsT wss)[i]? = some x) : ∃ ws, wss[i]? = some ws ∧ x = rowT ws := by
  unfold rowsT at h
  rw [List.getElem?_map] at h
  obtain ⟨ws, h1, h2⟩ := Option.map_eq_some_iff.mp h
  exact ⟨ws, h1, h2.symm⟩
theorem rows_split {wss : List (List Str)} (G : WokT wss) : PySem.Txt.split (Str.join ⟨#[10]⟩ (rowsT wss)) ⟨#[10]⟩ = rowsT wss := by
  refine split_join (by unfold rowsT; simpa using G.ne) fun p hp => ?_
  obtain ⟨ws, h1, rfl⟩ := List.mem_map.mp hp
  exact (row_good (G.rw_ ws h1)).1
theorem text_len {wss : List (List Str)} (G : WokT wss) : (Str.join ⟨#[10]⟩ (rowsT wss)).length ≤ 900000 := by
  have h4 := len_joinL (c := 10) (m := 4060) (ps := (rowsT wss).map fun p => p.cps.toList) (fun p hp => by
    obtain ⟨x, hx, rfl⟩ := List.mem_map.mp hp
    obtain ⟨ws, h1, rfl⟩ := List.mem_map.mp hx
    rw [len_cps]; exact (row_good (G.rw_ ws h1)).2.1)
  have := G.len
  rw [← join_cps, len_cps, List.length_map, rowsT, List.length_map] at h4
  unfold rowsT
  omega
def nameT (ws : List Str) : List Str := if pk ws 0 = "mode" ∧ 1 < ws.length then [pk ws 1] else []
def knownN (wss : List (List Str)) : List Str := wss.flatMap nameT
theorem knownN_snoc {wss : List (List Str)} {i : Nat} {ws : List Str} (h : wss[i]? = some ws) : knownN (wss.take (i + 1)) = knownN (wss.take i) ++ nameT ws := by
  unfold knownN
  rw [take_snoc h, List.flatMap_append]
  simp
def NumsT (wss : List (List Str)) (kvs : List (Key × V)) : Prop := ∀ x, knows kvs x = decide (x ∈ knownN wss)
def spNums : Sp := fun vs H Q _ => ∃ (a : Addr) (wss : List (List Str)), vs = [.ref a] ∧ H a = some (.lst ((rowsT wss).map V.str)) ∧ WokT wss ∧
  ∀ d kvs H', H' d = some (.dK kvs) → NumsT wss kvs → Same H H' → Q (.ref d) H'
theorem putK_len (kvs : List (Key × V)) (k : Key) (v : V) : (putK kvs k v).length ≤ kvs.length + 1 := by
  unfold putK
  split
  · simp
  · simp
theorem ok_mode_numbers (T : Txt K mg t) : FnOk P w K mg base CX0 1 t.f_mode_numbers t.d_mode_numbers ["rows"] spNums := by
  refine T.F_mode_numbers.ok sc_mode_numbers (fun vs H Q E h => ?_) (fun cdv A outer s H vs Q E hr h => at_body ?_)
  · obtain ⟨a, wss, rfl, _⟩ := h
    rfl
  · obtain ⟨a, wss, rfl, ha, G, q⟩ := h
    have hlen := G.len
    have sp1 : (" " : Str) = ⟨#[32]⟩ := by decide +kernel
    refine @at_cons _ _ _ _ _ _ _ (@ps_set _ _ 1 _ _ _ _ sc_mode_numbers.nd rfl (Or.inl rfl) pe_dnewK (by walk_at "u") (by walk_at "u")) fun d hd => ?_
    refine @at_consR _ _ _ _ _ _ _ (fun σ' H' => ∃ x y kvs, σ' = [some (.ref a), some (.ref d), x, y] ∧ H' d = some (.dK kvs) ∧ NumsT wss kvs ∧ Same H H') (@ps_forA _ _ _ _ _ _ _ _ PassesOwn.never rfl (@pi_list _ _ _ _ (pv 0)) (@pg_name _ _ 2 _ sc_mode_numbers.nd rfl (Or.inl rfl) (by walk_at "u")) pss_at (by walk_at "u")) ?_ ?_
    · refine ⟨_, rfl, a, rfl, ⟨_, SqL.of (by rw [upd_ne (ne_of_none ha hd)]; exact ha)⟩, forW_list (xs := (rowsT wss).map V.str) (fun i σ' H' => ∃ x y kvs, σ' = [some (.ref a), some (.ref d), x, y] ∧ H' d = some (.dK kvs) ∧ NumsT (wss.take i) kvs ∧ kvs.length ≤ i ∧ Same H H') ⟨_, _, [], rfl, upd_same, fun x => by simp [knows, knownN, valV], Nat.le_refl _, Same.upd hd⟩ ?_ ?_ ?_⟩
      · rintro i σ' H' _ ⟨x, y, kvs, rfl, h1, h2, h4, h3⟩
        exact SqL.of (h3 _ _ ha)
      · rintro i xv σ' H1 hx ⟨x, y, kvs, rfl, h1, h2, h4, s1⟩
        rw [List.getElem?_map] at hx
        obtain ⟨row, hrow, rfl⟩ := Option.map_eq_some_iff.mp hx
        obtain ⟨ws, hit, rfl⟩ := rows_at hrow
        have Gr := G.rw_ ws (List.mem_of_getElem? hit)
        obtain ⟨g1, g2, g3⟩ := row_good Gr
        have hi : i < wss.length := (List.getElem?_eq_some_iff.mp hit).1
        refine @at_cons _ _ _ _ _ _ _ (@ps_set _ _ 3 _ _ _ _ sc_mode_numbers.nd rfl (Or.inl rfl) (@pe_bm _ _ _ _ _ _ _ _ _ _ _ _ PySem.F.plainAttrs_str PySem.F.slot_str_split PySem.F.type_str_split mt_split (pv 2) (@pa_cons _ _ _ _ _ pe_str pa_nil (by walk_at "u")) (by walk_at "u") (by walk_at "u") (by walk_at "u") (by walk_at "u") (by walk_at "u")) (by walk_at "u") (by walk_at "u")) ⟨_, rfl, rfl, _, _, rfl, rfl, by decide, sl_le (by omega), fun lw hlw => ?_⟩
        rw [sp1, g3]
        have s2 : Same H1 (upd H1 lw (.lst (ws.map V.str))) := Same.upd hlw
        have hw : upd H1 lw (.lst (ws.map V.str)) lw = some (.lst (ws.map V.str)) := upd_same
        have hd2 := s2 _ _ h1
        generalize upd H1 lw (.lst (ws.map V.str)) = H2 at s2 hw hd2
        have h0 : 0 < ws.length := List.length_pos_iff.mpr Gr.ne
        have e0 : (ws.map V.str)[0]? = some (.str (pk ws 0)) := by rw [List.getElem?_map, List.getElem?_eq_getElem h0, pk_lt h0]; rfl
        refine @at_one _ _ _ _ _ _ (@ps_if _ _ _ _ _ _ _ _ (@PW.pt _ _ _ (@pw_and _ _ _ _ _ _ _ (@pt_cmpR _ _ _ _ _ _ _ _ op_eq (@pe_ix _ _ _ _ _ _ _ ix_list (pv 3) pe_int (fun _ _ => rfl)) pe_str (nomark _)) (@pw_and1 _ _ _ _ (@pt_cmpR _ _ _ _ _ _ _ _ op_gt (@pe_callB _ _ _ _ _ _ _ _ _ call_len_seq (by rfl) T.z_len (by decide +kernel) (@pa_cons _ _ _ _ _ (pv 3) pa_nil (by walk_at "u")) (by walk_at "u") (by walk_at "u") (by walk_at "u") (by walk_at "u")) pe_int (nomark _))))) pss_at pss_at) ⟨_, rfl, _, _, _, _, rfl, rfl, SqL.of hw, atI_nat (j := 0) e0, rfl, _, rfl, ifd (fun hm => ?_) (fun hm => at_nil ?_)⟩
        · have hm := V.str.inj hm
          refine ⟨_, rfl, _, _, rfl, .inl (SqL.of hw), _, _, rfl, rfl, _, rfl, ifd (fun h5 => ?_) (fun h5 => at_nil ?_)⟩
          · rw [List.length_map] at h5
            have h5 : 1 < ws.length := by omega
            have e1 : (ws.map V.str)[1]? = some (.str (pk ws 1)) := by rw [List.getElem?_map, List.getElem?_eq_getElem h5, pk_lt h5]; rfl
            refine @at_one _ _ _ _ _ _ (@ps_dput _ _ _ _ _ _ _ _ _ (hu_of hr) (pv 1) (@pe_ix _ _ _ _ _ _ _ ix_list (pv 3) pe_int (fun _ _ => rfl)) (@pe_callB _ _ _ _ _ _ _ _ _ call_lenD (by rfl) T.z_len (by decide +kernel) (@pa_cons _ _ _ _ _ (pv 1) pa_nil (by walk_at "u")) (by walk_at "u") (by walk_at "u") (by walk_at "u") (by walk_at "u")) rfl) ⟨_, rfl, d, kvs, rfl, hd2, _, rfl, _, rfl, _, _, _, _, rfl, rfl, SqL.of hw, atI_nat (j := 1) e1, d, _, rfl, DPut.k (k := .inr (pk ws 1)) hd2 (sl_lt (by omega)), ?_⟩
            refine ⟨_, _, _, rfl, upd_same, fun x => ?_, Nat.le_trans (putK_len _ _ _) (by omega), fun b o hb => ?_⟩
            · rw [knownN_snoc hit, nameT, if_pos ⟨hm, h5⟩, knows, valV_put]
              by_cases e : x = pk ws 1
              · rw [if_pos (by rw [e]), decide_eq_true (by rw [e]; simp)]; rfl
              · rw [if_neg (fun z => e (Sum.inr.inj z))]
                have := h2 x
                rw [knows] at this
                rw [this]
                simp [e]
            · rw [upd_ne (ne_of_none hb hd)]; exact s2 _ _ (s1 _ _ hb)
          · rw [List.length_map] at h5
            refine ⟨_, _, kvs, rfl, hd2, ?_, by omega, s1.trans s2⟩
            intro x
            rw [knownN_snoc hit, nameT, if_neg (fun z => h5 (by have := z.2; omega)), List.append_nil]
            exact h2 x
        · refine ⟨_, _, kvs, rfl, hd2, ?_, by omega, s1.trans s2⟩
          intro x
          rw [knownN_snoc hit, nameT, if_neg (fun z => hm (by rw [z.1])), List.append_nil]
          exact h2 x
      · rintro σ' H' ⟨x, y, kvs, rfl, h1, h2, h4, h3⟩
        refine ⟨x, y, kvs, rfl, h1, ?_, h3⟩
        rw [List.length_map, rowsT, List.length_map, List.take_length] at h2
        exact h2
    rintro σ' H' ⟨x, y, kvs, rfl, h1, h2, h3⟩
    exact @at_one _ _ _ _ _ _ (@ps_ret _ _ _ _ (pv 1)) ⟨_, rfl, q d kvs H' h1 h2 h3⟩
end
section
variable {P : Program} {w : World} {K : PySem.W.Frag} {mg : Str → Option Value} {base : Heap} {t : Adr}
def MNames (t : Adr) (H : Hp) (as : List Addr) (names : List Str) : Prop := as.length = names.length ∧ ∀ (i : Nat) a n, as[i]? = some a → names[i]? = some n → ∃ dx c l, H a = some (.ins t.c_Mode dx (mf n c l))
theorem mode_ne {H : Hp} {m dm l p dx lw : Addr} {n c : Str} {row : Int} {ws : List Str} {i : Nat} (h : H m = some (.ins t.c_Mode dm (mf n c l))) (C : Cur t H p dx lw row ws i) : m ≠ p := ne_of h C.ob fun q => by
  injection q with _ _ q
  unfold mf cf at q
  simp at q
def rdMode (names ws : List Str) : Option Nat :=
  if names.length < 12 ∧ pk ws 0 = "mode" then (if pk ws 1 ∈ names then some 1 else if isName (pk ws 1) = true then (if isName (pk ws 2) = true then (if 3 < ws.length then some 3 else none) else some 2) else some 1) else some 0
def spRdMode (t : Adr) : Sp := fun vs H Q E => ∃ (p dx lw lm : Addr) (row : Int) (ws : List Str) (as : List Addr) (names : List Str), vs = [.ref p, .ref lm] ∧ Cur t H p dx lw row ws 0 ∧ H lm = some (.lst (as.map V.ref)) ∧ MNames t H as names ∧ names.length ≤ 100 ∧
  (rdMode names ws = none → ∀ m l2 dm c H', H' m = some (.ins t.c_Mode dm (mf (pk ws 1) c l2)) → H' l2 = some (.lst []) → H l2 = none → Adv H H' p → Q (.ref m) H') ∧ (∀ j, rdMode names ws = some j → Nope t E (· = p) H row j)
theorem ok_read_mode (T : Txt K mg t) : FnOk P w K mg base (CXE P w) 7 t.f_read_mode t.d_read_mode ["cursor", "modes"] (spRdMode t) := by
  refine T.F_read_mode.okE sc_read_mode (fun vs H Q E h => ?_) (fun cdv A outer s H vs Q E hr h => ?_)
  · obtain ⟨p, dx, lw, lm, row, ws, as, names, rfl, _⟩ := h
    rfl
  · obtain ⟨p, dx, lw, lm, row, ws, as, names, rfl, C, hlm, hM, hl12, q, qe⟩ := h
    have nlp : lm ≠ p := ne_of hlm C.ob (by intro z; cases z)
    have hle := hM.1
    refine @at_cons _ _ _ _ _ _ _ (@ps_expr _ _ _ _ (@pe_meth _ _ _ _ _ _ _ _ _ _ _ _ _ _ _ _ _ _ _ _ (pv 0) T.cl_Cursor T.m_Cursor_ask (ok_Cursor_ask T) (hr.mono (by decide)) (bd_Cursor_ask T) .nil passE (@pa_cons _ _ _ _ _ (@pe_cmpR _ _ _ _ _ _ _ _ op_lt (@pe_callB _ _ _ _ _ _ _ _ _ call_len_seq (by rfl) T.z_len (by decide +kernel) (@pa_cons _ _ _ _ _ (pv 1) pa_nil (by walk_at "u")) (by walk_at "u") (by walk_at "u") (by walk_at "u") (by walk_at "u")) (@pe_globE _ _ _ _ rfl T.mgv_MOST_MODES (by walk_at "u")) (nomark _)) pa_nil (by walk_at "u")) (by walk_at "u") (by walk_at "u") (by walk_at "u")) (by walk_at "u")) ⟨_, rfl, p, dx, _, rfl, C.ob, rfl, _, rfl, _, _, rfl, .inl (SqL.of hlm), _, _, rfl, rfl, ?_⟩
    refine ⟨p, dx, lw, row, ws, 0, _, rfl, C, fun hb => ?_, fun hb => qe 0 (by
      have := of_decide_eq_false hb
      rw [List.length_map] at this
      rw [rdMode, if_neg (fun z => by have := z.1; omega)])⟩
    have hb : names.length < 12 := by
      have := of_decide_eq_true hb
      rw [List.length_map] at this
      omega
    refine @at_cons _ _ _ _ _ _ _ (@ps_expr _ _ _ _ (@pe_meth _ _ _ _ _ _ _ _ _ _ _ _ _ _ _ _ _ _ _ _ (pv 0) T.cl_Cursor T.m_Cursor_take_choice (ok_Cursor_take_choice T) (hr.mono (by decide)) (bd_Cursor_take_choice T) .nil passE (@pa_cons _ _ _ _ _ (@pe_tup _ _ _ _ _ (@pa_cons _ _ _ _ _ pe_str pa_nil (by walk_at "u"))) pa_nil (by walk_at "u")) (by walk_at "u") (by walk_at "u") (by walk_at "u")) (by walk_at "u")) ⟨_, rfl, p, dx, _, rfl, C.ob, rfl, by show 1 ≤ sizeLine; decide, fun pt hpt => ?_⟩
    have s1 : Same H (upd H pt (.tup [.str "mode"])) := Same.upd hpt
    have C1 := C.same s1
    refine ⟨p, dx, lw, pt, ["mode"], row, _, 0, rfl, C1, SqT.of upd_same, fun hmo H2 C2 a2 => ?_, fun hmo => (qe 0 (by rw [rdMode, if_neg (fun z => hmo (by rw [z.2]; simp))])).mono (fun b o hb nb => ⟨s1 b o hb, nb⟩) fun b hb => s1.free hb⟩
    have hmo : pk ws 0 = "mode" := List.mem_singleton.mp hmo
    rw [rdMode, if_pos ⟨hb, hmo⟩] at q qe
    have a2 := s1.adv a2
    have hlm2 : H2 lm = some (.lst (as.map V.ref)) := a2 _ _ hlm nlp
    refine @at_cons _ _ _ _ _ _ _ (@ps_expr _ _ _ _ (@pe_meth _ _ _ _ _ _ _ _ _ _ _ _ _ _ _ _ _ _ _ _ (pv 0) T.cl_Cursor T.m_Cursor_ask (ok_Cursor_ask T) (hr.mono (by decide)) (bd_Cursor_ask T) .nil passE (@pa_cons _ _ _ _ _ (@pe_cmpR _ _ _ _ _ _ _ _ op_notIn_seq (@pe_meth0 _ _ _ _ _ _ _ _ _ _ _ _ _ _ _ _ _ (pv 0) T.cl_Cursor T.m_Cursor_peek (ok_Cursor_peek T) (hr.mono (by decide)) (bd_Cursor_peek T) .nil pass0 (by walk_at "u")) (@pe_comp _ (defScope s_read_mode) _ ["cursor", "modes", "name", "colour"] _ _ ("mode") _ _ [] _ _ (by walk_at "ck") (@pi_list _ _ _ _ (pv 1)) (fun _ _ _ _ => by exact (@pe_fldK _ K _ _ _ _ (pv 0) rfl (by walk_at "u"))) (by walk_at "u") (by walk_at "u") (by walk_at "u") (by walk_at "u")) rfl) pa_nil (by walk_at "u")) (by walk_at "u") (by walk_at "u") (by walk_at "u")) (by walk_at "u")) ?_
    refine ⟨_, rfl, p, dx, _, rfl, C2.ob, rfl, ⟨_, rfl, p, dx, _, rfl, C2.ob, rfl, p, dx, lw, row, _, 0 + 1, rfl, C2, ?_⟩⟩
    refine ⟨_, rfl, lm, rfl, ⟨_, SqL.of hlm2⟩, comp_list (xs := as.map V.ref) (fun i ys H' => H' = H2 ∧ ys = (names.take i).map V.str) ⟨rfl, rfl⟩ (sl_lt (by rw [List.length_map, hle]; omega)) ?_ ?_ ?_⟩
    · rintro i ys H' _ ⟨rfl, _⟩
      exact SqL.of hlm2
    · rintro i xv ys H' hx hyl ⟨rfl, rfl⟩
      rw [List.getElem?_map] at hx
      obtain ⟨a, ha, rfl⟩ := Option.map_eq_some_iff.mp hx
      have hi : i < as.length := (List.getElem?_eq_some_iff.mp ha).1
      obtain ⟨n, hn⟩ : ∃ n, names[i]? = some n := ⟨names[i]'(by omega), List.getElem?_eq_getElem _⟩
      obtain ⟨dm, c, l, o1⟩ := hM.2 i a n ha hn
      refine ⟨_, rfl, a, t.c_Mode, dm, _, _, rfl, a2 _ _ o1 (mode_ne o1 C), T.cl_Mode, T.n_Mode_name, rfl, ?_⟩
      refine comp_turn (by rw [List.length_map]; exact hi) hyl ⟨rfl, ?_⟩
      rw [take_snoc (l := names) hn, List.map_append]
      rfl
    · rintro ys H' hyl ⟨rfl, rfl⟩ D hD
      have hall : names.take (as.map V.ref).length = names := List.take_of_length_le (by rw [List.length_map, hle]; omega)
      rw [hall]
      have s3 : Same H' (upd H' D (.lst (names.map V.str))) := Same.upd hD
      have C3 := C2.same s3
      refine ⟨D, _, rfl, .inl (SqL.of upd_same), rfl, flat_strs, ?_⟩
      rw [if_pos rfl, inV_strs]
      have a3 := a2.same s3
      refine ⟨p, dx, lw, row, ws, 0 + 1, _, rfl, C3, fun hx => ?_, fun hx => ?_⟩
      rotate_left
      · exact (qe 1 (by rw [if_pos (by simpa using hx)])).adv a3 C3
      have hx : pk ws 1 ∉ names := by simpa using hx
      rw [if_neg hx] at q qe
      refine @at_cons _ _ _ _ _ _ _ (@ps_set _ _ 2 _ _ _ _ sc_read_mode.nd rfl (Or.inl rfl) (@pe_meth0 _ _ _ _ _ _ _ _ _ _ _ _ _ _ _ _ _ (pv 0) T.cl_Cursor T.m_Cursor_take_name (ok_Cursor_take_name T) (hr.mono (by decide)) (bd_Cursor_take_name T) .nil passE (by walk_at "u")) (by walk_at "u") (by walk_at "u")) ⟨_, rfl, p, dx, _, rfl, C3.ob, rfl, p, dx, lw, row, _, 0 + 1, rfl, C3, fun hn H4 C4 a4 => ?_, fun hn => (qe 1 (by rw [if_neg (by rw [show pk ws 1 = pk ws (0 + 1) from rfl, hn]; decide)])).adv a3 C3⟩
      rw [if_pos hn] at q qe
      have a4 := a3.trans a4
      refine @at_cons _ _ _ _ _ _ _ (@ps_set _ _ 3 _ _ _ _ sc_read_mode.nd rfl (Or.inl rfl) (@pe_meth0 _ _ _ _ _ _ _ _ _ _ _ _ _ _ _ _ _ (pv 0) T.cl_Cursor T.m_Cursor_take_name (ok_Cursor_take_name T) (hr.mono (by decide)) (bd_Cursor_take_name T) .nil passE (by walk_at "u")) (by walk_at "u") (by walk_at "u")) ⟨_, rfl, p, dx, _, rfl, C4.ob, rfl, p, dx, lw, row, _, 0 + 1 + 1, rfl, C4, fun hc H5 C5 a5 => ?_, fun hn => (qe 2 (by rw [if_neg (by rw [show pk ws 2 = pk ws (0 + 1 + 1) from rfl, hn]; decide)])).adv a4 C4⟩
      rw [if_pos hc] at q qe
      have a5 := a4.trans a5
      refine @at_cons _ _ _ _ _ _ _ (@ps_expr _ _ _ _ (@pe_meth _ _ _ _ _ _ _ _ _ _ _ _ _ _ _ _ _ _ _ _ (pv 0) T.cl_Cursor T.m_Cursor_ask (ok_Cursor_ask T) (hr.mono (by decide)) (bd_Cursor_ask T) .nil passE (@pa_cons _ _ _ _ _ (@pe_not _ _ _ _ (@pe_meth0 _ _ _ _ _ _ _ _ _ _ _ _ _ _ _ _ _ (pv 0) T.cl_Cursor T.m_Cursor_more (ok_Cursor_more T) (hr.mono (by decide)) (bd_Cursor_more T) .nil pass0 (by walk_at "u"))) pa_nil (by walk_at "u")) (by walk_at "u") (by walk_at "u") (by walk_at "u")) (by walk_at "u")) ⟨_, rfl, p, dx, _, rfl, C5.ob, rfl, ⟨_, rfl, p, dx, _, rfl, C5.ob, rfl, p, dx, lw, row, _, 0 + 1 + 1 + 1, rfl, C5, _, rfl, ?_⟩⟩
      refine ⟨p, dx, lw, row, ws, 0 + 1 + 1 + 1, _, rfl, C5, fun hz => ?_, fun hz => (qe 3 (by rw [if_pos (by simpa using hz)])).adv a5 C5⟩
      have q := q (by rw [if_neg (by simpa using hz)])
      refine @at_one _ _ _ _ _ _ (@ps_ret _ _ _ _ (@pe_make _ _ _ _ _ _ _ _ _ _ _ _ _ _ _ _ _ T.mk_Mode (ok_Mode___init__ T) (hr.mono (by decide)) rfl T.mgc_Mode (bd_Mode___init__ T) .nil pass0 (@pa_cons _ _ _ _ _ (pv 2) (@pa_cons _ _ _ _ _ (pv 3) (@pa_cons _ _ _ _ _ (@pe_lst _ _ _ _ pa_nil) pa_nil (by walk_at "u")) (by walk_at "u")) (by walk_at "u")) (by walk_at "u") (by walk_at "u") (by walk_at "u"))) ⟨_, rfl, _, rfl, by show 0 ≤ sizeLine; decide, fun l1 hl1 => ?_⟩
      intro x dm nx ndm ne
      have nl1 : l1 ≠ x := ne_of_none upd_same nx
      have nl2 : l1 ≠ dm := ne_of_none upd_same ndm
      refine ⟨x, dm, l1, _, _, [], rfl, upd_same, by rw [upd_ne nl1, upd_ne nl2]; exact upd_same, fun l2 H6 h1 h2 h3 h4 => ⟨rfl, ?_⟩⟩
      have key : ∀ b o, H5 b = some o → b ≠ x ∧ b ≠ dm ∧ b ≠ l1 := fun b o hb => by
        have e1 : b ≠ l1 := ne_of_none hb hl1
        have hb' : upd H5 l1 (.lst []) b = some o := by rw [upd_ne e1]; exact hb
        exact ⟨ne_of_none hb' nx, ne_of_none hb' ndm, e1⟩
      have hadv : ∀ b o, H5 b = some o → H6 b = some o := fun b o hb => by
        obtain ⟨k1, k2, k3⟩ := key b o hb
        refine h4 b o ?_ k1
        rw [upd_ne k1, upd_ne k2, upd_ne k3]; exact hb
      refine q x l2 dm _ H6 h2 h3 ?_ fun b o hb nb => hadv b o (a5 b o hb nb)
      cases e : H l2 with
      | none => rfl
      | some o =>
        by_cases z : l2 = p
        · have h5 := hadv p _ C5.ob
          rw [z, h5] at h3
          cases h3
        · have h5 := a5 _ _ e z
          obtain ⟨k1, k2, k3⟩ := key _ _ h5
          rw [upd_ne k1, upd_ne k2, upd_ne k3, h5] at h1
          cases h1
end
section
variable {P : Program} {w : World} {K : PySem.W.Frag} {mg : Str → Option Value} {base : Heap} {t : Adr}
structure RdSt where
  names : List Str
  cnt : Nat
  nws : List (Nat × Nat)
def gone1 (i : Nat) : Option Nat → List (Nat × Nat)
  | none => []
  | some j => [(i, j)]
def stepT (kn : Str → Bool) (i : Nat) (st : RdSt) (ws : List Str) : Nat ⊕ RdSt :=
  if st.names = [] ∨ pk ws 0 = "mode" then (match rdMode st.names ws with | some j => .inl j | none => .inr ⟨st.names ++ [pk ws 1], 0, st.nws⟩)
  else if st.cnt < 12 then (match rdRule kn ws with | .inl j => .inl j | .inr g => .inr ⟨st.names, st.cnt + 1, st.nws ++ gone1 i g⟩) else .inl 0
def readT (kn : Str → Bool) : Nat → RdSt → List (List Str) → Option (Nat × Nat)
  | _, st, [] => st.nws.head?
  | i, st, ws :: r => match stepT kn i st ws with
    | .inl j => some (i, j)
    | .inr st' => readT kn (i + 1) st' r
def readP (wss : List (List Str)) : Option (Nat × Nat) := readT (fun x => decide (x ∈ knownN wss)) 0 ⟨[], 0, []⟩ wss
theorem readT_at {kn : Str → Bool} {i : Nat} {st : RdSt} {wss : List (List Str)} {ws : List Str} (h : wss[i]? = some ws) : readT kn i st (wss.drop i) = match stepT kn i st ws with | .inl j => some (i, j) | .inr st' => readT kn (i + 1) st' (wss.drop (i + 1)) := by
  obtain ⟨hi, e⟩ := List.getElem?_eq_some_iff.mp h
  rw [List.drop_eq_getElem_cons hi, e]
  rfl
/-- what is asked of a text read -/
def OutT (t : Adr) (Q : VK) (E : XK) (H : Hp) : Option (Nat × Nat) → Prop
  | none => ∀ v H', Same H H' → Q v H'
  | some (i, j) => Nope t E (fun _ => False) H i j
def spRead (t : Adr) : Sp := fun vs H Q E => ∃ (wss : List (List Str)), vs = [.str (Str.join ⟨#[10]⟩ (rowsT wss))] ∧ WokT wss ∧ OutT t Q E H (readP wss)
theorem Adv.fresh {H H1 H2 : Hp} {p : Addr} (s : Same H H1) (h : H p = none) (a : Adv H1 H2 p) : Same H H2 := fun b o hb => a b o (s b o hb) (ne_of_none hb h)
theorem MNames.same {H H' : Hp} {as : List Addr} {names : List Str} (h : MNames t H as names) (s : Same H H') : MNames t H' as names := ⟨h.1, fun i a n h1 h2 => let ⟨dx, c, l, x⟩ := h.2 i a n h1 h2; ⟨dx, c, l, s _ _ x⟩⟩
theorem MNames.updL {H : Hp} {as : List Addr} {names : List Str} {l : Addr} {xs : List V} {o : HO} (h : MNames t H as names) (hl : H l = some (.lst xs)) : MNames t (upd H l o) as names := ⟨h.1, fun i a n h1 h2 => let ⟨dx, c, l', x⟩ := h.2 i a n h1 h2; ⟨dx, c, l', by rw [upd_ne (ne_of x hl (by intro z; cases z))]; exact x⟩⟩
theorem MNames.snoc {H : Hp} {as : List Addr} {names : List Str} {m dm l : Addr} {n c : Str} (h : MNames t H as names) (hm : H m = some (.ins t.c_Mode dm (mf n c l))) : MNames t H (as ++ [m]) (names ++ [n]) := by
  refine ⟨by simp [h.1], fun i a n' h1 h2 => ?_⟩
  have e := h.1
  rcases snoc_get h1 with h1 | ⟨i1, rfl⟩
  · rcases snoc_get h2 with h2 | ⟨i2, rfl⟩
    · exact h.2 i a n' h1 h2
    · have := (List.getElem?_eq_some_iff.mp h1).1; omega
  · rcases snoc_get h2 with h2 | ⟨i2, rfl⟩
    · have := (List.getElem?_eq_some_iff.mp h2).1; omega
    · exact ⟨dm, c, l, hm⟩
/-- the places that lead nowhere, in the heap -/
def NwAt (H : Hp) (vs : List V) (nws : List (Nat × Nat)) : Prop := vs.length = nws.length ∧ ∀ (i : Nat) v x, vs[i]? = some v → nws[i]? = some x → ∃ pt, v = .ref pt ∧ H pt = some (.tup [.int x.1, .int x.2])
theorem NwAt.same {H H' : Hp} {vs : List V} {nws : List (Nat × Nat)} (h : NwAt H vs nws) (s : Same H H') : NwAt H' vs nws := ⟨h.1, fun i v x h1 h2 => let ⟨pt, e, y⟩ := h.2 i v x h1 h2; ⟨pt, e, s _ _ y⟩⟩
theorem NwAt.updL {H : Hp} {vs xs : List V} {nws : List (Nat × Nat)} {l : Addr} {o : HO} (h : NwAt H vs nws) (hl : H l = some (.lst xs)) : NwAt (upd H l o) vs nws := ⟨h.1, fun i v x h1 h2 => let ⟨pt, e, y⟩ := h.2 i v x h1 h2; ⟨pt, e, by rw [upd_ne (ne_of y hl (by intro z; cases z))]; exact y⟩⟩
theorem NwAt.snoc {H : Hp} {vs : List V} {nws : List (Nat × Nat)} {pt : Addr} {i j : Nat} (h : NwAt H vs nws) (hp : H pt = some (.tup [.int i, .int j])) : NwAt H (vs ++ [.ref pt]) (nws ++ [(i, j)]) := by
  refine ⟨by simp [h.1], fun k v x h1 h2 => ?_⟩
  have e := h.1
  rcases snoc_get h1 with h1 | ⟨i1, rfl⟩
  · rcases snoc_get h2 with h2 | ⟨i2, rfl⟩
    · exact h.2 k v x h1 h2
    · have := (List.getElem?_eq_some_iff.mp h1).1; omega
  · rcases snoc_get h2 with h2 | ⟨i2, rfl⟩
    · have := (List.getElem?_eq_some_iff.mp h2).1; omega
    · exact ⟨pt, rfl, hp⟩
/-- the last mode's list of rules -/
def LastL (t : Adr) (H0 H : Hp) (as : List Addr) (lm nw lr : Addr) (cnt : Nat) : Prop := ∀ k a, as.length = k + 1 → as[k]? = some a → ∃ dx n c l rs, H a = some (.ins t.c_Mode dx (mf n c l)) ∧ H l = some (.lst rs) ∧ rs.length = cnt ∧ l ≠ lm ∧ l ≠ nw ∧ l ≠ lr ∧ H0 l = none
theorem atI_lastM {α β : Type} {f : α → β} {as : List α} {k : Nat} {a : α} (hl : as.length = k + 1) (h : as[k]? = some a) : atI (as.map f) (-1) = some (f a) := by
  unfold atI ixN
  rw [List.length_map, hl]
  have e : ((-1 : Int) + ((k + 1 : Nat) : Int)).toNat = k := by omega
  first
    | (rw [if_neg (by omega), if_pos (by omega)]; simp only [Option.bind_some]; rw [show (((k + 1 : Nat) : Int) + (-1 : Int)).toNat = k by omega, List.getElem?_map, h]; rfl)
    | (rw [if_neg (by omega), if_pos (by omega)]; simp only [Option.bind_some]; rw [e, List.getElem?_map, h]; rfl)
/-- between two rows -/
structure RdAt (t : Adr) (H0 H : Hp) (wss : List (List Str)) (lr d lm nw : Addr) (kvs : List (Key × V)) (i : Nat) (as : List Addr) (vs : List V) (st : RdSt) : Prop where
  m : H lm = some (.lst (as.map V.ref))
  w : H nw = some (.lst vs)
  r : H lr = some (.lst ((rowsT wss).map V.str))
  d : H d = some (.dK kvs)
  mn : MNames t H as st.names
  na : NwAt H vs st.nws
  la : LastL t H0 H as lm nw lr st.cnt
  l12 : st.names.length ≤ 12
  ln : st.nws.length ≤ i
  c12 : st.cnt ≤ 12
  s : Same H0 H
  eq : readP wss = readT (fun x => decide (x ∈ knownN wss)) i st (wss.drop i)
theorem ok_read_rules (T : Txt K mg t) : FnOk P w K mg base (CXE P w) 8 t.f_read_rules t.d_read_rules ["text"] (spRead t) := by
  refine T.F_read_rules.okE sc_read_rules (fun vs H Q E h => ?_) (fun cdv A outer s H vs Q E hr h => ?_)
  · obtain ⟨wss, rfl, _⟩ := h
    rfl
  · obtain ⟨wss, rfl, G, q⟩ := h
    have hlen := G.len
    have nl1 : ("\n" : Str) = ⟨#[10]⟩ := by decide +kernel
    refine @at_cons _ _ _ _ _ _ _ (@ps_set _ _ 1 _ _ _ _ sc_read_rules.nd rfl (Or.inl rfl) (@pe_bm _ _ _ _ _ _ _ _ _ _ _ _ PySem.F.plainAttrs_str PySem.F.slot_str_split PySem.F.type_str_split mt_split (pv 0) (@pa_cons _ _ _ _ _ pe_str pa_nil (by walk_at "u")) (by walk_at "u") (by walk_at "u") (by walk_at "u") (by walk_at "u") (by walk_at "u")) (by walk_at "u") (by walk_at "u")) ⟨_, rfl, rfl, _, _, rfl, rfl, by decide, sl_le (by have := text_len G; omega), fun lr hlr => ?_⟩
    rw [nl1, rows_split G]
    have s1 : Same H (upd H lr (.lst ((rowsT wss).map V.str))) := Same.upd hlr
    have hr1 : upd H lr (.lst ((rowsT wss).map V.str)) lr = some (.lst ((rowsT wss).map V.str)) := upd_same
    generalize upd H lr (.lst ((rowsT wss).map V.str)) = H1 at s1 hr1
    refine @at_cons _ _ _ _ _ _ _ (@ps_set _ _ 2 _ _ _ _ sc_read_rules.nd rfl (Or.inl rfl) (@pe_call _ _ _ _ _ _ _ _ _ _ _ _ _ _ _ _ (ok_mode_numbers T) (hr.mono (by decide)) rfl T.mg_mode_numbers T.F_mode_numbers.kp (bd_mode_numbers T) .nil pass0 (@pa_cons _ _ _ _ _ (pv 1) pa_nil (by walk_at "u")) (by walk_at "u") (by walk_at "u") (by walk_at "u")) (by walk_at "u") (by walk_at "u")) ⟨_, rfl, lr, wss, rfl, hr1, G, fun d kvs H2 hd2 hN s2 => ?_⟩
    have hr2 := s2 _ _ hr1
    have s2 := s1.trans s2
    refine @at_cons _ _ _ _ _ _ _ (@ps_set _ _ 3 _ _ _ _ sc_read_rules.nd rfl (Or.inl rfl) (@pe_lst _ _ _ _ pa_nil) (by walk_at "u") (by walk_at "u")) ⟨by show 0 ≤ sizeLine; decide, fun lm hlm => ?_⟩
    have s3 : Same H2 (upd H2 lm (.lst [])) := Same.upd hlm
    have hm3 : upd H2 lm (.lst []) lm = some (.lst []) := upd_same
    generalize upd H2 lm (.lst []) = H3 at s3 hm3
    have hlm0 : H lm = none := s2.free hlm
    have hr3 := s3 _ _ hr2
    have hd3 := s3 _ _ hd2
    have s3 := s2.trans s3
    refine @at_cons _ _ _ _ _ _ _ (@ps_set _ _ 4 _ _ _ _ sc_read_rules.nd rfl (Or.inl rfl) (@pe_lst _ _ _ _ pa_nil) (by walk_at "u") (by walk_at "u")) ⟨by show 0 ≤ sizeLine; decide, fun nw hnw => ?_⟩
    have s4 : Same H3 (upd H3 nw (.lst [])) := Same.upd hnw
    have hw4 : upd H3 nw (.lst []) nw = some (.lst []) := upd_same
    generalize upd H3 nw (.lst []) = H4 at s4 hw4
    have hnw0 : H nw = none := s3.free hnw
    have hr4 := s4 _ _ hr3
    have hd4 := s4 _ _ hd3
    have hm4 := s4 _ _ hm3
    have nmw : lm ≠ nw := ne_of_none hm3 hnw
    have s4 := s3.trans s4
    have nlr : lr ≠ lm := ne_of_none hr2 hlm
    have nlrw : lr ≠ nw := ne_of_none hr3 hnw
    have hkn : knows kvs = fun x => decide (x ∈ knownN wss) := funext hN
    refine @at_consR _ _ _ _ _ _ _ (fun σ' H' => ∃ x5 x6 x7 x8 as vs st, σ' = [some (.str (Str.join ⟨#[10]⟩ (rowsT wss))), some (.ref lr), some (.ref d), some (.ref lm), some (.ref nw), x5, x6, x7, x8] ∧ RdAt t H H' wss lr d lm nw kvs wss.length as vs st) (@ps_forA _ _ _ _ _ _ _ _ PassesOwn.leaving rfl (@pi_enum _ _ _ _ _ _ _ _ rfl T.z_enumerate (@pa_cons _ _ _ _ _ (pv 1) pa_nil (by walk_at "u")) (by walk_at "u")) (@pg_tup _ _ _ _ _ _ rfl (@pgs_cons _ _ _ _ _ (@pg_name _ _ 5 _ sc_read_rules.nd rfl (Or.inl rfl) (by walk_at "u")) (@pgs_cons _ _ _ _ _ (@pg_name _ _ 6 _ sc_read_rules.nd rfl (Or.inl rfl) (by walk_at "u")) pgs_nil (by walk_at "u")) (by walk_at "u")) (by walk_at "u") (by walk_at "u")) pss_at (by walk_at "u")) ?_ ?_
    · refine ⟨_, rfl, lr, _, rfl, SqL.of hr4, forW_enum (xs := (rowsT wss).map V.str) (fun i σ' H' => ∃ x5 x6 x7 x8 as vs st, σ' = [some (.str (Str.join ⟨#[10]⟩ (rowsT wss))), some (.ref lr), some (.ref d), some (.ref lm), some (.ref nw), x5, x6, x7, x8] ∧ RdAt t H H' wss lr d lm nw kvs i as vs st) ?_ ?_ ?_ ?_⟩
      · exact ⟨_, _, _, _, [], [], ⟨[], 0, []⟩, rfl, hm4, hw4, hr4, hd4, ⟨rfl, fun i a n h => by simp at h⟩, ⟨rfl, fun i a n h => by simp at h⟩, fun k a h => by simp at h, by simp, by simp, by simp, s4, rfl⟩
      · rintro i σ' H' _ ⟨x5, x6, x7, x8, as, vs, st, rfl, R⟩
        exact SqL.of R.r
      · rintro i xv pt σ' H5 hx hpt ⟨x5, x6, x7, x8, as, vs, st, rfl, R⟩
        rw [List.getElem?_map] at hx
        obtain ⟨row, hrow, rfl⟩ := Option.map_eq_some_iff.mp hx
        obtain ⟨ws, hit, rfl⟩ := rows_at hrow
        have hi : i < wss.length := (List.getElem?_eq_some_iff.mp hit).1
        have Gr := G.rw_ ws (List.mem_of_getElem? hit)
        obtain ⟨g1, g2, g3⟩ := row_good Gr
        have hwl := Gr.len
        have s6 : Same H5 (upd H5 pt (.tup [.int i, .str (rowT ws)])) := Same.upd hpt
        refine ⟨pt, [.int i, .str (rowT ws)], rfl, SqT.of upd_same, rfl, _, _, rfl, _, _, rfl, rfl, ?_⟩
        generalize upd H5 pt (.tup [.int i, .str (rowT ws)]) = H6 at s6
        refine @at_cons _ _ _ _ _ _ _ (@ps_set _ _ 7 _ _ _ _ sc_read_rules.nd rfl (Or.inl rfl) (@pe_make _ _ _ _ _ _ _ _ _ _ _ _ _ _ _ _ _ T.mk_Cursor (ok_Cursor___init__ T) (hr.mono (by decide)) rfl T.mgc_Cursor (bd_Cursor___init__ T) .nil pass0 (@pa_cons _ _ _ _ _ (pv 5) (@pa_cons _ _ _ _ _ (pv 6) pa_nil (by walk_at "u")) (by walk_at "u")) (by walk_at "u") (by walk_at "u") (by walk_at "u")) (by walk_at "u") (by walk_at "u")) ⟨_, rfl, _, rfl, fun p dx np ndx ne => ⟨p, dx, i, _, rfl, upd_same, by omega, by rw [g3]; omega, fun lw H7 hlw C7 a7 => ⟨rfl, ?_⟩⟩⟩
        rw [g3] at C7
        have s7 : Same H5 H7 := fun b o hb => a7 b o (by rw [upd_ne (ne_of_none (s6 _ _ hb) np), upd_ne (ne_of_none (s6 _ _ hb) ndx)]; exact s6 _ _ hb) (ne_of_none (s6 _ _ hb) np)
        have hp5 : H5 p = none := s6.free np
        have hp0 : H p = none := R.s.free hp5
        have hm7 := s7 _ _ R.m
        have hw7 := s7 _ _ R.w
        have s07 := R.s.trans s7
        have hml : as.length = st.names.length := R.mn.1
        have eq := R.eq
        rw [readT_at hit] at eq
        have hE : ∀ j, stepT (fun x => decide (x ∈ knownN wss)) i st ws = .inl j → Nope t E (fun b => b = p ∨ b = nw) H7 i j := fun j e => by
          rw [e] at eq
          rw [eq] at q
          exact Nope.mono q (fun b o hb _ => ⟨s07 _ _ hb, fun z => z.elim (fun z => by rw [z, hp0] at hb; cases hb) fun z => by rw [z, hnw0] at hb; cases hb⟩) fun b hb => s07.free hb
        by_cases hm : as = [] ∨ pk ws 0 = "mode"
        · have hm' : st.names = [] ∨ pk ws 0 = "mode" := hm.imp (fun e => by rw [e] at hml; exact List.length_eq_zero_iff.mp hml.symm) id
          refine @at_one _ _ _ _ _ _ (@ps_if _ _ _ _ _ _ _ _ (@PW.pt _ _ _ (@pw_or _ _ _ _ _ _ _ (@pt_not _ _ _ _ (@pt_truth _ _ _ (pv 3) (fun _ => rfl))) (@pw_or1 _ _ _ _ (@pt_cmpR _ _ _ _ _ _ _ _ op_eq (@pe_meth0 _ _ _ _ _ _ _ _ _ _ _ _ _ _ _ _ _ (pv 7) T.cl_Cursor T.m_Cursor_peek (ok_Cursor_peek T) (hr.mono (by decide)) (bd_Cursor_peek T) .nil pass0 (by walk_at "u")) pe_str (nomark _))))) pss_at pss_at) ⟨_, rfl, _, .inl ⟨_, SqL.of hm7, rfl⟩, ?_⟩
          refine (fun hb => ifb (fun _ => iteT hb) (fun h => ⟨_, rfl, p, dx, _, rfl, C7.ob, rfl, p, dx, lw, i, _, 0, rfl, C7, rfl, _, rfl, ifd (fun _ => hb) (fun h2 => by
            exfalso
            rcases hm with e | e
            · rw [e] at h; simp at h
            · exact h2 (by rw [e]))⟩)) ?_
          refine @at_one _ _ _ _ _ _ (@ps_expr _ _ _ _ (@pe_bm _ _ _ _ _ _ _ _ _ _ _ _ PySem.F.plainAttrs_list PySem.F.slot_list_append PySem.F.type_list_append mt_append (pv 3) (@pa_cons _ _ _ _ _ (@pe_call _ _ _ _ _ _ _ _ _ _ _ _ _ _ _ _ (ok_read_mode T) (hr.mono (by decide)) rfl T.mg_read_mode T.F_read_mode.kp (bd_read_mode T) .nil passE (@pa_cons _ _ _ _ _ (pv 7) (@pa_cons _ _ _ _ _ (pv 3) pa_nil (by walk_at "u")) (by walk_at "u")) (by walk_at "u") (by walk_at "u") (by walk_at "u")) pa_nil (by walk_at "u")) (by walk_at "u") (by walk_at "u") (by walk_at "u") (by walk_at "u") (by walk_at "u")) (by walk_at "u")) ⟨_, rfl, .inl ⟨rfl, _, SqL.of hm7⟩, _, rfl, _, rfl, p, dx, lw, lm, i, ws, as, st.names, rfl, C7, hm7, R.mn.same s7, by have := R.l12; omega, fun hrd m l2 dm c H8 e1 e2 e3 a8 => ?_, fun j hrd => ?_⟩
          rotate_left
          · have := hE j (by rw [stepT, if_pos hm', hrd])
            exact this.mono (fun b o hb nb => ⟨hb, fun z => nb (.inl z)⟩) fun b hb => hb
          rw [stepT, if_pos hm', hrd] at eq
          have n12 : st.names.length < 12 := by
            rcases Nat.lt_or_ge st.names.length 12 with h | h
            · exact h
            · rw [rdMode, if_neg (fun z => by have := z.1; omega)] at hrd; cases hrd
          have s8 : Same H5 H8 := Adv.fresh s7 hp5 a8
          have hm8 := s8 _ _ R.m
          have n1 : lm ≠ l2 := ne_of_none hm7 e3
          refine ⟨lm, _, _, rfl, rfl, hm8, sl_lt (by rw [List.length_map]; omega), ?_⟩
          refine ⟨_, _, _, _, as ++ [m], vs, _, rfl, by rw [upd_same, List.map_append]; rfl, ?_, ?_, ?_, ?_, ?_, ?_, ?_, by have := R.ln; show st.nws.length ≤ i + 1; omega, Nat.zero_le _, ?_, eq⟩
          · rw [upd_ne (Ne.symm nmw)]; exact s8 _ _ R.w
          · rw [upd_ne nlr]; exact s8 _ _ R.r
          · rw [upd_ne (ne_of R.d R.m (by intro z; cases z))]; exact s8 _ _ R.d
          · exact MNames.updL ((R.mn.same s8).snoc e1) hm8
          · exact (R.na.same s8).updL hm8
          · intro k a hk ha
            have : a = m := by
              rw [List.length_append] at hk
              simp at hk
              rw [← hk] at ha
              simpa using ha.symm
            subst this
            exact ⟨dm, _, c, l2, [], by rw [upd_ne (ne_of e1 hm8 (by intro z; cases z))]; exact e1, by rw [upd_ne (Ne.symm n1)]; exact e2, rfl, Ne.symm n1, Ne.symm (ne_of_none hw7 e3), Ne.symm (ne_of_none (s7 _ _ R.r) e3), s07.free e3⟩
          · show (st.names ++ [pk ws 1]).length ≤ 12
            rw [List.length_append]; exact n12
          · intro b o hb
            rw [upd_ne (ne_of_none hb hlm0)]
            exact s8 _ _ (R.s _ _ hb)
        · have hm1 : as ≠ [] := fun z => hm (.inl z)
          have hm2 : pk ws 0 ≠ "mode" := fun z => hm (.inr z)
          have hm' : ¬ (st.names = [] ∨ pk ws 0 = "mode") := fun z => z.elim (fun e => hm1 (by rw [e] at hml; exact List.length_eq_zero_iff.mp hml)) hm2
          obtain ⟨k, hk⟩ : ∃ k, as.length = k + 1 := ⟨as.length - 1, by have := List.length_pos_iff.mpr hm1; omega⟩
          obtain ⟨a, ha⟩ : ∃ a, as[k]? = some a := ⟨as[k]'(by omega), List.getElem?_eq_getElem _⟩
          obtain ⟨dm, n, c, l, rs, o1, o2, o3, n1, n2, n3, hl0⟩ := R.la k a hk ha
          have o1' := s7 _ _ o1
          have o2' := s7 _ _ o2
          refine @at_one _ _ _ _ _ _ (@ps_if _ _ _ _ _ _ _ _ (@PW.pt _ _ _ (@pw_or _ _ _ _ _ _ _ (@pt_not _ _ _ _ (@pt_truth _ _ _ (pv 3) (fun _ => rfl))) (@pw_or1 _ _ _ _ (@pt_cmpR _ _ _ _ _ _ _ _ op_eq (@pe_meth0 _ _ _ _ _ _ _ _ _ _ _ _ _ _ _ _ _ (pv 7) T.cl_Cursor T.m_Cursor_peek (ok_Cursor_peek T) (hr.mono (by decide)) (bd_Cursor_peek T) .nil pass0 (by walk_at "u")) pe_str (nomark _))))) pss_at pss_at) ⟨_, rfl, _, .inl ⟨_, SqL.of hm7, rfl⟩, ifb (fun h => ?_) (fun _ => ?_)⟩
          · exfalso
            cases as with
            | nil => exact hm1 rfl
            | cons _ _ => simp at h
          refine ⟨_, rfl, p, dx, _, rfl, C7.ob, rfl, p, dx, lw, i, _, 0, rfl, C7, rfl, _, rfl, ifd (fun h => absurd (V.str.inj h) hm2) (fun _ => ?_)⟩
          refine @at_cons _ _ _ _ _ _ _ (@ps_set _ _ 8 _ _ _ _ sc_read_rules.nd rfl (Or.inl rfl) (@pe_fld _ _ _ _ _ (@pe_ix _ _ _ _ _ _ _ ix_list (pv 3) (@pe_un _ _ _ _ _ _ un_neg pe_int) (fun _ _ => rfl)) rfl) (by walk_at "u") (by walk_at "u")) ⟨_, rfl, _, rfl, _, _, _, _, rfl, rfl, SqL.of hm7, atI_lastM hk ha, a, t.c_Mode, dm, _, _, rfl, o1', T.cl_Mode, T.n_Mode_rules, rfl, ?_⟩
          refine @at_cons _ _ _ _ _ _ _ (@ps_expr _ _ _ _ (@pe_meth _ _ _ _ _ _ _ _ _ _ _ _ _ _ _ _ _ _ _ _ (pv 7) T.cl_Cursor T.m_Cursor_ask (ok_Cursor_ask T) (hr.mono (by decide)) (bd_Cursor_ask T) .nil passE (@pa_cons _ _ _ _ _ (@pe_cmpR _ _ _ _ _ _ _ _ op_lt (@pe_callB _ _ _ _ _ _ _ _ _ call_len_seq (by rfl) T.z_len (by decide +kernel) (@pa_cons _ _ _ _ _ (pv 8) pa_nil (by walk_at "u")) (by walk_at "u") (by walk_at "u") (by walk_at "u") (by walk_at "u")) (@pe_globE _ _ _ _ rfl T.mgv_MOST_RULES (by walk_at "u")) (nomark _)) pa_nil (by walk_at "u")) (by walk_at "u") (by walk_at "u") (by walk_at "u")) (by walk_at "u")) ⟨_, rfl, p, dx, _, rfl, C7.ob, rfl, _, rfl, _, _, rfl, .inl (SqL.of o2'), _, _, rfl, rfl, ?_⟩
          refine ⟨p, dx, lw, i, ws, 0, _, rfl, C7, fun hb => ?_, fun hb => ?_⟩
          rotate_left
          · have hb := of_decide_eq_false hb
            have := hE 0 (by rw [stepT, if_neg hm', if_neg (by omega)])
            exact this.mono (fun b o hb nb => ⟨hb, fun z => nb (.inl z)⟩) fun b hb => hb
          have hb : st.cnt < 12 := by have := of_decide_eq_true hb; omega
          rw [stepT, if_neg hm', if_pos hb] at eq
          have hE : ∀ j, rdRule (fun x => decide (x ∈ knownN wss)) ws = .inl j → Nope t E (fun b => b = p ∨ b = nw) H7 i j := fun j e => hE j (by rw [stepT, if_neg hm', if_pos hb, e])
          have nlw : lw ≠ nw := Ne.symm (ne_of_none (by
            have := s6 _ _ R.w
            rw [upd_ne (ne_of_none this np), upd_ne (ne_of_none this ndx)]; exact this) hlw)
          refine @at_one _ _ _ _ _ _ (@ps_expr _ _ _ _ (@pe_bm _ _ _ _ _ _ _ _ _ _ _ _ PySem.F.plainAttrs_list PySem.F.slot_list_append PySem.F.type_list_append mt_append (pv 8) (@pa_cons _ _ _ _ _ (@pe_call _ _ _ _ _ _ _ _ _ _ _ _ _ _ _ _ (ok_read_rule T) (hr.mono (by decide)) rfl T.mg_read_rule T.F_read_rule.kp (bd_read_rule T) .nil passE (@pa_cons _ _ _ _ _ (pv 7) (@pa_cons _ _ _ _ _ (pv 2) (@pa_cons _ _ _ _ _ (pv 4) pa_nil (by walk_at "u")) (by walk_at "u")) (by walk_at "u")) (by walk_at "u") (by walk_at "u") (by walk_at "u")) pa_nil (by walk_at "u")) (by walk_at "u") (by walk_at "u") (by walk_at "u") (by walk_at "u") (by walk_at "u")) (by walk_at "u")) ⟨_, rfl, .inl ⟨rfl, _, SqL.of o2'⟩, _, rfl, _, rfl, _, rfl, p, dx, lw, d, nw, i, ws, kvs, vs, rfl, C7, s7 _ _ R.d, hw7, by have := R.ln; have := R.na.1; omega, nlw, ?_⟩
          rw [hkn]
          cases hrd : rdRule (fun x => decide (x ∈ knownN wss)) ws with
          | inl j => exact hE j hrd
          | inr g =>
            rw [hrd] at eq
            intro r H8 k8 w8
            have nlp : l ≠ p := ne_of_none o2 hp5
            have al : H8 l = some (.lst rs) := k8 _ _ o2' nlp n2
            have k5 : ∀ b o, H5 b = some o → b ≠ nw → H8 b = some o := fun b o hb nb => k8 b o (s7 _ _ hb) (ne_of_none hb hp5) nb
            have c12 := R.c12
            refine ⟨l, _, _, rfl, rfl, al, sl_lt (by omega), ?_⟩
            have hw8 : ∃ vs', H8 nw = some (.lst vs') ∧ NwAt H8 vs' (st.nws ++ gone1 i g) := by
              have k9 : NwAt H8 vs st.nws := ⟨R.na.1, fun i v x h1 h2 => let ⟨pt, e, y⟩ := R.na.2 i v x h1 h2; ⟨pt, e, k5 _ _ y (ne_of y R.w (by intro z; cases z))⟩⟩
              cases g with
              | none => exact ⟨vs, w8, by rw [gone1, List.append_nil]; exact k9⟩
              | some j =>
                obtain ⟨pt, w1, w2, w3⟩ := w8
                exact ⟨_, w2, k9.snoc w3⟩
            obtain ⟨vs', hw8, na8⟩ := hw8
            refine ⟨_, _, _, _, as, vs', ⟨st.names, st.cnt + 1, st.nws ++ gone1 i g⟩, rfl, ?_, ?_, ?_, ?_, ?_, na8.updL al, ?_, R.l12, ?_, ?_, ?_, eq⟩
            · rw [upd_ne (Ne.symm n1)]; exact k5 _ _ R.m nmw
            · rw [upd_ne (Ne.symm n2)]; exact hw8
            · rw [upd_ne (Ne.symm n3)]; exact k5 _ _ R.r nlrw
            · rw [upd_ne (ne_of R.d o2 (by intro z; cases z))]; exact k5 _ _ R.d (ne_of R.d R.w (by intro z; cases z))
            · refine MNames.updL ⟨R.mn.1, fun i a n h1 h2 => let ⟨dx, c, l, x⟩ := R.mn.2 i a n h1 h2; ⟨dx, c, l, k5 _ _ x (ne_of x R.w (by intro z; cases z))⟩⟩ al
            · intro k' a' hk' ha'
              have : k' = k := by omega
              subst this
              rw [ha] at ha'
              cases ha'
              exact ⟨dm, n, c, l, rs ++ [.ref r], by rw [upd_ne (ne_of o1 o2 (by intro z; cases z))]; exact k5 _ _ o1 (ne_of o1 R.w (by intro z; cases z)), upd_same, by rw [List.length_append, o3]; rfl, n1, n2, n3, hl0⟩
            · show (st.nws ++ gone1 i g).length ≤ i + 1
              have := R.ln
              rw [List.length_append]
              cases g with
              | none => show st.nws.length + 0 ≤ _; omega
              | some j => show st.nws.length + 1 ≤ _; omega
            · exact hb
            · intro b o hb
              rw [upd_ne (ne_of_none hb hl0)]
              exact k5 _ _ (R.s _ _ hb) (ne_of_none hb hnw0)
      · rintro σ' H' ⟨x5, x6, x7, x8, as, vs, st, rfl, R⟩
        rw [List.length_map, rowsT, List.length_map] at R
        exact ⟨_, _, _, _, as, vs, st, rfl, R⟩
    rintro σ' H' ⟨x5, x6, x7, x8, as, vs, st, rfl, R⟩
    have eq := R.eq
    rw [List.drop_length] at eq
    have eq : readP wss = st.nws.head? := eq
    have hna := R.na.1
    refine @at_consR _ _ _ _ _ _ _ (fun σ2 H2 => σ2 = [some (.str (Str.join ⟨#[10]⟩ (rowsT wss))), some (.ref lr), some (.ref d), some (.ref lm), some (.ref nw), x5, x6, x7, x8] ∧ H2 = H' ∧ readP wss = none) (@ps_if _ _ _ _ _ _ _ _ (@pt_truth _ _ _ (pv 4) (fun _ => rfl)) pss_at pss_at) ?_ ?_
    · refine ⟨_, rfl, _, .inl ⟨_, SqL.of R.w, rfl⟩, ?_⟩
      cases vs with
      | nil =>
        have : st.nws = [] := List.length_eq_zero_iff.mp hna.symm
        exact iteF (at_nil ⟨rfl, rfl, by rw [eq, this]; rfl⟩)
      | cons v vr =>
        refine iteT ?_
        obtain ⟨x, xr, hx⟩ : ∃ x xr, st.nws = x :: xr := by
          cases e : st.nws with
          | nil => rw [e] at hna; simp at hna
          | cons x xr => exact ⟨x, xr, rfl⟩
        obtain ⟨pt, rfl, hpt⟩ := R.na.2 0 v x rfl (by rw [hx]; rfl)
        rw [eq, hx] at q
        have q : Nope t E (fun _ => False) H x.1 x.2 := q
        have q := q.mono (S' := fun _ => False) (H1 := H') (fun b o hb nb => ⟨R.s _ _ hb, nb⟩) fun b hb => R.s.free hb
        refine @at_one _ _ _ _ _ _ (ps_raise1 T.x_NoRules.toExcC T.xi_NoRules.1 T.xi_NoRules.2.1 T.xi_NoRules.2.2 (ok_NoRules___init__ T) (bd_NoRules___init__ T) (hr.mono (by decide)) rfl T.mgc_NoRules (pa_cons (pe_ix ix_tup (pe_ix ix_list (pv 4) pe_int (fun _ _ => rfl)) pe_int (fun _ _ => rfl)) (pa_cons (pe_ix ix_tup (pe_ix ix_list (pv 4) pe_int (fun _ _ => rfl)) pe_int (fun _ _ => rfl)) pa_nil))) ⟨_, rfl, _, _, _, _, rfl, rfl, SqL.of R.w, atI_nat (j := 0) rfl, _, _, _, _, rfl, rfl, SqT.of hpt, atI_nat (j := 0) rfl, _, rfl, _, _, _, _, rfl, rfl, SqL.of R.w, atI_nat (j := 0) rfl, _, _, _, _, rfl, rfl, SqT.of hpt, atI_nat (j := 1) rfl, by show 2 ≤ sizeLine; decide, fun e he => q.go he⟩
    rintro σ2 H2 ⟨rfl, rfl, hq⟩
    rw [hq] at q
    refine @at_one _ _ _ _ _ _ (@ps_ret _ _ _ _ (@pe_make _ _ _ _ _ _ _ _ _ _ _ _ _ _ _ _ _ T.mk_Rules (ok_Rules___init__ T) (hr.mono (by decide)) rfl T.mgc_Rules (bd_Rules___init__ T) .nil pass0 (@pa_cons _ _ _ _ _ (pv 3) pa_nil (by walk_at "u")) (by walk_at "u") (by walk_at "u") (by walk_at "u"))) ⟨_, rfl, fun x dx nx ndx ne => ⟨x, dx, lm, _, rfl, upd_same, by rw [upd_ne (ne_of_none R.m nx), upd_ne (ne_of_none R.m ndx)]; exact R.m, fun l2 H8 e1 e2 e3 e4 => ⟨rfl, ?_⟩⟩⟩
    have s8 : Same H2 H8 := fun b o hb => e4 b o (by rw [upd_ne (ne_of_none hb nx), upd_ne (ne_of_none hb ndx)]; exact hb) (ne_of_none hb nx)
    exact q _ H8 (R.s.trans s8)
end
section
variable {P : Program} {w : World} {K : PySem.W.Frag} {mg : Str → Option Value} {base : Heap} {t : Adr}
theorem join_eq (sep : Str) (ys : List Str) : PySem.Txt.join sep ys = Str.join sep ys := eq_of_beq (PyProof.Rows.join_plain_closes sep ys)
theorem sum_le {m : Nat} : ∀ (ys : List Str), (∀ y ∈ ys, y.length ≤ m) → (ys.map (·.length)).sum ≤ ys.length * m
  | [], _ => by simp
  | x :: r, h => by
    have h1 := h x (by simp)
    have h2 := sum_le r (fun z hz => h z (List.mem_cons_of_mem _ hz))
    rw [List.map_cons, List.sum_cons, List.length_cons, Nat.succ_mul]
    omega
def All2 {α β : Type} (R : α → β → Prop) (as : List α) (bs : List β) : Prop := as.length = bs.length ∧ ∀ (i : Nat) a b, as[i]? = some a → bs[i]? = some b → R a b
theorem All2.nil {α β : Type} {R : α → β → Prop} : All2 R [] [] := ⟨rfl, fun i a b h => by simp at h⟩
theorem All2.mono {α β : Type} {R S : α → β → Prop} {as : List α} {bs : List β} (h : All2 R as bs) (f : ∀ a b, R a b → S a b) : All2 S as bs := ⟨h.1, fun i a b x y => f a b (h.2 i a b x y)⟩
theorem All2.snoc {α β : Type} {R : α → β → Prop} {as : List α} {bs : List β} {a : α} {b : β} (h : All2 R as bs) (r : R a b) : All2 R (as ++ [a]) (bs ++ [b]) := by
  refine ⟨by simp [h.1], fun i x y hx hy => ?_⟩
  have hl := h.1
  rcases snoc_get hx with h1 | ⟨e1, rfl⟩
  · rcases snoc_get hy with h2 | ⟨e2, rfl⟩
    · exact h.2 i x y h1 h2
    · have := (List.getElem?_eq_some_iff.mp h1).1; omega
  · rcases snoc_get hy with h2 | ⟨e2, rfl⟩
    · have := (List.getElem?_eq_some_iff.mp h2).1; omega
    · exact r
theorem All2.at {α β : Type} {R : α → β → Prop} {as : List α} {bs : List β} (h : All2 R as bs) {i : Nat} {b : β} (e : bs[i]? = some b) : ∃ a, as[i]? = some a ∧ R a b := by
  have hi := (List.getElem?_eq_some_iff.mp e).1
  have hi2 : i < as.length := by rw [h.1]; exact hi
  exact ⟨as[i], List.getElem?_eq_getElem hi2, h.2 i _ _ (List.getElem?_eq_getElem hi2) e⟩
abbrev Wd := Str × Str
def WdH (H : Hp) (p : Addr) (w : Wd) : Prop := H p = some (.tup [.str w.1, .str w.2])
def RowH (H : Hp) (l : Addr) (r : List Wd) : Prop := ∃ ps, H l = some (.lst (ps.map V.ref)) ∧ All2 (WdH H) ps r
def RowsH (H : Hp) (l : Addr) (rs : List (List Wd)) : Prop := ∃ ls, H l = some (.lst (ls.map V.ref)) ∧ All2 (RowH H) ls rs
theorem RowH.same {H H' : Hp} {l : Addr} {r : List Wd} (h : RowH H l r) (s : Same H H') : RowH H' l r := let ⟨ps, x, y⟩ := h; ⟨ps, s _ _ x, y.mono fun _ _ z => s _ _ z⟩
theorem RowsH.same {H H' : Hp} {l : Addr} {r : List (List Wd)} (h : RowsH H l r) (s : Same H H') : RowsH H' l r := let ⟨ps, x, y⟩ := h; ⟨ps, s _ _ x, y.mono fun _ _ z => z.same s⟩
def wds (r : List Wd) : List Str := r.map (·.1)
def wordsT (rs : List (List Wd)) : List (List Str) := rs.map wds
def toldV : Option (Nat × Nat) → List V
  | none => [.int (-2), .int (-2)]
  | some (i, j) => [.int i, .int j]
def spAsked : Sp := fun vs H Q _ => ∃ (l : Addr) (rs : List (List Wd)), vs = [.ref l] ∧ RowsH H l rs ∧ WokT (wordsT rs) ∧ ∀ p H', H' p = some (.tup (toldV (readP (wordsT rs)))) → Same H H' → Q (.ref p) H'
theorem ok__law_asked (T : Txt K mg t) : FnOk P w K mg base CX0 9 t.f__law_asked t.d__law_asked ["_law_rows_here"] spAsked := by
  refine T.F__law_asked.ok sc__law_asked (fun vs H Q E h => ?_) (fun cdv A outer s H vs Q E hr h => at_body ?_)
  · obtain ⟨l, rs, rfl, _⟩ := h
    rfl
  · obtain ⟨l, rs, rfl, hR, G, q⟩ := h
    obtain ⟨ls, hl, hA⟩ := hR
    have hlen : rs.length ≤ 200 := by have := G.len; rw [wordsT, List.length_map] at this; exact this
    have hls := hA.1
    have sp1 : (" " : Str) = ⟨#[32]⟩ := by decide +kernel
    have nl1 : ("\n" : Str) = ⟨#[10]⟩ := by decide +kernel
    refine @at_consR _ _ _ _ _ _ _ (fun σ' H' => Same H H' ∧ σ' = [some (.ref l), some (.str (Str.join ⟨#[10]⟩ (rowsT (wordsT rs)))), none, none]) (@ps_set _ _ 1 _ _ _ _ sc__law_asked.nd rfl (Or.inl rfl) (@pe_bm _ _ _ _ _ _ _ _ _ _ _ _ PySem.F.plainAttrs_str PySem.F.slot_str_join PySem.F.type_str_join mt_join pe_str (@pa_cons _ _ _ _ _ (@pe_comp _ (defScope s__law_asked) _ ["_law_rows_here", "_law_text", "_law_told", "e"] _ _ ("_law_row") _ _ [] _ _ (by walk_at "ck") (@pi_list _ _ _ _ (pv 0)) (fun _ _ _ _ => by exact (@pe_bmK _ K _ _ _ _ _ _ _ _ _ _ _ rfl PySem.F.plainAttrs_str PySem.F.slot_str_join PySem.F.type_str_join (mt_joinK (K := K) rfl) pe_str (@pa_cons _ _ _ _ _ (@pe_compN _ (defScope s__law_asked) _ ["_law_row"] _ _ ("_law_word") _ _ [] _ _ (by walk_at "ck") (@pi_listK _ K _ _ _ rfl (pv 0)) (fun _ _ _ _ => by exact (@pe_ix _ _ _ _ _ _ _ (ix_tupK (K := K) rfl) (pv 0) pe_int (fun _ _ => rfl))) (by walk_at "u") (by walk_at "u") (by walk_at "u") (by walk_at "u")) pa_nil (by walk_at "u")) (by walk_at "u") (by walk_at "u") (by walk_at "u") (by walk_at "u") (by walk_at "u"))) (by walk_at "u") (by walk_at "u") (by walk_at "u") (by walk_at "u")) pa_nil (by walk_at "u")) (by walk_at "u") (by walk_at "u") (by walk_at "u") (by walk_at "u") (by walk_at "u")) (by walk_at "u") (by walk_at "u")) ?_ ?_
    · refine ⟨rfl, _, rfl, l, rfl, ⟨_, SqL.of hl⟩, comp_list (xs := ls.map V.ref) (fun i ys H' => Same H H' ∧ ys = ((rowsT (wordsT rs)).take i).map V.str) ⟨Same.refl H, rfl⟩ (sl_lt (by rw [List.length_map]; omega)) ?_ ?_ ?_⟩
      · rintro i ys H' _ ⟨s1, _⟩
        exact SqL.of (s1 _ _ hl)
      · rintro i xv ys H1 hx hyl ⟨s1, rfl⟩
        rw [List.getElem?_map] at hx
        obtain ⟨a, ha, rfl⟩ := Option.map_eq_some_iff.mp hx
        have hi : i < ls.length := (List.getElem?_eq_some_iff.mp ha).1
        obtain ⟨r, hri⟩ : ∃ r, rs[i]? = some r := ⟨rs[i]'(by omega), List.getElem?_eq_getElem _⟩
        obtain ⟨ps, hp, hB⟩ := (hA.2 i a r ha hri).same s1
        have hwi : (wordsT rs)[i]? = some (wds r) := by rw [wordsT, List.getElem?_map, hri]; rfl
        have Gr := G.rw_ _ (List.mem_of_getElem? hwi)
        have hpl := hB.1
        have grl := Gr.len
        rw [wds, List.length_map] at grl
        refine ⟨rfl, _, rfl, a, rfl, ⟨_, SqL.of hp⟩, comp_list (xs := ps.map V.ref) (fun k zs H' => Same H1 H' ∧ zs = ((wds r).take k).map V.str) ⟨Same.refl H1, rfl⟩ (sl_lt (by rw [List.length_map]; omega)) ?_ ?_ ?_⟩
        · rintro k zs H' _ ⟨s2, _⟩
          exact SqL.of (s2 _ _ hp)
        · rintro k yv zs H2 hy hzl ⟨s2, rfl⟩
          rw [List.getElem?_map] at hy
          obtain ⟨b, hb, rfl⟩ := Option.map_eq_some_iff.mp hy
          have hk : k < ps.length := (List.getElem?_eq_some_iff.mp hb).1
          obtain ⟨x, hxk⟩ : ∃ x, r[k]? = some x := ⟨r[k]'(by omega), List.getElem?_eq_getElem _⟩
          have hbx : H1 b = some (.tup [.str x.1, .str x.2]) := hB.2 k b x hb hxk
          refine ⟨_, rfl, _, _, _, _, rfl, rfl, SqT.of (s2 _ _ hbx), atI_nat (j := 0) rfl, ?_⟩
          refine comp_turn (by rw [List.length_map]; exact hk) hzl ⟨s2, ?_⟩
          rw [take_snoc (l := wds r) (x := x.1) (by rw [wds, List.getElem?_map, hxk]; rfl), List.map_append]
          rfl
        · rintro zs H2 hzl ⟨s2, rfl⟩ D hD
          rw [List.take_of_length_le (by rw [wds, List.length_map, List.length_map]; omega)]
          refine ⟨_, D, wds r, rfl, rfl, SqL.of upd_same, ?_, ?_⟩
          · have h1 := sum_le (m := 202) (wds r) (fun y hy => (Gr.gw y hy).l)
            have h2 : (wds r).length * 202 ≤ 20 * 202 := Nat.mul_le_mul_right _ Gr.len
            have h3 := Gr.len
            rw [show (" " : Str).length = 1 from by decide +kernel]
            omega
          · rw [join_eq, sp1]
            refine comp_turn (by rw [List.length_map]; exact hi) hyl ⟨(s1.trans s2).trans (Same.upd hD), ?_⟩
            rw [take_snoc (l := rowsT (wordsT rs)) (x := rowT (wds r)) (by rw [rowsT, List.getElem?_map, hwi]; rfl), List.map_append]
            rfl
      · rintro ys H1 hyl ⟨s1, rfl⟩ D hD
        rw [List.take_of_length_le (by rw [rowsT, wordsT, List.length_map, List.length_map, List.length_map]; omega)]
        refine ⟨_, D, rowsT (wordsT rs), rfl, rfl, SqL.of upd_same, ?_, ?_⟩
        · have h1 := sum_le (m := 4060) (rowsT (wordsT rs)) (fun y hy => by
            obtain ⟨ws, hi, rfl⟩ := List.mem_map.mp hy
            exact (row_good (G.rw_ ws hi)).2.1)
          have h3 : (rowsT (wordsT rs)).length ≤ 200 := by rw [rowsT, List.length_map]; exact G.len
          have h2 : (rowsT (wordsT rs)).length * 4060 ≤ 200 * 4060 := Nat.mul_le_mul_right _ h3
          rw [show ("\n" : Str).length = 1 from by decide +kernel]
          omega
        · rw [join_eq, nl1]
          exact ⟨s1.trans (Same.upd hD), rfl⟩
    rintro σ' H1 ⟨s1, rfl⟩
    refine @at_cons _ _ _ _ _ _ _ (@ps_set _ _ 2 _ _ _ _ sc__law_asked.nd rfl (Or.inl rfl) (@pe_tup _ _ _ _ _ (@pa_cons _ _ _ _ _ (@pe_un _ _ _ _ _ _ un_neg pe_int) (@pa_cons _ _ _ _ _ (@pe_un _ _ _ _ _ _ un_neg pe_int) pa_nil (by walk_at "u")) (by walk_at "u"))) (by walk_at "u") (by walk_at "u")) ⟨_, rfl, _, rfl, by show 2 ≤ sizeLine; decide, fun p1 hp1 => ?_⟩
    have s2 : Same H1 (upd H1 p1 (.tup [.int (-1), .int (-1)])) := Same.upd hp1
    have s2 := s1.trans s2
    show At _ _ _ [some (.ref l), some (.str (Str.join ⟨#[10]⟩ (rowsT (wordsT rs)))), some (.ref p1), none] _
    generalize upd H1 p1 (.tup [.int (-1), .int (-1)]) = H2 at s2 ⊢
    refine @at_consR _ _ _ _ _ _ _ (fun σ' H' => ∃ p y, Same H H' ∧ σ' = [some (.ref l), some (.str (Str.join ⟨#[10]⟩ (rowsT (wordsT rs)))), some (.ref p), y] ∧ H' p = some (.tup (toldV (readP (wordsT rs))))) (ps_tryK (i := 3) rfl rfl sc__law_asked.nd rfl rfl rfl T.mgc_TintError (by decide) T.x_TintError.at_) ?_ ?_
    · refine ⟨fun σ' C e H' => σ' = [some (.ref l), some (.str (Str.join ⟨#[10]⟩ (rowsT (wordsT rs)))), some (.ref p1), none] ∧ C = t.c_NoRules ∧ Same H H' ∧ ∃ i j dx, readP (wordsT rs) = some (i, j) ∧ H' e = some (xobj e t.c_NoRules (some dx)) ∧ H' dx = some (.xd [("word", .int j), ("row", .int i)]), fun pins => ?_, ?_⟩
      · refine @at_cons _ _ _ _ _ _ _ (@ps_expr _ _ _ _ (@pe_callX _ _ _ _ _ _ _ _ _ _ _ _ _ _ _ (ok_read_rules T) (hr.mono (by decide)) rfl T.mg_read_rules T.F_read_rules.kp (bd_read_rules T) .nil (@pa_cons _ _ _ _ _ (pv 1) pa_nil (by walk_at "u")) (by walk_at "u") (by walk_at "u") (by walk_at "u")) (by walk_at "u")) ⟨_, rfl, fun Cv eo H' => ∃ e, Cv = .ref t.c_NoRules ∧ eo = some e ∧ Same H H' ∧ ∃ i j dx, readP (wordsT rs) = some (i, j) ∧ H' e = some (xobj e t.c_NoRules (some dx)) ∧ H' dx = some (.xd [("word", .int j), ("row", .int i)]), pass_try rfl rfl (fun C e H' => ?_), wordsT rs, rfl, G, ?_⟩
        · rintro ⟨e2, z1, z2, h3⟩
          cases z1
          cases z2
          exact ⟨rfl, rfl, h3⟩
        · cases hq : readP (wordsT rs) with
          | none =>
            intro v H3 s3
            refine @at_one _ _ _ _ _ _ (@ps_set _ _ 2 _ _ _ _ sc__law_asked.nd rfl (Or.inl rfl) (@pe_tup _ _ _ _ _ (@pa_cons _ _ _ _ _ (@pe_un _ _ _ _ _ _ un_neg pe_int) (@pa_cons _ _ _ _ _ (@pe_un _ _ _ _ _ _ un_neg pe_int) pa_nil (by walk_at "u")) (by walk_at "u"))) (by walk_at "u") (by walk_at "u")) ⟨_, rfl, _, rfl, by show 2 ≤ sizeLine; decide, fun p2 hp2 => ?_⟩
            exact ⟨p2, _, (s2.trans s3).trans (Same.upd hp2), rfl, upd_same⟩
          | some x =>
            obtain ⟨i, j⟩ := x
            intro e dx H3 _ h1 h2 h3
            exact ⟨e, rfl, rfl, fun b o hb => h3 b o (s2 _ _ hb) (fun z => z), i, j, dx, rfl, h1, h2⟩
      · rintro σ' C e H3 ⟨rfl, rfl, s3, i, j, dx, hq, he, hx⟩
        refine ⟨T.x_NoRules.at_, T.tk_NoRules_TintError, ?_⟩
        refine @at_one _ _ _ _ _ _ (@ps_if _ _ _ _ _ _ _ _ (@pt_val _ _ _ (@pe_callB _ _ _ _ _ _ _ _ _ call_isiX (by rfl) T.z_isinstance (by decide +kernel) (@pa_cons _ _ _ _ _ (pv 3) (@pa_cons _ _ _ _ _ (@pe_glob _ _ (V.ref _) _ _ rfl T.mgc_NoRules rfl (by walk_at "u")) pa_nil (by walk_at "u")) (by walk_at "u")) (by walk_at "u") (by walk_at "u") (by walk_at "u") (by walk_at "u")) (by walk_at "u")) pss_at pss_at) ⟨_, rfl, e, _, some dx, _, true, rfl, he, (fun d z => by cases z; exact ⟨_, hx⟩), T.x_NoRules, T.kx_NoRules_NoRules, true, rfl, iteT ?_⟩
        refine @at_one _ _ _ _ _ _ (@ps_set _ _ 2 _ _ _ _ sc__law_asked.nd rfl (Or.inl rfl) (@pe_tup _ _ _ _ _ (@pa_cons _ _ _ _ _ (pe_fldX (pv 3) rfl) (@pa_cons _ _ _ _ _ (pe_fldX (pv 3) rfl) pa_nil (by walk_at "u")) (by walk_at "u"))) (by walk_at "u") (by walk_at "u")) ⟨_, rfl, e, _, dx, _, _, _, rfl, he, .inl rfl, hx, T.x_NoRules.toExcC, T.n_NoRules_row, rfl, _, rfl, e, _, dx, _, _, _, rfl, he, .inl rfl, hx, T.x_NoRules.toExcC, T.n_NoRules_word, rfl, by show 2 ≤ sizeLine; decide, fun p2 hp2 => ?_⟩
        exact ⟨p2, _, s3.trans (Same.upd hp2), rfl, by rw [upd_same, hq]; rfl⟩
    rintro σ' H3 ⟨p, y, s3, rfl, hp⟩
    exact @at_one _ _ _ _ _ _ (@ps_ret _ _ _ _ (pv 2)) ⟨_, rfl, q p H3 hp s3⟩
end
section
variable {P : Program} {w : World} {K : PySem.W.Frag} {mg : Str → Option Value} {base : Heap} {t : Adr}
theorem pick {xs : List Str} {d : Int} (h0 : 0 ≤ d) (h1 : d < xs.length) : ∃ x ∈ xs, atI (xs.map V.str) d = some (.str x) := by
  obtain ⟨v, e1, e2⟩ := atI_in (xs.map V.str) h0 (by rw [List.length_map]; exact h1)
  rw [List.getElem?_map] at e1
  obtain ⟨x, e3, rfl⟩ := Option.map_eq_some_iff.mp e1
  exact ⟨x, List.mem_of_getElem? e3, e2⟩
theorem ifeq {b c : Bool} {A B : Prop} (h : b = c) (k : if c = true then A else B) : if b = true then A else B := by rw [h]; exact k
def spDraw (K : PySem.W.Frag) : Sp := fun vs H Q _ => ∃ (a : Addr) (ns : List Int) (k m : Int), vs = [.ref a, .int k, .int m] ∧ SqL K H a (ns.map V.int) ∧ 0 ≤ k ∧ k ≤ 100000 ∧ 0 < m ∧ m ≤ 1000000 ∧ ns.length ≤ 63 ∧
  ∀ d H', 0 ≤ d → d < m → Same H H' → Q (.int d) H'
theorem ok__law_draw (T : Txt K mg t) : FnOk P w K mg base CX0 1 t.f__law_draw t.d__law_draw ["_law_script", "_law_k", "_law_many"] (spDraw K) := by
  refine T.F__law_draw.ok sc__law_draw (fun vs H Q E h => ?_) (fun cdv A outer s H vs Q E hr h => at_body ?_)
  · obtain ⟨a, ns, k, m, rfl, _⟩ := h
    rfl
  · obtain ⟨a, ns, k, m, rfl, hS, hk0, hk1, hm, hm1, hl, q⟩ := h
    refine @at_consR _ _ _ _ _ _ _ (fun σ' H' => ∃ c : Int, σ' = [some (.ref a), some (.int k), some (.int m), some (.int c), none, none] ∧ (ns = [] → c = 0) ∧ H' = H) (@ps_set _ _ 3 _ _ _ _ sc__law_draw.nd rfl (Or.inl rfl) (@pe_ifExp _ _ _ _ _ _ _ _ (@pt_cmpR _ _ _ _ _ _ _ _ op_gt (@pe_callB _ _ _ _ _ _ _ _ _ call_len_seq (by rfl) T.z_len (by decide +kernel) (@pa_cons _ _ _ _ _ (pv 0) pa_nil (by walk_at "u")) (by walk_at "u") (by walk_at "u") (by walk_at "u") (by walk_at "u")) pe_int (nomark _)) (@pe_ix _ _ _ _ _ _ _ ix_list (pv 0) (@pe_op _ _ _ _ _ _ _ _ op_mod (pv 1) (@pe_callB _ _ _ _ _ _ _ _ _ call_len_seq (by rfl) T.z_len (by decide +kernel) (@pa_cons _ _ _ _ _ (pv 0) pa_nil (by walk_at "u")) (by walk_at "u") (by walk_at "u") (by walk_at "u") (by walk_at "u"))) (fun _ _ => rfl)) pe_int) (by walk_at "u") (by walk_at "u")) ?_ ?_
    · refine ⟨_, rfl, _, _, rfl, .inl hS, _, _, rfl, rfl, _, rfl, ifd (fun h => ?_) (fun h => ⟨0, rfl, fun _ => rfl, rfl⟩)⟩
      refine ⟨_, rfl, _, rfl, _, rfl, _, _, rfl, .inl hS, _, _, rfl, rfl, h, ?_⟩
      obtain ⟨h1, h2⟩ := emod_rng k h
      obtain ⟨v, e1, e2⟩ := atI_in (ns.map V.int) h1 h2
      rw [List.getElem?_map] at e1
      obtain ⟨c, e3, rfl⟩ := Option.map_eq_some_iff.mp e1
      exact ⟨_, _, _, _, rfl, rfl, hS, e2, c, rfl, (fun z => by rw [z] at h; simp at h), rfl⟩
    rintro σ' H' ⟨c, rfl, hc0, e⟩
    rw [e]
    clear e H'
    refine @at_consR _ _ _ _ _ _ _ (fun σ' H' => ∃ x : Int, σ' = [some (.ref a), some (.int k), some (.int m), some (.int c), some (.int x), none] ∧ (ns = [] → x = 0) ∧ H' = H) (@ps_set _ _ 4 _ _ _ _ sc__law_draw.nd rfl (Or.inl rfl) (@pe_op _ _ _ _ _ _ _ _ op_shr (pv 3) (@pe_op _ _ _ _ _ _ _ _ op_add (@pe_op _ _ _ _ _ _ _ _ op_mul pe_int (@pe_op _ _ _ _ _ _ _ _ op_fdiv (pv 1) (@pe_callB _ _ _ _ _ _ _ _ _ (call_max2 rfl) (by rfl) T.z_max (by decide +kernel) (@pa_cons _ _ _ _ _ pe_int (@pa_cons _ _ _ _ _ (@pe_callB _ _ _ _ _ _ _ _ _ call_len_seq (by rfl) T.z_len (by decide +kernel) (@pa_cons _ _ _ _ _ (pv 0) pa_nil (by walk_at "u")) (by walk_at "u") (by walk_at "u") (by walk_at "u") (by walk_at "u")) pa_nil (by walk_at "u")) (by walk_at "u")) (by walk_at "u") (by walk_at "u") (by walk_at "u") (by walk_at "u")))) pe_int)) (by walk_at "u") (by walk_at "u")) ?_ ?_
    · refine ⟨_, rfl, _, rfl, _, rfl, _, _, rfl, .inl hS, _, _, rfl, _, _, rfl, rfl, ?_⟩
      have hmx : (1 : Int) ≤ (if ((ns.map V.int).length : Int) > 1 then ((ns.map V.int).length : Int) else 1) ∧ (if ((ns.map V.int).length : Int) > 1 then ((ns.map V.int).length : Int) else 1) < 1073741824 := by
        rw [List.length_map]; split <;> omega
      refine ⟨⟨by omega, hmx.2⟩, _, _, rfl, rfl, .inl ⟨by decide, by decide⟩, _, _, rfl, rfl, _, _, rfl, rfl, ?_, _, rfl, fun z => ?_, rfl⟩
      · have : 0 ≤ k / (if ((ns.map V.int).length : Int) > 1 then ((ns.map V.int).length : Int) else 1) := Int.ediv_nonneg hk0 (by omega)
        omega
      · rw [hc0 z, Int.zero_ediv]
    rintro σ' H' ⟨x, rfl, hx0, e⟩
    rw [e]
    clear e H'
    refine @at_consR _ _ _ _ _ _ _ (fun σ' H' => (σ' = [some (.ref a), some (.int k), some (.int m), some (.int c), some (.int x), none]) ∧ Same H H') (@ps_if _ _ _ _ _ _ _ _ (@PW.pt _ _ _ (@pw_and _ _ _ _ _ _ _ (@pt_cmpR _ _ _ _ _ _ _ _ op_notIn_seq (pv 4) (@pe_tup _ _ _ _ _ (@pa_cons _ _ _ _ _ pe_int (@pa_cons _ _ _ _ _ (@pe_un _ _ _ _ _ _ un_neg pe_int) pa_nil (by walk_at "u")) (by walk_at "u"))) rfl) (@pw_and1 _ _ _ _ (@pt_cmpR _ _ _ _ _ _ _ _ op_eq (@pe_op _ _ _ _ _ _ _ _ op_mod (@pe_ix _ _ _ _ _ _ _ ix_list (pv 0) pe_int (fun _ _ => rfl)) pe_int) pe_int (nomark _))))) pss_at pss_at) ?_ ?_
    · refine ⟨_, rfl, _, rfl, by show 2 ≤ sizeLine; decide, fun p hp => ⟨p, _, rfl, .inr (SqT.of upd_same), rfl, rfl, _, rfl, ?_⟩⟩
      have s1 : Same H (upd H p (.tup [.int 0, .int (-1)])) := Same.upd hp
      by_cases hin : inV (V.int x) [.int 0, .int (-1)] = true
      · refine ifeq (c := false) (by show (!inV (V.int x) [.int 0, .int (-1)]) = false; rw [hin]; rfl) ?_
        exact at_nil ⟨rfl, s1⟩
      · refine ifeq (c := true) (by show (!inV (V.int x) [.int 0, .int (-1)]) = true; rw [Bool.not_eq_true] at hin; rw [hin]; rfl) ?_
        obtain ⟨n0, r0, rfl⟩ : ∃ n0 r0, ns = n0 :: r0 := by
          cases ns with
          | nil => rw [hx0 rfl] at hin; exact absurd (by decide) hin
          | cons x r => exact ⟨x, r, rfl⟩
        have hS1 := hS.same s1
        refine ⟨_, rfl, _, _, _, _, rfl, rfl, hS1, atI_nat (j := 0) rfl, _, _, rfl, rfl, (by show (0 : Int) < 2; decide), rfl, _, rfl, ifd (fun h2 => ?_) (fun h2 => at_nil ⟨rfl, s1⟩)⟩
        have hd := emod_rng (x % 1048576) hm
        exact @at_one _ _ _ _ _ _ (@ps_ret _ _ _ _ (@pe_op _ _ _ _ _ _ _ _ op_mod (@pe_op _ _ _ _ _ _ _ _ op_mod (pv 4) pe_int) (pv 2))) ⟨_, rfl, _, _, rfl, rfl, (by show (0 : Int) < 1048576; decide), _, rfl, _, _, rfl, rfl, hm, q _ _ hd.1 hd.2 s1⟩
    rintro σ' H' ⟨rfl, s1⟩
    refine @at_cons _ _ _ _ _ _ _ (@ps_set _ _ 5 _ _ _ _ sc__law_draw.nd rfl (Or.inl rfl) (@pe_op _ _ _ _ _ _ _ _ op_add (@pe_op _ _ _ _ _ _ _ _ op_add (@pe_op _ _ _ _ _ _ _ _ op_mod (pv 3) pe_int) (@pe_op _ _ _ _ _ _ _ _ op_mul (@pe_op _ _ _ _ _ _ _ _ op_mul pe_int (pv 1)) (pv 1))) pe_int) (by walk_at "u") (by walk_at "u")) ?_
    walk_at "rd"
    refine ⟨by decide, .inl ⟨by decide, by decide⟩, .inr ⟨by omega, by omega⟩, ?_⟩
    refine @at_one _ _ _ _ _ _ (@ps_ret _ _ _ _ (@pe_op _ _ _ _ _ _ _ _ op_mod (@pe_op _ _ _ _ _ _ _ _ op_mod (@pe_op _ _ _ _ _ _ _ _ op_mul (@pe_op _ _ _ _ _ _ _ _ op_mod (@pe_op _ _ _ _ _ _ _ _ op_mul (pv 5) pe_int) pe_int) pe_int) pe_int) (pv 2))) ?_
    walk_at "rd"
    have hd := emod_rng ((c % 1000003 + 31 * k * k + 1) * 48271 % 999983 * 7919 % 524287) hm
    exact ⟨.inr ⟨by decide, by decide⟩, by decide, .inr ⟨by decide, by decide⟩, by decide, hm, q _ _ hd.1 hd.2 s1⟩

def oddA (role : Str) : List Str := if role = "mode" ∨ role = "sort" then ["", "Mode", "words", "'a", "red", "stay"] else ["", "Red", "x1", "ninesigns", "'a", "a-b"]
def oddB (role : Str) : List Str := if role = "signs" then ["", "a", "'", "\"a", "red", "_"] else oddA role
def oddC (role : Str) : List Str := if role = "deed" then ["", "Pop", "go", "open", "pops", "'a"] else oddB role
def oddW (role : Str) : List Str := if role = "fold" then ["", "Open", "shut", "closed", "'a", "stay"] else oddC role
theorem oddW_len (role : Str) : (oddW role).length = 6 := by
  unfold oddW oddC oddB oddA
  repeat' split
  all_goals rfl
def spOdd (K : PySem.W.Frag) : Sp := fun vs H Q _ => ∃ (a : Addr) (ns : List Int) (k : Int) (role : Str), vs = [.ref a, .int k, .str role] ∧ SqL K H a (ns.map V.int) ∧ 0 ≤ k ∧ k ≤ 100000 ∧ ns.length ≤ 63 ∧ ∀ x H', x ∈ oddW role → Same H H' → Q (.str x) H'
theorem ok__law_strange (T : Txt K mg t) : FnOk P w K mg base CX0 2 t.f__law_strange t.d__law_strange ["_law_script", "_law_k", "_law_role"] (spOdd K) := by
  refine T.F__law_strange.ok sc__law_strange (fun vs H Q E h => ?_) (fun cdv A outer s H vs Q E hr h => at_body ?_)
  · obtain ⟨a, ns, k, role, rfl, _⟩ := h
    rfl
  · obtain ⟨a, ns, k, role, rfl, hS, hk0, hk1, hl, q⟩ := h
    refine @at_cons _ _ _ _ _ _ _ (@ps_set _ _ 3 _ _ _ _ sc__law_strange.nd rfl (Or.inl rfl) (@pe_lst _ _ _ _ (@pa_strs _ _ ["", "Red", "x1", "ninesigns", "'a", "a-b"] rfl)) (by walk_at "u") (by walk_at "u")) ⟨by show 6 ≤ sizeLine; decide, fun l0 hl0 => ?_⟩
    have s1 := Same.upd (o := .lst ((["", "Red", "x1", "ninesigns", "'a", "a-b"] : List Str).map V.str)) hl0
    have e1 : upd H l0 (.lst ((["", "Red", "x1", "ninesigns", "'a", "a-b"] : List Str).map V.str)) l0 = some (.lst ((["", "Red", "x1", "ninesigns", "'a", "a-b"] : List Str).map V.str)) := upd_same
    show At _ _ _ [some (.ref a), some (.int k), some (.str role), some (.ref l0)] (upd H l0 (.lst ((["", "Red", "x1", "ninesigns", "'a", "a-b"] : List Str).map V.str)))
    generalize upd H l0 (.lst ((["", "Red", "x1", "ninesigns", "'a", "a-b"] : List Str).map V.str)) = H1 at s1 e1 ⊢
    refine @at_consR _ _ _ _ _ _ _ (fun σ' H' => Same H H' ∧ ∃ l, σ' = [some (.ref a), some (.int k), some (.str role), some (.ref l)] ∧ H' l = some (.lst ((oddA role).map V.str))) (@ps_if _ _ _ _ _ _ _ _ (@pt_cmpR _ _ _ _ _ _ _ _ op_in_seq (pv 2) (@pe_tup _ _ _ _ _ (@pa_cons _ _ _ _ _ pe_str (@pa_cons _ _ _ _ _ pe_str pa_nil (by walk_at "u")) (by walk_at "u"))) rfl) pss_at pss_at) ?_ ?_
    · refine ⟨_, rfl, by show 2 ≤ sizeLine; decide, fun p hp => ⟨_, _, rfl, .inr (SqT.of upd_same), rfl, rfl, _, rfl, ?_⟩⟩
      rw [show ([.str "mode", .str "sort"] : List V) = (["mode", "sort"] : List Str).map V.str from rfl, inV_strs]
      refine ifd (fun h => ?_) (fun h => at_nil ?_)
      · refine @at_one _ _ _ _ _ _ (@ps_set _ _ 3 _ _ _ _ sc__law_strange.nd rfl (Or.inl rfl) (@pe_lst _ _ _ _ (@pa_strs _ _ ["", "Mode", "words", "'a", "red", "stay"] rfl)) (by walk_at "u") (by walk_at "u")) ⟨by show 6 ≤ sizeLine; decide, fun l1 hl1 => ⟨(s1.trans (Same.upd hp)).trans (Same.upd hl1), l1, rfl, ?_⟩⟩
        rw [oddA, if_pos (by simpa using h)]; exact upd_same
      · exact ⟨s1.trans (Same.upd hp), l0, rfl, by rw [oddA, if_neg (by simpa using h)]; exact Same.upd hp _ _ e1⟩
    rintro σ' H2 ⟨s2, l2, rfl, e2⟩
    refine @at_consR _ _ _ _ _ _ _ (fun σ' H' => Same H H' ∧ ∃ l, σ' = [some (.ref a), some (.int k), some (.str role), some (.ref l)] ∧ H' l = some (.lst ((oddB role).map V.str))) (@ps_if _ _ _ _ _ _ _ _ (@pt_cmpR _ _ _ _ _ _ _ _ op_eq (pv 2) pe_str (nomark _)) pss_at pss_at) ?_ ?_
    · refine ⟨_, rfl, rfl, _, rfl, ifd (fun h => ?_) (fun h => at_nil ?_)⟩
      · refine @at_one _ _ _ _ _ _ (@ps_set _ _ 3 _ _ _ _ sc__law_strange.nd rfl (Or.inl rfl) (@pe_lst _ _ _ _ (@pa_strs _ _ ["", "a", "'", "\"a", "red", "_"] rfl)) (by walk_at "u") (by walk_at "u")) ⟨by show 6 ≤ sizeLine; decide, fun l1 hl1 => ⟨s2.trans (Same.upd hl1), l1, rfl, ?_⟩⟩
        rw [oddB, if_pos (V.str.inj h)]; exact upd_same
      · exact ⟨s2, l2, rfl, by rw [oddB, if_neg (fun z => h (by rw [z]))]; exact e2⟩
    rintro σ' H3 ⟨s3, l3, rfl, e3⟩
    refine @at_consR _ _ _ _ _ _ _ (fun σ' H' => Same H H' ∧ ∃ l, σ' = [some (.ref a), some (.int k), some (.str role), some (.ref l)] ∧ H' l = some (.lst ((oddC role).map V.str))) (@ps_if _ _ _ _ _ _ _ _ (@pt_cmpR _ _ _ _ _ _ _ _ op_eq (pv 2) pe_str (nomark _)) pss_at pss_at) ?_ ?_
    · refine ⟨_, rfl, rfl, _, rfl, ifd (fun h => ?_) (fun h => at_nil ?_)⟩
      · refine @at_one _ _ _ _ _ _ (@ps_set _ _ 3 _ _ _ _ sc__law_strange.nd rfl (Or.inl rfl) (@pe_lst _ _ _ _ (@pa_strs _ _ ["", "Pop", "go", "open", "pops", "'a"] rfl)) (by walk_at "u") (by walk_at "u")) ⟨by show 6 ≤ sizeLine; decide, fun l1 hl1 => ⟨s3.trans (Same.upd hl1), l1, rfl, ?_⟩⟩
        rw [oddC, if_pos (V.str.inj h)]; exact upd_same
      · exact ⟨s3, l3, rfl, by rw [oddC, if_neg (fun z => h (by rw [z]))]; exact e3⟩
    rintro σ' H4 ⟨s4, l4, rfl, e4⟩
    refine @at_consR _ _ _ _ _ _ _ (fun σ' H' => Same H H' ∧ ∃ l, σ' = [some (.ref a), some (.int k), some (.str role), some (.ref l)] ∧ H' l = some (.lst ((oddW role).map V.str))) (@ps_if _ _ _ _ _ _ _ _ (@pt_cmpR _ _ _ _ _ _ _ _ op_eq (pv 2) pe_str (nomark _)) pss_at pss_at) ?_ ?_
    · refine ⟨_, rfl, rfl, _, rfl, ifd (fun h => ?_) (fun h => at_nil ?_)⟩
      · refine @at_one _ _ _ _ _ _ (@ps_set _ _ 3 _ _ _ _ sc__law_strange.nd rfl (Or.inl rfl) (@pe_lst _ _ _ _ (@pa_strs _ _ ["", "Open", "shut", "closed", "'a", "stay"] rfl)) (by walk_at "u") (by walk_at "u")) ⟨by show 6 ≤ sizeLine; decide, fun l1 hl1 => ⟨s4.trans (Same.upd hl1), l1, rfl, ?_⟩⟩
        rw [oddW, if_pos (V.str.inj h)]; exact upd_same
      · exact ⟨s4, l4, rfl, by rw [oddW, if_neg (fun z => h (by rw [z]))]; exact e4⟩
    rintro σ' H5 ⟨s5, l5, rfl, e5⟩
    refine @at_one _ _ _ _ _ _ (@ps_ret _ _ _ _ (@pe_ix _ _ _ _ _ _ _ ix_list (pv 3) (@pe_call _ _ _ _ _ _ _ _ _ _ _ _ _ _ _ _ (ok__law_draw T) (hr.mono (by decide)) rfl T.mg__law_draw T.F__law_draw.kp (bd__law_draw T) .nil pass0 (@pa_cons _ _ _ _ _ (pv 0) (@pa_cons _ _ _ _ _ (pv 1) (@pa_cons _ _ _ _ _ pe_int pa_nil (by walk_at "u")) (by walk_at "u")) (by walk_at "u")) (by walk_at "u") (by walk_at "u") (by walk_at "u")) (fun _ _ => rfl))) ⟨_, rfl, _, rfl, _, rfl, a, ns, k, 6, rfl, hS.same s5, hk0, hk1, (by decide), (by decide), hl, fun d H6 h0 h1 s6 => ?_⟩
    obtain ⟨x, hx, e⟩ := pick (xs := oddW role) h0 (by rw [oddW_len]; exact h1)
    exact ⟨_, _, _, _, rfl, rfl, SqL.of (s6 _ _ e5), e, q x H6 hx (s5.trans s6)⟩
end
section
variable {P : Program} {w : World} {K : PySem.W.Frag} {mg : Str → Option Value} {base : Heap} {t : Adr}
abbrev signed : List Str := ["word", "one", "none", "many"]
abbrev wd (x r : Str) : List Wd := [(x, r)]
def wA (s z : Str) : List Wd := wd s "sort" ++ if s ∈ signed then wd z "signs" else []
def wB (s z c : Str) : List Wd := wA s z ++ if s ∈ (["still", "end"] : List Str) then [] else wd c "name"
def wC (s z c d g : Str) : List Wd := wB s z c ++ wd d "deed" ++ if d ∈ (["push", "into"] : List Str) then wd g "goal" else []
def wrow (s z c d g f : Str) : List Wd := wC s z c d g ++ if f = "" then [] else wd f "fold"
def hues : List Str := ["red", "open", "stay"]
def sgW (z : Str) : Prop := sgOk z = true ∧ GoodWord z
def RuleRow (names : List Str) (r : List Wd) : Prop := ∃ s z c d g f, s ∈ sorts ∧ sgW z ∧ c ∈ hues ∧ d ∈ deeds ∧ g ∈ names ∧ f ∈ (["", "open", "close"] : List Str) ∧ r = wrow s z c d g f
theorem sgW_at : ∀ c, c ∈ (Str.ofString "ab_(\"#").cps.toList → sgW ("'" ++ (⟨#[c]⟩ : Str)) := by
  intro c hc
  have h : c = 97 ∨ c = 98 ∨ c = 95 ∨ c = 40 ∨ c = 34 ∨ c = 35 := by
    have e : (Str.ofString "ab_(\"#").cps.toList = [97, 98, 95, 40, 34, 35] := by decide +kernel
    rw [e] at hc
    simpa using hc
  rcases h with rfl | rfl | rfl | rfl | rfl | rfl <;> exact ⟨by decide +kernel, by decide +kernel, by decide +kernel, by decide +kernel⟩
theorem Same.up {G H : Hp} {x : Addr} {o : HO} (s : Same G H) (h : G x = none) : Same G (L2.upd H x o) := fun b u e => by rw [upd_ne (ne_of_none e h)]; exact s b u e
theorem strAt {row : Str} {i : Int} (h0 : 0 ≤ i) (h1 : i < row.length) : ∃ c, row.cps.toList[i.toNat]? = some c ∧ atI row.cps.toList i = some c := atI_in _ h0 (by rw [len_cps]; exact h1)
theorem RowH.add {H1 H2 : Hp} {lw p : Addr} {r : List Wd} {w : Wd} (h : RowH H1 lw r) (s : Same H1 H2) (hp : H2 p = none) : ∃ ps : List Addr, upd H2 p (.tup [.str w.1, .str w.2]) lw = some (.lst (ps.map V.ref)) ∧ ps.length = r.length ∧ RowH (upd (upd H2 p (.tup [.str w.1, .str w.2])) lw (.lst (ps.map V.ref ++ [.ref p]))) lw (r ++ [w]) := by
  obtain ⟨ps, h1, h2⟩ := h.same (s.trans (Same.upd (o := .tup [.str w.1, .str w.2]) hp))
  refine ⟨ps, h1, h2.1, ps ++ [p], by rw [upd_same, List.map_append]; rfl, ?_⟩
  refine (h2.mono fun q x z => ?_).snoc ?_
  · show upd _ lw _ q = _
    rw [upd_ne (ne_of z h1 (by intro z; cases z))]; exact z
  · show upd _ lw _ p = _
    rw [upd_ne (fun z => by rw [← z, upd_same] at h1; cases h1), upd_same]
def spLRule (K : PySem.W.Frag) : Sp := fun vs H Q _ => ∃ (a ln : Addr) (ns : List Int) (b : Int) (names : List Str), vs = [.ref a, .int b, .ref ln] ∧ SqL K H a (ns.map V.int) ∧ H ln = some (.lst (names.map V.str)) ∧ names ≠ [] ∧ names.length ≤ 12 ∧ 0 ≤ b ∧ b ≤ 90000 ∧ ns.length ≤ 63 ∧
  ∀ l r H', H l = none → RuleRow names r → RowH H' l r → Same H H' → Q (.ref l) H'
theorem ok__law_rule (T : Txt K mg t) : FnOk P w K mg base CX0 2 t.f__law_rule t.d__law_rule ["_law_script", "_law_base", "_law_names"] (spLRule K) := by
  refine T.F__law_rule.ok sc__law_rule (fun vs H Q E h => ?_) (fun cdv A outer s H vs Q E hr h => at_body ?_)
  · obtain ⟨a, ln, ns, b, names, rfl, _⟩ := h
    rfl
  · obtain ⟨a, ln, ns, b, names, rfl, hS, hn, hne, hn12, hb0, hb1, hl, q⟩ := h
    have hn0 : 0 < names.length := List.length_pos_iff.mpr hne
    refine @at_cons _ _ _ _ _ _ _ (@ps_set _ _ 3 _ _ _ _ sc__law_rule.nd rfl (Or.inl rfl) (@pe_ix _ _ _ _ _ _ _ ix_list (@pe_lst _ _ _ _ (@pa_strs _ _ ["word", "one", "none", "many", "any", "still", "end"] rfl)) (@pe_call _ _ _ _ _ _ _ _ _ _ _ _ _ _ _ _ (ok__law_draw T) (hr.mono (by decide)) rfl T.mg__law_draw T.F__law_draw.kp (bd__law_draw T) .nil pass0 (@pa_cons _ _ _ _ _ (pv 0) (@pa_cons _ _ _ _ _ (pv 1) (@pa_cons _ _ _ _ _ pe_int pa_nil (by walk_at "u")) (by walk_at "u")) (by walk_at "u")) (by walk_at "u") (by walk_at "u") (by walk_at "u")) (fun _ _ => rfl)) (by walk_at "u") (by walk_at "u")) ⟨by show 7 ≤ sizeLine; decide, fun l0 hl0 => ⟨_, rfl, _, rfl, a, ns, b, 7, rfl, hS.same (Same.upd hl0), hb0, by omega, by decide, by decide, hl, fun d1 H1 h1 h2 s1 => ?_⟩⟩
    obtain ⟨srt, hs, e1⟩ := pick (xs := sorts) h1 h2
    refine ⟨_, _, _, _, rfl, rfl, SqL.of (s1 _ _ upd_same), e1, ?_⟩
    have s1 := (Same.upd (o := .lst (sorts.map V.str)) hl0).trans s1
    refine @at_cons _ _ _ _ _ _ _ (@ps_set _ _ 4 _ _ _ _ sc__law_rule.nd rfl (Or.inl rfl) (@pe_lst _ _ _ _ (@pa_cons _ _ _ _ _ (@pe_tup _ _ _ _ _ (@pa_cons _ _ _ _ _ (pv 3) (@pa_cons _ _ _ _ _ pe_str pa_nil (by walk_at "u")) (by walk_at "u"))) pa_nil (by walk_at "u"))) (by walk_at "u") (by walk_at "u")) ⟨_, rfl, by show 2 ≤ sizeLine; decide, fun p1 hp1 => ⟨by show 1 ≤ sizeLine; decide, fun lw hlw => ?_⟩⟩
    have s2 : Same H _ := (s1.trans (Same.upd hp1)).trans (Same.upd (o := .lst [.ref p1]) hlw)
    have hlw0 : H lw = none := (s1.trans (Same.upd hp1)).free hlw
    have R2 : RowH (upd (upd H1 p1 (.tup [.str srt, .str "sort"])) lw (.lst [.ref p1])) lw (wd srt "sort") := ⟨[p1], upd_same, All2.nil.snoc (by
      show upd _ lw _ p1 = _
      rw [upd_ne (ne_of_none upd_same hlw), upd_same])⟩
    show At _ _ _ [some (.ref a), some (.int b), some (.ref ln), some (.str srt), some (.ref lw), none, none] _
    generalize upd (upd H1 p1 (.tup [.str srt, .str "sort"])) lw (.lst [.ref p1]) = H2 at s2 R2 ⊢
    refine @at_consR _ _ _ _ _ _ _ (fun σ' H' => ∃ z, sgW z ∧ σ' = [some (.ref a), some (.int b), some (.ref ln), some (.str srt), some (.ref lw), none, none] ∧ RowH H' lw (wA srt z) ∧ Same H H') (@ps_if _ _ _ _ _ _ _ _ (@pt_cmpR _ _ _ _ _ _ _ _ op_in_seq (pv 3) (@pe_tup _ _ _ _ _ (@pa_strs _ _ ["word", "one", "none", "many"] rfl)) rfl) pss_at pss_at) ?_ ?_
    · refine ⟨_, rfl, by show 4 ≤ sizeLine; decide, fun p hp => ⟨_, _, rfl, .inr (SqT.of upd_same), rfl, flat_strs, _, rfl, ?_⟩⟩
      have s3 := s2.trans (Same.upd (o := .tup (signed.map V.str)) hp)
      have R3 := R2.same (Same.upd (o := .tup (signed.map V.str)) hp)
      show if inV (.str srt) (signed.map V.str) = true then _ else _
      rw [inV_strs]
      refine ifd (fun h => ?_) (fun h => at_nil ⟨_, sgW_at 97 (by decide +kernel), rfl, by rw [wA, if_neg h]; exact R3, s3⟩)
      obtain ⟨ps, e, _⟩ := id R3
      refine @at_one _ _ _ _ _ _ (@ps_expr _ _ _ _ (@pe_bm _ _ _ _ _ _ _ _ _ _ _ _ PySem.F.plainAttrs_list PySem.F.slot_list_append PySem.F.type_list_append mt_append (pv 4) (@pa_cons _ _ _ _ _ (@pe_tup _ _ _ _ _ (@pa_cons _ _ _ _ _ (@pe_op _ _ _ _ _ _ _ _ op_add_str pe_str (@pe_ix _ _ _ _ _ _ _ ix_str pe_str (@pe_call _ _ _ _ _ _ _ _ _ _ _ _ _ _ _ _ (ok__law_draw T) (hr.mono (by decide)) rfl T.mg__law_draw T.F__law_draw.kp (bd__law_draw T) .nil pass0 (@pa_cons _ _ _ _ _ (pv 0) (@pa_cons _ _ _ _ _ (@pe_op _ _ _ _ _ _ _ _ op_add (pv 1) pe_int) (@pa_cons _ _ _ _ _ pe_int pa_nil (by walk_at "u")) (by walk_at "u")) (by walk_at "u")) (by walk_at "u") (by walk_at "u") (by walk_at "u")) (fun _ _ => rfl))) (@pa_cons _ _ _ _ _ pe_str pa_nil (by walk_at "u")) (by walk_at "u"))) pa_nil (by walk_at "u")) (by walk_at "u") (by walk_at "u") (by walk_at "u") (by walk_at "u") (by walk_at "u")) (by walk_at "u")) ⟨_, rfl, .inl ⟨rfl, _, SqL.of e⟩, _, rfl, _, rfl, _, _, rfl, rfl, a, ns, _, 6, rfl, hS.same s3, by omega, by omega, by decide, by decide, hl, fun d4 H4 h3 h4 s4 => ?_⟩
      obtain ⟨c, g1, g2⟩ := strAt (row := "ab_(\"#") (i := d4) h3 (by rw [show ("ab_(\"#" : Str).length = 6 from by decide +kernel]; exact h4)
      refine ⟨_, _, _, rfl, rfl, sl_le (by decide +kernel), g2, _, _, rfl, rfl, ?_, by show 2 ≤ sizeLine; decide, fun p5 hp5 => ?_⟩
      · exact sl_le (by rw [show ("'" : Str).length = 1 from by decide +kernel]; show 1 + 1 ≤ 1000000; decide)
      obtain ⟨ps5, e5, l5, R5⟩ := RowH.add (w := ("'" ++ (⟨#[c]⟩ : Str), "signs")) R3 s4 hp5
      refine ⟨lw, _, _, rfl, rfl, e5, sl_lt (by rw [List.length_map, l5]; show 1 ≤ 1000000; decide), ?_⟩
      exact ⟨_, sgW_at c (List.mem_of_getElem? g1), rfl, by rw [wA, if_pos h]; exact R5, Same.up ((s3.trans s4).trans (Same.upd hp5)) hlw0⟩
    rintro σ' H3 ⟨z, hz, rfl, R3, s3⟩
    have lA : (wA srt z).length ≤ 2 := by unfold wA; split <;> simp
    refine @at_consR _ _ _ _ _ _ _ (fun σ' H' => ∃ c, c ∈ hues ∧ σ' = [some (.ref a), some (.int b), some (.ref ln), some (.str srt), some (.ref lw), none, none] ∧ RowH H' lw (wB srt z c) ∧ Same H H') (@ps_if _ _ _ _ _ _ _ _ (@pt_cmpR _ _ _ _ _ _ _ _ op_notIn_seq (pv 3) (@pe_tup _ _ _ _ _ (@pa_cons _ _ _ _ _ pe_str (@pa_cons _ _ _ _ _ pe_str pa_nil (by walk_at "u")) (by walk_at "u"))) rfl) pss_at pss_at) ?_ ?_
    · refine ⟨_, rfl, by show 2 ≤ sizeLine; decide, fun p hp => ⟨_, _, rfl, .inr (SqT.of upd_same), rfl, rfl, _, rfl, ?_⟩⟩
      have s4 := s3.trans (Same.upd (o := .tup [.str "still", .str "end"]) hp)
      have R4 := R3.same (Same.upd (o := .tup [.str "still", .str "end"]) hp)
      generalize upd H3 p (.tup [.str "still", .str "end"]) = H4 at s4 R4 ⊢
      rw [show ([.str "still", .str "end"] : List V) = (["still", "end"] : List Str).map V.str from rfl, inV_strs]
      refine ifnd (fun h => ?_) (fun h => at_nil ⟨"red", by decide, rfl, by rw [wB, if_pos (by simpa using h), List.append_nil]; exact R4, s4⟩)
      obtain ⟨ps, e, _⟩ := id R4
      refine @at_one _ _ _ _ _ _ (@ps_expr _ _ _ _ (@pe_bm _ _ _ _ _ _ _ _ _ _ _ _ PySem.F.plainAttrs_list PySem.F.slot_list_append PySem.F.type_list_append mt_append (pv 4) (@pa_cons _ _ _ _ _ (@pe_tup _ _ _ _ _ (@pa_cons _ _ _ _ _ (@pe_ix _ _ _ _ _ _ _ ix_list (@pe_lst _ _ _ _ (@pa_strs _ _ ["red", "open", "stay"] rfl)) (@pe_call _ _ _ _ _ _ _ _ _ _ _ _ _ _ _ _ (ok__law_draw T) (hr.mono (by decide)) rfl T.mg__law_draw T.F__law_draw.kp (bd__law_draw T) .nil pass0 (@pa_cons _ _ _ _ _ (pv 0) (@pa_cons _ _ _ _ _ (@pe_op _ _ _ _ _ _ _ _ op_add (pv 1) pe_int) (@pa_cons _ _ _ _ _ pe_int pa_nil (by walk_at "u")) (by walk_at "u")) (by walk_at "u")) (by walk_at "u") (by walk_at "u") (by walk_at "u")) (fun _ _ => rfl)) (@pa_cons _ _ _ _ _ pe_str pa_nil (by walk_at "u")) (by walk_at "u"))) pa_nil (by walk_at "u")) (by walk_at "u") (by walk_at "u") (by walk_at "u") (by walk_at "u") (by walk_at "u")) (by walk_at "u")) ⟨_, rfl, .inl ⟨rfl, _, SqL.of e⟩, by show 3 ≤ sizeLine; decide, fun l5 hl5 => ⟨_, rfl, _, rfl, _, _, rfl, rfl, a, ns, _, 3, rfl, hS.same (s4.trans (Same.upd hl5)), by omega, by omega, by decide, by decide, hl, fun d5 H5 h3 h4 s5 => ?_⟩⟩
      obtain ⟨c, hc, e5⟩ := pick (xs := hues) h3 h4
      refine ⟨_, _, _, _, rfl, rfl, SqL.of (s5 _ _ upd_same), e5, by show 2 ≤ sizeLine; decide, fun p6 hp6 => ?_⟩
      have s5 := (Same.upd (o := .lst (hues.map V.str)) hl5).trans s5
      obtain ⟨ps6, e6, l6, R6⟩ := RowH.add (w := (c, "name")) R4 s5 hp6
      refine ⟨lw, _, _, rfl, rfl, e6, sl_lt (by rw [List.length_map, l6]; omega), ?_⟩
      exact ⟨c, hc, rfl, by rw [wB, if_neg (by simpa using h)]; exact R6, Same.up ((s4.trans s5).trans (Same.upd hp6)) hlw0⟩
    rintro σ' H4 ⟨c, hc, rfl, R4, s4⟩
    have lB : (wB srt z c).length ≤ 3 := by unfold wB; split <;> simp <;> omega
    clear R3 s3 R2 s2 s1
    refine @at_cons _ _ _ _ _ _ _ (@ps_set _ _ 5 _ _ _ _ sc__law_rule.nd rfl (Or.inl rfl) (@pe_ix _ _ _ _ _ _ _ ix_list (@pe_lst _ _ _ _ (@pa_strs _ _ ["stay", "push", "pop", "into"] rfl)) (@pe_call _ _ _ _ _ _ _ _ _ _ _ _ _ _ _ _ (ok__law_draw T) (hr.mono (by decide)) rfl T.mg__law_draw T.F__law_draw.kp (bd__law_draw T) .nil pass0 (@pa_cons _ _ _ _ _ (pv 0) (@pa_cons _ _ _ _ _ (@pe_op _ _ _ _ _ _ _ _ op_add (pv 1) pe_int) (@pa_cons _ _ _ _ _ pe_int pa_nil (by walk_at "u")) (by walk_at "u")) (by walk_at "u")) (by walk_at "u") (by walk_at "u") (by walk_at "u")) (fun _ _ => rfl)) (by walk_at "u") (by walk_at "u")) ⟨by show 4 ≤ sizeLine; decide, fun l0 hl0 => ⟨_, rfl, _, rfl, _, _, rfl, rfl, a, ns, _, 4, rfl, hS.same (s4.trans (Same.upd hl0)), by omega, by omega, by decide, by decide, hl, fun d1 H5 h1 h2 s5 => ?_⟩⟩
    obtain ⟨d, hd, e1⟩ := pick (xs := deeds) h1 h2
    refine ⟨_, _, _, _, rfl, rfl, SqL.of (s5 _ _ upd_same), e1, ?_⟩
    have s5' := (Same.upd (o := .lst (deeds.map V.str)) hl0).trans s5
    have R5 := R4.same s5'
    have s5 := s4.trans s5'
    clear R4 s4 s5'
    obtain ⟨ps, e, _⟩ := id R5
    refine @at_cons _ _ _ _ _ _ _ (@ps_expr _ _ _ _ (@pe_bm _ _ _ _ _ _ _ _ _ _ _ _ PySem.F.plainAttrs_list PySem.F.slot_list_append PySem.F.type_list_append mt_append (pv 4) (@pa_cons _ _ _ _ _ (@pe_tup _ _ _ _ _ (@pa_cons _ _ _ _ _ (pv 5) (@pa_cons _ _ _ _ _ pe_str pa_nil (by walk_at "u")) (by walk_at "u"))) pa_nil (by walk_at "u")) (by walk_at "u") (by walk_at "u") (by walk_at "u") (by walk_at "u") (by walk_at "u")) (by walk_at "u")) ⟨_, rfl, .inl ⟨rfl, _, SqL.of e⟩, _, rfl, by show 2 ≤ sizeLine; decide, fun p6 hp6 => ?_⟩
    obtain ⟨ps6, e6, l6, R6⟩ := RowH.add (w := (d, "deed")) R5 (Same.refl H5) hp6
    refine ⟨lw, _, _, rfl, rfl, e6, sl_lt (by rw [List.length_map, l6]; omega), ?_⟩
    have s6 := Same.up (o := .lst (ps6.map V.ref ++ [.ref p6])) (s5.trans (Same.upd (o := .tup [.str d, .str "deed"]) hp6)) hlw0
    show At _ _ _ [some (.ref a), some (.int b), some (.ref ln), some (.str srt), some (.ref lw), some (.str d), none] (upd (upd H5 p6 (.tup [.str d, .str "deed"])) lw (.lst (ps6.map V.ref ++ [.ref p6])))
    generalize upd (upd H5 p6 (.tup [.str d, .str "deed"])) lw (.lst (ps6.map V.ref ++ [.ref p6])) = H6 at R6 s6 ⊢
    clear R5 s5
    refine @at_consR _ _ _ _ _ _ _ (fun σ' H' => ∃ g, g ∈ names ∧ σ' = [some (.ref a), some (.int b), some (.ref ln), some (.str srt), some (.ref lw), some (.str d), none] ∧ RowH H' lw (wC srt z c d g) ∧ Same H H') (@ps_if _ _ _ _ _ _ _ _ (@pt_cmpR _ _ _ _ _ _ _ _ op_in_seq (pv 5) (@pe_tup _ _ _ _ _ (@pa_cons _ _ _ _ _ pe_str (@pa_cons _ _ _ _ _ pe_str pa_nil (by walk_at "u")) (by walk_at "u"))) rfl) pss_at pss_at) ?_ ?_
    · refine ⟨_, rfl, by show 2 ≤ sizeLine; decide, fun p hp => ⟨_, _, rfl, .inr (SqT.of upd_same), rfl, rfl, _, rfl, ?_⟩⟩
      have s7 := s6.trans (Same.upd (o := .tup [.str "push", .str "into"]) hp)
      have R7 := R6.same (Same.upd (o := .tup [.str "push", .str "into"]) hp)
      generalize upd H6 p (.tup [.str "push", .str "into"]) = H7 at s7 R7 ⊢
      rw [show ([.str "push", .str "into"] : List V) = (["push", "into"] : List Str).map V.str from rfl, inV_strs]
      refine ifd (fun h => ?_) (fun h => at_nil ⟨names[0], List.getElem_mem _, rfl, by rw [wC, if_neg (by simpa using h), List.append_nil]; exact R7, s7⟩)
      obtain ⟨ps, e, _⟩ := id R7
      have hn7 := s7 _ _ hn
      refine @at_one _ _ _ _ _ _ (@ps_expr _ _ _ _ (@pe_bm _ _ _ _ _ _ _ _ _ _ _ _ PySem.F.plainAttrs_list PySem.F.slot_list_append PySem.F.type_list_append mt_append (pv 4) (@pa_cons _ _ _ _ _ (@pe_tup _ _ _ _ _ (@pa_cons _ _ _ _ _ (@pe_ix _ _ _ _ _ _ _ ix_list (pv 2) (@pe_call _ _ _ _ _ _ _ _ _ _ _ _ _ _ _ _ (ok__law_draw T) (hr.mono (by decide)) rfl T.mg__law_draw T.F__law_draw.kp (bd__law_draw T) .nil pass0 (@pa_cons _ _ _ _ _ (pv 0) (@pa_cons _ _ _ _ _ (@pe_op _ _ _ _ _ _ _ _ op_add (pv 1) pe_int) (@pa_cons _ _ _ _ _ (@pe_callB _ _ _ _ _ _ _ _ _ call_len_seq (by rfl) T.z_len (by decide +kernel) (@pa_cons _ _ _ _ _ (pv 2) pa_nil (by walk_at "u")) (by walk_at "u") (by walk_at "u") (by walk_at "u") (by walk_at "u")) pa_nil (by walk_at "u")) (by walk_at "u")) (by walk_at "u")) (by walk_at "u") (by walk_at "u") (by walk_at "u")) (fun _ _ => rfl)) (@pa_cons _ _ _ _ _ pe_str pa_nil (by walk_at "u")) (by walk_at "u"))) pa_nil (by walk_at "u")) (by walk_at "u") (by walk_at "u") (by walk_at "u") (by walk_at "u") (by walk_at "u")) (by walk_at "u")) ⟨_, rfl, .inl ⟨rfl, _, SqL.of e⟩, _, rfl, _, rfl, _, rfl, _, _, rfl, rfl, _, rfl, _, _, rfl, .inl (SqL.of hn7), a, ns, _, _, rfl, hS.same s7, by omega, by omega, by rw [List.length_map]; omega, by rw [List.length_map]; omega, hl, fun d8 H8 h3 h4 s8 => ?_⟩
      obtain ⟨g, hg, e8⟩ := pick (xs := names) h3 (by rw [List.length_map] at h4; exact h4)
      refine ⟨_, _, _, _, rfl, rfl, SqL.of (s8 _ _ hn7), e8, by show 2 ≤ sizeLine; decide, fun p9 hp9 => ?_⟩
      obtain ⟨ps9, e9, l9, R9⟩ := RowH.add (w := (g, "goal")) R7 s8 hp9
      refine ⟨lw, _, _, rfl, rfl, e9, sl_lt (by rw [List.length_map, l9, List.length_append]; simp; omega), ?_⟩
      exact ⟨g, hg, rfl, by rw [wC, if_pos (by simpa using h)]; exact R9, Same.up ((s7.trans s8).trans (Same.upd hp9)) hlw0⟩
    rintro σ' H7 ⟨g, hg, rfl, R7, s7⟩
    have lC : (wC srt z c d g).length ≤ 5 := by unfold wC; split <;> simp <;> omega
    clear R6 s6
    refine @at_cons _ _ _ _ _ _ _ (@ps_set _ _ 6 _ _ _ _ sc__law_rule.nd rfl (Or.inl rfl) (@pe_ix _ _ _ _ _ _ _ ix_list (@pe_lst _ _ _ _ (@pa_strs _ _ ["", "open", "close"] rfl)) (@pe_call _ _ _ _ _ _ _ _ _ _ _ _ _ _ _ _ (ok__law_draw T) (hr.mono (by decide)) rfl T.mg__law_draw T.F__law_draw.kp (bd__law_draw T) .nil pass0 (@pa_cons _ _ _ _ _ (pv 0) (@pa_cons _ _ _ _ _ (@pe_op _ _ _ _ _ _ _ _ op_add (pv 1) pe_int) (@pa_cons _ _ _ _ _ pe_int pa_nil (by walk_at "u")) (by walk_at "u")) (by walk_at "u")) (by walk_at "u") (by walk_at "u") (by walk_at "u")) (fun _ _ => rfl)) (by walk_at "u") (by walk_at "u")) ⟨by show 3 ≤ sizeLine; decide, fun l0 hl0 => ⟨_, rfl, _, rfl, _, _, rfl, rfl, a, ns, _, 3, rfl, hS.same (s7.trans (Same.upd hl0)), by omega, by omega, by decide, by decide, hl, fun d1 H8 h1 h2 s8 => ?_⟩⟩
    obtain ⟨f, hf, e1⟩ := pick (xs := ["", "open", "close"]) h1 h2
    refine ⟨_, _, _, _, rfl, rfl, SqL.of (s8 _ _ upd_same), e1, ?_⟩
    have s8' := (Same.upd (o := .lst ((["", "open", "close"] : List Str).map V.str)) hl0).trans s8
    have R8 := R7.same s8'
    have s8 := s7.trans s8'
    refine @at_consR _ _ _ _ _ _ _ (fun σ' H' => σ' = [some (.ref a), some (.int b), some (.ref ln), some (.str srt), some (.ref lw), some (.str d), some (.str f)] ∧ RowH H' lw (wrow srt z c d g f) ∧ Same H H') (@ps_if _ _ _ _ _ _ _ _ (@pt_cmpR _ _ _ _ _ _ _ _ op_ne (pv 6) pe_str (nomark _)) pss_at pss_at) ?_ ?_
    · refine ⟨_, rfl, rfl, _, rfl, ifnd (fun h => ?_) (fun h => at_nil ⟨rfl, by rw [wrow, if_pos (V.str.inj h), List.append_nil]; exact R8, s8⟩)⟩
      obtain ⟨ps, e, _⟩ := id R8
      refine @at_one _ _ _ _ _ _ (@ps_expr _ _ _ _ (@pe_bm _ _ _ _ _ _ _ _ _ _ _ _ PySem.F.plainAttrs_list PySem.F.slot_list_append PySem.F.type_list_append mt_append (pv 4) (@pa_cons _ _ _ _ _ (@pe_tup _ _ _ _ _ (@pa_cons _ _ _ _ _ (pv 6) (@pa_cons _ _ _ _ _ pe_str pa_nil (by walk_at "u")) (by walk_at "u"))) pa_nil (by walk_at "u")) (by walk_at "u") (by walk_at "u") (by walk_at "u") (by walk_at "u") (by walk_at "u")) (by walk_at "u")) ⟨_, rfl, .inl ⟨rfl, _, SqL.of e⟩, _, rfl, by show 2 ≤ sizeLine; decide, fun p9 hp9 => ?_⟩
      obtain ⟨ps9, e9, l9, R9⟩ := RowH.add (w := (f, "fold")) R8 (Same.refl H8) hp9
      refine ⟨lw, _, _, rfl, rfl, e9, sl_lt (by rw [List.length_map, l9]; omega), ?_⟩
      exact ⟨rfl, by rw [wrow, if_neg (fun z => h (by rw [z]))]; exact R9, Same.up (s8.trans (Same.upd hp9)) hlw0⟩
    rintro σ' H9 ⟨rfl, R9, s9⟩
    exact @at_one _ _ _ _ _ _ (@ps_ret _ _ _ _ (pv 4)) ⟨_, rfl, q lw _ H9 hlw0 ⟨srt, z, c, d, g, f, hs, hz, hc, hd, hg, hf, rfl⟩ R9 s9⟩
end
section
variable {P : Program} {w : World} {K : PySem.W.Frag} {mg : Str → Option Value} {base : Heap} {t : Adr}
theorem cut_to {xs : List V} {j : Nat} (hj : j ≤ xs.length) : cutV xs none (some (j : Int)) = xs.take j := by
  rw [cutV, HT.sIx_nat, HT.sIx_none, Nat.min_eq_left hj]; rfl
def modeRow (n c : Str) : List Wd := wd "mode" "mode" ++ wd n "name" ++ wd c "name"
structure ModeD where
  name : Str
  col : Str
  rules : List (List Wd)
def rowsD (ms : List ModeD) : List (List Wd) := ms.flatMap fun m => modeRow m.name m.col :: m.rules
def tab1 : List Str := ["a", "ab", "mode", "end"]
def tab2 : List Str := ["a", "close", "open", "pop"]
def NamesOk (names : List Str) : Prop := ∃ n, 1 ≤ n ∧ n ≤ 4 ∧ (names = tab1.take n ∨ names = tab2.take n)
theorem NamesOk.len {names : List Str} (h : NamesOk names) : 1 ≤ names.length ∧ names.length ≤ 4 := by
  obtain ⟨n, h1, h2, rfl | rfl⟩ := h
  · rw [List.length_take]; show 1 ≤ min n 4 ∧ min n 4 ≤ 4; omega
  · rw [List.length_take]; show 1 ≤ min n 4 ∧ min n 4 ≤ 4; omega
structure ModeOk (names : List Str) (m : ModeD) : Prop where
  col : m.col ∈ (["blue", "x"] : List Str)
  len : m.rules.length ≤ 4
  rules : ∀ r ∈ m.rules, RuleRow names r
/-- rows in a list that is none of them -/
def RowsN (H : Hp) (l : Addr) (rs : List (List Wd)) : Prop := ∃ ls, l ∉ ls ∧ H l = some (.lst (ls.map V.ref)) ∧ All2 (RowH H) ls rs
theorem RowsN.rows {H : Hp} {l : Addr} {rs : List (List Wd)} (h : RowsN H l rs) : RowsH H l rs := let ⟨ls, _, x, y⟩ := h; ⟨ls, x, y⟩
theorem RowsN.same {H H' : Hp} {l : Addr} {rs : List (List Wd)} (h : RowsN H l rs) (s : Same H H') : RowsN H' l rs := let ⟨ls, n, x, y⟩ := h; ⟨ls, n, s _ _ x, y.mono fun _ _ z => z.same s⟩
theorem RowH.updL {H : Hp} {l l2 : Addr} {r : List Wd} {xs : List V} {o : HO} (h : RowH H l r) (hl : H l2 = some (.lst xs)) (hn : l ≠ l2) : RowH (upd H l2 o) l r := by
  obtain ⟨ps, x, y⟩ := h
  refine ⟨ps, by rw [upd_ne hn]; exact x, y.mono fun q w z => ?_⟩
  show upd _ l2 _ q = _
  rw [upd_ne (ne_of z hl (by intro z; cases z))]; exact z
theorem RowsN.add {H : Hp} {l lr : Addr} {rs : List (List Wd)} {r : List Wd} (h : RowsN H l rs) (hr : RowH H lr r) (hn : lr ≠ l) : ∃ ls : List Addr, H l = some (.lst (ls.map V.ref)) ∧ ls.length = rs.length ∧ RowsN (upd H l (.lst (ls.map V.ref ++ [.ref lr]))) l (rs ++ [r]) := by
  obtain ⟨ls, n, x, y⟩ := h
  refine ⟨ls, x, y.1, ls ++ [lr], ?_, by rw [upd_same, List.map_append]; rfl, ?_⟩
  · intro z
    rcases List.mem_append.mp z with z | z
    · exact n z
    · exact hn (List.mem_singleton.mp z).symm
  · have key : ∀ a b, a ∈ ls → RowH H a b → RowH (upd H l (.lst (ls.map V.ref ++ [.ref lr]))) a b := fun a b ha hb => hb.updL x (fun z => n (z ▸ ha))
    refine All2.snoc ⟨y.1, fun i a b h1 h2 => key a b (List.mem_of_getElem? h1) (y.2 i a b h1 h2)⟩ (hr.updL x hn)
def spLRows (K : PySem.W.Frag) : Sp := fun vs H Q _ => ∃ (a : Addr) (ns : List Int), vs = [.ref a] ∧ SqL K H a (ns.map V.int) ∧ ns.length ≤ 63 ∧
  ∀ l names ms H', NamesOk names → ms.map (·.name) = names → (∀ m ∈ ms, ModeOk names m) → RowsN H' l (rowsD ms) → Same H H' → Q (.ref l) H'
theorem rowsD_snoc (ms : List ModeD) (m : ModeD) : rowsD (ms ++ [m]) = rowsD ms ++ modeRow m.name m.col :: m.rules := by unfold rowsD; rw [List.flatMap_append]; simp
theorem rowsD_len {names : List Str} : ∀ {ms : List ModeD}, (∀ m ∈ ms, ModeOk names m) → (rowsD ms).length ≤ 5 * ms.length
  | [], _ => by simp [rowsD]
  | m :: r, h => by
    have h1 := (h m (by simp)).len
    have h2 := rowsD_len (ms := r) fun x hx => h x (List.mem_cons_of_mem _ hx)
    unfold rowsD at h2 ⊢
    rw [List.flatMap_cons, List.length_append, List.length_cons, List.length_cons]
    omega
theorem ok__law_rows (T : Txt K mg t) : FnOk P w K mg base CX0 3 t.f__law_rows t.d__law_rows ["_law_script"] (spLRows K) := by
  refine T.F__law_rows.ok sc__law_rows (fun vs H Q E h => ?_) (fun cdv A outer s H vs Q E hr h => at_body ?_)
  · obtain ⟨a, ns, rfl, _⟩ := h
    rfl
  · obtain ⟨a, ns, rfl, hS, hl, q⟩ := h
    refine @at_cons _ _ _ _ _ _ _ (@ps_set _ _ 1 _ _ _ _ sc__law_rows.nd rfl (Or.inl rfl) (@pe_slice _ _ _ _ _ _ _ _ _ _ sl_list (@pe_lst _ _ _ _ (@pa_strs _ _ ["a", "ab", "mode", "end"] rfl)) po_none (@po_some _ _ _ (@pe_op _ _ _ _ _ _ _ _ op_add pe_int (@pe_call _ _ _ _ _ _ _ _ _ _ _ _ _ _ _ _ (ok__law_draw T) (hr.mono (by decide)) rfl T.mg__law_draw T.F__law_draw.kp (bd__law_draw T) .nil pass0 (@pa_cons _ _ _ _ _ (pv 0) (@pa_cons _ _ _ _ _ pe_int (@pa_cons _ _ _ _ _ pe_int pa_nil (by walk_at "u")) (by walk_at "u")) (by walk_at "u")) (by walk_at "u") (by walk_at "u") (by walk_at "u"))))) (by walk_at "u") (by walk_at "u")) ⟨by show 4 ≤ sizeLine; decide, fun l0 hl0 => ⟨_, rfl, a, ns, 1, 4, rfl, hS.same (Same.upd hl0), by decide, by decide, by decide, by decide, hl, fun d1 H1 h1 h2 s1 => ?_⟩⟩
    obtain ⟨n1, rfl⟩ : ∃ n : Nat, d1 = n := ⟨d1.toNat, by omega⟩
    have hn1 : n1 < 4 := by omega
    refine ⟨_, _, rfl, rfl, 1 + (n1 : Int), rfl, l0, tab1.map V.str, rfl, SqL.of (s1 _ _ upd_same), fun l1 hl1 => ?_⟩
    have s1 := (Same.upd (o := .lst (tab1.map V.str)) hl0).trans s1
    rw [show (1 + (n1 : Int)) = ((1 + n1 : Nat) : Int) by omega, cut_to (by rw [List.length_map]; show 1 + n1 ≤ 4; omega), ← List.map_take]
    have s2 := s1.trans (Same.upd (o := .lst ((tab1.take (1 + n1)).map V.str)) hl1)
    have e2 : upd H1 l1 (.lst ((tab1.take (1 + n1)).map V.str)) l1 = some (.lst ((tab1.take (1 + n1)).map V.str)) := upd_same
    show At _ _ _ [some (.ref a), some (.ref l1), none, none, none] _
    generalize upd H1 l1 (.lst ((tab1.take (1 + n1)).map V.str)) = H2 at s2 e2 ⊢
    refine @at_consR _ _ _ _ _ _ _ (fun σ' H' => ∃ ln names, NamesOk names ∧ σ' = [some (.ref a), some (.ref ln), none, none, none] ∧ H' ln = some (.lst (names.map V.str)) ∧ Same H H') (@ps_if _ _ _ _ _ _ _ _ (@pt_cmpR _ _ _ _ _ _ _ _ op_eq (@pe_call _ _ _ _ _ _ _ _ _ _ _ _ _ _ _ _ (ok__law_draw T) (hr.mono (by decide)) rfl T.mg__law_draw T.F__law_draw.kp (bd__law_draw T) .nil pass0 (@pa_cons _ _ _ _ _ (pv 0) (@pa_cons _ _ _ _ _ pe_int (@pa_cons _ _ _ _ _ pe_int pa_nil (by walk_at "u")) (by walk_at "u")) (by walk_at "u")) (by walk_at "u") (by walk_at "u") (by walk_at "u")) pe_int (nomark _)) pss_at pss_at) ?_ ?_
    · refine ⟨_, rfl, a, ns, 2, 3, rfl, hS.same s2, by decide, by decide, by decide, by decide, hl, fun d2 H3 h3 h4 s3 => ⟨rfl, _, rfl, ifd (fun _ => ?_) (fun _ => at_nil ⟨l1, _, ⟨1 + n1, by omega, by omega, .inl rfl⟩, rfl, s3 _ _ e2, s2.trans s3⟩)⟩⟩
      have e3 := s3 _ _ e2
      refine @at_one _ _ _ _ _ _ (@ps_set _ _ 1 _ _ _ _ sc__law_rows.nd rfl (Or.inl rfl) (@pe_slice _ _ _ _ _ _ _ _ _ _ sl_list (@pe_lst _ _ _ _ (@pa_strs _ _ ["a", "close", "open", "pop"] rfl)) po_none (@po_some _ _ _ (@pe_callB _ _ _ _ _ _ _ _ _ call_len_seq (by rfl) T.z_len (by decide +kernel) (@pa_cons _ _ _ _ _ (pv 1) pa_nil (by walk_at "u")) (by walk_at "u") (by walk_at "u") (by walk_at "u") (by walk_at "u")))) (by walk_at "u") (by walk_at "u")) ⟨by show 4 ≤ sizeLine; decide, fun l4 hl4 => ⟨_, rfl, _, _, rfl, .inl (SqL.of (Same.upd hl4 _ _ e3)), _, rfl, l4, tab2.map V.str, rfl, SqL.of upd_same, fun l5 hl5 => ?_⟩⟩
      have s4 := (s2.trans s3).trans (Same.upd (o := .lst (tab2.map V.str)) hl4)
      have e : ((tab1.take (1 + n1)).map V.str).length = 1 + n1 := by rw [List.length_map, List.length_take]; show min (1 + n1) 4 = _; omega
      rw [e, cut_to (by rw [List.length_map]; show 1 + n1 ≤ 4; omega), ← List.map_take]
      exact ⟨l5, _, ⟨1 + n1, by omega, by omega, .inr rfl⟩, rfl, upd_same, s4.trans (Same.upd hl5)⟩
    rintro σ' H3 ⟨ln, names, hN, rfl, hn3, s3⟩
    obtain ⟨hk1, hk4⟩ := hN.len
    refine @at_cons _ _ _ _ _ _ _ (@ps_set _ _ 2 _ _ _ _ sc__law_rows.nd rfl (Or.inl rfl) (@pe_lst _ _ _ _ pa_nil) (by walk_at "u") (by walk_at "u")) ⟨by show 0 ≤ sizeLine; decide, fun lr hlr => ?_⟩
    have hlr0 : H lr = none := s3.free hlr
    have s4 := s3.trans (Same.upd (o := .lst []) hlr)
    have hn4 : upd H3 lr (.lst []) ln = some (.lst (names.map V.str)) := Same.upd hlr _ _ hn3
    have R4 : RowsN (upd H3 lr (.lst [])) lr (rowsD []) := ⟨[], by simp, upd_same, All2.nil⟩
    have nln : ln ≠ lr := ne_of_none hn3 hlr
    show At _ _ _ [some (.ref a), some (.ref ln), some (.ref lr), none, none] _
    generalize upd H3 lr (.lst []) = H4 at s4 hn4 R4 ⊢
    refine @at_consR _ _ _ _ _ _ _ (fun σ' H' => ∃ x3 x4 ms, σ' = [some (.ref a), some (.ref ln), some (.ref lr), x3, x4] ∧ ms.map (·.name) = names ∧ (∀ m ∈ ms, ModeOk names m) ∧ RowsN H' lr (rowsD ms) ∧ Same H H') (@ps_forA _ _ _ _ _ _ _ _ PassesOwn.never rfl (@pi_range1 _ _ _ _ _ _ rfl T.z_range (@pa_cons _ _ _ _ _ (@pe_callB _ _ _ _ _ _ _ _ _ call_len_seq (by rfl) T.z_len (by decide +kernel) (@pa_cons _ _ _ _ _ (pv 1) pa_nil (by walk_at "u")) (by walk_at "u") (by walk_at "u") (by walk_at "u") (by walk_at "u")) pa_nil (by walk_at "u")) (by walk_at "u")) (@pg_name _ _ 3 _ sc__law_rows.nd rfl (Or.inl rfl) (by walk_at "u")) pss_at (by walk_at "u")) ?_ ?_
    · refine ⟨_, rfl, _, _, rfl, .inl (SqL.of hn4), _, rfl, by rw [List.length_map]; omega, by rw [List.length_map]; omega, forW_range (n := ((names.map V.str).length : Int).toNat) (fun i σ' H' => ∃ x3 x4 ms, σ' = [some (.ref a), some (.ref ln), some (.ref lr), x3, x4] ∧ ms.map (·.name) = names.take i ∧ (∀ m ∈ ms, ModeOk names m) ∧ RowsN H' lr (rowsD ms) ∧ H' ln = some (.lst (names.map V.str)) ∧ Same H H') ⟨_, _, [], rfl, rfl, by simp, R4, hn4, s4⟩ ?_ ?_⟩
      · rintro i σ' H5 hi ⟨x3, x4, ms, rfl, hm, hM, R5, hn5, s5⟩
        have hi : i < names.length := by rw [List.length_map] at hi; omega
        have hml : ms.length = i := by have := congrArg List.length hm; rw [List.length_map, List.length_take] at this; omega
        have hrl := rowsD_len hM
        obtain ⟨n, hni⟩ : ∃ n, names[i]? = some n := ⟨names[i], List.getElem?_eq_getElem hi⟩
        have en : atI (names.map V.str) (0 + (i : Int)) = some (.str n) := by rw [Int.zero_add]; exact atI_nat (by rw [List.getElem?_map, hni]; rfl)
        obtain ⟨ls, _, el, _⟩ := id R5
        refine @at_cons _ _ _ _ _ _ _ (@ps_expr _ _ _ _ (@pe_bm _ _ _ _ _ _ _ _ _ _ _ _ PySem.F.plainAttrs_list PySem.F.slot_list_append PySem.F.type_list_append mt_append (pv 2) (@pa_cons _ _ _ _ _ (@pe_lst _ _ _ _ (@pa_cons _ _ _ _ _ (@pe_tup _ _ _ _ _ (@pa_cons _ _ _ _ _ pe_str (@pa_cons _ _ _ _ _ pe_str pa_nil (by walk_at "u")) (by walk_at "u"))) (@pa_cons _ _ _ _ _ (@pe_tup _ _ _ _ _ (@pa_cons _ _ _ _ _ (@pe_ix _ _ _ _ _ _ _ ix_list (pv 1) (pv 3) (fun _ _ => rfl)) (@pa_cons _ _ _ _ _ pe_str pa_nil (by walk_at "u")) (by walk_at "u"))) (@pa_cons _ _ _ _ _ (@pe_tup _ _ _ _ _ (@pa_cons _ _ _ _ _ (@pe_ix _ _ _ _ _ _ _ ix_list (@pe_lst _ _ _ _ (@pa_cons _ _ _ _ _ pe_str (@pa_cons _ _ _ _ _ pe_str pa_nil (by walk_at "u")) (by walk_at "u"))) (@pe_call _ _ _ _ _ _ _ _ _ _ _ _ _ _ _ _ (ok__law_draw T) (hr.mono (by decide)) rfl T.mg__law_draw T.F__law_draw.kp (bd__law_draw T) .nil pass0 (@pa_cons _ _ _ _ _ (pv 0) (@pa_cons _ _ _ _ _ (@pe_op _ _ _ _ _ _ _ _ op_add pe_int (pv 3)) (@pa_cons _ _ _ _ _ pe_int pa_nil (by walk_at "u")) (by walk_at "u")) (by walk_at "u")) (by walk_at "u") (by walk_at "u") (by walk_at "u")) (fun _ _ => rfl)) (@pa_cons _ _ _ _ _ pe_str pa_nil (by walk_at "u")) (by walk_at "u"))) pa_nil (by walk_at "u")) (by walk_at "u")) (by walk_at "u"))) pa_nil (by walk_at "u")) (by walk_at "u") (by walk_at "u") (by walk_at "u") (by walk_at "u") (by walk_at "u")) (by walk_at "u")) ⟨_, rfl, .inl ⟨rfl, _, SqL.of el⟩, by show 2 ≤ sizeLine; decide, fun p1 hp1 => ⟨_, rfl, _, rfl, _, _, _, _, rfl, rfl, SqL.of (Same.upd hp1 _ _ hn5), en, by show 2 ≤ sizeLine; decide, fun p2 hp2 => ⟨by show 2 ≤ sizeLine; decide, fun l3 hl3 => ⟨_, rfl, _, rfl, _, _, rfl, rfl, a, ns, _, 2, rfl, hS.same (((s5.trans (Same.upd hp1)).trans (Same.upd hp2)).trans (Same.upd hl3)), by omega, by omega, by decide, by decide, hl, fun d6 H6 h1 h2 s6 => ?_⟩⟩⟩⟩
        obtain ⟨c, hc, ec⟩ := pick (xs := ["blue", "x"]) h1 h2
        refine ⟨_, _, _, _, rfl, rfl, SqL.of (s6 _ _ upd_same), ec, by show 2 ≤ sizeLine; decide, fun p7 hp7 => ⟨by show 3 ≤ sizeLine; decide, fun l8 hl8 => ?_⟩⟩
        have t1 : Same H5 (upd H5 p1 (.tup [.str "mode", .str "mode"])) := Same.upd hp1
        have t2 := t1.trans (Same.upd (o := .tup [.str n, .str "name"]) hp2)
        have t3 := (t2.trans (Same.upd (o := .lst ((["blue", "x"] : List Str).map V.str)) hl3)).trans s6
        have t4 := t3.trans (Same.upd (o := .tup [.str c, .str "name"]) hp7)
        have t5 := t4.trans (Same.upd (o := .lst [.ref p1, .ref p2, .ref p7]) hl8)
        have hw : RowH (upd (upd H6 p7 (.tup [.str c, .str "name"])) l8 (.lst [.ref p1, .ref p2, .ref p7])) l8 (modeRow n c) := by
          have u1 := s6 _ _ (Same.upd (o := .lst ((["blue", "x"] : List Str).map V.str)) hl3 _ _ (Same.upd (o := .tup [.str n, .str "name"]) hp2 _ _ (upd_same (H := H5) (a := p1) (o := .tup [.str "mode", .str "mode"]))))
          have u2 := s6 _ _ (Same.upd (o := .lst ((["blue", "x"] : List Str).map V.str)) hl3 _ _ (upd_same (a := p2) (o := .tup [.str n, .str "name"])))
          have v1 := Same.upd (o := .lst [.ref p1, .ref p2, .ref p7]) hl8 _ _ (Same.upd (o := .tup [.str c, .str "name"]) hp7 _ _ u1)
          have v2 := Same.upd (o := .lst [.ref p1, .ref p2, .ref p7]) hl8 _ _ (Same.upd (o := .tup [.str c, .str "name"]) hp7 _ _ u2)
          have v3 := Same.upd (o := .lst [.ref p1, .ref p2, .ref p7]) hl8 _ _ (upd_same (H := H6) (a := p7) (o := .tup [.str c, .str "name"]))
          exact ⟨[p1, p2, p7], upd_same, All2.snoc (R := WdH _) (as := [p1, p2]) (bs := [("mode", "mode"), (n, "name")]) (All2.snoc (R := WdH _) (as := [p1]) (bs := [("mode", "mode")]) (All2.snoc (R := WdH _) (as := []) (bs := []) All2.nil v1) v2) v3⟩
        have nl8 : l8 ≠ lr := Ne.symm (ne_of_none (t4 _ _ el) hl8)
        obtain ⟨ls8, e8, l8l, R9⟩ := RowsN.add (R5.same t5) hw nl8
        refine ⟨lr, _, _, rfl, rfl, e8, sl_lt (by rw [List.length_map, l8l]; omega), ?_⟩
        have s9 := Same.up (o := .lst (ls8.map V.ref ++ [.ref l8])) (s5.trans t5) hlr0
        have hn9 : upd (upd (upd H6 p7 (.tup [.str c, .str "name"])) l8 (.lst [.ref p1, .ref p2, .ref p7])) lr (.lst (ls8.map V.ref ++ [.ref l8])) ln = some (.lst (names.map V.str)) := by rw [upd_ne nln]; exact t5 _ _ hn5
        show At _ _ _ [some (.ref a), some (.ref ln), some (.ref lr), some (.int (0 + (i : Int))), x4] (upd (upd (upd H6 p7 (.tup [.str c, .str "name"])) l8 (.lst [.ref p1, .ref p2, .ref p7])) lr (.lst (ls8.map V.ref ++ [.ref l8])))
        generalize upd (upd (upd H6 p7 (.tup [.str c, .str "name"])) l8 (.lst [.ref p1, .ref p2, .ref p7])) lr (.lst (ls8.map V.ref ++ [.ref l8])) = H9 at R9 s9 hn9 ⊢
        clear t1 t2 t3 t4 t5 hw
        refine @at_one _ _ _ _ _ _ (@ps_forA _ _ _ _ _ _ _ _ PassesOwn.never rfl (@pi_range1 _ _ _ _ _ _ rfl T.z_range (@pa_cons _ _ _ _ _ (@pe_call _ _ _ _ _ _ _ _ _ _ _ _ _ _ _ _ (ok__law_draw T) (hr.mono (by decide)) rfl T.mg__law_draw T.F__law_draw.kp (bd__law_draw T) .nil pass0 (@pa_cons _ _ _ _ _ (pv 0) (@pa_cons _ _ _ _ _ (@pe_op _ _ _ _ _ _ _ _ op_add pe_int (pv 3)) (@pa_cons _ _ _ _ _ pe_int pa_nil (by walk_at "u")) (by walk_at "u")) (by walk_at "u")) (by walk_at "u") (by walk_at "u") (by walk_at "u")) pa_nil (by walk_at "u")) (by walk_at "u")) (@pg_name _ _ 4 _ sc__law_rows.nd rfl (Or.inl rfl) (by walk_at "u")) pss_at (by walk_at "u")) ⟨_, rfl, _, rfl, _, _, rfl, rfl, a, ns, _, 5, rfl, hS.same s9, by omega, by omega, by decide, by decide, hl, fun d10 H10 h3 h4 s10 => ⟨d10, rfl, by omega, by omega, forW_range (n := d10.toNat) (fun j σ' H' => ∃ x4 rs, σ' = [some (.ref a), some (.ref ln), some (.ref lr), some (.int (0 + (i : Int))), x4] ∧ rs.length = j ∧ (∀ r ∈ rs, RuleRow names r) ∧ RowsN H' lr (rowsD ms ++ modeRow n c :: rs) ∧ H' ln = some (.lst (names.map V.str)) ∧ Same H H') ⟨_, [], rfl, rfl, by simp, R9.same s10, s10 _ _ hn9, s9.trans s10⟩ ?_ ?_⟩⟩
        · rintro j σ' H11 hj ⟨x4, rs, rfl, hrs, hR, R11, hn11, s11⟩
          have hj5 : j < 5 := by omega
          obtain ⟨ls11, _, el11, _⟩ := id R11
          refine @at_one _ _ _ _ _ _ (@ps_expr _ _ _ _ (@pe_bm _ _ _ _ _ _ _ _ _ _ _ _ PySem.F.plainAttrs_list PySem.F.slot_list_append PySem.F.type_list_append mt_append (pv 2) (@pa_cons _ _ _ _ _ (@pe_call _ _ _ _ _ _ _ _ _ _ _ _ _ _ _ _ (ok__law_rule T) (hr.mono (by decide)) rfl T.mg__law_rule T.F__law_rule.kp (bd__law_rule T) .nil pass0 (@pa_cons _ _ _ _ _ (pv 0) (@pa_cons _ _ _ _ _ (@pe_op _ _ _ _ _ _ _ _ op_add (@pe_op _ _ _ _ _ _ _ _ op_add pe_int (@pe_op _ _ _ _ _ _ _ _ op_mul pe_int (pv 3))) (@pe_op _ _ _ _ _ _ _ _ op_mul pe_int (pv 4))) (@pa_cons _ _ _ _ _ (pv 1) pa_nil (by walk_at "u")) (by walk_at "u")) (by walk_at "u")) (by walk_at "u") (by walk_at "u") (by walk_at "u")) pa_nil (by walk_at "u")) (by walk_at "u") (by walk_at "u") (by walk_at "u") (by walk_at "u") (by walk_at "u")) (by walk_at "u")) ⟨_, rfl, .inl ⟨rfl, _, SqL.of el11⟩, _, rfl, _, rfl, _, _, rfl, rfl, .inl ⟨by decide, by decide⟩, _, _, rfl, rfl, _, rfl, _, _, rfl, rfl, .inl ⟨by decide, by decide⟩, _, _, rfl, rfl, _, rfl, a, ln, ns, _, names, rfl, hS.same s11, hn11, fun z => by rw [z] at hi; simp at hi, by omega, by omega, by omega, hl, fun l12 r H12 hf12 hr12 hrow12 s12 => ?_⟩
          obtain ⟨ls13, e13, l13, R13⟩ := RowsN.add (R11.same s12) hrow12 (Ne.symm (ne_of_none el11 hf12))
          refine ⟨lr, _, _, rfl, rfl, e13, sl_lt (by rw [List.length_map, l13, List.length_append, List.length_cons]; omega), ?_⟩
          refine ⟨_, rs ++ [r], rfl, by rw [List.length_append, hrs]; rfl, ?_, by rw [List.append_assoc] at R13; exact R13, by rw [upd_ne nln]; exact s12 _ _ hn11, Same.up (s11.trans s12) hlr0⟩
          intro r' hr'
          rcases List.mem_append.mp hr' with z | z
          · exact hR r' z
          · rw [List.mem_singleton.mp z]; exact hr12
        · rintro σ' H11 ⟨x4, rs, rfl, hrs, hR, R11, hn11, s11⟩
          refine ⟨_, _, ms ++ [⟨n, c, rs⟩], rfl, by rw [List.map_append, hm, take_snoc hni]; rfl, ?_, by rw [rowsD_snoc]; exact R11, hn11, s11⟩
          intro m hmm
          rcases List.mem_append.mp hmm with z | z
          · exact hM m z
          · rw [List.mem_singleton.mp z]; exact ⟨hc, by show rs.length ≤ 4; omega, hR⟩
      · rintro σ' H5 ⟨x3, x4, ms, rfl, hm, hM, R5, hn5, s5⟩
        refine ⟨_, _, ms, rfl, ?_, hM, R5, s5⟩
        rw [hm]
        exact List.take_of_length_le (by rw [List.length_map]; omega)
    rintro σ' H5 ⟨x3, x4, ms, rfl, hm, hM, R5, s5⟩
    exact @at_one _ _ _ _ _ _ (@ps_ret _ _ _ _ (pv 2)) ⟨_, rfl, q lr names ms H5 hN hm hM R5 s5⟩
end
section
variable {P : Program} {w : World} {K : PySem.W.Frag} {mg : Str → Option Value} {base : Heap} {t : Adr}
theorem drop_cons {α : Type} {ws : List α} {i : Nat} {x : α} {r : List α} (h : ws.drop i = x :: r) : ws[i]? = some x ∧ ws.drop (i + 1) = r := by
  have h1 : ws[i]? = some x := by rw [← List.head?_drop, h]; rfl
  refine ⟨h1, ?_⟩
  rw [← List.drop_drop, h]; rfl
theorem pk_drop {ws : List Str} {i : Nat} {x : Str} {r : List Str} (h : ws.drop i = x :: r) : pk ws i = x := by
  unfold pk
  rw [List.getD_eq_getElem?_getD, (drop_cons h).1]; rfl
theorem lt_drop {ws : List Str} {i : Nat} {x : Str} {r : List Str} (h : ws.drop i = x :: r) : i < ws.length := (List.getElem?_eq_some_iff.mp (drop_cons h).1).1
theorem nil_drop {ws : List Str} {i : Nat} (h : ws.drop i = []) : ws.length ≤ i := List.drop_eq_nil_iff.mp h
theorem rd4_nil {ws : List Str} {i : Nat} {g : Option Nat} (h : ws.drop i = []) : rd4 ws i g = .inr g := by
  have := nil_drop h
  rw [rd4, if_neg (by omega)]
theorem rd4_good {ws : List Str} {i : Nat} {g : Option Nat} {x : Str} (h : ws.drop i = [x]) (hx : x ∈ foldsW) : rd4 ws i g = .inr g := by
  have h1 := lt_drop h
  have h2 := nil_drop (drop_cons h).2
  rw [rd4, if_pos h1, pk_drop h, if_pos hx, if_neg (by omega)]
theorem rd4_more {ws : List Str} {i : Nat} {g : Option Nat} {x y : Str} {r : List Str} (h : ws.drop i = x :: y :: r) (hx : x ∈ foldsW) : rd4 ws i g = .inl (i + 1) := by
  have h1 := lt_drop h
  have h2 := lt_drop (drop_cons h).2
  rw [rd4, if_pos h1, pk_drop h, if_pos hx, if_pos h2]
theorem rd4_bad {ws : List Str} {i : Nat} {g : Option Nat} {x : Str} {r : List Str} (h : ws.drop i = x :: r) (hx : x ∉ foldsW) : rd4 ws i g = .inl i := by
  have h1 := lt_drop h
  rw [rd4, if_pos h1, pk_drop h, if_neg hx]
theorem rd3_stay {kn : Str → Bool} {ws : List Str} {i : Nat} {d : Str} {r : List Str} (h : ws.drop i = d :: r) (hd : d ∈ deeds) (hg : ¬ going d) : rd3 kn ws i = rd4 ws (i + 1) none := by
  rw [rd3, pk_drop h, if_pos hd, if_neg hg]
theorem rd3_go {kn : Str → Bool} {ws : List Str} {i : Nat} {d g : Str} {r : List Str} (h : ws.drop i = d :: g :: r) (hg : going d) (hn : isName g = true) : rd3 kn ws i = rd4 ws (i + 2) (if kn g = true then none else some (i + 1)) := by
  have hd : d ∈ deeds := by rcases hg with rfl | rfl <;> decide
  rw [rd3, pk_drop h, if_pos hd, if_pos hg, pk_drop (drop_cons h).2, if_pos hn]
theorem rd3_bad {kn : Str → Bool} {ws : List Str} {i : Nat} (h : pk ws i ∉ deeds) : rd3 kn ws i = .inl i := by rw [rd3, if_neg h]
theorem rd3_nogoal {kn : Str → Bool} {ws : List Str} {i : Nat} {d : Str} {r : List Str} (h : ws.drop i = d :: r) (hg : going d) (hn : isName (pk ws (i + 1)) = false) : rd3 kn ws i = .inl (i + 1) := by
  have hd : d ∈ deeds := by rcases hg with rfl | rfl <;> decide
  rw [rd3, pk_drop h, if_pos hd, if_pos hg, if_neg (by rw [hn]; decide)]
theorem pk_out {ws : List Str} {i : Nat} (h : ws.drop i = []) : pk ws i = "" := pk_ge (nil_drop h)
end
section
variable {P : Program} {w : World} {K : PySem.W.Frag} {mg : Str → Option Value} {base : Heap} {t : Adr}
theorem wB_signed {s z c : Str} (h : s ∈ signed) (h2 : s ∉ (["still", "end"] : List Str)) : wds (wB s z c) = [s, z, c] := by rw [wB, wA, if_pos h, if_neg h2]; rfl
theorem wB_any {z c : Str} : wds (wB "any" z c) = (["any", c] : List Str) := by rw [wB, wA, if_neg (by decide), if_neg (by decide)]; rfl
theorem wB_still {s z c : Str} (h : s ∉ signed) (h2 : s ∈ (["still", "end"] : List Str)) : wds (wB s z c) = [s] := by rw [wB, wA, if_neg h, if_pos h2]; rfl
theorem rd_signed {kn : Str → Bool} {s z c : Str} {r : List Str} (hs : s ∈ sorts) (hb : ¬ bare s) (he : eatsB s = true) (hz : sgOk z = true) (hc : isName c = true) : rdRule kn (s :: z :: c :: r) = rd3 kn (s :: z :: c :: r) 3 := by
  have e0 : pk (s :: z :: c :: r) 0 = s := rfl
  have e1 : pk (s :: z :: c :: r) 1 = z := rfl
  have e2 : pk (s :: z :: c :: r) 2 = c := rfl
  rw [rdRule, e0, if_pos hs, if_neg hb, e1, if_pos hz, rd2, if_pos he, e2, if_pos hc]
theorem rd_any {kn : Str → Bool} {c : Str} {r : List Str} (hc : isName c = true) : rdRule kn ("any" :: c :: r) = rd3 kn ("any" :: c :: r) 2 := by
  have e0 : pk ("any" :: c :: r) 0 = "any" := rfl
  have e1 : pk ("any" :: c :: r) 1 = c := rfl
  rw [rdRule, e0, if_pos (by decide), if_pos (by decide), rd2, if_pos (by decide +kernel), e1, if_pos hc]
theorem rd_still {kn : Str → Bool} {s : Str} {r : List Str} (hs : s ∈ sorts) (hb : bare s) (he : eatsB s = false) : rdRule kn (s :: r) = rd3 kn (s :: r) 1 := by
  have e0 : pk (s :: r) 0 = s := rfl
  rw [rdRule, e0, if_pos hs, if_pos hb, rd2, if_neg (by rw [he]; decide)]
/-- the pattern and the colour of a row are read -/
theorem rd_pat {kn : Str → Bool} {s z c : Str} (r : List Str) (hs : s ∈ sorts) (hz : sgOk z = true) (hc : isName c = true) : rdRule kn (wds (wB s z c) ++ r) = rd3 kn (wds (wB s z c) ++ r) (wds (wB s z c)).length := by
  rcases sorts_cases hs with rfl | rfl | rfl | rfl | rfl | rfl | rfl
  · rw [wB_signed (by decide) (by decide)]; exact rd_signed (by decide) (by decide) (by decide +kernel) hz hc
  · rw [wB_signed (by decide) (by decide)]; exact rd_signed (by decide) (by decide) (by decide +kernel) hz hc
  · rw [wB_signed (by decide) (by decide)]; exact rd_signed (by decide) (by decide) (by decide +kernel) hz hc
  · rw [wB_signed (by decide) (by decide)]; exact rd_signed (by decide) (by decide) (by decide +kernel) hz hc
  · rw [wB_any]; exact rd_any hc
  · rw [wB_still (by decide) (by decide)]; exact rd_still (by decide) (by decide) (by decide +kernel)
  · rw [wB_still (by decide) (by decide)]; exact rd_still (by decide) (by decide) (by decide +kernel)
theorem hues_name {c : Str} (h : c ∈ hues) : isName c = true := by
  have h : c = "red" ∨ c = "open" ∨ c = "stay" := by simpa [hues] using h
  rcases h with rfl | rfl | rfl <;> decide +kernel
theorem wds_app (a b : List Wd) : wds (a ++ b) = wds a ++ wds b := List.map_append
/-- the place of a row's goal, if it has one -/
def goalAt (s z c d : Str) : Option Nat := if d ∈ (["push", "into"] : List Str) then some ((wds (wB s z c)).length + 1) else none
theorem rd_row {kn : Str → Bool} {s z c d g f : Str} (hs : s ∈ sorts) (hz : sgOk z = true) (hc : isName c = true) (hd : d ∈ deeds) (hg : isName g = true) (hf : f ∈ (["", "open", "close"] : List Str)) :
    rdRule kn (wds (wrow s z c d g f)) = .inr (if kn g = true then none else goalAt s z c d) := by
  rw [wrow, wC, wds_app, wds_app, wds_app, List.append_assoc, List.append_assoc, rd_pat _ hs hz hc]
  generalize hA : wds (wB s z c) = A
  have hf' : ∀ i g', (A ++ (wds (wd d "deed") ++ (wds (if d ∈ (["push", "into"] : List Str) then wd g "goal" else []) ++ wds (if f = "" then [] else wd f "fold")))).drop i = wds (if f = "" then [] else wd f "fold") → rd4 (A ++ (wds (wd d "deed") ++ (wds (if d ∈ (["push", "into"] : List Str) then wd g "goal" else []) ++ wds (if f = "" then [] else wd f "fold")))) i g' = .inr g' := by
    intro i g' h
    by_cases e : f = ""
    · exact rd4_nil (by rw [h, if_pos e]; rfl)
    · refine rd4_good (x := f) (by rw [h, if_neg e]; rfl) ?_
      have : f = "" ∨ f = "open" ∨ f = "close" := by simpa using hf
      rcases this with z | rfl | rfl
      · exact absurd z e
      · decide
      · decide
  by_cases h : d ∈ (["push", "into"] : List Str)
  · have hg' : going d := by simpa using h
    rw [goalAt, if_pos h, hA]
    rw [if_pos h] at hf' ⊢
    rw [rd3_go (d := d) (g := g) (r := wds (if f = "" then [] else wd f "fold")) (by rw [List.drop_left]; rfl) hg' hg, hf' _ _ (by rw [← List.drop_drop, List.drop_left]; rfl)]
  · have hg' : ¬ going d := by simpa using h
    rw [show goalAt s z c d = none from if_neg h, ite_self]
    rw [if_neg h] at hf' ⊢
    rw [rd3_stay (d := d) (r := wds (if f = "" then [] else wd f "fold")) (by rw [List.drop_left]; rfl) hd hg', hf' _ _ (by rw [← List.drop_drop, List.drop_left]; rfl)]
end
section
variable {P : Program} {w : World} {K : PySem.W.Frag} {mg : Str → Option Value} {base : Heap} {t : Adr}
theorem sort_ne_mode {s : Str} (h : s ∈ sorts) : s ≠ "mode" := by
  rcases sorts_cases h with rfl | rfl | rfl | rfl | rfl | rfl | rfl <;> decide
theorem row_first {names : List Str} {r : List Wd} (h : RuleRow names r) : pk (wds r) 0 ∈ sorts := by
  obtain ⟨s, z, c, d, g, f, hs, _, _, _, _, _, rfl⟩ := h
  have : pk (wds (wrow s z c d g f)) 0 = s := by
    rw [wrow, wC, wB, wA]; rfl
  rw [this]; exact hs
theorem step_rule {kn : Str → Bool} {names' : List Str} {r : List Wd} {st : RdSt} {i : Nat} (hN : ∀ n ∈ names', isName n = true) (h : RuleRow names' r) (h1 : st.names ≠ []) (h2 : st.cnt < 12) :
    ∃ X, stepT kn i st (wds r) = .inr ⟨st.names, st.cnt + 1, st.nws ++ X⟩ ∧ ((∀ n ∈ names', kn n = true) → X = []) := by
  have h0 := sort_ne_mode (row_first h)
  obtain ⟨s, z, c, d, g, f, hs, hz, hc, hd, hg, hf, rfl⟩ := h
  refine ⟨gone1 i (if kn g = true then none else goalAt s z c d), ?_, fun hk => ?_⟩
  · rw [stepT, if_neg (fun w => w.elim h1 h0), if_pos h2, rd_row hs hz.1 (hues_name hc) hd (hN g hg) hf]
  · rw [hk g hg, if_pos rfl]; rfl
theorem step_mode {kn : Str → Bool} {st : RdSt} {i : Nat} {n c : Str} (h1 : st.names.length < 12) (h2 : n ∉ st.names) (h3 : isName n = true) (h4 : isName c = true) :
    stepT kn i st (wds (modeRow n c)) = .inr ⟨st.names ++ [n], 0, st.nws⟩ := by
  have e0 : pk (wds (modeRow n c)) 0 = "mode" := rfl
  have e1 : pk (wds (modeRow n c)) 1 = n := rfl
  have e2 : pk (wds (modeRow n c)) 2 = c := rfl
  rw [stepT, if_pos (.inr e0), rdMode, if_pos ⟨h1, e0⟩, e1, if_neg h2, if_pos h3, e2, if_pos h4, if_neg (by show ¬ 3 < 3; omega)]
theorem readT_cons {kn : Str → Bool} {i : Nat} {st st' : RdSt} {ws : List Str} {r : List (List Str)} (h : stepT kn i st ws = .inr st') : readT kn i st (ws :: r) = readT kn (i + 1) st' r := by
  rw [readT, h]
theorem readT_stop {kn : Str → Bool} {i j : Nat} {st : RdSt} {ws : List Str} {r : List (List Str)} (h : stepT kn i st ws = .inl j) : readT kn i st (ws :: r) = some (i, j) := by
  rw [readT, h]
theorem read_rs {kn : Str → Bool} {names' : List Str} (hN : ∀ n ∈ names', isName n = true) : ∀ (rs : List (List Wd)) (st : RdSt) (i : Nat) (rest : List (List Str)), (∀ r ∈ rs, RuleRow names' r) → st.names ≠ [] → st.cnt + rs.length ≤ 12 →
    ∃ X, readT kn i st (wordsT rs ++ rest) = readT kn (i + rs.length) ⟨st.names, st.cnt + rs.length, st.nws ++ X⟩ rest ∧ ((∀ n ∈ names', kn n = true) → X = [])
  | [], st, i, rest, _, _, _ => ⟨[], by rw [List.append_nil]; rfl, fun _ => rfl⟩
  | r :: rs, st, i, rest, h, h1, h2 => by
    rw [List.length_cons] at h2
    obtain ⟨X, e1, k1⟩ := step_rule (kn := kn) (i := i) hN (h r (by simp)) h1 (by omega)
    obtain ⟨Y, e2, k2⟩ := read_rs hN rs ⟨st.names, st.cnt + 1, st.nws ++ X⟩ (i + 1) rest (fun x hx => h x (List.mem_cons_of_mem _ hx)) h1 (by show st.cnt + 1 + rs.length ≤ 12; omega)
    refine ⟨X ++ Y, ?_, fun hk => by rw [k1 hk, k2 hk]; rfl⟩
    show readT kn i st (wds r :: (wordsT rs ++ rest)) = _
    rw [readT_cons e1, e2, List.length_cons, List.append_assoc, show i + 1 + rs.length = i + (rs.length + 1) by omega, show st.cnt + 1 + rs.length = st.cnt + (rs.length + 1) by omega]
theorem col_name {c : Str} (h : c ∈ (["blue", "x"] : List Str)) : isName c = true := by
  have h : c = "blue" ∨ c = "x" := by simpa using h
  rcases h with rfl | rfl <;> decide +kernel
theorem read_ms {kn : Str → Bool} {names' : List Str} (hN : ∀ n ∈ names', isName n = true) : ∀ (ms : List ModeD) (st : RdSt) (i : Nat) (rest : List (List Str)), (∀ m ∈ ms, ModeOk names' m ∧ isName m.name = true) → (st.names ++ ms.map (·.name)).Nodup → st.names.length + ms.length ≤ 12 → st.cnt ≤ 12 →
    ∃ X cnt, readT kn i st (wordsT (rowsD ms) ++ rest) = readT kn (i + (rowsD ms).length) ⟨st.names ++ ms.map (·.name), cnt, st.nws ++ X⟩ rest ∧ (ms ≠ [] ∨ st.cnt ≤ 4 → cnt ≤ 4) ∧ ((∀ n ∈ names', kn n = true) → X = [])
  | [], st, i, rest, _, _, _, _ => ⟨[], st.cnt, by rw [List.append_nil, List.map_nil, List.append_nil]; rfl, fun h => h.elim (fun z => absurd rfl z) id, fun _ => rfl⟩
  | m :: ms, st, i, rest, h, h1, h2, h3 => by
    obtain ⟨ok, hn⟩ := h m (by simp)
    rw [List.length_cons] at h2
    have hnm : m.name ∉ st.names := fun z => by
      rw [List.map_cons] at h1
      exact (List.nodup_append.mp h1).2.2 _ z _ (by simp) rfl
    have e1 := step_mode (kn := kn) (st := st) (i := i) (n := m.name) (c := m.col) (by omega) hnm hn (col_name ok.col)
    obtain ⟨X, e2, k2⟩ := read_rs (kn := kn) hN m.rules ⟨st.names ++ [m.name], 0, st.nws⟩ (i + 1) (wordsT (rowsD ms) ++ rest) ok.rules (by simp) (by have := ok.len; show 0 + m.rules.length ≤ 12; omega)
    obtain ⟨Y, cnt, e3, k4, k3⟩ := read_ms hN ms ⟨st.names ++ [m.name], 0 + m.rules.length, st.nws ++ X⟩ (i + 1 + m.rules.length) rest (fun x hx => h x (List.mem_cons_of_mem _ hx)) (by rw [List.append_assoc]; exact h1) (by show (st.names ++ [m.name]).length + ms.length ≤ 12; rw [List.length_append]; show st.names.length + 1 + ms.length ≤ 12; omega) (by have := ok.len; show 0 + m.rules.length ≤ 12; omega)
    refine ⟨X ++ Y, cnt, ?_, fun _ => k4 (.inr (by have := ok.len; show 0 + m.rules.length ≤ 4; omega)), fun hk => by rw [k2 hk, k3 hk]; rfl⟩
    have er : wordsT (rowsD (m :: ms)) ++ rest = wds (modeRow m.name m.col) :: (wordsT m.rules ++ (wordsT (rowsD ms) ++ rest)) := by
      show wordsT ((modeRow m.name m.col :: m.rules) ++ rowsD ms) ++ rest = _
      unfold wordsT
      rw [List.map_append, List.map_cons, List.cons_append, List.cons_append, List.append_assoc]
    have el : (rowsD (m :: ms)).length = 1 + m.rules.length + (rowsD ms).length := by
      show ((modeRow m.name m.col :: m.rules) ++ rowsD ms).length = _
      rw [List.length_append, List.length_cons]; omega
    rw [er, readT_cons e1, e2, e3, el, List.map_cons, List.append_assoc, List.append_assoc, show i + 1 + m.rules.length + (rowsD ms).length = i + (1 + m.rules.length + (rowsD ms).length) by omega]
    rfl
end
section
variable {P : Program} {w : World} {K : PySem.W.Frag} {mg : Str → Option Value} {base : Heap} {t : Adr}
theorem NamesOk.good {names : List Str} (h : NamesOk names) : names.Nodup ∧ (∀ n ∈ names, isName n = true) ∧ names.head? = some "a" := by
  obtain ⟨n, h1, h2, h3⟩ := h
  have hn : n = 1 ∨ n = 2 ∨ n = 3 ∨ n = 4 := by omega
  rcases hn with rfl | rfl | rfl | rfl <;> rcases h3 with rfl | rfl <;> exact ⟨by decide +kernel, by decide +kernel, by decide +kernel⟩
theorem knownN_app (a b : List (List Str)) : knownN (a ++ b) = knownN a ++ knownN b := List.flatMap_append
theorem known_mem {wss : List (List Str)} {ws : List Str} {n : Str} (h : ws ∈ wss) (h1 : n ∈ nameT ws) : n ∈ knownN wss := List.mem_flatMap.mpr ⟨ws, h, h1⟩
theorem known_mode {wss : List (List Str)} {n c : Str} (h : wds (modeRow n c) ∈ wss) : n ∈ knownN wss := known_mem h (by
  rw [nameT, if_pos ⟨rfl, by show 1 < 3; decide⟩]
  exact List.mem_singleton.mpr rfl)
theorem known_ms {ms : List ModeD} {m : ModeD} (h : m ∈ ms) : m.name ∈ knownN (wordsT (rowsD ms)) := known_mode (c := m.col) (List.mem_map.mpr ⟨_, List.mem_flatMap.mpr ⟨m, h, by simp⟩, rfl⟩)
/-- what is known of drawn rows -/
structure DrawnOk (names : List Str) (ms : List ModeD) : Prop where
  nm : NamesOk names
  eq : ms.map (·.name) = names
  ok : ∀ m ∈ ms, ModeOk names m
theorem DrawnOk.all {names : List Str} {ms : List ModeD} (D : DrawnOk names ms) : ∀ m ∈ ms, ModeOk names m ∧ isName m.name = true := fun m hm => ⟨D.ok m hm, D.nm.good.2.1 _ (by rw [← D.eq]; exact List.mem_map.mpr ⟨m, hm, rfl⟩)⟩
theorem DrawnOk.len {names : List Str} {ms : List ModeD} (D : DrawnOk names ms) : ms.length = names.length := by rw [← D.eq, List.length_map]
theorem DrawnOk.ne {names : List Str} {ms : List ModeD} (D : DrawnOk names ms) : ms ≠ [] := fun z => by have := D.len; have := D.nm.len; rw [z] at *; simp at *; omega
/-- all drawn rows are read, whatever stands behind them -/
theorem DrawnOk.read {names : List Str} {ms : List ModeD} (D : DrawnOk names ms) (kn : Str → Bool) (rest : List (List Str)) :
    ∃ X cnt, readT kn 0 ⟨[], 0, []⟩ (wordsT (rowsD ms) ++ rest) = readT kn (rowsD ms).length ⟨names, cnt, X⟩ rest ∧ cnt ≤ 4 ∧ ((∀ n ∈ names, kn n = true) → X = []) := by
  have hl := D.len
  have hl2 := D.nm.len
  obtain ⟨X, cnt, e, k1, k2⟩ := read_ms (kn := kn) D.nm.good.2.1 ms ⟨[], 0, []⟩ 0 rest D.all (by rw [D.eq]; exact D.nm.good.1) (by show 0 + ms.length ≤ 12; omega) (by decide)
  refine ⟨X, cnt, ?_, k1 (.inl D.ne), k2⟩
  rw [e, Nat.zero_add, D.eq]
  rfl
theorem DrawnOk.good {names : List Str} {ms : List ModeD} (D : DrawnOk names ms) : readP (wordsT (rowsD ms)) = none := by
  obtain ⟨X, cnt, e, _, k⟩ := D.read (fun x => decide (x ∈ knownN (wordsT (rowsD ms)))) []
  rw [List.append_nil] at e
  unfold readP
  rw [e, k (fun n hn => ?_)]
  · rfl
  · rw [← D.eq] at hn
    obtain ⟨m, hm, rfl⟩ := List.mem_map.mp hn
    exact decide_eq_true (known_ms hm)
def okW (x : Str) : Bool := decide (32 ∉ x.cps.toList) && decide (10 ∉ x.cps.toList) && decide (x.length ≤ 202)
theorem okW_good {x : Str} (h : okW x = true) : GoodWord x := by
  unfold okW at h
  rw [Bool.and_eq_true, Bool.and_eq_true, decide_eq_true_eq, decide_eq_true_eq, decide_eq_true_eq] at h
  exact ⟨h.1.1, h.1.2, h.2⟩
theorem name_word {x : Str} (h : isName x = true) : GoodWord x := by
  unfold isName at h
  rw [Bool.and_eq_true, Bool.and_eq_true, decide_eq_true_eq, decide_eq_true_eq] at h
  have ha := List.all_eq_true.mp h.2
  have e : (Str.ofString "abcdefghijklmnopqrstuvwxyz").cps.toList = (List.range 26).map (· + 97) := by decide +kernel
  refine ⟨fun z => ?_, fun z => ?_, by omega⟩
  · have := of_decide_eq_true (ha 32 z)
    rw [e] at this
    revert this; decide
  · have := of_decide_eq_true (ha 10 z)
    rw [e] at this
    revert this; decide
theorem sort_word {s : Str} (h : s ∈ sorts) : GoodWord s := by
  rcases sorts_cases h with rfl | rfl | rfl | rfl | rfl | rfl | rfl <;> exact okW_good (by decide +kernel)
theorem deed_word {s : Str} (h : s ∈ deeds) : GoodWord s := by
  have h : s = "stay" ∨ s = "push" ∨ s = "pop" ∨ s = "into" := by simpa using h
  rcases h with rfl | rfl | rfl | rfl <;> exact okW_good (by decide +kernel)
theorem fold_word {s : Str} (h : s ∈ (["", "open", "close"] : List Str)) : GoodWord s := by
  have h : s = "" ∨ s = "open" ∨ s = "close" := by simpa using h
  rcases h with rfl | rfl | rfl <;> exact okW_good (by decide +kernel)
theorem row_wok {names : List Str} {r : List Wd} (hN : ∀ n ∈ names, isName n = true) (h : RuleRow names r) : (∀ w ∈ r, GoodWord w.1) ∧ 2 ≤ r.length ∧ r.length ≤ 6 := by
  obtain ⟨s, z, c, d, g, f, hs, hz, hc, hd, hg, hf, rfl⟩ := h
  have a1 := sort_word hs
  have a2 := name_word (hues_name hc)
  have a3 := deed_word hd
  have a4 := name_word (hN g hg)
  have a5 := fold_word hf
  refine ⟨?_, ?_, ?_⟩
  · intro w hw
    unfold wrow wC wB wA at hw
    simp only [List.mem_append] at hw
    rcases hw with ((((hw | hw) | hw) | hw) | hw) | hw
    · rw [List.mem_singleton.mp hw]; exact a1
    · split at hw
      · rw [List.mem_singleton.mp hw]; exact hz.2
      · cases hw
    · split at hw
      · cases hw
      · rw [List.mem_singleton.mp hw]; exact a2
    · rw [List.mem_singleton.mp hw]; exact a3
    · split at hw
      · rw [List.mem_singleton.mp hw]; exact a4
      · cases hw
    · split at hw
      · cases hw
      · rw [List.mem_singleton.mp hw]; exact a5
  · unfold wrow wC wB wA; simp only [List.length_append]; show 2 ≤ 1 + _ + _ + 1 + _ + _; omega
  · unfold wrow wC wB wA
    simp only [List.length_append]
    repeat' split
    all_goals simp
end
section
variable {P : Program} {w : World} {K : PySem.W.Frag} {mg : Str → Option Value} {base : Heap} {t : Adr}
theorem rd_badsort {kn : Str → Bool} {ws : List Str} (h : pk ws 0 ∉ sorts) : rdRule kn ws = .inl 0 := by rw [rdRule, if_neg h]
theorem rd_badsigns {kn : Str → Bool} {s : Str} {r : List Str} (hs : s ∈ sorts) (hb : ¬ bare s) (hz : sgOk (pk (s :: r) 1) = false) : rdRule kn (s :: r) = .inl 1 := by
  have e0 : pk (s :: r) 0 = s := rfl
  rw [rdRule, e0, if_pos hs, if_neg hb, if_neg (by rw [hz]; decide)]
theorem rd_badhue {kn : Str → Bool} {s z : Str} {r : List Str} (hs : s ∈ sorts) (hb : ¬ bare s) (he : eatsB s = true) (hz : sgOk z = true) (hc : isName (pk (s :: z :: r) 2) = false) : rdRule kn (s :: z :: r) = .inl 2 := by
  have e0 : pk (s :: z :: r) 0 = s := rfl
  have e1 : pk (s :: z :: r) 1 = z := rfl
  rw [rdRule, e0, if_pos hs, if_neg hb, e1, if_pos hz, rd2, if_pos he, if_neg (by rw [hc]; decide)]
theorem rd_badhue1 {kn : Str → Bool} {r : List Str} (hc : isName (pk ("any" :: r) 1) = false) : rdRule kn ("any" :: r) = .inl 1 := by
  have e0 : pk ("any" :: r) 0 = "any" := rfl
  rw [rdRule, e0, if_pos (by decide), if_pos (by decide), rd2, if_pos (by decide +kernel), if_neg (by rw [hc]; decide)]
theorem odd_all : (∀ x ∈ oddW "sort", x ∉ sorts ∧ x ≠ "mode") ∧ (∀ x ∈ oddW "mode", x ∉ sorts ∧ x ≠ "mode") ∧ (∀ x ∈ oddW "signs", sgOk x = false) ∧ (∀ x ∈ oddW "name", isName x = false) ∧ (∀ x ∈ oddW "goal", isName x = false) ∧ (∀ x ∈ oddW "deed", x ∉ deeds) ∧ (∀ x ∈ oddW "fold", x ∉ foldsW) := by
  refine ⟨?_, ?_, ?_, ?_, ?_, ?_, ?_⟩ <;> decide +kernel
theorem more_all : ∀ x ∈ (["more", "", "opens"] : List Str), x ∉ foldsW ∧ okW x = true := by decide +kernel
end
section
variable {P : Program} {w : World} {K : PySem.W.Frag} {mg : Str → Option Value} {base : Heap} {t : Adr}
theorem app_split {α : Type} {A C D B : List α} {b : α} (h : A ++ b :: B = C ++ D) : (∃ E, C = A ++ b :: E ∧ B = E ++ D) ∨ (∃ E, A = C ++ E ∧ D = E ++ b :: B) := by
  rcases List.append_eq_append_iff.mp h with ⟨E, h1, h2⟩ | ⟨E, h1, h2⟩
  · cases E with
    | nil => exact .inr ⟨[], by rw [h1]; simp, by rw [List.nil_append] at h2 ⊢; exact h2.symm⟩
    | cons e E =>
      rw [List.cons_append] at h2
      injection h2 with h3 h4
      subst h3
      exact .inl ⟨E, h1, h4⟩
  · exact .inr ⟨E, h1, h2⟩
theorem wB_form {s z c : Str} (hs : s ∈ sorts) : (¬ bare s ∧ eatsB s = true ∧ wB s z c = ([(s, "sort"), (z, "signs"), (c, "name")] : List (Str × Str))) ∨ (s = "any" ∧ wB s z c = ([(s, "sort"), (c, "name")] : List (Str × Str))) ∨ (bare s ∧ eatsB s = false ∧ wB s z c = ([(s, "sort")] : List (Str × Str))) := by
  rcases sorts_cases hs with rfl | rfl | rfl | rfl | rfl | rfl | rfl
  · exact .inl ⟨by decide, by decide +kernel, by rw [wB, wA, if_pos (by decide), if_neg (by decide)]; rfl⟩
  · exact .inl ⟨by decide, by decide +kernel, by rw [wB, wA, if_pos (by decide), if_neg (by decide)]; rfl⟩
  · exact .inl ⟨by decide, by decide +kernel, by rw [wB, wA, if_pos (by decide), if_neg (by decide)]; rfl⟩
  · exact .inl ⟨by decide, by decide +kernel, by rw [wB, wA, if_pos (by decide), if_neg (by decide)]; rfl⟩
  · exact .inr (.inl ⟨rfl, by rw [wB, wA, if_neg (by decide), if_neg (by decide)]; rfl⟩)
  · exact .inr (.inr ⟨by decide, by decide +kernel, by rw [wB, wA, if_neg (by decide), if_pos (by decide)]; rfl⟩)
  · exact .inr (.inr ⟨by decide, by decide +kernel, by rw [wB, wA, if_neg (by decide), if_pos (by decide)]; rfl⟩)
theorem spoil_pat {kn : Str → Bool} {s z c x y role : Str} {A E : List Wd} (R : List Str) (hs : s ∈ sorts) (hz : sgOk z = true) (e : wB s z c = A ++ (y, role) :: E) (hx : x ∈ oddW role) : rdRule kn (wds A ++ x :: R) = .inl A.length := by
  obtain ⟨o1, o2, o3, o4, o5, o6, o7⟩ := odd_all
  rcases wB_form (z := z) (c := c) hs with ⟨hb, he, f⟩ | ⟨rfl, f⟩ | ⟨hb, he, f⟩
  · rw [f] at e
    rcases A with _ | ⟨a0, _ | ⟨a1, _ | ⟨a2, A⟩⟩⟩
    · injection e with e1 e2
      cases e1
      exact rd_badsort (o1 x hx).1
    · injection e with e1 e2
      injection e2 with e2 e3
      subst e1
      cases e2
      exact rd_badsigns hs hb (o3 x hx)
    · injection e with e1 e2
      injection e2 with e2 e3
      injection e3 with e3 e4
      subst e1 e2
      cases e3
      exact rd_badhue hs hb he hz (o4 x hx)
    · simp at e
  · rw [f] at e
    rcases A with _ | ⟨a0, _ | ⟨a1, A⟩⟩
    · injection e with e1 e2
      cases e1
      exact rd_badsort (o1 x hx).1
    · injection e with e1 e2
      injection e2 with e2 e3
      subst e1
      cases e2
      exact rd_badhue1 (o4 x hx)
    · simp at e
  · rw [f] at e
    rcases A with _ | ⟨a0, A⟩
    · injection e with e1 e2
      cases e1
      exact rd_badsort (o1 x hx).1
    · simp at e
theorem spoil_word {kn : Str → Bool} {names : List Str} {r A B : List Wd} {x y role : Str} (hN : ∀ n ∈ names, isName n = true) (h : RuleRow names r) (e : r = A ++ (y, role) :: B) (hx : x ∈ oddW role) : rdRule kn (wds A ++ x :: wds B) = .inl A.length := by
  obtain ⟨o1, o2, o3, o4, o5, o6, o7⟩ := odd_all
  obtain ⟨s, z, c, d, g, f, hs, hz, hc, hd, hg, hf, rfl⟩ := h
  rw [wrow, wC, List.append_assoc, List.append_assoc] at e
  rcases app_split e.symm with ⟨E, e1, rfl⟩ | ⟨E, rfl, e2⟩
  · exact spoil_pat _ hs hz.1 e1 hx
  · rw [wds_app, List.append_assoc, rd_pat _ hs hz.1 (hues_name hc), List.length_append]
    generalize hA : wds (wB s z c) = W
    have hl : (wB s z c).length = W.length := by rw [← hA, wds, List.length_map]
    rw [hl]
    rcases E with _ | ⟨e0, E⟩
    · injection e2 with e2 e3
      cases e2
      have : pk (W ++ (wds [] ++ x :: wds B)) W.length = x := pk_drop (r := wds B) (by rw [List.drop_left]; rfl)
      exact rd3_bad (by rw [this]; exact o6 x hx)
    · injection e2 with e2 e3
      subst e2
      have hD : (W ++ (wds ((d, "deed") :: E) ++ x :: wds B)).drop W.length = d :: (wds E ++ x :: wds B) := by rw [List.drop_left]; rfl
      by_cases hgo : d ∈ (["push", "into"] : List Str)
      · have hg' : going d := by simpa using hgo
        rw [if_pos hgo] at e3
        rcases E with _ | ⟨e1, E⟩
        · injection e3 with e3 e4
          cases e3
          have : pk (W ++ (wds [(d, "deed")] ++ x :: wds B)) (W.length + 1) = x := pk_drop (r := wds B) (drop_cons hD).2
          exact rd3_nogoal hD hg' (by rw [this]; exact o5 x hx)
        · injection e3 with e3 e4
          subst e3
          by_cases ef : f = ""
          · rw [if_pos ef] at e4
            cases E <;> cases e4
          · rw [if_neg ef] at e4
            rcases E with _ | ⟨e5, E⟩
            · injection e4 with e4 e6
              cases e4
              rw [rd3_go (g := g) (r := x :: wds B) hD hg' (hN g hg)]
              exact rd4_bad (x := x) (r := wds B) (by rw [← List.drop_drop, hD]; rfl) (o7 x hx)
            · injection e4 with e4 e6
              cases E <;> cases e6
      · have hg' : ¬ going d := by simpa using hgo
        rw [if_neg hgo] at e3
        by_cases ef : f = ""
        · rw [if_pos ef] at e3
          cases E <;> cases e3
        · rw [if_neg ef] at e3
          rcases E with _ | ⟨e5, E⟩
          · injection e3 with e4 e6
            cases e4
            rw [rd3_stay hD hd hg']
            exact rd4_bad (x := x) (r := wds B) (drop_cons hD).2 (o7 x hx)
          · injection e3 with e4 e6
            cases E <;> cases e6
end
section
variable {P : Program} {w : World} {K : PySem.W.Frag} {mg : Str → Option Value} {base : Heap} {t : Adr}
theorem spoil_cut {kn : Str → Bool} {names : List Str} {r A : List Wd} {y role : Str} (h : RuleRow names r) (e : r = A ++ [(y, role)]) (hr : role ≠ "fold") : rdRule kn (wds A) = .inl A.length := by
  obtain ⟨s, z, c, d, g, f, hs, hz, hc, hd, hg, hf, rfl⟩ := h
  have ef : f = "" := by
    by_cases ef : f = ""
    · exact ef
    · rw [wrow, if_neg ef] at e
      have := List.append_inj_right' e rfl
      injection this with this
      injection this with _ this
      exact absurd this.symm hr
  rw [wrow, if_pos ef, List.append_nil, wC] at e
  by_cases hgo : d ∈ (["push", "into"] : List Str)
  · have hg' : going d := by simpa using hgo
    rw [if_pos hgo] at e
    have := List.append_inj_left' e rfl
    subst this
    rw [wds_app, rd_pat _ hs hz.1 (hues_name hc), List.length_append]
    generalize hA : wds (wB s z c) = W
    have hl : (wB s z c).length = W.length := by rw [← hA, wds, List.length_map]
    rw [hl]
    have hD : (W ++ wds (wd d "deed")).drop W.length = [d] := by rw [List.drop_left]; rfl
    exact rd3_nogoal hD hg' (by rw [pk_out (drop_cons hD).2]; decide +kernel)
  · rw [if_neg hgo, List.append_nil] at e
    have := List.append_inj_left' e rfl
    subst this
    have := rd_pat (kn := kn) (s := s) (z := z) (c := c) [] hs hz.1 (hues_name hc)
    rw [List.append_nil] at this
    rw [this]
    generalize hA : wds (wB s z c) = W
    have hl : (wB s z c).length = W.length := by rw [← hA, wds, List.length_map]
    rw [hl]
    exact rd3_bad (by rw [pk_out (List.drop_length ..)]; decide)
theorem spoil_more {kn : Str → Bool} {names : List Str} {r : List Wd} {x : Str} (hN : ∀ n ∈ names, isName n = true) (h : RuleRow names r) (hx : x ∉ foldsW) : rdRule kn (wds r ++ [x]) = .inl r.length := by
  obtain ⟨s, z, c, d, g, f, hs, hz, hc, hd, hg, hf, rfl⟩ := h
  have hlen : (wrow s z c d g f).length = (wds (wrow s z c d g f)).length := by rw [wds, List.length_map]
  rw [hlen]
  rw [wrow, wC, wds_app, wds_app, wds_app, List.append_assoc, List.append_assoc, List.append_assoc, rd_pat _ hs hz.1 (hues_name hc)]
  generalize hA : wds (wB s z c) = W
  have hff : f ≠ "" → f ∈ foldsW := fun z => by
    have : f = "" ∨ f = "open" ∨ f = "close" := by simpa using hf
    rcases this with e | rfl | rfl
    · exact absurd e z
    · decide
    · decide
  by_cases hgo : d ∈ (["push", "into"] : List Str)
  · have hg' : going d := by simpa using hgo
    rw [if_pos hgo]
    by_cases ef : f = ""
    · rw [if_pos ef]
      have hD : (W ++ (wds (wd d "deed") ++ (wds (wd g "goal") ++ (wds [] ++ [x])))).drop W.length = d :: g :: [x] := by rw [List.drop_left]; rfl
      rw [rd3_go hD hg' (hN g hg), rd4_bad (x := x) (r := []) (by rw [← List.drop_drop, hD]; rfl) hx]
      simp [wds, wd]
    · rw [if_neg ef]
      have hD : (W ++ (wds (wd d "deed") ++ (wds (wd g "goal") ++ (wds (wd f "fold") ++ [x])))).drop W.length = d :: g :: [f, x] := by rw [List.drop_left]; rfl
      rw [rd3_go hD hg' (hN g hg), rd4_more (x := f) (y := x) (r := []) (by rw [← List.drop_drop, hD]; rfl) (hff ef)]
      simp [wds, wd]
  · have hg' : ¬ going d := by simpa using hgo
    rw [if_neg hgo]
    by_cases ef : f = ""
    · rw [if_pos ef]
      have hD : (W ++ (wds (wd d "deed") ++ (wds [] ++ (wds [] ++ [x])))).drop W.length = d :: [x] := by rw [List.drop_left]; rfl
      rw [rd3_stay hD hd hg', rd4_bad (x := x) (r := []) (drop_cons hD).2 hx]
      simp [wds, wd]
    · rw [if_neg ef]
      have hD : (W ++ (wds (wd d "deed") ++ (wds [] ++ (wds (wd f "fold") ++ [x])))).drop W.length = d :: [f, x] := by rw [List.drop_left]; rfl
      rw [rd3_stay hD hd hg', rd4_more (x := f) (y := x) (r := []) (drop_cons hD).2 (hff ef)]
      simp [wds, wd]
end
section
variable {P : Program} {w : World} {K : PySem.W.Frag} {mg : Str → Option Value} {base : Heap} {t : Adr}
theorem step_none {kn : Str → Bool} {st : RdSt} {i : Nat} {ws : List Str} (h1 : pk ws 0 ∉ sorts) (h2 : pk ws 0 ≠ "mode") (hc : st.cnt < 12) : stepT kn i st ws = .inl 0 := by
  rw [stepT]
  by_cases h : st.names = []
  · rw [if_pos (.inl h), rdMode, if_neg (fun z => h2 z.2)]
  · rw [if_neg (fun z => z.elim h h2), if_pos hc, rd_badsort h1]
theorem step_rbad {kn : Str → Bool} {st : RdSt} {i j : Nat} {ws : List Str} (h0 : pk ws 0 ≠ "mode") (h1 : st.names ≠ []) (hc : st.cnt < 12) (h : rdRule kn ws = .inl j) : stepT kn i st ws = .inl j := by
  rw [stepT, if_neg (fun z => z.elim h1 h0), if_pos hc, h]
theorem step_full {kn : Str → Bool} {st : RdSt} {i : Nat} {ws : List Str} (h0 : pk ws 0 ≠ "mode") (h1 : st.names ≠ []) (hc : 12 ≤ st.cnt) : stepT kn i st ws = .inl 0 := by
  rw [stepT, if_neg (fun z => z.elim h1 h0), if_neg (by omega)]
theorem step_m12 {kn : Str → Bool} {st : RdSt} {i : Nat} {ws : List Str} (h0 : pk ws 0 = "mode") (h : 12 ≤ st.names.length) : stepT kn i st ws = .inl 0 := by
  rw [stepT, if_pos (.inr h0), rdMode, if_neg (fun z => by have := z.1; omega)]
theorem step_first {kn : Str → Bool} {st : RdSt} {i : Nat} {ws : List Str} (h0 : pk ws 0 ≠ "mode") (h : st.names = []) : stepT kn i st ws = .inl 0 := by
  rw [stepT, if_pos (.inl h), rdMode, if_neg (fun z => h0 z.2)]
theorem step_mname {kn : Str → Bool} {st : RdSt} {i : Nat} {ws : List Str} (h0 : pk ws 0 = "mode") (h : st.names.length < 12) (h1 : pk ws 1 ∈ st.names ∨ isName (pk ws 1) = false) : stepT kn i st ws = .inl 1 := by
  rw [stepT, if_pos (.inr h0), rdMode, if_pos ⟨h, h0⟩]
  by_cases hm : pk ws 1 ∈ st.names
  · rw [if_pos hm]
  · rw [if_neg hm, if_neg (by rw [h1.resolve_left hm]; decide)]
theorem step_mcol {kn : Str → Bool} {st : RdSt} {i : Nat} {ws : List Str} (h0 : pk ws 0 = "mode") (h : st.names.length < 12) (h1 : pk ws 1 ∉ st.names) (h2 : isName (pk ws 1) = true) (h3 : isName (pk ws 2) = false) : stepT kn i st ws = .inl 2 := by
  rw [stepT, if_pos (.inr h0), rdMode, if_pos ⟨h, h0⟩, if_neg h1, if_pos h2, if_neg (by rw [h3]; decide)]
theorem step_mlong {kn : Str → Bool} {st : RdSt} {i : Nat} {ws : List Str} (h0 : pk ws 0 = "mode") (h : st.names.length < 12) (h1 : pk ws 1 ∉ st.names) (h2 : isName (pk ws 1) = true) (h3 : isName (pk ws 2) = true) (h4 : 3 < ws.length) : stepT kn i st ws = .inl 3 := by
  rw [stepT, if_pos (.inr h0), rdMode, if_pos ⟨h, h0⟩, if_neg h1, if_pos h2, if_pos h3, if_pos h4]
/-- a strange word in a mode's row -/
theorem spoil_mode {kn : Str → Bool} {st : RdSt} {i : Nat} {n c x y role : Str} {A B : List Wd} (h : st.names.length < 12) (hc : st.cnt < 12) (h1 : n ∉ st.names) (h2 : isName n = true) (e : modeRow n c = A ++ (y, role) :: B) (hx : x ∈ oddW role) : stepT kn i st (wds A ++ x :: wds B) = .inl A.length := by
  obtain ⟨o1, o2, o3, o4, o5, o6, o7⟩ := odd_all
  have e : ([("mode", "mode"), (n, "name"), (c, "name")] : List (Str × Str)) = A ++ (y, role) :: B := e
  rcases A with _ | ⟨a0, _ | ⟨a1, _ | ⟨a2, A⟩⟩⟩
  · injection e with e1 e2
    cases e1
    exact step_none (ws := x :: wds B) (o2 x hx).1 (o2 x hx).2 hc
  · injection e with e1 e2
    injection e2 with e2 e3
    subst e1
    cases e2
    exact step_mname (ws := "mode" :: x :: wds B) rfl h (.inr (o4 x hx))
  · injection e with e1 e2
    injection e2 with e2 e3
    injection e3 with e3 e4
    subst e1 e2
    cases e3
    exact step_mcol (ws := "mode" :: n :: x :: wds B) rfl h h1 h2 (o4 x hx)
  · simp at e
end
section
variable {P : Program} {w : World} {K : PySem.W.Frag} {mg : Str → Option Value} {base : Heap} {t : Adr}
theorem rowsD_cons (m : ModeD) (ms : List ModeD) : rowsD (m :: ms) = modeRow m.name m.col :: (m.rules ++ rowsD ms) := rfl
theorem wordsT_app (a b : List (List Wd)) : wordsT (a ++ b) = wordsT a ++ wordsT b := List.map_append
theorem rowsD_cut : ∀ {ms : List ModeD} {R1 R2 : List (List Wd)} {r : List Wd}, rowsD ms = R1 ++ r :: R2 → ∃ ms1 m ms2, ms = ms1 ++ m :: ms2 ∧ ((R1 = rowsD ms1 ∧ r = modeRow m.name m.col) ∨ ∃ A B, m.rules = A ++ r :: B ∧ R1 = rowsD ms1 ++ modeRow m.name m.col :: A)
  | [], R1, R2, r, h => by cases R1 <;> cases h
  | m :: ms, R1, R2, r, h => by
    rw [rowsD_cons] at h
    rcases R1 with _ | ⟨q, R1⟩
    · injection h with h1 h2
      exact ⟨[], m, ms, rfl, .inl ⟨rfl, h1.symm⟩⟩
    · injection h with h1 h2
      rcases app_split h2.symm with ⟨E, e1, e2⟩ | ⟨E, e1, e2⟩
      · exact ⟨[], m, ms, rfl, .inr ⟨R1, E, e1, by rw [h1]; rfl⟩⟩
      · obtain ⟨ms1, m', ms2, rfl, h3⟩ := rowsD_cut e2
        refine ⟨m :: ms1, m', ms2, rfl, ?_⟩
        rcases h3 with ⟨h3, h4⟩ | ⟨A, B, h3, h4⟩
        · exact .inl ⟨by rw [e1, h3, ← h1]; rfl, h4⟩
        · exact .inr ⟨A, B, h3, by rw [e1, h4, ← h1, rowsD_cons]; simp⟩
structure RowAt (names : List Str) (st : RdSt) (r : List Wd) : Prop where
  cnt : st.cnt < 12
  nl : st.names.length < 12
  row : (∃ n c, r = modeRow n c ∧ n ∉ st.names ∧ isName n = true ∧ isName c = true) ∨ (RuleRow names r ∧ st.names ≠ [])
theorem DrawnOk.at {names : List Str} {ms : List ModeD} {R1 R2 : List (List Wd)} {r : List Wd} (D : DrawnOk names ms) (e : rowsD ms = R1 ++ r :: R2) (kn : Str → Bool) (rest : List (List Str)) :
    ∃ st, readT kn 0 ⟨[], 0, []⟩ (wordsT R1 ++ rest) = readT kn R1.length st rest ∧ RowAt names st r := by
  obtain ⟨ms1, m, ms2, rfl, h⟩ := rowsD_cut e
  have hN := D.nm.good.2.1
  have hnd : ((ms1 ++ m :: ms2).map (·.name)).Nodup := by rw [D.eq]; exact D.nm.good.1
  have hl : (ms1 ++ m :: ms2).length ≤ 4 := by rw [D.len]; exact D.nm.len.2
  rw [List.length_append, List.length_cons] at hl
  obtain ⟨ok, hn⟩ := D.all m (by simp)
  rw [List.map_append, List.map_cons] at hnd
  have nd1 := List.nodup_append.mp hnd
  have hnm : m.name ∉ ms1.map (·.name) := fun z => nd1.2.2 _ z _ (by simp) rfl
  have all1 : ∀ x ∈ ms1, ModeOk names x ∧ isName x.name = true := fun x hx => D.all x (List.mem_append_left _ hx)
  have l1 : (ms1.map (·.name)).length < 12 := by rw [List.length_map]; omega
  rcases h with ⟨h1, h2⟩ | ⟨A, B, h1, h2⟩
  · obtain ⟨X, cnt, e1, k1, _⟩ := read_ms (kn := kn) hN ms1 ⟨[], 0, []⟩ 0 rest all1 nd1.1 (by show 0 + ms1.length ≤ 12; omega) (by decide)
    refine ⟨_, by rw [h1, e1, Nat.zero_add], ⟨by have := k1 (.inr (by decide)); show cnt < 12; omega, l1, .inl ⟨_, _, h2, hnm, hn, col_name ok.col⟩⟩⟩
  · obtain ⟨X, cnt, e1, k1, _⟩ := read_ms (kn := kn) hN ms1 ⟨[], 0, []⟩ 0 (wds (modeRow m.name m.col) :: (wordsT A ++ rest)) all1 nd1.1 (by show 0 + ms1.length ≤ 12; omega) (by decide)
    have e2 := step_mode (kn := kn) (st := ⟨[] ++ ms1.map (·.name), cnt, [] ++ X⟩) (i := 0 + (rowsD ms1).length) (n := m.name) (c := m.col) l1 hnm hn (col_name ok.col)
    have hA : A.length ≤ 4 := by have := ok.len; rw [h1, List.length_append] at this; omega
    obtain ⟨Y, e3, _⟩ := read_rs (kn := kn) hN A ⟨([] ++ ms1.map (·.name)) ++ [m.name], 0, [] ++ X⟩ (0 + (rowsD ms1).length + 1) rest (fun r hr => ok.rules r (by rw [h1]; exact List.mem_append_left _ hr)) (by simp) (by show 0 + A.length ≤ 12; omega)
    refine ⟨⟨([] ++ ms1.map (·.name)) ++ [m.name], 0 + A.length, ([] ++ X) ++ Y⟩, ?_, ⟨?_, ?_, .inr ⟨ok.rules r (by rw [h1]; simp), ?_⟩⟩⟩
    rotate_left
    · show 0 + A.length < 12; omega
    · show ((([] : List Str) ++ ms1.map (·.name)) ++ [m.name]).length < 12
      rw [List.length_append, List.nil_append, List.length_map, List.length_singleton]; omega
    · show (([] : List Str) ++ ms1.map (·.name)) ++ [m.name] ≠ []
      simp
    · have ew : wordsT R1 ++ rest = wordsT (rowsD ms1) ++ (wds (modeRow m.name m.col) :: (wordsT A ++ rest)) := by
        rw [h2, wordsT_app, List.append_assoc]; rfl
      rw [ew, e1, readT_cons e2, e3, h2, List.length_append, List.length_cons, show 0 + (rowsD ms1).length + 1 + A.length = (rowsD ms1).length + (A.length + 1) by omega]
structure RowW (r : List Wd) : Prop where
  ne : 1 ≤ r.length
  len : r.length ≤ 12
  gw : ∀ w ∈ r, GoodWord w.1
theorem RowW.wok {r : List Wd} (h : RowW r) : WokR (wds r) := ⟨fun z => by have := h.ne; rw [← List.length_map (f := fun w : Wd => w.1)] at this; unfold wds at z; rw [z] at this; simp at this, fun x hx => by
  obtain ⟨w, hw, rfl⟩ := List.mem_map.mp hx
  exact h.gw w hw, by have := h.len; rw [wds, List.length_map]; omega⟩
theorem wok_of {rs : List (List Wd)} (h1 : rs ≠ []) (h2 : rs.length ≤ 200) (h : ∀ r ∈ rs, RowW r) : WokT (wordsT rs) := ⟨fun z => h1 (List.map_eq_nil_iff.mp z), fun ws hw => by
  obtain ⟨r, hr, rfl⟩ := List.mem_map.mp hw
  exact (h r hr).wok, by rw [wordsT, List.length_map]; exact h2⟩
theorem mode_rw {n c : Str} (h1 : isName n = true) (h2 : isName c = true) : RowW (modeRow n c) := ⟨by show 1 ≤ 3; decide, by show 3 ≤ 12; decide, fun w hw => by
  have hw : w ∈ ([("mode", "mode"), (n, "name"), (c, "name")] : List (Str × Str)) := hw
  simp only [List.mem_cons, List.not_mem_nil, or_false] at hw
  rcases hw with rfl | rfl | rfl
  · exact okW_good (by decide +kernel)
  · exact name_word h1
  · exact name_word h2⟩
theorem rows_rw {names : List Str} (hN : ∀ n ∈ names, isName n = true) {ms : List ModeD} (h : ∀ m ∈ ms, ModeOk names m ∧ isName m.name = true) : ∀ r ∈ rowsD ms, RowW r ∧ 2 ≤ r.length ∧ r.length ≤ 6 := by
  intro r hr
  obtain ⟨m, hm, hr⟩ := List.mem_flatMap.mp hr
  obtain ⟨ok, hn⟩ := h m hm
  rcases List.mem_cons.mp hr with rfl | hr
  · exact ⟨mode_rw hn (col_name ok.col), by show 2 ≤ 3; decide, by show 3 ≤ 6; decide⟩
  · obtain ⟨a, b, c⟩ := row_wok hN (ok.rules r hr)
    exact ⟨⟨by omega, by omega, a⟩, b, c⟩
theorem few_rw {r : List Wd} (h1 : 1 ≤ r.length) (h2 : r.length ≤ 12) (h : r.all (fun w => okW w.1) = true) : RowW r := ⟨h1, h2, fun w hw => okW_good (List.all_eq_true.mp h w hw)⟩
end
section
variable {P : Program} {w : World} {K : PySem.W.Frag} {mg : Str → Option Value} {base : Heap} {t : Adr}
abbrev anyR : List Wd := [("any", ""), ("red", ""), ("stay", "")]
abbrev againR : List Wd := [("mode", ""), ("a", ""), ("blue", "")]
abbrev lastR : List Wd := [("mode", ""), ("last", ""), ("blue", "")]
abbrev voidR : List Wd := [("", "")]
abbrev badR : List Wd := [("mode", ""), ("Bad", "")]
abbrev nr (x : Str) : Wd := (x, "")
def mName (c : Nat) : Str := ("m" : Str) ++ (⟨#[c]⟩ : Str)
def mRow (c : Nat) : List Wd := [("mode", ""), (mName c, ""), ("blue", "")]
def mCs : List Nat := (Str.ofString "abcdefghijklm").cps.toList
def manyM : List (List Wd) := mCs.map mRow
def mMode (c : Nat) : ModeD := ⟨mName c, "blue", []⟩
theorem mCs_len : mCs.length = 13 := by decide +kernel
theorem m_words : ∀ (cs : List Nat), wordsT (cs.map mRow) = wordsT (rowsD (cs.map mMode))
  | [] => rfl
  | c :: cs => by
    rw [List.map_cons, List.map_cons, rowsD_cons]
    show wds (mRow c) :: wordsT (cs.map mRow) = wds (modeRow (mName c) "blue") :: wordsT ([] ++ rowsD (cs.map mMode))
    rw [m_words cs]; rfl
theorem mm_len : ∀ (cs : List Nat), (rowsD (cs.map mMode)).length = cs.length
  | [] => rfl
  | c :: cs => by
    rw [List.map_cons, rowsD_cons, List.length_cons, List.length_cons]
    show ([] ++ rowsD (cs.map mMode)).length + 1 = _
    rw [List.nil_append, mm_len cs]
theorem NamesOk.more {names : List Str} (h : NamesOk names) : (names ++ mCs.map mName).Nodup ∧ ("last" : Str) ∉ names ∧ ("nobody" : Str) ∉ names ∧ ("a" : Str) ∈ names := by
  obtain ⟨n, h1, h2, h3⟩ := h
  have hn : n = 1 ∨ n = 2 ∨ n = 3 ∨ n = 4 := by omega
  rcases hn with rfl | rfl | rfl | rfl <;> rcases h3 with rfl | rfl <;> exact ⟨by decide +kernel, by decide +kernel, by decide +kernel, by decide +kernel⟩
def Spoilt (ms : List ModeD) (rs : List (List Wd)) (a w : Nat) : Prop :=
  (∃ (R1 : List (List Wd)) (r : List Wd) (R2 : List (List Wd)), rowsD ms = R1 ++ r :: R2 ∧ a = R1.length ∧
    ((∃ (A : List Wd) (y role : Str), r = A ++ [(y, role)] ∧ role ≠ "fold" ∧ rs = R1 ++ A :: R2 ∧ w = A.length) ∨
     (∃ x : Str, x ∈ (["more", "", "opens"] : List Str) ∧ rs = R1 ++ (r ++ [nr x]) :: R2 ∧ w = r.length) ∨
     (rs = R1 ++ voidR :: r :: R2 ∧ w = 0) ∨
     (∃ (A : List Wd) (y role : Str) (B : List Wd) (x : Str), r = A ++ (y, role) :: B ∧ x ∈ oddW role ∧ rs = R1 ++ (A ++ nr x :: B) :: R2 ∧ w = A.length))) ∨
  (rs = anyR :: rowsD ms ∧ a = 0 ∧ w = 0) ∨
  (rs = rowsD ms ++ [againR] ∧ a = (rowsD ms).length ∧ w = 1) ∨
  (rs = rowsD ms ++ lastR :: List.replicate 13 anyR ∧ a = (rowsD ms).length + 13 ∧ w = 0) ∨
  (rs = rowsD ms ++ manyM ∧ a = (rowsD ms).length + (12 - ms.length) ∧ w = 0)
theorem in_row {names : List Str} {ms : List ModeD} {R1 R2 R3 : List (List Wd)} {r r' : List Wd} {w : Nat} {kn : Str → Bool} (D : DrawnOk names ms) (e : rowsD ms = R1 ++ r :: R2) (rest : List (List Str)) (hs : ∀ st, RowAt names st r → stepT kn R1.length st (wds r') = .inl w) :
    readT kn 0 ⟨[], 0, []⟩ (wordsT (R1 ++ r' :: R3) ++ rest) = some (R1.length, w) := by
  obtain ⟨st, e1, A⟩ := D.at e kn (wds r' :: (wordsT R3 ++ rest))
  rw [wordsT_app, List.append_assoc]
  show readT kn 0 ⟨[], 0, []⟩ (wordsT R1 ++ (wds r' :: (wordsT R3 ++ rest))) = _
  rw [e1, readT_stop (hs st A)]
theorem first_sort {names : List Str} {r A B : List Wd} {y role x : Str} (h : RuleRow names r) (e : r = A ++ (y, role) :: B) (hx : x ∈ oddW role) (W : List Str) : pk (wds A ++ x :: W) 0 ≠ "mode" := by
  have h0 := row_first h
  obtain ⟨s, z, c, d, g, f, hs, _, _, _, _, _, rfl⟩ := h
  rcases A with _ | ⟨a0, A⟩
  · have hr : role = "sort" := by
      rw [wrow, wC, wB, wA] at e
      have e : ((s, "sort") : Str × Str) :: _ = (y, role) :: B := e
      injection e with e1 _
      exact (congrArg Prod.snd e1).symm
    subst hr
    exact (odd_all.1 x hx).2
  · rw [e] at h0
    exact sort_ne_mode h0
theorem spoilt_read {names : List Str} {ms : List ModeD} {rs : List (List Wd)} {a w : Nat} (D : DrawnOk names ms) (h : Spoilt ms rs a w) (kn : Str → Bool) (rest : List (List Str)) : readT kn 0 ⟨[], 0, []⟩ (wordsT rs ++ rest) = some (a, w) := by
  have hN := D.nm.good.2.1
  obtain ⟨nd, n1, n2, n3⟩ := D.nm.more
  rcases h with ⟨R1, r, R2, e, rfl, h⟩ | ⟨rfl, rfl, rfl⟩ | ⟨rfl, rfl, rfl⟩ | ⟨rfl, rfl, rfl⟩ | ⟨rfl, rfl, rfl⟩
  · rcases h with ⟨A, y, role, er, hr, rfl, rfl⟩ | ⟨x, hx, rfl, rfl⟩ | ⟨rfl, rfl⟩ | ⟨A, y, role, B, x, er, hx, rfl, rfl⟩
    · refine in_row D e rest fun st S => ?_
      rcases S.row with ⟨n, c, hm, h1, h2, h3⟩ | ⟨hR, h1⟩
      · have hm : ([("mode", "mode"), (n, "name")] : List (Str × Str)) ++ ([(c, "name")] : List (Str × Str)) = A ++ [(y, role)] := by rw [← er, hm]; rfl
        have := List.append_inj_left' hm rfl
        subst this
        exact step_mcol (ws := ["mode", n]) rfl S.nl h1 h2 (by show isName "" = false; decide +kernel)
      · refine step_rbad ?_ h1 S.cnt (spoil_cut hR er hr)
        have h0 := row_first hR
        have hl := (row_wok hN hR).2.1
        rcases A with _ | ⟨a0, A⟩
        · rw [er] at hl; simp at hl
        · rw [er] at h0
          exact sort_ne_mode h0
    · refine in_row D e rest fun st S => ?_
      rw [wds_app]
      rcases S.row with ⟨n, c, rfl, h1, h2, h3⟩ | ⟨hR, h1⟩
      · exact step_mlong (ws := ["mode", n, c, x]) rfl S.nl h1 h2 h3 (by show 3 < 4; decide)
      · refine step_rbad ?_ h1 S.cnt (spoil_more hN hR (more_all x hx).1)
        have h0 := row_first hR
        have hl := (row_wok hN hR).2.1
        rcases r with _ | ⟨a0, A⟩
        · simp at hl
        · exact sort_ne_mode h0
    · exact in_row D e rest fun st S => step_none (ws := [""]) (by show ("" : Str) ∉ sorts; decide) (by show ("" : Str) ≠ "mode"; decide) S.cnt
    · refine in_row D e rest fun st S => ?_
      rw [wds_app]
      rcases S.row with ⟨n, c, rfl, h1, h2, h3⟩ | ⟨hR, h1⟩
      · exact spoil_mode S.nl S.cnt h1 h2 er hx
      · exact step_rbad (first_sort hR er hx _) h1 S.cnt (spoil_word hN hR er hx)
  · exact readT_stop (step_first (ws := ["any", "red", "stay"]) (by show ("any" : Str) ≠ "mode"; decide) rfl)
  · obtain ⟨X, cnt, e1, k1, _⟩ := D.read kn (wds againR :: rest)
    rw [wordsT_app, List.append_assoc]
    refine Eq.trans e1 ?_
    exact readT_stop (step_mname (ws := ["mode", "a", "blue"]) rfl (by have := D.nm.len; show names.length < 12; omega) (.inl n3))
  · obtain ⟨X, cnt, e1, k1, _⟩ := D.read kn (wds lastR :: (wordsT (List.replicate 13 anyR) ++ rest))
    rw [wordsT_app, List.append_assoc]
    refine Eq.trans e1 ?_
    have e2 := step_mode (kn := kn) (st := ⟨names, cnt, X⟩) (i := (rowsD ms).length) (n := "last") (c := "blue") (by have := D.nm.len; show names.length < 12; omega) n1 (by decide +kernel) (by decide +kernel)
    have e2 : stepT kn (rowsD ms).length ⟨names, cnt, X⟩ (wds lastR) = _ := e2
    rw [readT_cons e2]
    have hr : RuleRow names (wrow "any" (("'" : Str) ++ (⟨#[97]⟩ : Str)) "red" "stay" "a" "") := ⟨_, _, _, _, _, _, by decide, sgW_at 97 (by decide +kernel), by decide, by decide, n3, by decide, rfl⟩
    obtain ⟨Y, e3, _⟩ := read_rs (kn := kn) hN (List.replicate 12 (wrow "any" (("'" : Str) ++ (⟨#[97]⟩ : Str)) "red" "stay" "a" "")) ⟨names ++ [("last" : Str)], 0, X⟩ ((rowsD ms).length + 1) (wds anyR :: rest) (fun r h => by rw [(List.mem_replicate.mp h).2]; exact hr) (by simp) (by show 0 + 12 ≤ 12; decide)
    have ew : wordsT (List.replicate 13 anyR) ++ rest = wordsT (List.replicate 12 (wrow "any" (("'" : Str) ++ (⟨#[97]⟩ : Str)) "red" "stay" "a" "")) ++ (wds anyR :: rest) := by
      unfold wordsT
      rw [List.map_replicate, List.map_replicate]
      rfl
    rw [ew, e3]
    exact readT_stop (step_full (ws := ["any", "red", "stay"]) (by show ("any" : Str) ≠ "mode"; decide) (by show names ++ [("last" : Str)] ≠ []; simp) (by show 12 ≤ 0 + 12; decide))
  · have hl := D.len
    have hl4 := D.nm.len
    obtain ⟨k, hk⟩ : ∃ k, k = 12 - ms.length := ⟨_, rfl⟩
    obtain ⟨c, hc⟩ : ∃ c, mCs[k]? = some c := ⟨mCs[k]'(by rw [mCs_len]; omega), List.getElem?_eq_getElem _⟩
    have hcs : mCs = mCs.take k ++ c :: mCs.drop (k + 1) := by
      obtain ⟨hi, ec⟩ := List.getElem?_eq_some_iff.mp hc
      rw [← ec, ← List.drop_eq_getElem_cons hi, List.take_append_drop]
    have hkl : (mCs.take k).length = k := by rw [List.length_take, mCs_len]; omega
    obtain ⟨X, cnt, e1, k1, _⟩ := D.read kn (wordsT manyM ++ rest)
    rw [wordsT_app, List.append_assoc]
    refine Eq.trans e1 ?_
    have ew : wordsT manyM ++ rest = wordsT (rowsD ((mCs.take k).map mMode)) ++ (wds (mRow c) :: (wordsT ((mCs.drop (k + 1)).map mRow) ++ rest)) := by
      rw [manyM]
      conv => lhs; rw [hcs]
      rw [List.map_append, wordsT_app, List.append_assoc, m_words (mCs.take k)]
      rfl
    have hmn : ((mCs.take k).map mMode).map (·.name) = (mCs.take k).map mName := by rw [List.map_map]; rfl
    obtain ⟨Y, cnt2, e2, _, _⟩ := read_ms (kn := kn) (names' := []) (by simp) ((mCs.take k).map mMode) ⟨names, cnt, X⟩ (rowsD ms).length (wds (mRow c) :: (wordsT ((mCs.drop (k + 1)).map mRow) ++ rest)) (fun m hm => by
      obtain ⟨c, hc, rfl⟩ := List.mem_map.mp hm
      have : isName (mName c) = true := by
        have hall : ∀ c ∈ mCs, isName (mName c) = true := by decide +kernel
        exact hall c (List.mem_of_mem_take hc)
      exact ⟨⟨by show ("blue" : Str) ∈ _; decide, by show 0 ≤ 4; decide, by intro r hr; cases hr⟩, this⟩) (by
        rw [hmn]
        exact nd.sublist ((List.Sublist.refl names).append ((List.take_sublist k mCs).map mName))) (by rw [List.length_map, hkl]; show names.length + k ≤ 12; omega) (by show cnt ≤ 12; omega)
    rw [ew, e2, mm_len, hkl]
    have := readT_stop (kn := kn) (i := (rowsD ms).length + k) (j := 0) (st := ⟨names ++ ((mCs.take k).map mMode).map (·.name), cnt2, X ++ Y⟩) (ws := wds (mRow c)) (r := wordsT ((mCs.drop (k + 1)).map mRow) ++ rest) (step_m12 rfl (by
      show 12 ≤ (names ++ ((mCs.take k).map mMode).map (·.name)).length
      rw [List.length_append, List.length_map, List.length_map, hkl]; omega))
    rw [← hk]
    exact this
theorem spoilt_rw {names : List Str} {ms : List ModeD} {rs : List (List Wd)} {a w : Nat} (D : DrawnOk names ms) (h : Spoilt ms rs a w) : rs ≠ [] ∧ rs.length ≤ 40 ∧ ∀ r ∈ rs, RowW r := by
  have hN := D.nm.good.2.1
  have hR := rows_rw hN D.all
  have hl := rowsD_len D.ok
  have hl2 := D.len
  have hl4 := D.nm.len
  rcases h with ⟨R1, r, R2, e, rfl, h⟩ | ⟨rfl, rfl, rfl⟩ | ⟨rfl, rfl, rfl⟩ | ⟨rfl, rfl, rfl⟩ | ⟨rfl, rfl, rfl⟩
  · have hr := hR r (by rw [e]; simp)
    have h1 : ∀ x ∈ R1, RowW x := fun x hx => (hR x (by rw [e]; exact List.mem_append_left _ hx)).1
    have h2 : ∀ x ∈ R2, RowW x := fun x hx => (hR x (by rw [e]; exact List.mem_append_right _ (List.mem_cons_of_mem _ hx))).1
    have e' := congrArg List.length e
    rw [List.length_append, List.length_cons] at e'
    have key : ∀ r', RowW r' → R1 ++ r' :: R2 ≠ [] ∧ (R1 ++ r' :: R2).length ≤ 40 ∧ ∀ x ∈ R1 ++ r' :: R2, RowW x := fun r' hr' => ⟨by simp, by rw [List.length_append, List.length_cons]; omega, fun x hx => by
      rcases List.mem_append.mp hx with z | z
      · exact h1 x z
      · rcases List.mem_cons.mp z with rfl | z
        · exact hr'
        · exact h2 x z⟩
    rcases h with ⟨A, y, role, er, hr', rfl, rfl⟩ | ⟨x, hx, rfl, rfl⟩ | ⟨rfl, rfl⟩ | ⟨A, y, role, B, x, er, hx, rfl, rfl⟩
    · have hl := congrArg List.length er
      rw [List.length_append, List.length_singleton] at hl
      exact key A ⟨by omega, by omega, fun w hw => hr.1.gw w (by rw [er]; exact List.mem_append_left _ hw)⟩
    · refine key _ ⟨by rw [List.length_append]; show 1 ≤ _ + 1; omega, by rw [List.length_append]; show _ + 1 ≤ 12; omega, fun w hw => ?_⟩
      rcases List.mem_append.mp hw with z | z
      · exact hr.1.gw w z
      · rw [List.mem_singleton.mp z]
        exact okW_good (more_all x hx).2
    · refine ⟨by simp, by rw [List.length_append, List.length_cons, List.length_cons]; omega, fun x hx => ?_⟩
      rcases List.mem_append.mp hx with z | z
      · exact h1 x z
      · rcases List.mem_cons.mp z with rfl | z
        · exact few_rw (by decide) (by decide) (by decide +kernel)
        · rcases List.mem_cons.mp z with rfl | z
          · exact hr.1
          · exact h2 x z
    · have hl := congrArg List.length er
      rw [List.length_append, List.length_cons] at hl
      have hx : okW x = true := by
        unfold oddW oddC oddB oddA at hx
        have hall : ∀ x ∈ (["", "Open", "shut", "closed", "'a", "stay", "Pop", "go", "open", "pops", "a", "'", "\"a", "red", "_", "Mode", "words", "Red", "x1", "ninesigns", "a-b"] : List Str), okW x = true := by decide +kernel
        refine hall x ?_
        revert hx
        repeat' split
        all_goals (intro hx; simp only [List.mem_cons, List.not_mem_nil, or_false] at hx ⊢; rcases hx with rfl | rfl | rfl | rfl | rfl | rfl <;> simp)
      refine key _ ⟨by rw [List.length_append, List.length_cons]; omega, by rw [List.length_append, List.length_cons]; omega, fun w hw => ?_⟩
      rcases List.mem_append.mp hw with z | z
      · exact hr.1.gw w (by rw [er]; exact List.mem_append_left _ z)
      · rcases List.mem_cons.mp z with rfl | z
        · exact okW_good hx
        · exact hr.1.gw w (by rw [er]; exact List.mem_append_right _ (List.mem_cons_of_mem _ z))
  · refine ⟨by simp, by rw [List.length_cons]; omega, fun x hx => ?_⟩
    rcases List.mem_cons.mp hx with rfl | z
    · exact few_rw (by decide) (by decide) (by decide +kernel)
    · exact (hR x z).1
  · refine ⟨by simp, by rw [List.length_append]; show _ + 1 ≤ 40; omega, fun x hx => ?_⟩
    rcases List.mem_append.mp hx with z | z
    · exact (hR x z).1
    · rw [List.mem_singleton.mp z]; exact few_rw (by decide) (by decide) (by decide +kernel)
  · refine ⟨by simp, by rw [List.length_append, List.length_cons, List.length_replicate]; omega, fun x hx => ?_⟩
    rcases List.mem_append.mp hx with z | z
    · exact (hR x z).1
    · rcases List.mem_cons.mp z with rfl | z
      · exact few_rw (by decide) (by decide) (by decide +kernel)
      · rw [(List.mem_replicate.mp z).2]; exact few_rw (by decide) (by decide) (by decide +kernel)
  · refine ⟨fun z => ?_, by rw [List.length_append, manyM, List.length_map, mCs_len]; omega, fun x hx => ?_⟩
    · have := congrArg List.length z
      rw [List.length_append, manyM, List.length_map, mCs_len] at this
      simp at this
    · rcases List.mem_append.mp hx with z | z
      · exact (hR x z).1
      · obtain ⟨c, hc, rfl⟩ := List.mem_map.mp z
        have hall : ∀ c ∈ mCs, (mRow c).all (fun w => okW w.1) = true := by decide +kernel
        exact few_rw (by show 1 ≤ 3; decide) (by show 3 ≤ 12; decide) (hall c hc)
end
section
variable {P : Program} {w : World} {K : PySem.W.Frag} {mg : Str → Option Value} {base : Heap} {t : Adr}
def gls (kn : Str → Bool) (i : Nat) : Nat → List Wd → List (Nat × Nat)
  | _, [] => []
  | j, w :: r => (if w.2 = "goal" ∧ kn w.1 = false then [(i, j)] else []) ++ gls kn i (j + 1) r
def glsT (kn : Str → Bool) : Nat → List (List Wd) → List (Nat × Nat)
  | _, [] => []
  | i, r :: rs => gls kn i 0 r ++ glsT kn (i + 1) rs
theorem gls_app {kn : Str → Bool} {i : Nat} : ∀ (A B : List Wd) (j : Nat), gls kn i j (A ++ B) = gls kn i j A ++ gls kn i (j + A.length) B
  | [], B, j => rfl
  | w :: A, B, j => by
    show _ ++ gls kn i (j + 1) (A ++ B) = (_ ++ gls kn i (j + 1) A) ++ _
    rw [gls_app A B (j + 1), List.append_assoc, List.length_cons, show j + 1 + A.length = j + (A.length + 1) by omega]
theorem glsT_app {kn : Str → Bool} : ∀ (A B : List (List Wd)) (i : Nat), glsT kn i (A ++ B) = glsT kn i A ++ glsT kn (i + A.length) B
  | [], B, i => rfl
  | r :: A, B, i => by
    show gls kn i 0 r ++ glsT kn (i + 1) (A ++ B) = (gls kn i 0 r ++ glsT kn (i + 1) A) ++ _
    rw [glsT_app A B (i + 1), List.append_assoc, List.length_cons, show i + 1 + A.length = i + (A.length + 1) by omega]
theorem gls_none {kn : Str → Bool} {i : Nat} : ∀ (r : List Wd) (j : Nat), (∀ w ∈ r, w.2 ≠ "goal") → gls kn i j r = []
  | [], _, _ => rfl
  | w :: r, j, h => by
    rw [gls, if_neg (fun z => h w (by simp) z.1), gls_none r (j + 1) fun x hx => h x (List.mem_cons_of_mem _ hx)]; rfl
theorem wd_role {x r : Str} (h : r ≠ "goal") : ∀ w ∈ wd x r, w.2 ≠ "goal" := fun w hw => by rw [List.mem_singleton.mp hw]; exact h
theorem wB_role (s z c : Str) : ∀ w ∈ wB s z c, w.2 ≠ "goal" := by
  intro w hw
  unfold wB wA at hw
  simp only [List.mem_append] at hw
  rcases hw with (hw | hw) | hw
  · exact wd_role (by decide) w hw
  · split at hw
    · exact wd_role (by decide) w hw
    · cases hw
  · split at hw
    · cases hw
    · exact wd_role (by decide) w hw
theorem wf_role (f : Str) : ∀ w ∈ (if f = "" then [] else wd f "fold"), w.2 ≠ "goal" := by
  intro w hw
  split at hw
  · cases hw
  · exact wd_role (by decide) w hw
theorem mode_role (n c : Str) : ∀ w ∈ modeRow n c, w.2 ≠ "goal" := by
  intro w hw
  unfold modeRow at hw
  simp only [List.mem_append] at hw
  rcases hw with (hw | hw) | hw
  · exact wd_role (by decide) w hw
  · exact wd_role (by decide) w hw
  · exact wd_role (by decide) w hw
theorem gls_row {kn : Str → Bool} {i : Nat} (s z c d g f : Str) : gls kn i 0 (wrow s z c d g f) = gone1 i (if kn g = true then none else goalAt s z c d) := by
  rw [wrow, wC, gls_app, gls_app, gls_app, gls_none _ _ (wB_role s z c), gls_none _ _ (wd_role (x := d) (r := "deed") (by decide)), gls_none _ _ (wf_role f), List.append_nil, List.nil_append, goalAt]
  by_cases h : d ∈ (["push", "into"] : List Str)
  · rw [if_pos h, if_pos h]
    show (if ("goal" : Str) = "goal" ∧ kn g = false then _ else _) ++ [] = _
    rw [List.append_nil]
    cases hk : kn g with
    | true => rw [if_neg (fun z => by cases z.2), if_pos rfl]; rfl
    | false =>
      rw [if_pos ⟨rfl, rfl⟩, if_neg (by decide), List.length_append, Nat.zero_add, wds, List.length_map]; rfl
  · rw [if_neg h, if_neg h, ite_self]; rfl
theorem step_ruleX {kn : Str → Bool} {names' : List Str} {r : List Wd} {st : RdSt} {i : Nat} (hN : ∀ n ∈ names', isName n = true) (h : RuleRow names' r) (h1 : st.names ≠ []) (h2 : st.cnt < 12) :
    stepT kn i st (wds r) = .inr ⟨st.names, st.cnt + 1, st.nws ++ gls kn i 0 r⟩ := by
  have h0 := sort_ne_mode (row_first h)
  obtain ⟨s, z, c, d, g, f, hs, hz, hc, hd, hg, hf, rfl⟩ := h
  rw [stepT, if_neg (fun w => w.elim h1 h0), if_pos h2, rd_row hs hz.1 (hues_name hc) hd (hN g hg) hf, gls_row]
theorem read_rsX {kn : Str → Bool} {names' : List Str} (hN : ∀ n ∈ names', isName n = true) : ∀ (rs : List (List Wd)) (st : RdSt) (i : Nat) (rest : List (List Str)), (∀ r ∈ rs, RuleRow names' r) → st.names ≠ [] → st.cnt + rs.length ≤ 12 →
    readT kn i st (wordsT rs ++ rest) = readT kn (i + rs.length) ⟨st.names, st.cnt + rs.length, st.nws ++ glsT kn i rs⟩ rest
  | [], st, i, rest, _, _, _ => by rw [glsT, List.append_nil]; rfl
  | r :: rs, st, i, rest, h, h1, h2 => by
    rw [List.length_cons] at h2
    have e1 := step_ruleX (kn := kn) (i := i) hN (h r (by simp)) h1 (by omega)
    have e2 := read_rsX (kn := kn) hN rs ⟨st.names, st.cnt + 1, st.nws ++ gls kn i 0 r⟩ (i + 1) rest (fun x hx => h x (List.mem_cons_of_mem _ hx)) h1 (by show st.cnt + 1 + rs.length ≤ 12; omega)
    show readT kn i st (wds r :: (wordsT rs ++ rest)) = _
    rw [readT_cons e1, e2, List.length_cons, List.append_assoc, show i + 1 + rs.length = i + (rs.length + 1) by omega, show st.cnt + 1 + rs.length = st.cnt + (rs.length + 1) by omega]
    rfl
theorem read_msX {kn : Str → Bool} {names' : List Str} (hN : ∀ n ∈ names', isName n = true) : ∀ (ms : List ModeD) (st : RdSt) (i : Nat) (rest : List (List Str)), (∀ m ∈ ms, ModeOk names' m ∧ isName m.name = true) → (st.names ++ ms.map (·.name)).Nodup → st.names.length + ms.length ≤ 12 → st.cnt ≤ 12 →
    ∃ cnt, readT kn i st (wordsT (rowsD ms) ++ rest) = readT kn (i + (rowsD ms).length) ⟨st.names ++ ms.map (·.name), cnt, st.nws ++ glsT kn i (rowsD ms)⟩ rest ∧ (ms ≠ [] ∨ st.cnt ≤ 4 → cnt ≤ 4)
  | [], st, i, rest, _, _, _, _ => ⟨st.cnt, by show _ = readT kn _ ⟨st.names ++ [], st.cnt, st.nws ++ []⟩ rest; rw [List.append_nil, List.append_nil]; rfl, fun h => h.elim (fun z => absurd rfl z) id⟩
  | m :: ms, st, i, rest, h, h1, h2, h3 => by
    obtain ⟨ok, hn⟩ := h m (by simp)
    rw [List.length_cons] at h2
    have hnm : m.name ∉ st.names := fun z => by
      rw [List.map_cons] at h1
      exact (List.nodup_append.mp h1).2.2 _ z _ (by simp) rfl
    have e1 := step_mode (kn := kn) (st := st) (i := i) (n := m.name) (c := m.col) (by omega) hnm hn (col_name ok.col)
    have e2 := read_rsX (kn := kn) hN m.rules ⟨st.names ++ [m.name], 0, st.nws⟩ (i + 1) (wordsT (rowsD ms) ++ rest) ok.rules (by simp) (by have := ok.len; show 0 + m.rules.length ≤ 12; omega)
    obtain ⟨cnt, e3, k4⟩ := read_msX (kn := kn) hN ms ⟨st.names ++ [m.name], 0 + m.rules.length, st.nws ++ glsT kn (i + 1) m.rules⟩ (i + 1 + m.rules.length) rest (fun x hx => h x (List.mem_cons_of_mem _ hx)) (by rw [List.append_assoc]; exact h1) (by show (st.names ++ [m.name]).length + ms.length ≤ 12; rw [List.length_append]; show st.names.length + 1 + ms.length ≤ 12; omega) (by have := ok.len; show 0 + m.rules.length ≤ 12; omega)
    refine ⟨cnt, ?_, fun _ => k4 (.inr (by have := ok.len; show 0 + m.rules.length ≤ 4; omega))⟩
    have er : wordsT (rowsD (m :: ms)) ++ rest = wds (modeRow m.name m.col) :: (wordsT m.rules ++ (wordsT (rowsD ms) ++ rest)) := by
      rw [rowsD_cons]
      show wds (modeRow m.name m.col) :: (wordsT (m.rules ++ rowsD ms) ++ rest) = _
      rw [wordsT_app, List.append_assoc]
    have el : (rowsD (m :: ms)).length = 1 + m.rules.length + (rowsD ms).length := by
      rw [rowsD_cons, List.length_cons, List.length_append]; omega
    have eg : glsT kn i (rowsD (m :: ms)) = glsT kn (i + 1) m.rules ++ glsT kn (i + 1 + m.rules.length) (rowsD ms) := by
      rw [rowsD_cons]
      show gls kn i 0 (modeRow m.name m.col) ++ glsT kn (i + 1) (m.rules ++ rowsD ms) = _
      rw [gls_none _ _ (mode_role _ _), List.nil_append, glsT_app]
    rw [er, readT_cons e1, e2, e3, el, eg, List.map_cons, List.append_assoc, List.append_assoc, show i + 1 + m.rules.length + (rowsD ms).length = i + (1 + m.rules.length + (rowsD ms).length) by omega]
    rfl
abbrev allG : Str → Bool := fun _ => false
theorem gls_mem {kn : Str → Bool} {i : Nat} {p : Nat × Nat} : ∀ {r : List Wd} {j : Nat}, p ∈ gls kn i j r → p.1 = i ∧ j ≤ p.2 ∧ ∃ w, r[p.2 - j]? = some w ∧ w.2 = "goal"
  | [], j, h => by cases h
  | w :: r, j, h => by
    rw [gls] at h
    rcases List.mem_append.mp h with h | h
    · split at h
      · rename_i hw
        rw [List.mem_singleton.mp h]
        exact ⟨rfl, Nat.le_refl _, w, by rw [show (i, j).2 - j = 0 by show j - j = 0; omega]; rfl, hw.1⟩
      · cases h
    · obtain ⟨h1, h2, w', h3, h4⟩ := gls_mem h
      exact ⟨h1, by omega, w', by rw [show p.2 - j = (p.2 - (j + 1)) + 1 by omega, List.getElem?_cons_succ]; exact h3, h4⟩
theorem gls_nodup {kn : Str → Bool} {i : Nat} : ∀ (r : List Wd) (j : Nat), (gls kn i j r).Nodup
  | [], _ => List.nodup_nil
  | w :: r, j => by
    rw [gls]
    refine List.nodup_append.mpr ⟨by split <;> simp, gls_nodup r (j + 1), fun a ha b hb e => ?_⟩
    have h2 := (gls_mem hb).2.1
    split at ha
    · rw [← e, List.mem_singleton.mp ha] at h2
      simp at h2
      omega
    · cases ha
theorem glsT_mem {kn : Str → Bool} {p : Nat × Nat} : ∀ {rs : List (List Wd)} {i : Nat}, p ∈ glsT kn i rs → i ≤ p.1 ∧ ∃ r w, rs[p.1 - i]? = some r ∧ r[p.2]? = some w ∧ w.2 = "goal"
  | [], i, h => by cases h
  | r :: rs, i, h => by
    rw [glsT] at h
    rcases List.mem_append.mp h with h | h
    · obtain ⟨h1, _, w, h3, h4⟩ := gls_mem h
      exact ⟨by omega, r, w, by rw [show p.1 - i = 0 by omega]; rfl, h3, h4⟩
    · obtain ⟨h1, r', w, h3, h4⟩ := glsT_mem h
      exact ⟨by omega, r', w, by rw [show p.1 - i = (p.1 - (i + 1)) + 1 by omega, List.getElem?_cons_succ]; exact h3, h4⟩
theorem glsT_nodup {kn : Str → Bool} : ∀ (rs : List (List Wd)) (i : Nat), (glsT kn i rs).Nodup
  | [], _ => List.nodup_nil
  | r :: rs, i => by
    rw [glsT]
    refine List.nodup_append.mpr ⟨gls_nodup r 0, glsT_nodup rs (i + 1), fun a ha b hb e => ?_⟩
    have h1 := (gls_mem ha).1
    have h2 := (glsT_mem hb).1
    rw [← e] at h2
    omega
abbrev noW : Wd := ("nobody", "goal")
def turnR (mk : Nat × Nat → Bool) (i : Nat) : Nat → List Wd → List Wd
  | _, [] => []
  | j, w :: r => (if w.2 = "goal" ∧ mk (i, j) = true then noW else w) :: turnR mk i (j + 1) r
def turnT (mk : Nat × Nat → Bool) : Nat → List (List Wd) → List (List Wd)
  | _, [] => []
  | i, r :: rs => turnR mk i 0 r :: turnT mk (i + 1) rs
theorem turnR_app {mk : Nat × Nat → Bool} {i : Nat} : ∀ (A B : List Wd) (j : Nat), turnR mk i j (A ++ B) = turnR mk i j A ++ turnR mk i (j + A.length) B
  | [], B, j => rfl
  | w :: A, B, j => by
    show _ :: turnR mk i (j + 1) (A ++ B) = _ :: (turnR mk i (j + 1) A ++ _)
    rw [turnR_app A B (j + 1), List.length_cons, show j + 1 + A.length = j + (A.length + 1) by omega]
theorem turnT_app {mk : Nat × Nat → Bool} : ∀ (A B : List (List Wd)) (i : Nat), turnT mk i (A ++ B) = turnT mk i A ++ turnT mk (i + A.length) B
  | [], B, i => rfl
  | r :: A, B, i => by
    show _ :: turnT mk (i + 1) (A ++ B) = _ :: (turnT mk (i + 1) A ++ _)
    rw [turnT_app A B (i + 1), List.length_cons, show i + 1 + A.length = i + (A.length + 1) by omega]
theorem turnR_none {mk : Nat × Nat → Bool} {i : Nat} : ∀ (r : List Wd) (j : Nat), (∀ w ∈ r, w.2 ≠ "goal") → turnR mk i j r = r
  | [], _, _ => rfl
  | w :: r, j, h => by
    rw [turnR, if_neg (fun z => h w (by simp) z.1), turnR_none r (j + 1) fun x hx => h x (List.mem_cons_of_mem _ hx)]
theorem turnR_len {mk : Nat × Nat → Bool} {i : Nat} : ∀ (r : List Wd) (j : Nat), (turnR mk i j r).length = r.length
  | [], _ => rfl
  | w :: r, j => by rw [turnR, List.length_cons, List.length_cons, turnR_len r (j + 1)]
theorem turnT_len {mk : Nat × Nat → Bool} : ∀ (rs : List (List Wd)) (i : Nat), (turnT mk i rs).length = rs.length
  | [], _ => rfl
  | w :: r, j => by rw [turnT, List.length_cons, List.length_cons, turnT_len r (j + 1)]
theorem turn_row {mk : Nat × Nat → Bool} {i : Nat} {names : List Str} {r : List Wd} (h : RuleRow names r) : RuleRow (names ++ [("nobody" : Str)]) (turnR mk i 0 r) := by
  obtain ⟨s, z, c, d, g, f, hs, hz, hc, hd, hg, hf, rfl⟩ := h
  refine ⟨s, z, c, d, if mk (i, 0 + (wB s z c ++ wd d "deed").length) = true then "nobody" else g, f, hs, hz, hc, hd, ?_, hf, ?_⟩
  · split
    · simp
    · exact List.mem_append_left _ hg
  · rw [wrow, wC, turnR_app, turnR_app, turnR_app, turnR_none _ _ (wB_role s z c), turnR_none _ _ (wd_role (x := d) (r := "deed") (by decide)), turnR_none _ _ (wf_role f), wrow, wC]
    by_cases h : d ∈ (["push", "into"] : List Str)
    · rw [if_pos h, if_pos h]
      have : turnR mk i (0 + (wB s z c ++ wd d "deed").length) (wd g "goal") = wd (if mk (i, 0 + (wB s z c ++ wd d "deed").length) = true then "nobody" else g) "goal" := by
        show [if ("goal" : Str) = "goal" ∧ _ then noW else _] = _
        by_cases hm : mk (i, 0 + (wB s z c ++ wd d "deed").length) = true
        · rw [if_pos ⟨rfl, hm⟩, if_pos hm]
        · rw [if_neg (fun z => hm z.2), if_neg hm]
      rw [this]
    · rw [if_neg h, if_neg h]; rfl
theorem turn_rows {mk : Nat × Nat → Bool} {names : List Str} : ∀ (rs : List (List Wd)) (i : Nat), (∀ r ∈ rs, RuleRow names r) → ∀ r ∈ turnT mk i rs, RuleRow (names ++ [("nobody" : Str)]) r
  | [], _, _, r, h => by cases h
  | q :: rs, i, h, r, hr => by
    rw [turnT] at hr
    rcases List.mem_cons.mp hr with rfl | hr
    · exact turn_row (h q (by simp))
    · exact turn_rows rs (i + 1) (fun x hx => h x (List.mem_cons_of_mem _ hx)) r hr
theorem turn_ms {mk : Nat × Nat → Bool} {names : List Str} : ∀ (ms : List ModeD) (i : Nat), (∀ m ∈ ms, ModeOk names m) → ∃ ms', turnT mk i (rowsD ms) = rowsD ms' ∧ ms'.map (·.name) = ms.map (·.name) ∧ ∀ m ∈ ms', ModeOk (names ++ [("nobody" : Str)]) m
  | [], i, _ => ⟨[], rfl, rfl, by simp⟩
  | m :: ms, i, h => by
    have ok := h m (by simp)
    obtain ⟨ms', e1, e2, e3⟩ := turn_ms (mk := mk) ms (i + 1 + m.rules.length) fun x hx => h x (List.mem_cons_of_mem _ hx)
    refine ⟨⟨m.name, m.col, turnT mk (i + 1) m.rules⟩ :: ms', ?_, by rw [List.map_cons, List.map_cons, e2], ?_⟩
    · rw [rowsD_cons, rowsD_cons, turnT, turnR_none _ _ (mode_role _ _), turnT_app, e1]
    · intro x hx
      rcases List.mem_cons.mp hx with rfl | hx
      · exact ⟨ok.col, by show (turnT mk (i + 1) m.rules).length ≤ 4; rw [turnT_len]; exact ok.len, turn_rows _ _ ok.rules⟩
      · exact e3 x hx
theorem gls_turn {kn : Str → Bool} {mk : Nat × Nat → Bool} {i : Nat} (hk : kn "nobody" = false) : ∀ (r : List Wd) (j : Nat), (∀ w ∈ r, w.2 = "goal" → kn w.1 = true) → gls kn i j (turnR mk i j r) = (gls allG i j r).filter mk
  | [], _, _ => rfl
  | w :: r, j, h => by
    rw [turnR, gls, gls, List.filter_append, gls_turn hk r (j + 1) fun x hx => h x (List.mem_cons_of_mem _ hx)]
    congr 1
    by_cases hw : w.2 = "goal"
    · by_cases hm : mk (i, j) = true
      · rw [if_pos (show w.2 = "goal" ∧ mk (i, j) = true from ⟨hw, hm⟩), if_pos ⟨rfl, hk⟩, if_pos ⟨hw, rfl⟩, List.filter_cons, if_pos hm]; rfl
      · rw [if_neg (show ¬ (w.2 = "goal" ∧ mk (i, j) = true) from fun z => hm z.2), if_neg (fun z => by rw [h w (by simp) hw] at z; cases z.2), if_pos ⟨hw, rfl⟩, List.filter_cons, if_neg hm]; rfl
    · rw [if_neg (show ¬ (w.2 = "goal" ∧ mk (i, j) = true) from fun z => hw z.1), if_neg (fun z => hw z.1), if_neg (fun z => hw z.1)]; rfl
theorem glsT_turn {kn : Str → Bool} {mk : Nat × Nat → Bool} (hk : kn "nobody" = false) : ∀ (rs : List (List Wd)) (i : Nat), (∀ r ∈ rs, ∀ w ∈ r, w.2 = "goal" → kn w.1 = true) → glsT kn i (turnT mk i rs) = (glsT allG i rs).filter mk
  | [], _, _ => rfl
  | r :: rs, i, h => by
    rw [turnT, glsT, glsT, List.filter_append, gls_turn hk r 0 (h r (by simp)), glsT_turn hk rs (i + 1) fun x hx => h x (List.mem_cons_of_mem _ hx)]
theorem nameT_mode (n c : Str) : nameT (wds (modeRow n c)) = [n] := by
  rw [nameT, if_pos ⟨rfl, by show 1 < 3; decide⟩]; rfl
theorem known_rules {names : List Str} : ∀ (rs : List (List Wd)), (∀ r ∈ rs, RuleRow names r) → knownN (wordsT rs) = []
  | [], _ => rfl
  | r :: rs, h => by
    show nameT (wds r) ++ knownN (wordsT rs) = []
    rw [known_rules rs fun x hx => h x (List.mem_cons_of_mem _ hx), nameT, if_neg (fun z => sort_ne_mode (row_first (h r (by simp))) z.1)]; rfl
theorem known_all {names : List Str} : ∀ (ms : List ModeD), (∀ m ∈ ms, ModeOk names m) → knownN (wordsT (rowsD ms)) = ms.map (·.name)
  | [], _ => rfl
  | m :: ms, h => by
    rw [rowsD_cons]
    show nameT (wds (modeRow m.name m.col)) ++ knownN (wordsT (m.rules ++ rowsD ms)) = _
    rw [nameT_mode, wordsT_app, knownN_app, known_rules _ (h m (by simp)).rules, known_all ms fun x hx => h x (List.mem_cons_of_mem _ hx)]; rfl
theorem row_goals {names : List Str} {r : List Wd} (h : RuleRow names r) : ∀ w ∈ r, w.2 = "goal" → w.1 ∈ names := by
  obtain ⟨s, z, c, d, g, f, hs, hz, hc, hd, hg, hf, rfl⟩ := h
  intro w hw e
  unfold wrow wC at hw
  simp only [List.mem_append] at hw
  rcases hw with ((hw | hw) | hw) | hw
  · exact absurd e (wB_role s z c w hw)
  · exact absurd e (wd_role (by decide) w hw)
  · split at hw
    · rw [List.mem_singleton.mp hw]; exact hg
    · cases hw
  · exact absurd e (wf_role f w hw)
theorem rows_goals {names : List Str} {ms : List ModeD} (h : ∀ m ∈ ms, ModeOk names m) : ∀ r ∈ rowsD ms, ∀ w ∈ r, w.2 = "goal" → w.1 ∈ names := by
  intro r hr w hw e
  obtain ⟨m, hm, hr⟩ := List.mem_flatMap.mp hr
  rcases List.mem_cons.mp hr with rfl | hr
  · exact absurd e (mode_role _ _ w hw)
  · exact row_goals ((h m hm).rules r hr) w hw e
theorem head_filter {α : Type} {L M : List α} {mk : α → Bool} {k : Nat} {p : α} (hn : L.Nodup) (hp : L[k]? = some p) (hm : mk p = true) (hM : ∀ x, mk x = true → x ∈ L.drop k) : (L.filter mk).head? = some p := by
  obtain ⟨hi, e⟩ := List.getElem?_eq_some_iff.mp hp
  have hd : L.drop k = p :: L.drop (k + 1) := by rw [List.drop_eq_getElem_cons hi, e]
  have hL : L = L.take k ++ L.drop k := (List.take_append_drop k L).symm
  have hn' := hn
  rw [hL] at hn'
  have h0 : (L.take k).filter mk = [] := by
    refine List.filter_eq_nil_iff.mpr fun a ha hma => ?_
    exact (List.nodup_append.mp hn').2.2 a ha a (hM a hma) rfl
  rw [hL, List.filter_append, h0, List.nil_append, hd, List.filter_cons, if_pos hm]; rfl
/-- (B): goals turned to one that stands nowhere -/
theorem DrawnOk.turned {names : List Str} {ms : List ModeD} {mk : Nat × Nat → Bool} {k : Nat} {p : Nat × Nat} (D : DrawnOk names ms) (hp : (glsT allG 0 (rowsD ms))[k]? = some p) (hm : mk p = true) (hM : ∀ x, mk x = true → x ∈ (glsT allG 0 (rowsD ms)).drop k) :
    readP (wordsT (turnT mk 0 (rowsD ms))) = some p ∧ readP (wordsT (turnT mk 0 (rowsD ms) ++ [voidR])) = some ((rowsD ms).length, 0) ∧ ∀ r ∈ turnT mk 0 (rowsD ms), RowW r := by
  obtain ⟨ms', e1, e2, e3⟩ := turn_ms (mk := mk) ms 0 D.ok
  have hN := D.nm.good.2.1
  have hN' : ∀ n ∈ names ++ [("nobody" : Str)], isName n = true := fun n hn => by
    rcases List.mem_append.mp hn with h | h
    · exact hN n h
    · rw [List.mem_singleton.mp h]; decide +kernel
  have hl := D.len
  have hl4 := D.nm.len
  have hl' : ms'.length = ms.length := by have := congrArg List.length e2; rw [List.length_map, List.length_map] at this; exact this
  have all' : ∀ m ∈ ms', ModeOk (names ++ [("nobody" : Str)]) m ∧ isName m.name = true := fun m hm => ⟨e3 m hm, hN _ (by rw [← D.eq, ← e2]; exact List.mem_map.mpr ⟨m, hm, rfl⟩)⟩
  have hrd := fun kn rest => read_msX (kn := kn) hN' ms' ⟨[], 0, []⟩ 0 rest all' (by rw [e2, D.eq]; exact D.nm.good.1) (by show 0 + ms'.length ≤ 12; omega) (by decide)
  have hlen : (rowsD ms').length = (rowsD ms).length := by rw [← e1, turnT_len]
  have hkn : knownN (wordsT (rowsD ms')) = names := by rw [known_all ms' e3, e2, D.eq]
  refine ⟨?_, ?_, ?_⟩
  · unfold readP
    rw [e1, hkn]
    obtain ⟨cnt, e4, _⟩ := hrd (fun x => decide (x ∈ names)) []
    rw [List.append_nil] at e4
    rw [e4]
    show ([] ++ glsT (fun x => decide (x ∈ names)) 0 (rowsD ms')).head? = _
    rw [List.nil_append, ← e1, glsT_turn (decide_eq_false D.nm.more.2.2.1) _ _ (fun r hr w hw e => decide_eq_true (rows_goals D.ok r hr w hw e))]
    exact head_filter (M := []) (glsT_nodup _ _) hp hm hM
  · unfold readP
    rw [e1, wordsT_app]
    obtain ⟨cnt, e4, k4⟩ := hrd (fun x => decide (x ∈ knownN (wordsT (rowsD ms') ++ wordsT [voidR]))) (wordsT [voidR])
    rw [e4, Nat.zero_add, hlen]
    have := k4 (.inr (by decide))
    exact readT_stop (step_none (ws := [""]) (by show ("" : Str) ∉ sorts; decide) (by show ("" : Str) ≠ "mode"; decide) (by show cnt < 12; omega))
  · rw [e1]
    exact fun r hr => (rows_rw hN' all' r hr).1
end
section
variable {P : Program} {w : World} {K : PySem.W.Frag} {mg : Str → Option Value} {base : Heap} {t : Adr}
theorem All2.take {α β : Type} {R : α → β → Prop} {as : List α} {bs : List β} (h : All2 R as bs) (n : Nat) : All2 R (as.take n) (bs.take n) := by
  refine ⟨by rw [List.length_take, List.length_take, h.1], fun i a b h1 h2 => ?_⟩
  rw [List.getElem?_take] at h1 h2
  split at h1
  · rename_i hi
    rw [if_pos hi] at h2
    exact h.2 i a b h1 h2
  · cases h1
theorem All2.drop {α β : Type} {R : α → β → Prop} {as : List α} {bs : List β} (h : All2 R as bs) (n : Nat) : All2 R (as.drop n) (bs.drop n) := by
  refine ⟨by rw [List.length_drop, List.length_drop, h.1], fun i a b h1 h2 => ?_⟩
  rw [List.getElem?_drop] at h1 h2
  exact h.2 _ a b h1 h2
theorem All2.app {α β : Type} {R : α → β → Prop} {as cs : List α} {bs ds : List β} (h : All2 R as bs) (g : All2 R cs ds) : All2 R (as ++ cs) (bs ++ ds) := by
  have hl := h.1
  refine ⟨by rw [List.length_append, List.length_append, h.1, g.1], fun i a b h1 h2 => ?_⟩
  by_cases hi : i < as.length
  · rw [List.getElem?_append_left hi] at h1
    rw [List.getElem?_append_left (by omega)] at h2
    exact h.2 i a b h1 h2
  · rw [List.getElem?_append_right (by omega)] at h1 h2
    rw [hl] at h1
    exact g.2 _ a b h1 h2
theorem All2.one {α β : Type} {R : α → β → Prop} {a : α} {b : β} (r : R a b) : All2 R [a] [b] := All2.snoc (as := []) (bs := []) All2.nil r
theorem All2.cons {α β : Type} {R : α → β → Prop} {a : α} {b : β} {as : List α} {bs : List β} (r : R a b) (h : All2 R as bs) : All2 R (a :: as) (b :: bs) := (All2.one r).app h
abbrev wT (w : Wd) : HO := .tup [.str w.1, .str w.2]
theorem row1 {H : Hp} {p l : Addr} {w : Wd} (h1 : H p = some (wT w)) (h2 : H l = some (.lst [.ref p])) : RowH H l [w] := ⟨[p], h2, All2.one h1⟩
theorem row2 {H : Hp} {p1 p2 l : Addr} {w1 w2 : Wd} (h1 : H p1 = some (wT w1)) (h2 : H p2 = some (wT w2)) (h : H l = some (.lst [.ref p1, .ref p2])) : RowH H l [w1, w2] := ⟨[p1, p2], h, All2.cons (R := WdH H) h1 (All2.one h2)⟩
theorem row3 {H : Hp} {p1 p2 p3 l : Addr} {w1 w2 w3 : Wd} (h1 : H p1 = some (wT w1)) (h2 : H p2 = some (wT w2)) (h3 : H p3 = some (wT w3)) (h : H l = some (.lst [.ref p1, .ref p2, .ref p3])) : RowH H l [w1, w2, w3] := ⟨[p1, p2, p3], h, All2.cons (R := WdH H) h1 (All2.cons (R := WdH H) h2 (All2.one h3))⟩
theorem rows_same {H H' : Hp} {ls : List Addr} {rs : List (List Wd)} (h : All2 (RowH H) ls rs) (s : Same H H') : All2 (RowH H') ls rs := h.mono fun _ _ z => z.same s
theorem cut_from {xs : List V} {i : Nat} (h : i ≤ xs.length) : cutV xs (some (i : Int)) none = xs.drop i := by
  rw [cutV, HT.sIx_nat, HT.sIx_none, Nat.min_eq_left h, List.take_of_length_le (by rw [List.length_drop]; exact Nat.le_refl _)]
theorem cut_neg1 {xs : List V} (h : xs ≠ []) : cutV xs none (some (-1 : Int)) = xs.dropLast := by
  have hp : 0 < xs.length := List.length_pos_iff.mpr h
  unfold cutV
  have e : HT.sIx xs.length xs.length (some (-1 : Int)) = xs.length - 1 := by
    show (if (-1 : Int) < 0 then ((-1 : Int) + (xs.length : Int)).toNat else min (-1 : Int).toNat xs.length) = _
    rw [if_pos (by decide)]
    omega
  rw [HT.sIx_none, e, List.drop_zero, Nat.sub_zero, List.dropLast_eq_take]
def spSpoil (K : PySem.W.Frag) : Sp := fun vs H Q _ => ∃ (a l : Addr) (ns : List Int) (names : List Str) (ms : List ModeD), vs = [.ref a, .ref l] ∧ SqL K H a (ns.map V.int) ∧ ns.length ≤ 63 ∧ RowsH H l (rowsD ms) ∧ DrawnOk names ms ∧
  ∀ (p l2 : Addr) (rs : List (List Wd)) (i j : Nat) (H' : Hp), H' p = some (.tup [.ref l2, .int i, .int j]) → RowsH H' l2 rs → Spoilt ms rs i j → Same H H' → Q (.ref p) H'
theorem rowsD_pos {names : List Str} {ms : List ModeD} (D : DrawnOk names ms) : 1 ≤ (rowsD ms).length ∧ (rowsD ms).length ≤ 20 := by
  have h1 := rowsD_len D.ok
  have h2 := D.len
  have h3 := D.nm.len
  refine ⟨?_, by omega⟩
  cases ms with
  | nil => exact absurd rfl D.ne
  | cons m r => rw [rowsD_cons, List.length_cons]; omega
theorem filt_rules {names : List Str} : ∀ (rs : List (List Wd)), (∀ r ∈ rs, RuleRow names r) → rs.countP (fun r => decide ((r.map (·.2))[0]? = some ("mode" : Str))) = 0
  | [], _ => rfl
  | r :: rs, h => by
    rw [List.countP_cons, filt_rules rs fun x hx => h x (List.mem_cons_of_mem _ hx)]
    obtain ⟨s, z, c, d, g, f, _, _, _, _, _, _, rfl⟩ := h r (by simp)
    have : ((wrow s z c d g f).map (·.2))[0]? = some ("sort" : Str) := by rw [wrow, wC, wB, wA]; rfl
    rw [this]; rfl
def isM (r : List Wd) : Bool := decide ((r.map (·.2))[0]? = some ("mode" : Str))
theorem filt_ms {names : List Str} : ∀ (ms : List ModeD), (∀ m ∈ ms, ModeOk names m) → (rowsD ms).countP isM = ms.length
  | [], _ => rfl
  | m :: ms, h => by
    rw [rowsD_cons, List.countP_cons, List.countP_append, filt_ms ms fun x hx => h x (List.mem_cons_of_mem _ hx)]
    have e := filt_rules m.rules (h m (by simp)).rules
    have e : m.rules.countP isM = 0 := e
    rw [e, if_pos (by show decide (some ("mode" : Str) = some "mode") = true; decide), List.length_cons]; omega
theorem ok__law_spoiled (T : Txt K mg t) : FnOk P w K mg base CX0 3 t.f__law_spoiled t.d__law_spoiled ["_law_script", "_law_rows_here"] (spSpoil K) := by
  refine T.F__law_spoiled.ok sc__law_spoiled (fun vs H Q E h => ?_) (fun cdv A outer s H vs Q E hr h => at_body ?_)
  · obtain ⟨a, l, ns, names, ms, rfl, _⟩ := h
    rfl
  · obtain ⟨a, l, ns, names, ms, rfl, hS, hns, hR, D, q⟩ := h
    obtain ⟨ls, hl, hA⟩ := hR
    obtain ⟨hn1, hn2⟩ := rowsD_pos D
    have hrw := rows_rw D.nm.good.2.1 D.all
    have hll := hA.1
    refine @at_cons _ _ _ _ _ _ _ (@ps_set _ _ 2 _ _ _ _ sc__law_spoiled.nd rfl (Or.inl rfl) (@pe_call _ _ _ _ _ _ _ _ _ _ _ _ _ _ _ _ (ok__law_draw T) (hr.mono (by decide)) rfl T.mg__law_draw T.F__law_draw.kp (bd__law_draw T) .nil pass0 (@pa_cons _ _ _ _ _ (pv 0) (@pa_cons _ _ _ _ _ pe_int (@pa_cons _ _ _ _ _ (@pe_callB _ _ _ _ _ _ _ _ _ call_len_seq (by rfl) T.z_len (by decide +kernel) (@pa_cons _ _ _ _ _ (pv 1) pa_nil (by walk_at "u")) (by walk_at "u") (by walk_at "u") (by walk_at "u") (by walk_at "u")) pa_nil (by walk_at "u")) (by walk_at "u")) (by walk_at "u")) (by walk_at "u") (by walk_at "u") (by walk_at "u")) (by walk_at "u") (by walk_at "u")) ⟨_, rfl, _, rfl, _, _, rfl, .inl (SqL.of hl), a, ns, 30, _, rfl, hS, by decide, by decide, by rw [List.length_map]; omega, by rw [List.length_map]; omega, hns, fun d1 H1 h1 h2 s1 => ?_⟩
    obtain ⟨ka, rfl⟩ : ∃ n : Nat, d1 = n := ⟨d1.toNat, by omega⟩
    have hka : ka < ls.length := by rw [List.length_map] at h2; omega
    obtain ⟨lr, hlr⟩ : ∃ x, ls[ka]? = some x := ⟨ls[ka], List.getElem?_eq_getElem hka⟩
    obtain ⟨r, hr0⟩ : ∃ x, (rowsD ms)[ka]? = some x := ⟨(rowsD ms)[ka]'(by omega), List.getElem?_eq_getElem _⟩
    have hrm := hrw r (List.mem_of_getElem? hr0)
    have hRr := hA.2 ka lr r hlr hr0
    refine @at_cons _ _ _ _ _ _ _ (@ps_set _ _ 3 _ _ _ _ sc__law_spoiled.nd rfl (Or.inl rfl) (@pe_ix _ _ _ _ _ _ _ ix_list (pv 1) (pv 2) (fun _ _ => rfl)) (by walk_at "u") (by walk_at "u")) ⟨_, rfl, _, rfl, _, _, _, _, rfl, rfl, SqL.of (s1 _ _ hl), atI_nat (j := ka) (by rw [List.getElem?_map, hlr]; rfl), ?_⟩
    obtain ⟨ps, hp, hB⟩ := hRr
    have hpl := hB.1
    refine @at_cons _ _ _ _ _ _ _ (@ps_set _ _ 4 _ _ _ _ sc__law_spoiled.nd rfl (Or.inl rfl) (@pe_call _ _ _ _ _ _ _ _ _ _ _ _ _ _ _ _ (ok__law_draw T) (hr.mono (by decide)) rfl T.mg__law_draw T.F__law_draw.kp (bd__law_draw T) .nil pass0 (@pa_cons _ _ _ _ _ (pv 0) (@pa_cons _ _ _ _ _ pe_int (@pa_cons _ _ _ _ _ (@pe_callB _ _ _ _ _ _ _ _ _ call_len_seq (by rfl) T.z_len (by decide +kernel) (@pa_cons _ _ _ _ _ (pv 3) pa_nil (by walk_at "u")) (by walk_at "u") (by walk_at "u") (by walk_at "u") (by walk_at "u")) pa_nil (by walk_at "u")) (by walk_at "u")) (by walk_at "u")) (by walk_at "u") (by walk_at "u") (by walk_at "u")) (by walk_at "u") (by walk_at "u")) ⟨_, rfl, _, rfl, _, _, rfl, .inl (SqL.of (s1 _ _ hp)), a, ns, 31, _, rfl, hS.same s1, by decide, by decide, by rw [List.length_map]; omega, by rw [List.length_map]; omega, hns, fun d2 H2 h3 h4 s2 => ?_⟩
    obtain ⟨kw, rfl⟩ : ∃ n : Nat, d2 = n := ⟨d2.toNat, by omega⟩
    have hkw : kw < ps.length := by rw [List.length_map] at h4; omega
    refine @at_cons _ _ _ _ _ _ _ (@ps_set _ _ 5 _ _ _ _ sc__law_spoiled.nd rfl (Or.inl rfl) (@pe_call _ _ _ _ _ _ _ _ _ _ _ _ _ _ _ _ (ok__law_draw T) (hr.mono (by decide)) rfl T.mg__law_draw T.F__law_draw.kp (bd__law_draw T) .nil pass0 (@pa_cons _ _ _ _ _ (pv 0) (@pa_cons _ _ _ _ _ pe_int (@pa_cons _ _ _ _ _ pe_int pa_nil (by walk_at "u")) (by walk_at "u")) (by walk_at "u")) (by walk_at "u") (by walk_at "u") (by walk_at "u")) (by walk_at "u") (by walk_at "u")) ⟨_, rfl, a, ns, 32, 8, rfl, hS.same (s1.trans s2), by decide, by decide, by decide, by decide, hns, fun way H4 h5 h6 s3 => ?_⟩
    have s4 := (s1.trans s2).trans s3
    clear s1 s2 s3
    have hS4 := hS.same s4
    have hl4 := s4 _ _ hl
    have hp4 := s4 _ _ hp
    have hA4 := rows_same hA s4
    have hB4 : All2 (WdH H4) ps r := hB.mono fun _ _ z => s4 _ _ z
    have hcut : rowsD ms = (rowsD ms).take ka ++ r :: (rowsD ms).drop (ka + 1) := by
      obtain ⟨hi, e⟩ := List.getElem?_eq_some_iff.mp hr0
      rw [← e, ← List.drop_eq_getElem_cons hi, List.take_append_drop]
    have hkl : ((rowsD ms).take ka).length = ka := by rw [List.length_take]; omega
    have c1 : cutV (ls.map V.ref) none (some (ka : Int)) = (ls.take ka).map V.ref := by rw [cut_to (by rw [List.length_map]; omega), List.map_take]
    have c2 : cutV (ls.map V.ref) (some ((ka : Int) + 1)) none = (ls.drop (ka + 1)).map V.ref := by
      rw [show ((ka : Int) + 1) = ((ka + 1 : Nat) : Int) by omega, cut_from (by rw [List.length_map]; omega), List.map_drop]
    have c3 : cutV (ls.map V.ref) (some (ka : Int)) none = (ls.drop ka).map V.ref := by rw [cut_from (by rw [List.length_map]; omega), List.map_drop]
    show At _ _ _ [some (.ref a), some (.ref l), some (.int (ka : Int)), some (.ref lr), some (.int (kw : Int)), some (.int way), none, none, none, none, none, none, none] H4
    refine @at_consR _ _ _ _ _ _ _ (fun σ' H' => σ' = [some (.ref a), some (.ref l), some (.int (ka : Int)), some (.ref lr), some (.int (kw : Int)), some (.int way), none, none, none, none, none, none, none] ∧ H4 = H') (@ps_if _ _ _ _ _ _ _ _ (@PW.pt _ _ _ (@pw_and _ _ _ _ _ _ _ (@pt_cmpR _ _ _ _ _ _ _ _ op_eq (pv 5) pe_int (nomark _)) (@pw_and1 _ _ _ _ (@pt_cmpR _ _ _ _ _ _ _ _ op_ne (@pe_ix _ _ _ _ _ _ _ ix_tup (@pe_ix _ _ _ _ _ _ _ ix_list (pv 3) (@pe_un _ _ _ _ _ _ un_neg pe_int) (fun _ _ => rfl)) pe_int (fun _ _ => rfl)) pe_str (nomark _))))) pss_at pss_at) ?_ ?_
    · refine ⟨_, rfl, rfl, _, rfl, ifd (fun _ => ?_) (fun _ => at_nil ⟨rfl, rfl⟩)⟩
      obtain ⟨kl, hkl2⟩ : ∃ k, ps.length = k + 1 := ⟨ps.length - 1, by omega⟩
      obtain ⟨pq, hpq⟩ : ∃ x, ps[kl]? = some x := ⟨ps[kl]'(by omega), List.getElem?_eq_getElem _⟩
      obtain ⟨y, hy⟩ : ∃ x, r[kl]? = some x := ⟨r[kl]'(by omega), List.getElem?_eq_getElem _⟩
      have hq : H4 pq = some (.tup [.str y.1, .str y.2]) := hB4.2 kl pq y hpq hy
      refine ⟨_, rfl, _, rfl, _, _, _, _, rfl, rfl, SqL.of hp4, atI_lastM hkl2 hpq, _, _, _, _, rfl, rfl, SqT.of hq, atI_nat (j := 1) rfl, rfl, _, rfl, ifnd (fun hf => ?_) (fun _ => at_nil ⟨rfl, rfl⟩)⟩
      refine @at_one _ _ _ _ _ _ (@ps_ret _ _ _ _ (@pe_tup _ _ _ _ _ (@pa_cons _ _ _ _ _ (@pe_op _ _ _ _ _ _ _ _ op_cat (@pe_op _ _ _ _ _ _ _ _ op_cat (@pe_slice _ _ _ _ _ _ _ _ _ _ sl_list (pv 1) po_none (@po_some _ _ _ (pv 2))) (@pe_lst _ _ _ _ (@pa_cons _ _ _ _ _ (@pe_slice _ _ _ _ _ _ _ _ _ _ sl_list (pv 3) po_none (@po_some _ _ _ (@pe_un _ _ _ _ _ _ un_neg pe_int))) pa_nil (by walk_at "u")))) (@pe_slice _ _ _ _ _ _ _ _ _ _ sl_list (pv 1) (@po_some _ _ _ (@pe_op _ _ _ _ _ _ _ _ op_add (pv 2) pe_int)) po_none)) (@pa_cons _ _ _ _ _ (pv 2) (@pa_cons _ _ _ _ _ (@pe_op _ _ _ _ _ _ _ _ op_sub (@pe_callB _ _ _ _ _ _ _ _ _ call_len_seq (by rfl) T.z_len (by decide +kernel) (@pa_cons _ _ _ _ _ (pv 3) pa_nil (by walk_at "u")) (by walk_at "u") (by walk_at "u") (by walk_at "u") (by walk_at "u")) pe_int) pa_nil (by walk_at "u")) (by walk_at "u")) (by walk_at "u")))) ⟨_, rfl, _, rfl, (ka : Int), rfl, l, _, rfl, SqL.of hl4, fun l1 e1 => ?_⟩
      rw [c1]
      have t1 := Same.upd (o := .lst ((ls.take ka).map V.ref)) e1
      have g1 : upd H4 l1 (.lst ((ls.take ka).map V.ref)) l1 = some (.lst ((ls.take ka).map V.ref)) := upd_same
      generalize upd H4 l1 (.lst ((ls.take ka).map V.ref)) = G1 at t1 g1 ⊢
      refine ⟨_, rfl, _, rfl, (-1 : Int), rfl, lr, _, rfl, SqL.of (t1 _ _ hp4), fun l2 e2 => ?_⟩
      rw [cut_neg1 (fun z => by rw [List.map_eq_nil_iff] at z; rw [z] at hkw; simp at hkw), ← List.map_dropLast]
      have t2 := Same.upd (o := .lst (ps.dropLast.map V.ref)) e2
      have g2 : upd G1 l2 (.lst (ps.dropLast.map V.ref)) l2 = some (.lst (ps.dropLast.map V.ref)) := upd_same
      generalize upd G1 l2 (.lst (ps.dropLast.map V.ref)) = G2 at t2 g2 ⊢
      refine ⟨by show 1 ≤ sizeLine; decide, fun l3 e3 => ?_⟩
      have t3 := Same.upd (o := .lst [.ref l2]) e3
      have g3 : upd G2 l3 (.lst [.ref l2]) l3 = some (.lst [.ref l2]) := upd_same
      generalize upd G2 l3 (.lst [.ref l2]) = G3 at t3 g3 ⊢
      refine ⟨l1, l3, _, _, rfl, rfl, t3 _ _ (t2 _ _ g1), g3, sl_le (by rw [List.length_map, List.length_take]; show _ + 1 ≤ 1000000; omega), fun l4 e4 => ?_⟩
      have t4 := Same.upd (o := .lst ((ls.take ka).map V.ref ++ [.ref l2])) e4
      have g4 : upd G3 l4 (.lst ((ls.take ka).map V.ref ++ [.ref l2])) l4 = some (.lst ((ls.take ka).map V.ref ++ [.ref l2])) := upd_same
      generalize upd G3 l4 (.lst ((ls.take ka).map V.ref ++ [.ref l2])) = G4 at t4 g4 ⊢
      have u4 := ((t1.trans t2).trans t3).trans t4
      refine ⟨_, rfl, _, rfl, _, _, rfl, rfl, (ka : Int) + 1, rfl, l, _, rfl, SqL.of (u4 _ _ hl4), fun l5 e5 => ?_⟩
      rw [c2]
      have t5 := Same.upd (o := .lst ((ls.drop (ka + 1)).map V.ref)) e5
      have g5 : upd G4 l5 (.lst ((ls.drop (ka + 1)).map V.ref)) l5 = some (.lst ((ls.drop (ka + 1)).map V.ref)) := upd_same
      generalize upd G4 l5 (.lst ((ls.drop (ka + 1)).map V.ref)) = G5 at t5 g5 ⊢
      refine ⟨l4, l5, _, _, rfl, rfl, t5 _ _ g4, g5, sl_le (by rw [List.length_append, List.length_map, List.length_map, List.length_take, List.length_drop]; show _ + 1 + _ ≤ 1000000; omega), fun l6 e6 => ?_⟩
      have t6 := Same.upd (o := .lst ((ls.take ka).map V.ref ++ [.ref l2] ++ (ls.drop (ka + 1)).map V.ref)) e6
      have g6 : upd G5 l6 (.lst ((ls.take ka).map V.ref ++ [.ref l2] ++ (ls.drop (ka + 1)).map V.ref)) l6 = some (.lst ((ls.take ka).map V.ref ++ [.ref l2] ++ (ls.drop (ka + 1)).map V.ref)) := upd_same
      generalize upd G5 l6 (.lst ((ls.take ka).map V.ref ++ [.ref l2] ++ (ls.drop (ka + 1)).map V.ref)) = G6 at t6 g6 ⊢
      have u6 := (u4.trans t5).trans t6
      refine ⟨_, rfl, _, rfl, _, _, rfl, .inl (SqL.of (u6 _ _ hp4)), _, _, rfl, rfl, by show 3 ≤ sizeLine; decide, fun p e7 => ?_⟩
      have t7 := Same.upd (o := .tup [.ref l6, .int (ka : Int), .int (((ps.map V.ref).length : Int) - 1)]) e7
      have u7 := u6.trans t7
      have er : r = r.dropLast ++ [y] := by
        have hne : r ≠ [] := fun z => by rw [z] at hy; simp at hy
        have hrl := List.dropLast_concat_getLast hne
        have : r.getLast hne = y := by
          rw [List.getLast_eq_getElem]
          obtain ⟨hi, e⟩ := List.getElem?_eq_some_iff.mp hy
          rw [← e]; congr 1; omega
        rw [this] at hrl; exact hrl.symm
      have hdl : r.dropLast.length = kl := by rw [List.length_dropLast]; omega
      refine q p l6 ((rowsD ms).take ka ++ r.dropLast :: (rowsD ms).drop (ka + 1)) ka kl _ ?_ ⟨ls.take ka ++ l2 :: ls.drop (ka + 1), ?_, ?_⟩ (.inl ⟨_, r, _, hcut, hkl.symm, .inl ⟨r.dropLast, y.1, y.2, er, fun z => hf (by rw [z]), rfl, hdl.symm⟩⟩) (s4.trans u7)
      · rw [upd_same]
        show some (HO.tup [.ref l6, .int (ka : Int), .int (((ps.map V.ref).length : Int) - 1)]) = _
        rw [List.length_map, show ((ps.length : Int) - 1) = (kl : Int) by omega]
      · rw [t7 _ _ g6, List.map_append, List.map_cons, List.append_assoc]; rfl
      · have h2 : RowH (upd G6 p (.tup [.ref l6, .int (ka : Int), .int (((ps.map V.ref).length : Int) - 1)])) l2 r.dropLast := RowH.same (H := G2) ⟨ps.dropLast, g2, by
          rw [List.dropLast_eq_take, List.dropLast_eq_take, hpl]
          exact (hB4.mono fun _ _ z => t2 _ _ (t1 _ _ z)).take _⟩ ((((t3.trans t4).trans t5).trans t6).trans t7)
        exact ((rows_same hA4 u7).take ka).app (All2.cons h2 ((rows_same hA4 u7).drop (ka + 1)))
    rintro σ' H' ⟨rfl, rfl⟩
    refine @at_consR _ _ _ _ _ _ _ (fun σ' H' => σ' = [some (.ref a), some (.ref l), some (.int (ka : Int)), some (.ref lr), some (.int (kw : Int)), some (.int way), none, none, none, none, none, none, none] ∧ H4 = H') (@ps_if _ _ _ _ _ _ _ _ (@pt_cmpR _ _ _ _ _ _ _ _ op_eq (pv 5) pe_int (nomark _)) pss_at pss_at) ?_ ?_
    · refine ⟨_, rfl, rfl, _, rfl, ifd (fun _ => ?_) (fun _ => at_nil ⟨rfl, rfl⟩)⟩
      refine @at_cons _ _ _ _ _ _ _ (@ps_set _ _ 6 _ _ _ _ sc__law_spoiled.nd rfl (Or.inl rfl) (@pe_ix _ _ _ _ _ _ _ ix_list (@pe_lst _ _ _ _ (@pa_strs _ _ ["more", "", "opens"] rfl)) (@pe_call _ _ _ _ _ _ _ _ _ _ _ _ _ _ _ _ (ok__law_draw T) (hr.mono (by decide)) rfl T.mg__law_draw T.F__law_draw.kp (bd__law_draw T) .nil pass0 (@pa_cons _ _ _ _ _ (pv 0) (@pa_cons _ _ _ _ _ pe_int (@pa_cons _ _ _ _ _ pe_int pa_nil (by walk_at "u")) (by walk_at "u")) (by walk_at "u")) (by walk_at "u") (by walk_at "u") (by walk_at "u")) (fun _ _ => rfl)) (by walk_at "u") (by walk_at "u")) ⟨by show 3 ≤ sizeLine; decide, fun l0 hl0 => ⟨_, rfl, a, ns, 33, 3, rfl, hS4.same (Same.upd hl0), by decide, by decide, by decide, by decide, hns, fun d1 G0 h1 h2 s0 => ?_⟩⟩
      obtain ⟨x, hx, ex⟩ := pick (xs := ["more", "", "opens"]) h1 h2
      refine ⟨_, _, _, _, rfl, rfl, SqL.of (s0 _ _ upd_same), ex, ?_⟩
      have t0 := (Same.upd (o := .lst ((["more", "", "opens"] : List Str).map V.str)) hl0).trans s0
      refine @at_one _ _ _ _ _ _ (@ps_ret _ _ _ _ (@pe_tup _ _ _ _ _ (@pa_cons _ _ _ _ _ (@pe_op _ _ _ _ _ _ _ _ op_cat (@pe_op _ _ _ _ _ _ _ _ op_cat (@pe_slice _ _ _ _ _ _ _ _ _ _ sl_list (pv 1) po_none (@po_some _ _ _ (pv 2))) (@pe_lst _ _ _ _ (@pa_cons _ _ _ _ _ (@pe_op _ _ _ _ _ _ _ _ op_cat (pv 3) (@pe_lst _ _ _ _ (@pa_cons _ _ _ _ _ (@pe_tup _ _ _ _ _ (@pa_cons _ _ _ _ _ (pv 6) (@pa_cons _ _ _ _ _ pe_str pa_nil (by walk_at "u")) (by walk_at "u"))) pa_nil (by walk_at "u")))) pa_nil (by walk_at "u")))) (@pe_slice _ _ _ _ _ _ _ _ _ _ sl_list (pv 1) (@po_some _ _ _ (@pe_op _ _ _ _ _ _ _ _ op_add (pv 2) pe_int)) po_none)) (@pa_cons _ _ _ _ _ (pv 2) (@pa_cons _ _ _ _ _ (@pe_callB _ _ _ _ _ _ _ _ _ call_len_seq (by rfl) T.z_len (by decide +kernel) (@pa_cons _ _ _ _ _ (pv 3) pa_nil (by walk_at "u")) (by walk_at "u") (by walk_at "u") (by walk_at "u") (by walk_at "u")) pa_nil (by walk_at "u")) (by walk_at "u")) (by walk_at "u")))) ⟨_, rfl, _, rfl, (ka : Int), rfl, l, _, rfl, SqL.of (t0 _ _ hl4), fun l1 e1 => ?_⟩
      rw [c1]
      have t1 := Same.upd (o := .lst ((ls.take ka).map V.ref)) e1
      have g1 : upd G0 l1 (.lst ((ls.take ka).map V.ref)) l1 = some (.lst ((ls.take ka).map V.ref)) := upd_same
      generalize upd G0 l1 (.lst ((ls.take ka).map V.ref)) = G1 at t1 g1 ⊢
      have u1 := t0.trans t1
      refine ⟨_, rfl, _, rfl, by show 2 ≤ sizeLine; decide, fun p2 e2 => ?_⟩
      have t2 := Same.upd (o := .tup [.str x, .str ""]) e2
      have g2 : upd G1 p2 (.tup [.str x, .str ""]) p2 = some (.tup [.str x, .str ""]) := upd_same
      generalize upd G1 p2 (.tup [.str x, .str ""]) = G2 at t2 g2 ⊢
      refine ⟨by show 1 ≤ sizeLine; decide, fun l3 e3 => ?_⟩
      have t3 := Same.upd (o := .lst [.ref p2]) e3
      have g3 : upd G2 l3 (.lst [.ref p2]) l3 = some (.lst [.ref p2]) := upd_same
      generalize upd G2 l3 (.lst [.ref p2]) = G3 at t3 g3 ⊢
      have u3 := (u1.trans t2).trans t3
      refine ⟨lr, l3, _, _, rfl, rfl, u3 _ _ hp4, g3, sl_le (by rw [List.length_map]; show _ + 1 ≤ 1000000; omega), fun l4 e4 => ?_⟩
      have t4 := Same.upd (o := .lst (ps.map V.ref ++ [.ref p2])) e4
      have g4 : upd G3 l4 (.lst (ps.map V.ref ++ [.ref p2])) l4 = some (.lst (ps.map V.ref ++ [.ref p2])) := upd_same
      generalize upd G3 l4 (.lst (ps.map V.ref ++ [.ref p2])) = G4 at t4 g4 ⊢
      refine ⟨by show 1 ≤ sizeLine; decide, fun l5 e5 => ?_⟩
      have t5 := Same.upd (o := .lst [.ref l4]) e5
      have g5 : upd G4 l5 (.lst [.ref l4]) l5 = some (.lst [.ref l4]) := upd_same
      generalize upd G4 l5 (.lst [.ref l4]) = G5 at t5 g5 ⊢
      have v5 := ((t2.trans t3).trans t4).trans t5
      refine ⟨l1, l5, _, _, rfl, rfl, v5 _ _ g1, g5, sl_le (by rw [List.length_map, List.length_take]; show _ + 1 ≤ 1000000; omega), fun l6 e6 => ?_⟩
      have t6 := Same.upd (o := .lst ((ls.take ka).map V.ref ++ [.ref l4])) e6
      have g6 : upd G5 l6 (.lst ((ls.take ka).map V.ref ++ [.ref l4])) l6 = some (.lst ((ls.take ka).map V.ref ++ [.ref l4])) := upd_same
      generalize upd G5 l6 (.lst ((ls.take ka).map V.ref ++ [.ref l4])) = G6 at t6 g6 ⊢
      have u6 := (u1.trans v5).trans t6
      refine ⟨_, rfl, _, rfl, _, _, rfl, rfl, (ka : Int) + 1, rfl, l, _, rfl, SqL.of (u6 _ _ hl4), fun l7 e7 => ?_⟩
      rw [c2]
      have t7 := Same.upd (o := .lst ((ls.drop (ka + 1)).map V.ref)) e7
      have g7 : upd G6 l7 (.lst ((ls.drop (ka + 1)).map V.ref)) l7 = some (.lst ((ls.drop (ka + 1)).map V.ref)) := upd_same
      generalize upd G6 l7 (.lst ((ls.drop (ka + 1)).map V.ref)) = G7 at t7 g7 ⊢
      refine ⟨l6, l7, _, _, rfl, rfl, t7 _ _ g6, g7, sl_le (by rw [List.length_append, List.length_map, List.length_map, List.length_take, List.length_drop]; show _ + 1 + _ ≤ 1000000; omega), fun l8 e8 => ?_⟩
      have t8 := Same.upd (o := .lst ((ls.take ka).map V.ref ++ [.ref l4] ++ (ls.drop (ka + 1)).map V.ref)) e8
      have g8 : upd G7 l8 (.lst ((ls.take ka).map V.ref ++ [.ref l4] ++ (ls.drop (ka + 1)).map V.ref)) l8 = some (.lst ((ls.take ka).map V.ref ++ [.ref l4] ++ (ls.drop (ka + 1)).map V.ref)) := upd_same
      generalize upd G7 l8 (.lst ((ls.take ka).map V.ref ++ [.ref l4] ++ (ls.drop (ka + 1)).map V.ref)) = G8 at t8 g8 ⊢
      have u8 := (u6.trans t7).trans t8
      refine ⟨_, rfl, _, rfl, _, _, rfl, .inl (SqL.of (u8 _ _ hp4)), by show 3 ≤ sizeLine; decide, fun p e9 => ?_⟩
      have t9 := Same.upd (o := .tup [.ref l8, .int (ka : Int), .int ((ps.map V.ref).length : Int)]) e9
      have u9 := u8.trans t9
      refine q p l8 ((rowsD ms).take ka ++ (r ++ [nr x]) :: (rowsD ms).drop (ka + 1)) ka r.length _ ?_ ⟨ls.take ka ++ l4 :: ls.drop (ka + 1), ?_, ?_⟩ (.inl ⟨_, r, _, hcut, hkl.symm, .inr (.inl ⟨x, hx, rfl, rfl⟩)⟩) (s4.trans u9)
      · rw [upd_same]
        show some (HO.tup [.ref l8, .int (ka : Int), .int ((ps.map V.ref).length : Int)]) = _
        rw [List.length_map, hpl]
      · rw [t9 _ _ g8, List.map_append, List.map_cons, List.append_assoc]; rfl
      · have h2 : RowH (upd G8 p (.tup [.ref l8, .int (ka : Int), .int ((ps.map V.ref).length : Int)])) l4 (r ++ [nr x]) := RowH.same (H := G4) ⟨ps ++ [p2], by rw [g4, List.map_append]; rfl, (hB4.mono fun _ _ z => t4 _ _ (u3 _ _ z)).snoc (t4 _ _ (t3 _ _ g2))⟩ ((((t5.trans t6).trans t7).trans t8).trans t9)
        exact ((rows_same hA4 u9).take ka).app (All2.cons h2 ((rows_same hA4 u9).drop (ka + 1)))
    rintro σ' H' ⟨rfl, rfl⟩
    refine @at_consR _ _ _ _ _ _ _ (fun σ' H' => σ' = [some (.ref a), some (.ref l), some (.int (ka : Int)), some (.ref lr), some (.int (kw : Int)), some (.int way), none, none, none, none, none, none, none] ∧ H4 = H') (@ps_if _ _ _ _ _ _ _ _ (@pt_cmpR _ _ _ _ _ _ _ _ op_eq (pv 5) pe_int (nomark _)) pss_at pss_at) ?_ ?_
    · refine ⟨_, rfl, rfl, _, rfl, ifd (fun _ => ?_) (fun _ => at_nil ⟨rfl, rfl⟩)⟩
      refine @at_one _ _ _ _ _ _ (@ps_ret _ _ _ _ (@pe_tup _ _ _ _ _ (@pa_cons _ _ _ _ _ (@pe_op _ _ _ _ _ _ _ _ op_cat (@pe_op _ _ _ _ _ _ _ _ op_cat (@pe_slice _ _ _ _ _ _ _ _ _ _ sl_list (pv 1) po_none (@po_some _ _ _ (pv 2))) (@pe_lst _ _ _ _ (@pa_cons _ _ _ _ _ (@pe_lst _ _ _ _ (@pa_cons _ _ _ _ _ (@pe_tup _ _ _ _ _ (@pa_cons _ _ _ _ _ pe_str (@pa_cons _ _ _ _ _ pe_str pa_nil (by walk_at "u")) (by walk_at "u"))) pa_nil (by walk_at "u"))) pa_nil (by walk_at "u")))) (@pe_slice _ _ _ _ _ _ _ _ _ _ sl_list (pv 1) (@po_some _ _ _ (pv 2)) po_none)) (@pa_cons _ _ _ _ _ (pv 2) (@pa_cons _ _ _ _ _ pe_int pa_nil (by walk_at "u")) (by walk_at "u")) (by walk_at "u")))) ⟨_, rfl, _, rfl, (ka : Int), rfl, l, _, rfl, SqL.of hl4, fun l1 e1 => ?_⟩
      rw [c1]
      have t1 := Same.upd (o := .lst ((ls.take ka).map V.ref)) e1
      have g1 : upd H4 l1 (.lst ((ls.take ka).map V.ref)) l1 = some (.lst ((ls.take ka).map V.ref)) := upd_same
      generalize upd H4 l1 (.lst ((ls.take ka).map V.ref)) = G1 at t1 g1 ⊢
      refine ⟨by show 2 ≤ sizeLine; decide, fun p2 e2 => ?_⟩
      have t2 := Same.upd (o := .tup [.str "", .str ""]) e2
      have g2 : upd G1 p2 (.tup [.str "", .str ""]) p2 = some (.tup [.str "", .str ""]) := upd_same
      generalize upd G1 p2 (.tup [.str "", .str ""]) = G2 at t2 g2 ⊢
      refine ⟨by show 1 ≤ sizeLine; decide, fun l3 e3 => ?_⟩
      have t3 := Same.upd (o := .lst [.ref p2]) e3
      have g3 : upd G2 l3 (.lst [.ref p2]) l3 = some (.lst [.ref p2]) := upd_same
      generalize upd G2 l3 (.lst [.ref p2]) = G3 at t3 g3 ⊢
      refine ⟨by show 1 ≤ sizeLine; decide, fun l4 e4 => ?_⟩
      have t4 := Same.upd (o := .lst [.ref l3]) e4
      have g4 : upd G3 l4 (.lst [.ref l3]) l4 = some (.lst [.ref l3]) := upd_same
      generalize upd G3 l4 (.lst [.ref l3]) = G4 at t4 g4 ⊢
      have v4 := (t2.trans t3).trans t4
      refine ⟨l1, l4, _, _, rfl, rfl, v4 _ _ g1, g4, sl_le (by rw [List.length_map, List.length_take]; show _ + 1 ≤ 1000000; omega), fun l6 e6 => ?_⟩
      have t6 := Same.upd (o := .lst ((ls.take ka).map V.ref ++ [.ref l3])) e6
      have g6 : upd G4 l6 (.lst ((ls.take ka).map V.ref ++ [.ref l3])) l6 = some (.lst ((ls.take ka).map V.ref ++ [.ref l3])) := upd_same
      generalize upd G4 l6 (.lst ((ls.take ka).map V.ref ++ [.ref l3])) = G6 at t6 g6 ⊢
      have u6 := (t1.trans v4).trans t6
      refine ⟨_, rfl, _, rfl, (ka : Int), rfl, l, _, rfl, SqL.of (u6 _ _ hl4), fun l7 e7 => ?_⟩
      rw [c3]
      have t7 := Same.upd (o := .lst ((ls.drop ka).map V.ref)) e7
      have g7 : upd G6 l7 (.lst ((ls.drop ka).map V.ref)) l7 = some (.lst ((ls.drop ka).map V.ref)) := upd_same
      generalize upd G6 l7 (.lst ((ls.drop ka).map V.ref)) = G7 at t7 g7 ⊢
      refine ⟨l6, l7, _, _, rfl, rfl, t7 _ _ g6, g7, sl_le (by rw [List.length_append, List.length_map, List.length_map, List.length_take, List.length_drop]; show _ + 1 + _ ≤ 1000000; omega), fun l8 e8 => ?_⟩
      have t8 := Same.upd (o := .lst ((ls.take ka).map V.ref ++ [.ref l3] ++ (ls.drop ka).map V.ref)) e8
      have g8 : upd G7 l8 (.lst ((ls.take ka).map V.ref ++ [.ref l3] ++ (ls.drop ka).map V.ref)) l8 = some (.lst ((ls.take ka).map V.ref ++ [.ref l3] ++ (ls.drop ka).map V.ref)) := upd_same
      generalize upd G7 l8 (.lst ((ls.take ka).map V.ref ++ [.ref l3] ++ (ls.drop ka).map V.ref)) = G8 at t8 g8 ⊢
      have u8 := (u6.trans t7).trans t8
      refine ⟨_, rfl, by show 3 ≤ sizeLine; decide, fun p e9 => ?_⟩
      have t9 := Same.upd (o := .tup [.ref l8, .int (ka : Int), .int 0]) e9
      have u9 := u8.trans t9
      have hd : (rowsD ms).drop ka = r :: (rowsD ms).drop (ka + 1) := by
        obtain ⟨hi, e⟩ := List.getElem?_eq_some_iff.mp hr0
        rw [← e, ← List.drop_eq_getElem_cons hi]
      refine q p l8 ((rowsD ms).take ka ++ voidR :: r :: (rowsD ms).drop (ka + 1)) ka 0 _ upd_same ⟨ls.take ka ++ l3 :: ls.drop ka, ?_, ?_⟩ (.inl ⟨_, r, _, hcut, hkl.symm, .inr (.inr (.inl ⟨rfl, rfl⟩))⟩) (s4.trans u9)
      · rw [t9 _ _ g8, List.map_append, List.map_cons, List.append_assoc]; rfl
      · have h2 := (row1 (w := nr "") (t3 _ _ g2) g3).same ((((t4.trans t6).trans t7).trans t8).trans t9)
        rw [← hd]
        exact ((rows_same hA4 u9).take ka).app (All2.cons h2 ((rows_same hA4 u9).drop ka))
    rintro σ' H' ⟨rfl, rfl⟩
    refine @at_consR _ _ _ _ _ _ _ (fun σ' H' => σ' = [some (.ref a), some (.ref l), some (.int (ka : Int)), some (.ref lr), some (.int (kw : Int)), some (.int way), none, none, none, none, none, none, none] ∧ H4 = H') (@ps_if _ _ _ _ _ _ _ _ (@pt_cmpR _ _ _ _ _ _ _ _ op_eq (pv 5) pe_int (nomark _)) pss_at pss_at) ?_ ?_
    · refine ⟨_, rfl, rfl, _, rfl, ifd (fun _ => ?_) (fun _ => at_nil ⟨rfl, rfl⟩)⟩
      refine @at_one _ _ _ _ _ _ (@ps_ret _ _ _ _ (@pe_tup _ _ _ _ _ (@pa_cons _ _ _ _ _ (@pe_op _ _ _ _ _ _ _ _ op_cat (@pe_lst _ _ _ _ (@pa_cons _ _ _ _ _ (@pe_lst _ _ _ _ (@pa_cons _ _ _ _ _ (@pe_tup _ _ _ _ _ (@pa_cons _ _ _ _ _ pe_str (@pa_cons _ _ _ _ _ pe_str pa_nil (by walk_at "u")) (by walk_at "u"))) (@pa_cons _ _ _ _ _ (@pe_tup _ _ _ _ _ (@pa_cons _ _ _ _ _ pe_str (@pa_cons _ _ _ _ _ pe_str pa_nil (by walk_at "u")) (by walk_at "u"))) (@pa_cons _ _ _ _ _ (@pe_tup _ _ _ _ _ (@pa_cons _ _ _ _ _ pe_str (@pa_cons _ _ _ _ _ pe_str pa_nil (by walk_at "u")) (by walk_at "u"))) pa_nil (by walk_at "u")) (by walk_at "u")) (by walk_at "u"))) pa_nil (by walk_at "u"))) (pv 1)) (@pa_cons _ _ _ _ _ pe_int (@pa_cons _ _ _ _ _ pe_int pa_nil (by walk_at "u")) (by walk_at "u")) (by walk_at "u")))) ?_
      refine ⟨by show 2 ≤ sizeLine; decide, fun xp1 xe1 => ?_⟩
      have xt1 := Same.upd (o := .tup [.str "any", .str ""]) xe1
      have xg1 : upd H4 xp1 (.tup [.str "any", .str ""]) xp1 = some (.tup [.str "any", .str ""]) := upd_same
      generalize upd H4 xp1 (.tup [.str "any", .str ""]) = xG1 at xt1 xg1 ⊢
      refine ⟨by show 2 ≤ sizeLine; decide, fun xp2 xe2 => ?_⟩
      have xt2 := Same.upd (o := .tup [.str "red", .str ""]) xe2
      have xg2 : upd xG1 xp2 (.tup [.str "red", .str ""]) xp2 = some (.tup [.str "red", .str ""]) := upd_same
      generalize upd xG1 xp2 (.tup [.str "red", .str ""]) = xG2 at xt2 xg2 ⊢
      refine ⟨by show 2 ≤ sizeLine; decide, fun xp3 xe3 => ?_⟩
      have xt3 := Same.upd (o := .tup [.str "stay", .str ""]) xe3
      have xg3 : upd xG2 xp3 (.tup [.str "stay", .str ""]) xp3 = some (.tup [.str "stay", .str ""]) := upd_same
      generalize upd xG2 xp3 (.tup [.str "stay", .str ""]) = xG3 at xt3 xg3 ⊢
      refine ⟨by show 3 ≤ sizeLine; decide, fun xl xe4 => ?_⟩
      have xt4 := Same.upd (o := .lst [.ref xp1, .ref xp2, .ref xp3]) xe4
      have xg4 : upd xG3 xl (.lst [.ref xp1, .ref xp2, .ref xp3]) xl = some (.lst [.ref xp1, .ref xp2, .ref xp3]) := upd_same
      generalize upd xG3 xl (.lst [.ref xp1, .ref xp2, .ref xp3]) = xG4 at xt4 xg4 ⊢
      have xR := row3 (w1 := nr "any") (w2 := nr "red") (w3 := nr "stay") (xt4 _ _ (xt3 _ _ (xt2 _ _ xg1))) (xt4 _ _ (xt3 _ _ xg2)) (xt4 _ _ xg3) xg4
      have xu := ((xt1.trans xt2).trans xt3).trans xt4
      refine ⟨by show 1 ≤ sizeLine; decide, fun l5 e5 => ?_⟩
      have t5 := Same.upd (o := .lst [.ref xl]) e5
      have g5 : upd xG4 l5 (.lst [.ref xl]) l5 = some (.lst [.ref xl]) := upd_same
      generalize upd xG4 l5 (.lst [.ref xl]) = G5 at t5 g5 ⊢
      refine ⟨_, rfl, l5, l, _, _, rfl, rfl, g5, t5 _ _ (xu _ _ hl4), sl_le (by rw [List.length_map]; show 1 + _ ≤ 1000000; omega), fun l6 e6 => ?_⟩
      have t6 := Same.upd (o := .lst ([.ref xl] ++ ls.map V.ref)) e6
      have g6 : upd G5 l6 (.lst ([.ref xl] ++ ls.map V.ref)) l6 = some (.lst ([.ref xl] ++ ls.map V.ref)) := upd_same
      generalize upd G5 l6 (.lst ([.ref xl] ++ ls.map V.ref)) = G6 at t6 g6 ⊢
      refine ⟨by show 3 ≤ sizeLine; decide, fun p e9 => ?_⟩
      have t9 := Same.upd (o := .tup [.ref l6, .int 0, .int 0]) e9
      have u9 := ((xu.trans t5).trans t6).trans t9
      exact q p l6 (anyR :: rowsD ms) 0 0 _ upd_same ⟨xl :: ls, by rw [t9 _ _ g6]; rfl, All2.cons (xR.same ((t5.trans t6).trans t9)) (rows_same hA4 u9)⟩ (.inr (.inl ⟨rfl, rfl, rfl⟩)) (s4.trans u9)
    rintro σ' H' ⟨rfl, rfl⟩
    refine @at_consR _ _ _ _ _ _ _ (fun σ' H' => σ' = [some (.ref a), some (.ref l), some (.int (ka : Int)), some (.ref lr), some (.int (kw : Int)), some (.int way), none, none, none, none, none, none, none] ∧ H4 = H') (@ps_if _ _ _ _ _ _ _ _ (@pt_cmpR _ _ _ _ _ _ _ _ op_eq (pv 5) pe_int (nomark _)) pss_at pss_at) ?_ ?_
    · refine ⟨_, rfl, rfl, _, rfl, ifd (fun _ => ?_) (fun _ => at_nil ⟨rfl, rfl⟩)⟩
      refine @at_cons _ _ _ _ _ _ _ (@ps_set _ _ 7 _ _ _ _ sc__law_spoiled.nd rfl (Or.inl rfl) (@pe_lst _ _ _ _ (@pa_cons _ _ _ _ _ (@pe_tup _ _ _ _ _ (@pa_cons _ _ _ _ _ pe_str (@pa_cons _ _ _ _ _ pe_str pa_nil (by walk_at "u")) (by walk_at "u"))) (@pa_cons _ _ _ _ _ (@pe_tup _ _ _ _ _ (@pa_cons _ _ _ _ _ pe_str (@pa_cons _ _ _ _ _ pe_str pa_nil (by walk_at "u")) (by walk_at "u"))) (@pa_cons _ _ _ _ _ (@pe_tup _ _ _ _ _ (@pa_cons _ _ _ _ _ pe_str (@pa_cons _ _ _ _ _ pe_str pa_nil (by walk_at "u")) (by walk_at "u"))) pa_nil (by walk_at "u")) (by walk_at "u")) (by walk_at "u"))) (by walk_at "u") (by walk_at "u")) ?_
      refine ⟨by show 2 ≤ sizeLine; decide, fun xp1 xe1 => ?_⟩
      have xt1 := Same.upd (o := .tup [.str "mode", .str ""]) xe1
      have xg1 : upd H4 xp1 (.tup [.str "mode", .str ""]) xp1 = some (.tup [.str "mode", .str ""]) := upd_same
      generalize upd H4 xp1 (.tup [.str "mode", .str ""]) = xG1 at xt1 xg1 ⊢
      refine ⟨by show 2 ≤ sizeLine; decide, fun xp2 xe2 => ?_⟩
      have xt2 := Same.upd (o := .tup [.str "a", .str ""]) xe2
      have xg2 : upd xG1 xp2 (.tup [.str "a", .str ""]) xp2 = some (.tup [.str "a", .str ""]) := upd_same
      generalize upd xG1 xp2 (.tup [.str "a", .str ""]) = xG2 at xt2 xg2 ⊢
      refine ⟨by show 2 ≤ sizeLine; decide, fun xp3 xe3 => ?_⟩
      have xt3 := Same.upd (o := .tup [.str "blue", .str ""]) xe3
      have xg3 : upd xG2 xp3 (.tup [.str "blue", .str ""]) xp3 = some (.tup [.str "blue", .str ""]) := upd_same
      generalize upd xG2 xp3 (.tup [.str "blue", .str ""]) = xG3 at xt3 xg3 ⊢
      refine ⟨by show 3 ≤ sizeLine; decide, fun xl xe4 => ?_⟩
      have xt4 := Same.upd (o := .lst [.ref xp1, .ref xp2, .ref xp3]) xe4
      have xg4 : upd xG3 xl (.lst [.ref xp1, .ref xp2, .ref xp3]) xl = some (.lst [.ref xp1, .ref xp2, .ref xp3]) := upd_same
      generalize upd xG3 xl (.lst [.ref xp1, .ref xp2, .ref xp3]) = xG4 at xt4 xg4 ⊢
      have xR := row3 (w1 := nr "mode") (w2 := nr "a") (w3 := nr "blue") (xt4 _ _ (xt3 _ _ (xt2 _ _ xg1))) (xt4 _ _ (xt3 _ _ xg2)) (xt4 _ _ xg3) xg4
      have xu := ((xt1.trans xt2).trans xt3).trans xt4
      refine @at_one _ _ _ _ _ _ (@ps_ret _ _ _ _ (@pe_tup _ _ _ _ _ (@pa_cons _ _ _ _ _ (@pe_op _ _ _ _ _ _ _ _ op_cat (pv 1) (@pe_lst _ _ _ _ (@pa_cons _ _ _ _ _ (pv 7) pa_nil (by walk_at "u")))) (@pa_cons _ _ _ _ _ (@pe_callB _ _ _ _ _ _ _ _ _ call_len_seq (by rfl) T.z_len (by decide +kernel) (@pa_cons _ _ _ _ _ (pv 1) pa_nil (by walk_at "u")) (by walk_at "u") (by walk_at "u") (by walk_at "u") (by walk_at "u")) (@pa_cons _ _ _ _ _ pe_int pa_nil (by walk_at "u")) (by walk_at "u")) (by walk_at "u")))) ⟨_, rfl, _, rfl, by show 1 ≤ sizeLine; decide, fun l5 e5 => ?_⟩
      have t5 := Same.upd (o := .lst [.ref xl]) e5
      have g5 : upd xG4 l5 (.lst [.ref xl]) l5 = some (.lst [.ref xl]) := upd_same
      generalize upd xG4 l5 (.lst [.ref xl]) = G5 at t5 g5 ⊢
      refine ⟨l, l5, _, _, rfl, rfl, t5 _ _ (xu _ _ hl4), g5, sl_le (by rw [List.length_map]; show _ + 1 ≤ 1000000; omega), fun l6 e6 => ?_⟩
      have t6 := Same.upd (o := .lst (ls.map V.ref ++ [.ref xl])) e6
      have g6 : upd G5 l6 (.lst (ls.map V.ref ++ [.ref xl])) l6 = some (.lst (ls.map V.ref ++ [.ref xl])) := upd_same
      generalize upd G5 l6 (.lst (ls.map V.ref ++ [.ref xl])) = G6 at t6 g6 ⊢
      refine ⟨_, rfl, _, _, rfl, .inl (SqL.of (t6 _ _ (t5 _ _ (xu _ _ hl4)))), by show 3 ≤ sizeLine; decide, fun p e9 => ?_⟩
      have t9 := Same.upd (o := .tup [.ref l6, .int ((ls.map V.ref).length : Int), .int 1]) e9
      have u9 := ((xu.trans t5).trans t6).trans t9
      refine q p l6 (rowsD ms ++ [againR]) (rowsD ms).length 1 _ ?_ ⟨ls ++ [xl], by rw [t9 _ _ g6, List.map_append]; rfl, (rows_same hA4 u9).snoc (xR.same ((t5.trans t6).trans t9))⟩ (.inr (.inr (.inl ⟨rfl, rfl, rfl⟩))) (s4.trans u9)
      rw [upd_same, List.length_map, hll]; rfl
    rintro σ' H' ⟨rfl, rfl⟩
    refine @at_consR _ _ _ _ _ _ _ (fun σ' H' => σ' = [some (.ref a), some (.ref l), some (.int (ka : Int)), some (.ref lr), some (.int (kw : Int)), some (.int way), none, none, none, none, none, none, none] ∧ H4 = H') (@ps_if _ _ _ _ _ _ _ _ (@pt_cmpR _ _ _ _ _ _ _ _ op_eq (pv 5) pe_int (nomark _)) pss_at pss_at) ?_ ?_
    · refine ⟨_, rfl, rfl, _, rfl, ifd (fun _ => ?_) (fun _ => at_nil ⟨rfl, rfl⟩)⟩
      refine @at_consR _ _ _ _ _ _ _ (fun σ' H' => ∃ lm as, Same H4 H' ∧ σ' = [some (.ref a), some (.ref l), some (.int (ka : Int)), some (.ref lr), some (.int (kw : Int)), some (.int way), none, none, some (.ref lm), none, none, none, none] ∧ H' lm = some (.lst (as.map V.ref)) ∧ All2 (RowH H') as (List.replicate 13 anyR)) (@ps_setC _ 8 _ (defScope s__law_spoiled) _ ["_law_script", "_law_rows_here", "_law_at", "_law_row", "_law_word", "_law_way", "_law_more", "_law_again", "_law_many", "_law_k", "_law_modes", "_law_strange_here", "_law_turned"] _ _ ("_law_k") _ _ _ _ [] _ _ sc__law_spoiled.nd rfl (Or.inl rfl) (by walk_at "ck") (@pi_range1 _ _ _ _ _ _ rfl T.z_range (@pa_cons _ _ _ _ _ pe_int pa_nil (by walk_at "u")) (by walk_at "u")) (fun _ _ _ _ => by exact (@pe_lst _ _ _ _ (@pa_cons _ _ _ _ _ (@pe_tup _ _ _ _ _ (@pa_cons _ _ _ _ _ pe_str (@pa_cons _ _ _ _ _ pe_str pa_nil (by walk_at "u")) (by walk_at "u"))) (@pa_cons _ _ _ _ _ (@pe_tup _ _ _ _ _ (@pa_cons _ _ _ _ _ pe_str (@pa_cons _ _ _ _ _ pe_str pa_nil (by walk_at "u")) (by walk_at "u"))) (@pa_cons _ _ _ _ _ (@pe_tup _ _ _ _ _ (@pa_cons _ _ _ _ _ pe_str (@pa_cons _ _ _ _ _ pe_str pa_nil (by walk_at "u")) (by walk_at "u"))) pa_nil (by walk_at "u")) (by walk_at "u")) (by walk_at "u")))) (by walk_at "u") (by walk_at "u") (by walk_at "u") (by walk_at "u") (by walk_at "u") (by walk_at "u")) ?_ ?_
      · refine ⟨13, rfl, by decide, by decide, comp_range (n := (13 : Int).toNat) (fun j ys H' => Same H4 H' ∧ ∃ as : List Addr, ys = as.map V.ref ∧ All2 (RowH H') as (List.replicate j anyR)) ⟨Same.refl H4, [], rfl, All2.nil⟩ (sl_lt (by decide)) ?_ ?_⟩
        · rintro j ys H5 hj hyl ⟨s5, as, rfl, hA5⟩
          refine ⟨by show 2 ≤ sizeLine; decide, fun xp1 xe1 => ?_⟩
          have xt1 := Same.upd (o := .tup [.str "any", .str ""]) xe1
          have xg1 : upd H5 xp1 (.tup [.str "any", .str ""]) xp1 = some (.tup [.str "any", .str ""]) := upd_same
          generalize upd H5 xp1 (.tup [.str "any", .str ""]) = xG1 at xt1 xg1 ⊢
          refine ⟨by show 2 ≤ sizeLine; decide, fun xp2 xe2 => ?_⟩
          have xt2 := Same.upd (o := .tup [.str "red", .str ""]) xe2
          have xg2 : upd xG1 xp2 (.tup [.str "red", .str ""]) xp2 = some (.tup [.str "red", .str ""]) := upd_same
          generalize upd xG1 xp2 (.tup [.str "red", .str ""]) = xG2 at xt2 xg2 ⊢
          refine ⟨by show 2 ≤ sizeLine; decide, fun xp3 xe3 => ?_⟩
          have xt3 := Same.upd (o := .tup [.str "stay", .str ""]) xe3
          have xg3 : upd xG2 xp3 (.tup [.str "stay", .str ""]) xp3 = some (.tup [.str "stay", .str ""]) := upd_same
          generalize upd xG2 xp3 (.tup [.str "stay", .str ""]) = xG3 at xt3 xg3 ⊢
          refine ⟨by show 3 ≤ sizeLine; decide, fun xl xe4 => ?_⟩
          have xt4 := Same.upd (o := .lst [.ref xp1, .ref xp2, .ref xp3]) xe4
          have xg4 : upd xG3 xl (.lst [.ref xp1, .ref xp2, .ref xp3]) xl = some (.lst [.ref xp1, .ref xp2, .ref xp3]) := upd_same
          generalize upd xG3 xl (.lst [.ref xp1, .ref xp2, .ref xp3]) = xG4 at xt4 xg4 ⊢
          have xR := row3 (w1 := nr "any") (w2 := nr "red") (w3 := nr "stay") (xt4 _ _ (xt3 _ _ (xt2 _ _ xg1))) (xt4 _ _ (xt3 _ _ xg2)) (xt4 _ _ xg3) xg4
          have xu := ((xt1.trans xt2).trans xt3).trans xt4
          refine comp_turn hj hyl ⟨s5.trans xu, as ++ [xl], by rw [List.map_append]; rfl, ?_⟩
          rw [List.replicate_succ']
          exact (rows_same hA5 xu).snoc xR
        · rintro ys H5 hyl ⟨s5, as, rfl, hA5⟩ lm elm
          exact ⟨lm, as, s5.trans (Same.upd elm), rfl, upd_same, rows_same hA5 (Same.upd elm)⟩
      rintro σ' H5 ⟨lm, as, s5, rfl, hm5, hA5⟩
      have hal := hA5.1
      rw [List.length_replicate] at hal
      refine @at_one _ _ _ _ _ _ (@ps_ret _ _ _ _ (@pe_tup _ _ _ _ _ (@pa_cons _ _ _ _ _ (@pe_op _ _ _ _ _ _ _ _ op_cat (@pe_op _ _ _ _ _ _ _ _ op_cat (pv 1) (@pe_lst _ _ _ _ (@pa_cons _ _ _ _ _ (@pe_lst _ _ _ _ (@pa_cons _ _ _ _ _ (@pe_tup _ _ _ _ _ (@pa_cons _ _ _ _ _ pe_str (@pa_cons _ _ _ _ _ pe_str pa_nil (by walk_at "u")) (by walk_at "u"))) (@pa_cons _ _ _ _ _ (@pe_tup _ _ _ _ _ (@pa_cons _ _ _ _ _ pe_str (@pa_cons _ _ _ _ _ pe_str pa_nil (by walk_at "u")) (by walk_at "u"))) (@pa_cons _ _ _ _ _ (@pe_tup _ _ _ _ _ (@pa_cons _ _ _ _ _ pe_str (@pa_cons _ _ _ _ _ pe_str pa_nil (by walk_at "u")) (by walk_at "u"))) pa_nil (by walk_at "u")) (by walk_at "u")) (by walk_at "u"))) pa_nil (by walk_at "u")))) (pv 8)) (@pa_cons _ _ _ _ _ (@pe_op _ _ _ _ _ _ _ _ op_add (@pe_callB _ _ _ _ _ _ _ _ _ call_len_seq (by rfl) T.z_len (by decide +kernel) (@pa_cons _ _ _ _ _ (pv 1) pa_nil (by walk_at "u")) (by walk_at "u") (by walk_at "u") (by walk_at "u") (by walk_at "u")) pe_int) (@pa_cons _ _ _ _ _ pe_int pa_nil (by walk_at "u")) (by walk_at "u")) (by walk_at "u")))) ⟨_, rfl, ?_⟩
      refine ⟨by show 2 ≤ sizeLine; decide, fun xp1 xe1 => ?_⟩
      have xt1 := Same.upd (o := .tup [.str "mode", .str ""]) xe1
      have xg1 : upd H5 xp1 (.tup [.str "mode", .str ""]) xp1 = some (.tup [.str "mode", .str ""]) := upd_same
      generalize upd H5 xp1 (.tup [.str "mode", .str ""]) = xG1 at xt1 xg1 ⊢
      refine ⟨by show 2 ≤ sizeLine; decide, fun xp2 xe2 => ?_⟩
      have xt2 := Same.upd (o := .tup [.str "last", .str ""]) xe2
      have xg2 : upd xG1 xp2 (.tup [.str "last", .str ""]) xp2 = some (.tup [.str "last", .str ""]) := upd_same
      generalize upd xG1 xp2 (.tup [.str "last", .str ""]) = xG2 at xt2 xg2 ⊢
      refine ⟨by show 2 ≤ sizeLine; decide, fun xp3 xe3 => ?_⟩
      have xt3 := Same.upd (o := .tup [.str "blue", .str ""]) xe3
      have xg3 : upd xG2 xp3 (.tup [.str "blue", .str ""]) xp3 = some (.tup [.str "blue", .str ""]) := upd_same
      generalize upd xG2 xp3 (.tup [.str "blue", .str ""]) = xG3 at xt3 xg3 ⊢
      refine ⟨by show 3 ≤ sizeLine; decide, fun xl xe4 => ?_⟩
      have xt4 := Same.upd (o := .lst [.ref xp1, .ref xp2, .ref xp3]) xe4
      have xg4 : upd xG3 xl (.lst [.ref xp1, .ref xp2, .ref xp3]) xl = some (.lst [.ref xp1, .ref xp2, .ref xp3]) := upd_same
      generalize upd xG3 xl (.lst [.ref xp1, .ref xp2, .ref xp3]) = xG4 at xt4 xg4 ⊢
      have xR := row3 (w1 := nr "mode") (w2 := nr "last") (w3 := nr "blue") (xt4 _ _ (xt3 _ _ (xt2 _ _ xg1))) (xt4 _ _ (xt3 _ _ xg2)) (xt4 _ _ xg3) xg4
      have xu := ((xt1.trans xt2).trans xt3).trans xt4
      refine ⟨by show 1 ≤ sizeLine; decide, fun l5 e5 => ?_⟩
      have t5 := Same.upd (o := .lst [.ref xl]) e5
      have g5 : upd xG4 l5 (.lst [.ref xl]) l5 = some (.lst [.ref xl]) := upd_same
      generalize upd xG4 l5 (.lst [.ref xl]) = G5 at t5 g5 ⊢
      refine ⟨l, l5, _, _, rfl, rfl, t5 _ _ (xu _ _ (s5 _ _ hl4)), g5, sl_le (by rw [List.length_map]; show _ + 1 ≤ 1000000; omega), fun l6 e6 => ?_⟩
      have t6 := Same.upd (o := .lst (ls.map V.ref ++ [.ref xl])) e6
      have g6 : upd G5 l6 (.lst (ls.map V.ref ++ [.ref xl])) l6 = some (.lst (ls.map V.ref ++ [.ref xl])) := upd_same
      generalize upd G5 l6 (.lst (ls.map V.ref ++ [.ref xl])) = G6 at t6 g6 ⊢
      refine ⟨_, rfl, l6, lm, _, _, rfl, rfl, g6, t6 _ _ (t5 _ _ (xu _ _ hm5)), sl_le (by rw [List.length_append, List.length_map, List.length_map]; show _ + 1 + _ ≤ 1000000; omega), fun l7 e7 => ?_⟩
      have t7 := Same.upd (o := .lst (ls.map V.ref ++ [.ref xl] ++ as.map V.ref)) e7
      have g7 : upd G6 l7 (.lst (ls.map V.ref ++ [.ref xl] ++ as.map V.ref)) l7 = some (.lst (ls.map V.ref ++ [.ref xl] ++ as.map V.ref)) := upd_same
      generalize upd G6 l7 (.lst (ls.map V.ref ++ [.ref xl] ++ as.map V.ref)) = G7 at t7 g7 ⊢
      have v7 := (t5.trans t6).trans t7
      refine ⟨_, rfl, _, _, rfl, .inl (SqL.of (v7 _ _ (xu _ _ (s5 _ _ hl4)))), _, _, rfl, rfl, by show 3 ≤ sizeLine; decide, fun p e9 => ?_⟩
      have t9 := Same.upd (o := .tup [.ref l7, .int (((ls.map V.ref).length : Int) + 13), .int 0]) e9
      have u9 := (xu.trans v7).trans t9
      refine q p l7 (rowsD ms ++ lastR :: List.replicate 13 anyR) ((rowsD ms).length + 13) 0 _ ?_ ⟨ls ++ xl :: as, ?_, (rows_same hA4 (s5.trans u9)).app (All2.cons (xR.same (v7.trans t9)) (rows_same hA5 u9))⟩ (.inr (.inr (.inr (.inl ⟨rfl, rfl, rfl⟩)))) (s4.trans (s5.trans u9))
      · rw [upd_same, List.length_map, hll]; rfl
      · rw [t9 _ _ g7, List.map_append, List.map_cons, List.append_assoc]; rfl
    rintro σ' H' ⟨rfl, rfl⟩
    refine @at_consR _ _ _ _ _ _ _ (fun σ' H' => σ' = [some (.ref a), some (.ref l), some (.int (ka : Int)), some (.ref lr), some (.int (kw : Int)), some (.int way), none, none, none, none, none, none, none] ∧ H4 = H') (@ps_if _ _ _ _ _ _ _ _ (@pt_cmpR _ _ _ _ _ _ _ _ op_eq (pv 5) pe_int (nomark _)) pss_at pss_at) ?_ ?_
    · refine ⟨_, rfl, rfl, _, rfl, ifd (fun _ => ?_) (fun _ => at_nil ⟨rfl, rfl⟩)⟩
      refine @at_cons _ _ _ _ _ _ _ (@ps_set _ _ 8 _ _ _ _ sc__law_spoiled.nd rfl (Or.inl rfl) (@pe_lst _ _ _ _ pa_nil) (by walk_at "u") (by walk_at "u")) ⟨by show 0 ≤ sizeLine; decide, fun lm elm => ?_⟩
      have t0 := Same.upd (o := .lst []) elm
      have g0 : upd H4 lm (.lst []) lm = some (.lst []) := upd_same
      generalize upd H4 lm (.lst []) = G0 at t0 g0 ⊢
      have hlm0 : H4 lm = none := elm
      refine @at_consR _ _ _ _ _ _ _ (fun σ' H' => ∃ x9 as, σ' = [some (.ref a), some (.ref l), some (.int (ka : Int)), some (.ref lr), some (.int (kw : Int)), some (.int way), none, none, some (.ref lm), x9, none, none, none] ∧ Same H4 H' ∧ H' lm = some (.lst (as.map V.ref)) ∧ All2 (RowH H') as manyM) (@ps_forA _ _ _ _ _ _ _ _ PassesOwn.never rfl (@pi_range1 _ _ _ _ _ _ rfl T.z_range (@pa_cons _ _ _ _ _ pe_int pa_nil (by walk_at "u")) (by walk_at "u")) (@pg_name _ _ 9 _ sc__law_spoiled.nd rfl (Or.inl rfl) (by walk_at "u")) pss_at (by walk_at "u")) ?_ ?_
      · refine ⟨13, rfl, by decide, by decide, forW_range (n := (13 : Int).toNat) (fun i σ' H' => ∃ x9 as, σ' = [some (.ref a), some (.ref l), some (.int (ka : Int)), some (.ref lr), some (.int (kw : Int)), some (.int way), none, none, some (.ref lm), x9, none, none, none] ∧ Same H4 H' ∧ H' lm = some (.lst (as.map V.ref)) ∧ lm ∉ as ∧ All2 (RowH H') as (manyM.take i)) ⟨_, [], rfl, t0, g0, by simp, All2.nil⟩ ?_ ?_⟩
        · rintro i σ' H5 hi ⟨x9, as, rfl, s5, hm5, hnm, hA5⟩
          have hi : i < 13 := hi
          obtain ⟨c, hc⟩ : ∃ c, mCs[i]? = some c := ⟨mCs[i]'(by rw [mCs_len]; omega), List.getElem?_eq_getElem _⟩
          have hal := hA5.1
          rw [List.length_take] at hal
          have ec : atI (Str.ofString "abcdefghijklm").cps.toList (0 + (i : Int)) = some c := by rw [Int.zero_add]; exact atI_nat hc
          refine @at_one _ _ _ _ _ _ (@ps_expr _ _ _ _ (@pe_bm _ _ _ _ _ _ _ _ _ _ _ _ PySem.F.plainAttrs_list PySem.F.slot_list_append PySem.F.type_list_append mt_append (pv 8) (@pa_cons _ _ _ _ _ (@pe_lst _ _ _ _ (@pa_cons _ _ _ _ _ (@pe_tup _ _ _ _ _ (@pa_cons _ _ _ _ _ pe_str (@pa_cons _ _ _ _ _ pe_str pa_nil (by walk_at "u")) (by walk_at "u"))) (@pa_cons _ _ _ _ _ (@pe_tup _ _ _ _ _ (@pa_cons _ _ _ _ _ (@pe_op _ _ _ _ _ _ _ _ op_add_str pe_str (@pe_ix _ _ _ _ _ _ _ ix_str pe_str (pv 9) (fun _ _ => rfl))) (@pa_cons _ _ _ _ _ pe_str pa_nil (by walk_at "u")) (by walk_at "u"))) (@pa_cons _ _ _ _ _ (@pe_tup _ _ _ _ _ (@pa_cons _ _ _ _ _ pe_str (@pa_cons _ _ _ _ _ pe_str pa_nil (by walk_at "u")) (by walk_at "u"))) pa_nil (by walk_at "u")) (by walk_at "u")) (by walk_at "u"))) pa_nil (by walk_at "u")) (by walk_at "u") (by walk_at "u") (by walk_at "u") (by walk_at "u") (by walk_at "u")) (by walk_at "u")) ⟨_, rfl, .inl ⟨rfl, _, SqL.of hm5⟩, by show 2 ≤ sizeLine; decide, fun p1 e1 => ?_⟩
          have t1 := Same.upd (o := .tup [.str "mode", .str ""]) e1
          have g1 : upd H5 p1 (.tup [.str "mode", .str ""]) p1 = some (.tup [.str "mode", .str ""]) := upd_same
          generalize upd H5 p1 (.tup [.str "mode", .str ""]) = G1 at t1 g1 ⊢
          refine ⟨_, rfl, _, _, _, rfl, rfl, sl_le (by decide +kernel), ec, _, _, rfl, rfl, sl_le (by rw [show ("m" : Str).length = 1 from by decide +kernel]; show 1 + 1 ≤ 1000000; decide), by show 2 ≤ sizeLine; decide, fun p2 e2 => ?_⟩
          have t2 := Same.upd (o := .tup [.str (("m" : Str) ++ (⟨#[c]⟩ : Str)), .str ""]) e2
          have g2 : upd G1 p2 (.tup [.str (("m" : Str) ++ (⟨#[c]⟩ : Str)), .str ""]) p2 = some (.tup [.str (("m" : Str) ++ (⟨#[c]⟩ : Str)), .str ""]) := upd_same
          generalize upd G1 p2 (.tup [.str (("m" : Str) ++ (⟨#[c]⟩ : Str)), .str ""]) = G2 at t2 g2 ⊢
          refine ⟨by show 2 ≤ sizeLine; decide, fun p3 e3 => ?_⟩
          have t3 := Same.upd (o := .tup [.str "blue", .str ""]) e3
          have g3 : upd G2 p3 (.tup [.str "blue", .str ""]) p3 = some (.tup [.str "blue", .str ""]) := upd_same
          generalize upd G2 p3 (.tup [.str "blue", .str ""]) = G3 at t3 g3 ⊢
          refine ⟨by show 3 ≤ sizeLine; decide, fun l4 e4 => ?_⟩
          have t4 := Same.upd (o := .lst [.ref p1, .ref p2, .ref p3]) e4
          have g4 : upd G3 l4 (.lst [.ref p1, .ref p2, .ref p3]) l4 = some (.lst [.ref p1, .ref p2, .ref p3]) := upd_same
          generalize upd G3 l4 (.lst [.ref p1, .ref p2, .ref p3]) = G4 at t4 g4 ⊢
          have u4 := ((t1.trans t2).trans t3).trans t4
          have hR : RowH G4 l4 (mRow c) := row3 (w1 := nr "mode") (w2 := nr (mName c)) (w3 := nr "blue") (t4 _ _ (t3 _ _ (t2 _ _ g1))) (t4 _ _ (t3 _ _ g2)) (t4 _ _ g3) g4
          have hnl : l4 ≠ lm := Ne.symm (ne_of_none (t3 _ _ (t2 _ _ (t1 _ _ hm5))) e4)
          have hmi : manyM[i]? = some (mRow c) := by rw [manyM, List.getElem?_map, hc]; rfl
          refine ⟨lm, _, _, rfl, rfl, u4 _ _ hm5, sl_lt (by rw [List.length_map]; omega), ?_⟩
          refine ⟨_, as ++ [l4], rfl, Same.up (s5.trans u4) hlm0, by rw [upd_same, List.map_append]; rfl, ?_, ?_⟩
          · intro z
            rcases List.mem_append.mp z with z | z
            · exact hnm z
            · exact hnl (List.mem_singleton.mp z).symm
          · rw [take_snoc hmi]
            refine All2.snoc ⟨hA5.1, fun k x y h1 h2 => ((hA5.2 k x y h1 h2).same u4).updL (u4 _ _ hm5) (fun z => hnm (z ▸ List.mem_of_getElem? h1))⟩ (hR.updL (u4 _ _ hm5) hnl)
        · rintro σ' H5 ⟨x9, as, rfl, s5, hm5, hnm, hA5⟩
          refine ⟨x9, as, rfl, s5, hm5, ?_⟩
          rw [List.take_of_length_le (by rw [manyM, List.length_map, mCs_len]; decide)] at hA5
          exact hA5
      rintro σ' H5 ⟨x9, as, rfl, s5, hm5, hA5⟩
      have hal := hA5.1
      rw [manyM, List.length_map, mCs_len] at hal
      refine @at_consR _ _ _ _ _ _ _ (fun σ' H' => σ' = [some (.ref a), some (.ref l), some (.int (ka : Int)), some (.ref lr), some (.int (kw : Int)), some (.int way), none, none, some (.ref lm), x9, some (.int (ms.length : Int)), none, none] ∧ Same H5 H') (@ps_set _ _ 10 _ _ _ _ sc__law_spoiled.nd rfl (Or.inl rfl) (@pe_callB _ _ _ _ _ _ _ _ _ call_len_seq (by rfl) T.z_len (by decide +kernel) (@pa_cons _ _ _ _ _ (@pe_compIf _ (defScope s__law_spoiled) _ ["_law_script", "_law_rows_here", "_law_at", "_law_row", "_law_word", "_law_way", "_law_more", "_law_again", "_law_many", "_law_k", "_law_modes", "_law_strange_here", "_law_turned"] _ _ _ ("_law_one") _ _ [] _ _ _ (by walk_at "ck") (@pi_list _ _ _ _ (pv 1)) (fun _ _ _ _ => by exact (@pt_cmpR _ _ _ _ _ _ _ _ op_eq (@pe_ix _ _ _ _ _ _ _ (ix_tupK (K := K) rfl) (@pe_ix _ _ _ _ _ _ _ (ix_listK (K := K) rfl) (pv 0) pe_int (fun _ _ => rfl)) pe_int (fun _ _ => rfl)) pe_str (nomark _))) (fun _ _ _ _ => by exact (pv 0)) (by walk_at "u") (by walk_at "u") (by walk_at "u") (by walk_at "u")) pa_nil (by walk_at "u")) (by walk_at "u") (by walk_at "u") (by walk_at "u") (by walk_at "u")) (by walk_at "u") (by walk_at "u")) ?_ ?_
      · refine ⟨_, rfl, l, rfl, ⟨_, SqL.of (s5 _ _ hl4)⟩, compIf_list (xs := ls.map V.ref) (fun i ys H' => H' = H5 ∧ ys.length = ((rowsD ms).take i).countP isM) ⟨rfl, rfl⟩ (sl_lt (by rw [List.length_map]; omega)) ?_ ?_ ?_⟩
        · rintro i ys H' _ ⟨rfl, _⟩
          exact SqL.of (s5 _ _ hl4)
        · rintro i xv ys H6 hx hyl ⟨rfl, hyc⟩
          rw [List.getElem?_map] at hx
          obtain ⟨b, hb, rfl⟩ := Option.map_eq_some_iff.mp hx
          have hi : i < ls.length := (List.getElem?_eq_some_iff.mp hb).1
          obtain ⟨r2, hr2⟩ : ∃ x, (rowsD ms)[i]? = some x := ⟨(rowsD ms)[i]'(by omega), List.getElem?_eq_getElem _⟩
          obtain ⟨ps2, hp2, hB2⟩ := (hA4.2 i b r2 hb hr2).same s5
          have hrl := (hrw r2 (List.mem_of_getElem? hr2)).2.1
          have hpl2 := hB2.1
          obtain ⟨z, hz⟩ : ∃ x, r2[0]? = some x := ⟨r2[0]'(by omega), List.getElem?_eq_getElem _⟩
          obtain ⟨pz, hpz, hwz⟩ := hB2.at hz
          have hwz : H6 pz = some (.tup [.str z.1, .str z.2]) := hwz
          have hM : isM r2 = decide (z.2 = "mode") := by
            unfold isM
            rw [List.getElem?_map, hz]
            by_cases e : z.2 = "mode"
            · simp [e]
            · simp [e]
          have ht : ((rowsD ms).take (i + 1)).countP isM = ((rowsD ms).take i).countP isM + (if isM r2 = true then 1 else 0) := by
            rw [take_snoc hr2, List.countP_append, List.countP_cons, List.countP_nil]; omega
          refine ⟨_, rfl, _, _, _, _, rfl, rfl, SqL.of hp2, atI_nat (j := 0) (by rw [List.getElem?_map, hpz]; rfl), _, _, _, _, rfl, rfl, SqT.of hwz, atI_nat (j := 1) rfl, rfl, _, rfl, ifd (fun h => ?_) (fun h => ?_)⟩
          · have h : z.2 = "mode" := V.str.inj h
            refine ⟨_, rfl, ?_⟩
            refine compIf_turn (by rw [List.length_map]; exact hi) (by rw [List.length_append]; show _ + 1 ≤ _; omega) ⟨rfl, ?_⟩
            rw [ht, hM, if_pos (decide_eq_true h), List.length_append, hyc]; rfl
          · have h : z.2 ≠ "mode" := fun e => h (by rw [e])
            refine compIf_turn (by rw [List.length_map]; exact hi) (by omega) ⟨rfl, ?_⟩
            rw [ht, hM, if_neg (by simp [h]), hyc]; rfl
        · rintro ys H6 hyl ⟨rfl, hyc⟩ D2 eD
          have hys : ys.length = ms.length := by
            rw [hyc, List.take_of_length_le (by rw [List.length_map]; omega), filt_ms ms D.ok]
          refine ⟨_, _, rfl, .inl (SqL.of upd_same), ?_, Same.upd eD⟩
          rw [hys]; rfl
      rintro σ' H6 ⟨rfl, s6⟩
      have u6 := s5.trans s6
      refine @at_one _ _ _ _ _ _ (@ps_ret _ _ _ _ (@pe_tup _ _ _ _ _ (@pa_cons _ _ _ _ _ (@pe_op _ _ _ _ _ _ _ _ op_cat (pv 1) (pv 8)) (@pa_cons _ _ _ _ _ (@pe_op _ _ _ _ _ _ _ _ op_sub (@pe_op _ _ _ _ _ _ _ _ op_add (@pe_callB _ _ _ _ _ _ _ _ _ call_len_seq (by rfl) T.z_len (by decide +kernel) (@pa_cons _ _ _ _ _ (pv 1) pa_nil (by walk_at "u")) (by walk_at "u") (by walk_at "u") (by walk_at "u") (by walk_at "u")) pe_int) (pv 10)) (@pa_cons _ _ _ _ _ pe_int pa_nil (by walk_at "u")) (by walk_at "u")) (by walk_at "u")))) ⟨_, rfl, _, rfl, l, lm, _, _, rfl, rfl, u6 _ _ hl4, s6 _ _ hm5, sl_le (by rw [List.length_map, List.length_map]; omega), fun l7 e7 => ?_⟩
      have t7 := Same.upd (o := .lst (ls.map V.ref ++ as.map V.ref)) e7
      have g7 : upd H6 l7 (.lst (ls.map V.ref ++ as.map V.ref)) l7 = some (.lst (ls.map V.ref ++ as.map V.ref)) := upd_same
      generalize upd H6 l7 (.lst (ls.map V.ref ++ as.map V.ref)) = G7 at t7 g7 ⊢
      refine ⟨_, rfl, _, _, rfl, .inl (SqL.of (t7 _ _ (u6 _ _ hl4))), _, _, rfl, rfl, _, rfl, _, _, rfl, rfl, by show 3 ≤ sizeLine; decide, fun p e9 => ?_⟩
      have t9 := Same.upd (o := .tup [.ref l7, .int (((ls.map V.ref).length : Int) + 12 - (ms.length : Int)), .int 0]) e9
      have v9 := (s6.trans t7).trans t9
      refine q p l7 (rowsD ms ++ manyM) ((rowsD ms).length + (12 - ms.length)) 0 _ ?_ ⟨ls ++ as, ?_, (rows_same hA4 (s5.trans v9)).app (rows_same hA5 v9)⟩ (.inr (.inr (.inr (.inr ⟨rfl, rfl, rfl⟩)))) (s4.trans (s5.trans v9))
      · rw [upd_same, List.length_map, hll]
        have h1 := D.len
        have h2 := D.nm.len
        show some (HO.tup [V.ref l7, V.int (((rowsD ms).length : Int) + 12 - (ms.length : Int)), V.int 0]) = _
        rw [show (((rowsD ms).length : Int) + 12 - (ms.length : Int)) = (((rowsD ms).length + (12 - ms.length) : Nat) : Int) by omega]; rfl
      · rw [t9 _ _ g7, List.map_append]
    rintro σ' H' ⟨rfl, rfl⟩
    obtain ⟨pq, hpq⟩ : ∃ x, ps[kw]? = some x := ⟨ps[kw], List.getElem?_eq_getElem hkw⟩
    obtain ⟨y, hy⟩ : ∃ x, r[kw]? = some x := ⟨r[kw]'(by omega), List.getElem?_eq_getElem _⟩
    have hq : H4 pq = some (.tup [.str y.1, .str y.2]) := hB4.2 kw pq y hpq hy
    refine @at_cons _ _ _ _ _ _ _ (@ps_set _ _ 11 _ _ _ _ sc__law_spoiled.nd rfl (Or.inl rfl) (@pe_tup _ _ _ _ _ (@pa_cons _ _ _ _ _ (@pe_call _ _ _ _ _ _ _ _ _ _ _ _ _ _ _ _ (ok__law_strange T) (hr.mono (by decide)) rfl T.mg__law_strange T.F__law_strange.kp (bd__law_strange T) .nil pass0 (@pa_cons _ _ _ _ _ (pv 0) (@pa_cons _ _ _ _ _ pe_int (@pa_cons _ _ _ _ _ (@pe_ix _ _ _ _ _ _ _ ix_tup (@pe_ix _ _ _ _ _ _ _ ix_list (pv 3) (pv 4) (fun _ _ => rfl)) pe_int (fun _ _ => rfl)) pa_nil (by walk_at "u")) (by walk_at "u")) (by walk_at "u")) (by walk_at "u") (by walk_at "u") (by walk_at "u")) (@pa_cons _ _ _ _ _ pe_str pa_nil (by walk_at "u")) (by walk_at "u"))) (by walk_at "u") (by walk_at "u")) ⟨_, rfl, _, rfl, _, rfl, _, _, _, _, rfl, rfl, SqL.of hp4, atI_nat (j := kw) (by rw [List.getElem?_map, hpq]; rfl), _, _, _, _, rfl, rfl, SqT.of hq, atI_nat (j := 1) rfl, a, ns, 34, y.2, rfl, hS4, by decide, by decide, hns, fun x G0 hx t0 => ⟨by show 2 ≤ sizeLine; decide, fun p1 e1 => ?_⟩⟩
    have t1 := Same.upd (o := .tup [.str x, .str ""]) e1
    have g1 : upd G0 p1 (.tup [.str x, .str ""]) p1 = some (.tup [.str x, .str ""]) := upd_same
    generalize upd G0 p1 (.tup [.str x, .str ""]) = G1 at t1 g1 ⊢
    have u1 := t0.trans t1
    have c4 : cutV (ps.map V.ref) none (some (kw : Int)) = (ps.take kw).map V.ref := by rw [cut_to (by rw [List.length_map]; omega), List.map_take]
    have c5 : cutV (ps.map V.ref) (some ((kw : Int) + 1)) none = (ps.drop (kw + 1)).map V.ref := by
      rw [show ((kw : Int) + 1) = ((kw + 1 : Nat) : Int) by omega, cut_from (by rw [List.length_map]; omega), List.map_drop]
    refine @at_cons _ _ _ _ _ _ _ (@ps_set _ _ 12 _ _ _ _ sc__law_spoiled.nd rfl (Or.inl rfl) (@pe_op _ _ _ _ _ _ _ _ op_cat (@pe_op _ _ _ _ _ _ _ _ op_cat (@pe_slice _ _ _ _ _ _ _ _ _ _ sl_list (pv 3) po_none (@po_some _ _ _ (pv 4))) (@pe_lst _ _ _ _ (@pa_cons _ _ _ _ _ (pv 11) pa_nil (by walk_at "u")))) (@pe_slice _ _ _ _ _ _ _ _ _ _ sl_list (pv 3) (@po_some _ _ _ (@pe_op _ _ _ _ _ _ _ _ op_add (pv 4) pe_int)) po_none)) (by walk_at "u") (by walk_at "u")) ⟨_, rfl, _, rfl, (kw : Int), rfl, lr, _, rfl, SqL.of (u1 _ _ hp4), fun l2 e2 => ?_⟩
    rw [c4]
    have t2 := Same.upd (o := .lst ((ps.take kw).map V.ref)) e2
    have g2 : upd G1 l2 (.lst ((ps.take kw).map V.ref)) l2 = some (.lst ((ps.take kw).map V.ref)) := upd_same
    generalize upd G1 l2 (.lst ((ps.take kw).map V.ref)) = G2 at t2 g2 ⊢
    refine ⟨_, rfl, by show 1 ≤ sizeLine; decide, fun l3 e3 => ?_⟩
    have t3 := Same.upd (o := .lst [.ref p1]) e3
    have g3 : upd G2 l3 (.lst [.ref p1]) l3 = some (.lst [.ref p1]) := upd_same
    generalize upd G2 l3 (.lst [.ref p1]) = G3 at t3 g3 ⊢
    refine ⟨l2, l3, _, _, rfl, rfl, t3 _ _ g2, g3, sl_le (by rw [List.length_map, List.length_take]; show _ + 1 ≤ 1000000; omega), fun l4 e4 => ?_⟩
    have t4 := Same.upd (o := .lst ((ps.take kw).map V.ref ++ [.ref p1])) e4
    have g4 : upd G3 l4 (.lst ((ps.take kw).map V.ref ++ [.ref p1])) l4 = some (.lst ((ps.take kw).map V.ref ++ [.ref p1])) := upd_same
    generalize upd G3 l4 (.lst ((ps.take kw).map V.ref ++ [.ref p1])) = G4 at t4 g4 ⊢
    have u4 := ((u1.trans t2).trans t3).trans t4
    refine ⟨_, rfl, _, rfl, _, _, rfl, rfl, (kw : Int) + 1, rfl, lr, _, rfl, SqL.of (u4 _ _ hp4), fun l5 e5 => ?_⟩
    rw [c5]
    have t5 := Same.upd (o := .lst ((ps.drop (kw + 1)).map V.ref)) e5
    have g5 : upd G4 l5 (.lst ((ps.drop (kw + 1)).map V.ref)) l5 = some (.lst ((ps.drop (kw + 1)).map V.ref)) := upd_same
    generalize upd G4 l5 (.lst ((ps.drop (kw + 1)).map V.ref)) = G5 at t5 g5 ⊢
    refine ⟨l4, l5, _, _, rfl, rfl, t5 _ _ g4, g5, sl_le (by rw [List.length_append, List.length_map, List.length_map, List.length_take, List.length_drop]; show _ + 1 + _ ≤ 1000000; omega), fun l6 e6 => ?_⟩
    have t6 := Same.upd (o := .lst ((ps.take kw).map V.ref ++ [.ref p1] ++ (ps.drop (kw + 1)).map V.ref)) e6
    have g6 : upd G5 l6 (.lst ((ps.take kw).map V.ref ++ [.ref p1] ++ (ps.drop (kw + 1)).map V.ref)) l6 = some (.lst ((ps.take kw).map V.ref ++ [.ref p1] ++ (ps.drop (kw + 1)).map V.ref)) := upd_same
    generalize upd G5 l6 (.lst ((ps.take kw).map V.ref ++ [.ref p1] ++ (ps.drop (kw + 1)).map V.ref)) = G6 at t6 g6 ⊢
    have u6 := (u4.trans t5).trans t6
    have hR6 : RowH G6 l6 (r.take kw ++ nr x :: r.drop (kw + 1)) := ⟨ps.take kw ++ p1 :: ps.drop (kw + 1), by rw [g6, List.map_append, List.map_cons, List.append_assoc]; rfl, ((hB4.mono fun _ _ z => u6 _ _ z).take kw).app (All2.cons (t6 _ _ (t5 _ _ (t4 _ _ (t3 _ _ (t2 _ _ g1))))) ((hB4.mono fun _ _ z => u6 _ _ z).drop (kw + 1)))⟩
    refine @at_one _ _ _ _ _ _ (@ps_ret _ _ _ _ (@pe_tup _ _ _ _ _ (@pa_cons _ _ _ _ _ (@pe_op _ _ _ _ _ _ _ _ op_cat (@pe_op _ _ _ _ _ _ _ _ op_cat (@pe_slice _ _ _ _ _ _ _ _ _ _ sl_list (pv 1) po_none (@po_some _ _ _ (pv 2))) (@pe_lst _ _ _ _ (@pa_cons _ _ _ _ _ (pv 12) pa_nil (by walk_at "u")))) (@pe_slice _ _ _ _ _ _ _ _ _ _ sl_list (pv 1) (@po_some _ _ _ (@pe_op _ _ _ _ _ _ _ _ op_add (pv 2) pe_int)) po_none)) (@pa_cons _ _ _ _ _ (pv 2) (@pa_cons _ _ _ _ _ (pv 4) pa_nil (by walk_at "u")) (by walk_at "u")) (by walk_at "u")))) ⟨_, rfl, _, rfl, (ka : Int), rfl, l, _, rfl, SqL.of (u6 _ _ hl4), fun l7 e7 => ?_⟩
    rw [c1]
    have t7 := Same.upd (o := .lst ((ls.take ka).map V.ref)) e7
    have g7 : upd G6 l7 (.lst ((ls.take ka).map V.ref)) l7 = some (.lst ((ls.take ka).map V.ref)) := upd_same
    generalize upd G6 l7 (.lst ((ls.take ka).map V.ref)) = G7 at t7 g7 ⊢
    refine ⟨_, rfl, by show 1 ≤ sizeLine; decide, fun l8 e8 => ?_⟩
    have t8 := Same.upd (o := .lst [.ref l6]) e8
    have g8 : upd G7 l8 (.lst [.ref l6]) l8 = some (.lst [.ref l6]) := upd_same
    generalize upd G7 l8 (.lst [.ref l6]) = G8 at t8 g8 ⊢
    refine ⟨l7, l8, _, _, rfl, rfl, t8 _ _ g7, g8, sl_le (by rw [List.length_map, List.length_take]; show _ + 1 ≤ 1000000; omega), fun l9 e9 => ?_⟩
    have t9 := Same.upd (o := .lst ((ls.take ka).map V.ref ++ [.ref l6])) e9
    have g9 : upd G8 l9 (.lst ((ls.take ka).map V.ref ++ [.ref l6])) l9 = some (.lst ((ls.take ka).map V.ref ++ [.ref l6])) := upd_same
    generalize upd G8 l9 (.lst ((ls.take ka).map V.ref ++ [.ref l6])) = G9 at t9 g9 ⊢
    have v9 := (t7.trans t8).trans t9
    refine ⟨_, rfl, _, rfl, _, _, rfl, rfl, (ka : Int) + 1, rfl, l, _, rfl, SqL.of (v9 _ _ (u6 _ _ hl4)), fun l10 e10 => ?_⟩
    rw [c2]
    have t10 := Same.upd (o := .lst ((ls.drop (ka + 1)).map V.ref)) e10
    have g10 : upd G9 l10 (.lst ((ls.drop (ka + 1)).map V.ref)) l10 = some (.lst ((ls.drop (ka + 1)).map V.ref)) := upd_same
    generalize upd G9 l10 (.lst ((ls.drop (ka + 1)).map V.ref)) = G10 at t10 g10 ⊢
    refine ⟨l9, l10, _, _, rfl, rfl, t10 _ _ g9, g10, sl_le (by rw [List.length_append, List.length_map, List.length_map, List.length_take, List.length_drop]; show _ + 1 + _ ≤ 1000000; omega), fun l11 e11 => ?_⟩
    have t11 := Same.upd (o := .lst ((ls.take ka).map V.ref ++ [.ref l6] ++ (ls.drop (ka + 1)).map V.ref)) e11
    have g11 : upd G10 l11 (.lst ((ls.take ka).map V.ref ++ [.ref l6] ++ (ls.drop (ka + 1)).map V.ref)) l11 = some (.lst ((ls.take ka).map V.ref ++ [.ref l6] ++ (ls.drop (ka + 1)).map V.ref)) := upd_same
    generalize upd G10 l11 (.lst ((ls.take ka).map V.ref ++ [.ref l6] ++ (ls.drop (ka + 1)).map V.ref)) = G11 at t11 g11 ⊢
    refine ⟨_, rfl, _, rfl, by show 3 ≤ sizeLine; decide, fun p e12 => ?_⟩
    have t12 := Same.upd (o := .tup [.ref l11, .int (ka : Int), .int (kw : Int)]) e12
    have v12 := ((v9.trans t10).trans t11).trans t12
    have er : r = r.take kw ++ (y.1, y.2) :: r.drop (kw + 1) := by
      obtain ⟨hi, e⟩ := List.getElem?_eq_some_iff.mp hy
      have e : r[kw] = (y.1, y.2) := e
      rw [← e, ← List.drop_eq_getElem_cons hi, List.take_append_drop]
    refine q p l11 ((rowsD ms).take ka ++ (r.take kw ++ nr x :: r.drop (kw + 1)) :: (rowsD ms).drop (ka + 1)) ka kw _ upd_same ⟨ls.take ka ++ l6 :: ls.drop (ka + 1), by rw [t12 _ _ g11, List.map_append, List.map_cons, List.append_assoc]; rfl, ((rows_same hA4 (u6.trans v12)).take ka).app (All2.cons (hR6.same v12) ((rows_same hA4 (u6.trans v12)).drop (ka + 1)))⟩ (.inl ⟨_, r, _, hcut, hkl.symm, .inr (.inr (.inr ⟨_, y.1, y.2, _, x, er, hx, rfl, by rw [List.length_take]; omega⟩))⟩) (s4.trans (u6.trans v12))
end
section
variable {P : Program} {w : World} {K : PySem.W.Frag} {mg : Str → Option Value} {base : Heap} {t : Adr}
theorem ixN_nat {n j : Nat} (h : j < n) : ixN n (j : Int) = some j := by
  unfold ixN
  rw [if_pos (by omega), if_pos (by omega)]; simp
def GH (H : Hp) (p : Addr) (g : Nat × Nat) : Prop := H p = some (.tup [.int g.1, .int g.2])
theorem goals_same {H H' : Hp} {ps : List Addr} {gs : List (Nat × Nat)} (h : All2 (GH H) ps gs) (s : Same H H') : All2 (GH H') ps gs := h.mono fun _ _ z => s _ _ z
theorem goals_upd {H : Hp} {ps : List Addr} {gs : List (Nat × Nat)} {l : Addr} {xs : List V} {o : HO} (h : All2 (GH H) ps gs) (hl : H l = some (.lst xs)) : All2 (GH (upd H l o)) ps gs := h.mono fun p _ z => by
  show upd H l o p = _
  rw [upd_ne (ne_of z hl (by intro z; cases z))]; exact z
theorem gls_take {kn : Str → Bool} {k i : Nat} {r : List Wd} {w : Wd} (h : r[i]? = some w) : gls kn k 0 (r.take (i + 1)) = gls kn k 0 (r.take i) ++ (if w.2 = "goal" ∧ kn w.1 = false then [(k, i)] else []) := by
  have hi := (List.getElem?_eq_some_iff.mp h).1
  rw [take_snoc h, gls_app, List.length_take, Nat.min_eq_left (by omega), Nat.zero_add]
  congr 1
  rw [gls, gls, List.append_nil]
theorem glsT_take {kn : Str → Bool} {k : Nat} {rs : List (List Wd)} {r : List Wd} (h : rs[k]? = some r) : glsT kn 0 (rs.take (k + 1)) = glsT kn 0 (rs.take k) ++ gls kn k 0 r := by
  have hi := (List.getElem?_eq_some_iff.mp h).1
  rw [take_snoc h, glsT_app, List.length_take, Nat.min_eq_left (by omega), Nat.zero_add]
  congr 1
  rw [glsT, glsT, List.append_nil]
theorem turnR_get {mk : Nat × Nat → Bool} {i : Nat} : ∀ (r : List Wd) (j k : Nat), (turnR mk i j r)[k]? = r[k]?.map (fun w : Wd => if w.2 = ("goal" : Str) ∧ mk (i, j + k) = true then noW else w)
  | [], j, k => by simp [turnR]
  | w :: r, j, 0 => by simp [turnR]
  | w :: r, j, k + 1 => by
    rw [turnR, List.getElem?_cons_succ, List.getElem?_cons_succ, turnR_get r (j + 1) k, show j + 1 + k = j + (k + 1) by omega]
theorem turnT_get {mk : Nat × Nat → Bool} : ∀ (rs : List (List Wd)) (i k : Nat), (turnT mk i rs)[k]? = rs[k]?.map (turnR mk (i + k) 0)
  | [], i, k => by simp [turnT]
  | w :: r, i, 0 => by simp [turnT]
  | w :: r, i, k + 1 => by
    rw [turnT, List.getElem?_cons_succ, List.getElem?_cons_succ, turnT_get r (i + 1) k, show i + 1 + k = i + (k + 1) by omega]
theorem turnR_ff {i : Nat} : ∀ (r : List Wd) (j : Nat), turnR (fun _ => false) i j r = r
  | [], _ => rfl
  | w :: r, j => by rw [turnR, if_neg (fun z => by cases z.2), turnR_ff r (j + 1)]
theorem turnT_ff : ∀ (rs : List (List Wd)) (i : Nat), turnT (fun _ => false) i rs = rs
  | [], _ => rfl
  | r :: rs, i => by rw [turnT, turnR_ff, turnT_ff rs (i + 1)]
theorem nodup_at {as : List Addr} (h : as.Nodup) {i j : Nat} {a : Addr} (h1 : as[i]? = some a) (h2 : as[j]? = some a) : i = j := by
  obtain ⟨x1, y1⟩ := List.getElem?_eq_some_iff.mp h1
  obtain ⟨x2, y2⟩ := List.getElem?_eq_some_iff.mp h2
  exact (List.getElem_inj h).mp (y1.trans y2.symm)
/-- one goal more is turned -/
theorem turn_set {H : Hp} {as qs : List Addr} {rs : List (List Wd)} {mk : Nat × Nat → Bool} {k i : Nat} {ak pn : Addr} {r : List Wd} {w : Wd} (hA : All2 (RowH H) as (turnT mk 0 rs)) (hN : as.Nodup) (h1 : as[k]? = some ak) (h2 : rs[k]? = some r) (h3 : r[i]? = some w) (h4 : w.2 = "goal") (h5 : H ak = some (.lst (qs.map V.ref))) (h6 : All2 (WdH H) qs (turnR mk k 0 r)) (h7 : H pn = some (wT noW)) :
    All2 (RowH (upd H ak (.lst ((qs.map V.ref).set i (.ref pn))))) as (turnT (fun q => mk q || decide (q = (k, i))) 0 rs) := by
  have kp : ∀ {p : Addr} {x : Wd}, WdH H p x → WdH (upd H ak (.lst ((qs.map V.ref).set i (.ref pn)))) p x := fun {p x} z => by
    show upd H ak _ p = _
    rw [upd_ne (ne_of z h5 (by intro z; cases z))]; exact z
  refine ⟨by rw [hA.1, turnT_len, turnT_len], fun k' a r' ha hr => ?_⟩
  rw [turnT_get, Nat.zero_add] at hr
  obtain ⟨r0, hr0, rfl⟩ := Option.map_eq_some_iff.mp hr
  by_cases hk : k' = k
  · subst hk
    rw [h1] at ha
    cases ha
    rw [h2] at hr0
    cases hr0
    refine ⟨qs.set i pn, by rw [upd_same, List.map_set], ?_⟩
    refine ⟨by rw [List.length_set, h6.1, turnR_len, turnR_len], fun j p x hp hx => ?_⟩
    rw [turnR_get, Nat.zero_add] at hx
    obtain ⟨x0, hx0, rfl⟩ := Option.map_eq_some_iff.mp hx
    have hj := (List.getElem?_eq_some_iff.mp hx0).1
    by_cases hji : j = i
    · subst hji
      rw [h3] at hx0
      cases hx0
      have hjl : j < qs.length := by rw [h6.1, turnR_len]; exact hj
      rw [List.getElem?_set_self hjl] at hp
      cases hp
      rw [if_pos ⟨h4, by simp⟩]
      exact kp h7
    · rw [List.getElem?_set_ne (Ne.symm hji)] at hp
      have : (mk (k', j) || decide ((k', j) = (k', i))) = mk (k', j) := by
        rw [decide_eq_false (fun z => hji (congrArg Prod.snd z)), Bool.or_false]
      rw [this]
      exact kp (h6.2 j p _ hp (by rw [turnR_get, Nat.zero_add, hx0]; rfl))
  · have e : turnR (fun q => mk q || decide (q = (k, i))) k' 0 r0 = turnR mk k' 0 r0 := by
      refine List.ext_getElem? fun j => ?_
      rw [turnR_get, turnR_get]
      have : (mk (k', 0 + j) || decide ((k', 0 + j) = (k, i))) = mk (k', 0 + j) := by
        rw [decide_eq_false (fun z => hk (congrArg Prod.fst z)), Bool.or_false]
      rw [this]
    rw [e]
    refine RowH.updL (hA.2 k' a _ ha (by rw [turnT_get, Nat.zero_add, hr0]; rfl)) h5 (fun z => hk ?_)
    subst z
    exact nodup_at hN ha h1
def spNow (K : PySem.W.Frag) : Sp := fun vs H Q _ => ∃ (a l : Addr) (ns : List Int) (names : List Str) (ms : List ModeD), vs = [.ref a, .ref l] ∧ SqL K H a (ns.map V.int) ∧ ns.length ≤ 63 ∧ RowsH H l (rowsD ms) ∧ DrawnOk names ms ∧ ∀ H', Same H H' → Q (.bl true) H'
theorem ok__law_nowhere (T : Txt K mg t) : FnOk P w K mg base CX0 10 t.f__law_nowhere t.d__law_nowhere ["_law_script", "_law_rows_here"] (spNow K) := by
  refine T.F__law_nowhere.ok sc__law_nowhere (fun vs H Q E h => ?_) (fun cdv A outer s H vs Q E hr h => at_body ?_)
  · obtain ⟨a, l, ns, names, ms, rfl, _⟩ := h
    rfl
  · obtain ⟨a, l, ns, names, ms, rfl, hS, hns, hR, D, q⟩ := h
    obtain ⟨ls, hl, hA⟩ := hR
    obtain ⟨hn1, hn2⟩ := rowsD_pos D
    have hrw := rows_rw D.nm.good.2.1 D.all
    have hll := hA.1
    refine @at_cons _ _ _ _ _ _ _ (@ps_set _ _ 2 _ _ _ _ sc__law_nowhere.nd rfl (Or.inl rfl) (@pe_lst _ _ _ _ pa_nil) (by walk_at "u") (by walk_at "u")) ⟨by show 0 ≤ sizeLine; decide, fun lg elg => ?_⟩
    have t0 := Same.upd (o := .lst []) elg
    have g0 : upd H lg (.lst []) lg = some (.lst []) := upd_same
    generalize upd H lg (.lst []) = G0 at t0 g0 ⊢
    show At _ _ _ [some (.ref a), some (.ref l), some (.ref lg), none, none, none, none] G0
    refine @at_consR _ _ _ _ _ _ _ (fun σ' H' => ∃ x3 x4 ps, σ' = [some (.ref a), some (.ref l), some (.ref lg), x3, x4, none, none] ∧ H' lg = some (.lst (ps.map V.ref)) ∧ All2 (GH H') ps (glsT allG 0 (rowsD ms)) ∧ ps.length ≤ 120 ∧ Same H H') (@ps_forA _ _ _ _ _ _ _ _ PassesOwn.never rfl (@pi_range1 _ _ _ _ _ _ rfl T.z_range (@pa_cons _ _ _ _ _ (@pe_callB _ _ _ _ _ _ _ _ _ call_len_seq (by rfl) T.z_len (by decide +kernel) (@pa_cons _ _ _ _ _ (pv 1) pa_nil (by walk_at "u")) (by walk_at "u") (by walk_at "u") (by walk_at "u") (by walk_at "u")) pa_nil (by walk_at "u")) (by walk_at "u")) (@pg_name _ _ 3 _ sc__law_nowhere.nd rfl (Or.inl rfl) (by walk_at "u")) pss_at (by walk_at "u")) ?_ ?_
    · refine ⟨_, rfl, _, _, rfl, .inl (SqL.of (t0 _ _ hl)), _, rfl, by rw [List.length_map]; omega, by rw [List.length_map]; omega, forW_range (n := ((ls.map V.ref).length : Int).toNat) (fun k σ' H' => ∃ x3 x4 ps, σ' = [some (.ref a), some (.ref l), some (.ref lg), x3, x4, none, none] ∧ H' lg = some (.lst (ps.map V.ref)) ∧ All2 (GH H') ps (glsT allG 0 ((rowsD ms).take k)) ∧ ps.length ≤ 6 * k ∧ Same H H') ⟨_, _, [], rfl, g0, All2.nil, by decide, t0⟩ ?_ ?_⟩
      · rintro k σ' H1 hk ⟨x3, x4, ps, rfl, hg, hG, hpl, s1⟩
        have hk : k < ls.length := by rw [List.length_map] at hk; omega
        obtain ⟨lr, hlr⟩ : ∃ x, ls[k]? = some x := ⟨ls[k], List.getElem?_eq_getElem hk⟩
        obtain ⟨r, hr0⟩ : ∃ x, (rowsD ms)[k]? = some x := ⟨(rowsD ms)[k]'(by omega), List.getElem?_eq_getElem _⟩
        obtain ⟨qs, hq, hB⟩ := hA.2 k lr r hlr hr0
        have hql := hB.1
        have hrl := (hrw r (List.mem_of_getElem? hr0)).2.2
        have ek : atI (ls.map V.ref) (0 + (k : Int)) = some (.ref lr) := by rw [Int.zero_add]; exact atI_nat (by rw [List.getElem?_map, hlr]; rfl)
        refine @at_one _ _ _ _ _ _ (@ps_forA _ _ _ _ _ _ _ _ PassesOwn.never rfl (@pi_range1 _ _ _ _ _ _ rfl T.z_range (@pa_cons _ _ _ _ _ (@pe_callB _ _ _ _ _ _ _ _ _ call_len_seq (by rfl) T.z_len (by decide +kernel) (@pa_cons _ _ _ _ _ (@pe_ix _ _ _ _ _ _ _ ix_list (pv 1) (pv 3) (fun _ _ => rfl)) pa_nil (by walk_at "u")) (by walk_at "u") (by walk_at "u") (by walk_at "u") (by walk_at "u")) pa_nil (by walk_at "u")) (by walk_at "u")) (@pg_name _ _ 4 _ sc__law_nowhere.nd rfl (Or.inl rfl) (by walk_at "u")) pss_at (by walk_at "u")) ⟨_, rfl, _, rfl, _, _, _, _, rfl, rfl, SqL.of (s1 _ _ hl), ek, _, _, rfl, .inl (SqL.of (s1 _ _ hq)), _, rfl, by rw [List.length_map]; omega, by rw [List.length_map]; omega, forW_range (n := ((qs.map V.ref).length : Int).toNat) (fun i σ' H' => ∃ x4 ps, σ' = [some (.ref a), some (.ref l), some (.ref lg), some (.int (0 + (k : Int))), x4, none, none] ∧ H' lg = some (.lst (ps.map V.ref)) ∧ All2 (GH H') ps (glsT allG 0 ((rowsD ms).take k) ++ gls allG k 0 (r.take i)) ∧ ps.length ≤ 6 * k + i ∧ Same H H') ⟨_, ps, rfl, hg, by rw [List.take_zero, gls, List.append_nil]; exact hG, by omega, s1⟩ ?_ ?_⟩
        · rintro i σ' H2 hi ⟨x4, ps, rfl, hg, hG, hpl, s2⟩
          have hi : i < qs.length := by rw [List.length_map] at hi; omega
          obtain ⟨pz, hpz⟩ : ∃ x, qs[i]? = some x := ⟨qs[i], List.getElem?_eq_getElem hi⟩
          obtain ⟨z, hz⟩ : ∃ x, r[i]? = some x := ⟨r[i]'(by omega), List.getElem?_eq_getElem _⟩
          have hwz : H pz = some (.tup [.str z.1, .str z.2]) := hB.2 i pz z hpz hz
          have ei : atI (qs.map V.ref) (0 + (i : Int)) = some (.ref pz) := by rw [Int.zero_add]; exact atI_nat (by rw [List.getElem?_map, hpz]; rfl)
          refine @at_one _ _ _ _ _ _ (@ps_if _ _ _ _ _ _ _ _ (@pt_cmpR _ _ _ _ _ _ _ _ op_eq (@pe_ix _ _ _ _ _ _ _ ix_tup (@pe_ix _ _ _ _ _ _ _ ix_list (@pe_ix _ _ _ _ _ _ _ ix_list (pv 1) (pv 3) (fun _ _ => rfl)) (pv 4) (fun _ _ => rfl)) pe_int (fun _ _ => rfl)) pe_str (nomark _)) pss_at pss_at) ⟨_, rfl, _, rfl, _, _, _, _, rfl, rfl, SqL.of (s2 _ _ hl), ek, _, rfl, _, _, _, _, rfl, rfl, SqL.of (s2 _ _ hq), ei, _, _, _, _, rfl, rfl, SqT.of (s2 _ _ hwz), atI_nat (j := 1) rfl, rfl, _, rfl, ifd (fun h => ?_) (fun h => ?_)⟩
          · have h : z.2 = "goal" := V.str.inj h
            refine @at_one _ _ _ _ _ _ (@ps_expr _ _ _ _ (@pe_bm _ _ _ _ _ _ _ _ _ _ _ _ PySem.F.plainAttrs_list PySem.F.slot_list_append PySem.F.type_list_append mt_append (pv 2) (@pa_cons _ _ _ _ _ (@pe_tup _ _ _ _ _ (@pa_cons _ _ _ _ _ (pv 3) (@pa_cons _ _ _ _ _ (pv 4) pa_nil (by walk_at "u")) (by walk_at "u"))) pa_nil (by walk_at "u")) (by walk_at "u") (by walk_at "u") (by walk_at "u") (by walk_at "u") (by walk_at "u")) (by walk_at "u")) ⟨_, rfl, .inl ⟨rfl, _, SqL.of hg⟩, _, rfl, _, rfl, by show 2 ≤ sizeLine; decide, fun p ep => ?_⟩
            have t1 := Same.upd (o := .tup [.int (0 + (k : Int)), .int (0 + (i : Int))]) ep
            have g1 : upd H2 p (.tup [.int (0 + (k : Int)), .int (0 + (i : Int))]) p = some (.tup [.int (0 + (k : Int)), .int (0 + (i : Int))]) := upd_same
            generalize upd H2 p (.tup [.int (0 + (k : Int)), .int (0 + (i : Int))]) = G1 at t1 g1 ⊢
            refine ⟨lg, _, _, rfl, rfl, t1 _ _ hg, sl_lt (by rw [List.length_map]; omega), ?_⟩
            refine ⟨_, ps ++ [p], rfl, by rw [upd_same, List.map_append]; rfl, ?_, by rw [List.length_append]; show _ + 1 ≤ _; omega, Same.up (s2.trans t1) elg⟩
            rw [gls_take hz, if_pos ⟨h, rfl⟩, ← List.append_assoc]
            refine (goals_upd (goals_same hG t1) (t1 _ _ hg)).snoc ?_
            show upd G1 lg _ p = _
            rw [upd_ne (ne_of g1 (t1 _ _ hg) (by intro z; cases z)), g1, Int.zero_add, Int.zero_add]
          · have h : z.2 ≠ "goal" := fun e => h (by rw [e])
            refine at_nil ⟨_, ps, rfl, hg, ?_, by omega, s2⟩
            rw [gls_take hz, if_neg (fun z => h z.1), List.append_nil]; exact hG
        · rintro σ' H2 ⟨x4, ps, rfl, hg, hG, hpl, s2⟩
          refine ⟨_, _, ps, rfl, hg, ?_, by rw [List.length_map] at hpl; omega, s2⟩
          rw [List.take_of_length_le (l := r) (by rw [List.length_map]; omega)] at hG
          rw [glsT_take hr0]; exact hG
      · rintro σ' H1 ⟨x3, x4, ps, rfl, hg, hG, hpl, s1⟩
        rw [List.take_of_length_le (by rw [List.length_map]; omega)] at hG
        exact ⟨_, _, ps, rfl, hg, hG, by rw [List.length_map] at hpl; omega, s1⟩
    rintro σ' H1 ⟨x3, x4, ps, rfl, hg1, hG1, hpl, s1⟩
    have hgl := hG1.1
    refine @at_consR _ _ _ _ _ _ _ (fun σ' H' => σ' = [some (.ref a), some (.ref l), some (.ref lg), x3, x4, none, none] ∧ ps ≠ [] ∧ Same H1 H') (@ps_if _ _ _ _ _ _ _ _ (@pt_cmpR _ _ _ _ _ _ _ _ (op_eqLs (Nat.lt_of_succ_lt (hu_of hr))) (pv 2) (@pe_lst _ _ _ _ pa_nil) (nomark _)) pss_at pss_at) ?_ ?_
    · refine ⟨_, rfl, by show 0 ≤ sizeLine; decide, fun l0 el0 => ⟨lg, l0, _, _, rfl, rfl, SqL.of (Same.upd el0 _ _ hg1), SqL.of upd_same, (fun x _ y hy => by cases hy), _, rfl, ifd (fun h => ?_) (fun h => ?_)⟩⟩
      · exact @at_one _ _ _ _ _ _ (@ps_ret _ _ _ _ pe_bl) (q _ (s1.trans (Same.upd el0)))
      · exact at_nil ⟨rfl, fun z => h (by rw [z]; rfl), Same.upd el0⟩
    rintro σ' H2 ⟨rfl, hne, s2⟩
    have hg2 := s2 _ _ hg1
    have hG2 := goals_same hG1 s2
    have s12 := s1.trans s2
    have hps : 0 < ps.length := List.length_pos_iff.mpr hne
    refine @at_cons _ _ _ _ _ _ _ (@ps_set _ _ 5 _ _ _ _ sc__law_nowhere.nd rfl (Or.inl rfl) (@pe_call _ _ _ _ _ _ _ _ _ _ _ _ _ _ _ _ (ok__law_draw T) (hr.mono (by decide)) rfl T.mg__law_draw T.F__law_draw.kp (bd__law_draw T) .nil pass0 (@pa_cons _ _ _ _ _ (pv 0) (@pa_cons _ _ _ _ _ pe_int (@pa_cons _ _ _ _ _ (@pe_callB _ _ _ _ _ _ _ _ _ call_len_seq (by rfl) T.z_len (by decide +kernel) (@pa_cons _ _ _ _ _ (pv 2) pa_nil (by walk_at "u")) (by walk_at "u") (by walk_at "u") (by walk_at "u") (by walk_at "u")) pa_nil (by walk_at "u")) (by walk_at "u")) (by walk_at "u")) (by walk_at "u") (by walk_at "u") (by walk_at "u")) (by walk_at "u") (by walk_at "u")) ⟨_, rfl, _, rfl, _, _, rfl, .inl (SqL.of hg2), a, ns, 40, _, rfl, hS.same s12, by decide, by decide, by rw [List.length_map]; omega, by rw [List.length_map]; omega, hns, fun d3 H3 h1 h2 s3 => ?_⟩
    obtain ⟨kf, rfl⟩ : ∃ n : Nat, d3 = n := ⟨d3.toNat, by omega⟩
    have hkf : kf < ps.length := by rw [List.length_map] at h2; omega
    have hg3 := s3 _ _ hg2
    have hG3 := goals_same hG2 s3
    have s13 := s12.trans s3
    obtain ⟨pf, hpf⟩ : ∃ x, ps[kf]? = some x := ⟨ps[kf], List.getElem?_eq_getElem hkf⟩
    obtain ⟨g, hgf⟩ : ∃ x, (glsT allG 0 (rowsD ms))[kf]? = some x := ⟨(glsT allG 0 (rowsD ms))[kf]'(by omega), List.getElem?_eq_getElem _⟩
    have ef : atI (ps.map V.ref) (kf : Int) = some (.ref pf) := atI_nat (by rw [List.getElem?_map, hpf]; rfl)
    show At _ _ _ [some (.ref a), some (.ref l), some (.ref lg), x3, x4, some (.int (kf : Int)), none] H3
    refine @at_consR _ _ _ _ _ _ _ (fun σ' H' => ∃ lt as, σ' = [some (.ref a), some (.ref l), some (.ref lg), x3, x4, some (.int (kf : Int)), some (.ref lt)] ∧ Same H3 H' ∧ H' lt = some (.lst (as.map V.ref)) ∧ as.Nodup ∧ lt ∉ as ∧ (∀ x ∈ as, H3 x = none) ∧ H3 lt = none ∧ All2 (RowH H') as (rowsD ms)) (@ps_setC _ 6 _ (defScope s__law_nowhere) _ ["_law_script", "_law_rows_here", "_law_goals", "_law_k", "_law_i", "_law_first", "_law_turned"] _ _ ("_law_row") _ _ _ _ [] _ _ sc__law_nowhere.nd rfl (Or.inl rfl) (by walk_at "ck") (@pi_list _ _ _ _ (pv 1)) (fun _ _ _ _ => by exact (@pe_callTy _ _ _ _ _ _ _ _ _ (call_list_ofK (K := K) rfl) (by rfl) T.z_list (by decide +kernel) (@pa_cons _ _ _ _ _ (pv 0) pa_nil (by walk_at "u")) (by walk_at "u") (by walk_at "u") (by walk_at "u") (by walk_at "u"))) (by walk_at "u") (by walk_at "u") (by walk_at "u") (by walk_at "u") (by walk_at "u") (by walk_at "u")) ?_ ?_
    · refine ⟨_, rfl, l, rfl, ⟨_, SqL.of (s13 _ _ hl)⟩, comp_list (xs := ls.map V.ref) (fun i ys H' => Same H3 H' ∧ ∃ as : List Addr, ys = as.map V.ref ∧ as.Nodup ∧ (∀ x ∈ as, H3 x = none ∧ H' x ≠ none) ∧ All2 (RowH H') as ((rowsD ms).take i)) ⟨Same.refl H3, [], rfl, List.nodup_nil, by simp, All2.nil⟩ (sl_lt (by rw [List.length_map]; omega)) ?_ ?_ ?_⟩
      · rintro i ys H' _ ⟨s4, _⟩
        exact SqL.of (s4 _ _ (s13 _ _ hl))
      · rintro i xv ys H4 hx hyl ⟨s4, as, rfl, hN, hF, hA4⟩
        rw [List.getElem?_map] at hx
        obtain ⟨b, hb, rfl⟩ := Option.map_eq_some_iff.mp hx
        have hi : i < ls.length := (List.getElem?_eq_some_iff.mp hb).1
        obtain ⟨r, hr0⟩ : ∃ x, (rowsD ms)[i]? = some x := ⟨(rowsD ms)[i]'(by omega), List.getElem?_eq_getElem _⟩
        obtain ⟨qs, hq, hB⟩ := (hA.2 i b r hb hr0).same (s13.trans s4)
        refine ⟨_, rfl, b, _, rfl, .inl (SqL.of hq), fun lc elc => ?_⟩
        refine comp_turn (by rw [List.length_map]; exact hi) hyl ⟨s4.trans (Same.upd elc), as ++ [lc], by rw [List.map_append]; rfl, ?_, ?_, ?_⟩
        · refine List.nodup_append.mpr ⟨hN, by simp, fun x hx y hy e => ?_⟩
          rw [List.mem_singleton.mp hy] at e
          rw [e] at hx
          exact (hF _ hx).2 elc
        · intro x hx
          rcases List.mem_append.mp hx with z | z
          · refine ⟨(hF x z).1, ?_⟩
            rw [upd_ne (fun e => (hF x z).2 (by rw [e]; exact elc))]
            exact (hF x z).2
          · rw [List.mem_singleton.mp z]
            exact ⟨s4.free elc, by rw [upd_same]; intro z; cases z⟩
        · rw [take_snoc hr0]
          exact (rows_same hA4 (Same.upd elc)).snoc ⟨qs, upd_same, hB.mono fun _ _ z => Same.upd elc _ _ z⟩
      · rintro ys H4 hyl ⟨s4, as, rfl, hN, hF, hA4⟩ lt elt
        rw [List.take_of_length_le (by rw [List.length_map]; omega)] at hA4
        exact ⟨lt, as, rfl, s4.trans (Same.upd elt), upd_same, hN, fun z => (hF lt z).2 elt, fun x hx => (hF x hx).1, s4.free elt, rows_same hA4 (Same.upd elt)⟩
    rintro σ' H4 ⟨lt, as, rfl, s4, ht4, hN, hlt, hF, elt3, hA4⟩
    have hal := hA4.1
    have hg4 := s4 _ _ hg3
    have hG4 := goals_same hG3 s4
    have s14 := s13.trans s4
    have nlg : ∀ x ∈ as, x ≠ lg := fun x hx e => by have := hF x hx; rw [e, hg3] at this; cases this
    have cd : cutV (ps.map V.ref) (some (kf : Int)) none = (ps.drop kf).map V.ref := by rw [cut_from (by rw [List.length_map]; omega), List.map_drop]
    refine @at_consR _ _ _ _ _ _ _ (fun σ' H' => ∃ x3 x4 mk, σ' = [some (.ref a), some (.ref l), some (.ref lg), x3, x4, some (.int (kf : Int)), some (.ref lt)] ∧ Same H H' ∧ H' lg = some (.lst (ps.map V.ref)) ∧ All2 (GH H') ps (glsT allG 0 (rowsD ms)) ∧ H' lt = some (.lst (as.map V.ref)) ∧ All2 (RowH H') as (turnT mk 0 (rowsD ms)) ∧ (∀ x, mk x = true → x ∈ (glsT allG 0 (rowsD ms)).drop kf) ∧ mk g = true) (@ps_forA _ _ _ _ _ _ _ _ PassesOwn.never rfl (@pi_list _ _ _ _ (@pe_slice _ _ _ _ _ _ _ _ _ _ sl_list (pv 2) (@po_some _ _ _ (pv 5)) po_none)) (@pg_tup _ _ _ _ _ _ rfl (@pgs_cons _ _ _ _ _ (@pg_name _ _ 3 _ sc__law_nowhere.nd rfl (Or.inl rfl) (by walk_at "u")) (@pgs_cons _ _ _ _ _ (@pg_name _ _ 4 _ sc__law_nowhere.nd rfl (Or.inl rfl) (by walk_at "u")) pgs_nil (by walk_at "u")) (by walk_at "u")) (by walk_at "u") (by walk_at "u")) pss_at (by walk_at "u")) ?_ ?_
    · refine ⟨_, rfl, _, rfl, (kf : Int), rfl, lg, _, rfl, SqL.of hg4, fun ld eld => ?_⟩
      rw [cd]
      have t5 := Same.upd (o := .lst ((ps.drop kf).map V.ref)) eld
      have g5 : upd H4 ld (.lst ((ps.drop kf).map V.ref)) ld = some (.lst ((ps.drop kf).map V.ref)) := upd_same
      generalize upd H4 ld (.lst ((ps.drop kf).map V.ref)) = H5 at t5 g5 ⊢
      have nld : ∀ x ∈ as, x ≠ ld := fun x hx e => by
        obtain ⟨i, hi⟩ := List.mem_iff_getElem?.mp hx
        obtain ⟨r, hr0⟩ : ∃ r, (rowsD ms)[i]? = some r := ⟨(rowsD ms)[i]'(by have := (List.getElem?_eq_some_iff.mp hi).1; omega), List.getElem?_eq_getElem _⟩
        obtain ⟨qs, hq, _⟩ := hA4.2 i x r hi hr0
        rw [e, eld] at hq; cases hq
      refine ⟨ld, rfl, ⟨_, SqL.of g5⟩, forW_list (xs := (ps.drop kf).map V.ref) (fun j σ' H' => ∃ x3 x4 mk, σ' = [some (.ref a), some (.ref l), some (.ref lg), x3, x4, some (.int (kf : Int)), some (.ref lt)] ∧ Same H H' ∧ H' lg = some (.lst (ps.map V.ref)) ∧ All2 (GH H') ps (glsT allG 0 (rowsD ms)) ∧ H' lt = some (.lst (as.map V.ref)) ∧ H' ld = some (.lst ((ps.drop kf).map V.ref)) ∧ All2 (RowH H') as (turnT mk 0 (rowsD ms)) ∧ (∀ x, mk x = true → x ∈ (glsT allG 0 (rowsD ms)).drop kf) ∧ (1 ≤ j → mk g = true)) ⟨_, _, fun _ => false, rfl, s14.trans t5, t5 _ _ hg4, goals_same hG4 t5, t5 _ _ ht4, g5, by rw [turnT_ff]; exact rows_same hA4 t5, fun x z => by (cases z), fun z => by omega⟩ ?_ ?_ ?_⟩
      · rintro j σ' H' _ ⟨x3, x4, mk, rfl, s6, hg6, hG6, ht6, hd6, _⟩
        exact SqL.of hd6
      · rintro j xv σ' H6 hx ⟨x3, x4, mk, rfl, s6, hg6, hG6, ht6, hd6, hA6, hM, hj1⟩
        rw [List.getElem?_map, List.getElem?_drop] at hx
        obtain ⟨pj, hpj, rfl⟩ := Option.map_eq_some_iff.mp hx
        have hjl := (List.getElem?_eq_some_iff.mp hpj).1
        obtain ⟨gj, hgj0⟩ : ∃ x, (glsT allG 0 (rowsD ms))[kf + j]? = some x := ⟨(glsT allG 0 (rowsD ms))[kf + j]'(by omega), List.getElem?_eq_getElem _⟩
        have hgj : ((glsT allG 0 (rowsD ms)).drop kf)[j]? = some gj := by rw [List.getElem?_drop]; exact hgj0
        have hpg : H6 pj = some (.tup [.int gj.1, .int gj.2]) := hG6.2 _ pj gj hpj hgj0
        have hfg : H6 pf = some (.tup [.int g.1, .int g.2]) := hG6.2 _ pf g hpf hgf
        obtain ⟨_, r, w0, hr0, hw0, hwg⟩ := glsT_mem (List.mem_of_getElem? hgj0)
        rw [Nat.sub_zero] at hr0
        have hrk := (List.getElem?_eq_some_iff.mp hr0).1
        obtain ⟨ak, hak⟩ : ∃ x, as[gj.1]? = some x := ⟨as[gj.1]'(by omega), List.getElem?_eq_getElem _⟩
        have eak : atI (as.map V.ref) (gj.1 : Int) = some (.ref ak) := atI_nat (by rw [List.getElem?_map, hak]; rfl)
        refine ⟨pj, [.int gj.1, .int gj.2], rfl, SqT.of hpg, rfl, _, _, rfl, _, _, rfl, rfl, ?_⟩
        refine @at_one _ _ _ _ _ _ (@ps_if _ _ _ _ _ _ _ _ (@PW.pt _ _ _ (@pw_or _ _ _ _ _ _ _ (@pt_cmpR _ _ _ _ _ _ _ _ (op_eqTs (Nat.lt_of_succ_lt (hu_of hr))) (@pe_tup _ _ _ _ _ (@pa_cons _ _ _ _ _ (pv 3) (@pa_cons _ _ _ _ _ (pv 4) pa_nil (by walk_at "u")) (by walk_at "u"))) (@pe_ix _ _ _ _ _ _ _ ix_list (pv 2) (pv 5) (fun _ _ => rfl)) (nomark _)) (@pw_or1 _ _ _ _ (@pt_cmpR _ _ _ _ _ _ _ _ op_eq (@pe_call _ _ _ _ _ _ _ _ _ _ _ _ _ _ _ _ (ok__law_draw T) (hr.mono (by decide)) rfl T.mg__law_draw T.F__law_draw.kp (bd__law_draw T) .nil pass0 (@pa_cons _ _ _ _ _ (pv 0) (@pa_cons _ _ _ _ _ (@pe_op _ _ _ _ _ _ _ _ op_add pe_int (pv 3)) (@pa_cons _ _ _ _ _ pe_int pa_nil (by walk_at "u")) (by walk_at "u")) (by walk_at "u")) (by walk_at "u") (by walk_at "u") (by walk_at "u")) pe_int (nomark _))))) pss_at pss_at) ⟨_, rfl, _, rfl, by show 2 ≤ sizeLine; decide, fun p2 ep2 => ?_⟩
        have t7 := Same.upd (o := .tup [.int (gj.1 : Int), .int (gj.2 : Int)]) ep2
        have g7 : upd H6 p2 (.tup [.int (gj.1 : Int), .int (gj.2 : Int)]) p2 = some (.tup [.int (gj.1 : Int), .int (gj.2 : Int)]) := upd_same
        generalize upd H6 p2 (.tup [.int (gj.1 : Int), .int (gj.2 : Int)]) = H7 at t7 g7 ⊢
        refine ⟨_, rfl, _, rfl, _, _, _, _, rfl, rfl, SqL.of (t7 _ _ hg6), ef, p2, pf, _, _, rfl, rfl, SqT.of g7, SqT.of (t7 _ _ hfg), rfl, plain_ints2 (xs := [(gj.1 : Int), (gj.2 : Int)]) (ys := [(g.1 : Int), (g.2 : Int)]), _, rfl, ifd (fun he => ?_) (fun he => ?_)⟩
        · have he : gj = g := by
            injection he with e1 e2
            injection e2 with e2 _
            have e1 := Int.ofNat.inj (V.int.inj e1)
            have e2 := Int.ofNat.inj (V.int.inj e2)
            exact Prod.ext e1 e2
          have t68 := t7
          generalize H7 = H8 at t68 t7 g7 ⊢
          refine @at_one _ _ _ _ _ _ (@ps_asg _ _ _ _ _ _ (@pe_tup _ _ _ _ _ (@pa_cons _ _ _ _ _ pe_str (@pa_cons _ _ _ _ _ pe_str pa_nil (by walk_at "u")) (by walk_at "u"))) (@pg_sub _ _ _ _ _ _ _ (@pe_ix _ _ _ _ _ _ _ ix_list (pv 6) (pv 3) (fun _ _ => rfl)) (pv 4) set_list (by walk_at "u")) (by walk_at "u") (by walk_at "u") (by walk_at "u")) ⟨by show 2 ≤ sizeLine; decide, fun pn epn => ?_⟩
          have t9 := Same.upd (o := .tup [.str "nobody", .str "goal"]) epn
          have g9 : upd H8 pn (.tup [.str "nobody", .str "goal"]) pn = some (.tup [.str "nobody", .str "goal"]) := upd_same
          generalize upd H8 pn (.tup [.str "nobody", .str "goal"]) = G9 at t9 g9 ⊢
          have t69 := t68.trans t9
          obtain ⟨qs, hq, hB⟩ := (hA6.2 _ ak _ hak (by rw [turnT_get, Nat.zero_add, hr0]; rfl)).same t69
          have hql := hB.1
          rw [turnR_len] at hql
          have hir := (List.getElem?_eq_some_iff.mp hw0).1
          refine ⟨_, rfl, _, rfl, _, _, _, _, rfl, rfl, SqL.of (t69 _ _ ht6), eak, _, rfl, ak, _, _, gj.2, rfl, rfl, hq, ixN_nat (by rw [List.length_map]; omega), ?_⟩
          have nal : ak ∈ as := List.mem_of_getElem? hak
          refine ⟨_, _, fun x => mk x || decide (x = gj), rfl, Same.up (s6.trans t69) (s13.free (hF ak nal)), ?_, goals_upd (goals_same hG6 t69) hq, ?_, ?_, ?_, fun x hx => ?_, fun _ => ?_⟩
          · rw [upd_ne (Ne.symm (nlg ak nal))]; exact t69 _ _ hg6
          · rw [upd_ne (fun e => hlt (by rw [e]; exact nal))]; exact t69 _ _ ht6
          · rw [upd_ne (Ne.symm (nld ak nal))]; exact t69 _ _ hd6
          · exact turn_set (rows_same hA6 t69) hN hak hr0 hw0 hwg hq hB g9
          · rcases Bool.or_eq_true_iff.mp hx with z | z
            · exact hM x z
            · rw [of_decide_eq_true z]; exact List.mem_of_getElem? hgj
          · rw [he]; simp
        · refine ⟨_, rfl, _, rfl, _, _, rfl, rfl, a, ns, 41 + (gj.1 : Int), 2, rfl, hS.same (s6.trans t7), by omega, by omega, by decide, by decide, hns, fun d8 H8 h1 h2 s8 => ⟨rfl, _, rfl, ifd (fun _ => ?_) (fun _ => ?_)⟩⟩
          · have t68 := t7.trans s8
            refine @at_one _ _ _ _ _ _ (@ps_asg _ _ _ _ _ _ (@pe_tup _ _ _ _ _ (@pa_cons _ _ _ _ _ pe_str (@pa_cons _ _ _ _ _ pe_str pa_nil (by walk_at "u")) (by walk_at "u"))) (@pg_sub _ _ _ _ _ _ _ (@pe_ix _ _ _ _ _ _ _ ix_list (pv 6) (pv 3) (fun _ _ => rfl)) (pv 4) set_list (by walk_at "u")) (by walk_at "u") (by walk_at "u") (by walk_at "u")) ⟨by show 2 ≤ sizeLine; decide, fun pn epn => ?_⟩
            have t9 := Same.upd (o := .tup [.str "nobody", .str "goal"]) epn
            have g9 : upd H8 pn (.tup [.str "nobody", .str "goal"]) pn = some (.tup [.str "nobody", .str "goal"]) := upd_same
            generalize upd H8 pn (.tup [.str "nobody", .str "goal"]) = G9 at t9 g9 ⊢
            have t69 := t68.trans t9
            obtain ⟨qs, hq, hB⟩ := (hA6.2 _ ak _ hak (by rw [turnT_get, Nat.zero_add, hr0]; rfl)).same t69
            have hql := hB.1
            rw [turnR_len] at hql
            have hir := (List.getElem?_eq_some_iff.mp hw0).1
            refine ⟨_, rfl, _, rfl, _, _, _, _, rfl, rfl, SqL.of (t69 _ _ ht6), eak, _, rfl, ak, _, _, gj.2, rfl, rfl, hq, ixN_nat (by rw [List.length_map]; omega), ?_⟩
            have nal : ak ∈ as := List.mem_of_getElem? hak
            refine ⟨_, _, fun x => mk x || decide (x = gj), rfl, Same.up (s6.trans t69) (s13.free (hF ak nal)), ?_, goals_upd (goals_same hG6 t69) hq, ?_, ?_, ?_, fun x hx => ?_, fun _ => ?_⟩
            · rw [upd_ne (Ne.symm (nlg ak nal))]; exact t69 _ _ hg6
            · rw [upd_ne (fun e => hlt (by rw [e]; exact nal))]; exact t69 _ _ ht6
            · rw [upd_ne (Ne.symm (nld ak nal))]; exact t69 _ _ hd6
            · exact turn_set (rows_same hA6 t69) hN hak hr0 hw0 hwg hq hB g9
            · rcases Bool.or_eq_true_iff.mp hx with z | z
              · exact hM x z
              · rw [of_decide_eq_true z]; exact List.mem_of_getElem? hgj
            · rw [Bool.or_eq_true]
              by_cases z : g = gj
              · exact .inr (decide_eq_true z)
              · refine .inl (hj1 ?_)
                rcases Nat.eq_zero_or_pos j with y | y
                · exfalso
                  subst y
                  rw [Nat.add_zero, hgf] at hgj0
                  cases hgj0
                  exact z rfl
                · exact y
          · have t68 := t7.trans s8
            refine at_nil ⟨_, _, mk, rfl, s6.trans t68, t68 _ _ hg6, goals_same hG6 t68, t68 _ _ ht6, t68 _ _ hd6, rows_same hA6 t68, hM, fun _ => hj1 ?_⟩
            rcases Nat.eq_zero_or_pos j with z | z
            · exfalso
              subst z
              rw [Nat.add_zero, hgf] at hgj0
              cases hgj0
              exact he rfl
            · exact z
      · rintro σ' H6 ⟨x3, x4, mk, rfl, s6, hg6, hG6, ht6, hd6, hA6, hM, hj1⟩
        exact ⟨_, _, mk, rfl, s6, hg6, hG6, ht6, hA6, hM, hj1 (by rw [List.length_map, List.length_drop]; omega)⟩
    rintro σ' H6 ⟨x3, x4, mk, rfl, s6, hg6, hG6, ht6, hA6, hM, hmg⟩
    obtain ⟨r1, r2, r3⟩ := D.turned hgf hmg hM
    have htl : (turnT mk 0 (rowsD ms)).length = (rowsD ms).length := turnT_len _ _
    have hne : turnT mk 0 (rowsD ms) ≠ [] := fun z => by rw [z] at htl; simp at htl; omega
    have hfg : H6 pf = some (.tup [.int g.1, .int g.2]) := hG6.2 _ pf g hpf hgf
    refine @at_consR _ _ _ _ _ _ _ (fun σ' H' => σ' = [some (.ref a), some (.ref l), some (.ref lg), x3, x4, some (.int (kf : Int)), some (.ref lt)] ∧ Same H6 H') (@ps_if _ _ _ _ _ _ _ _ (@pt_cmpR _ _ _ _ _ _ _ _ (op_neTs (Nat.lt_of_succ_lt (hu_of hr))) (@pe_call _ _ _ _ _ _ _ _ _ _ _ _ _ _ _ _ (ok__law_asked T) (hr.mono (by decide)) rfl T.mg__law_asked T.F__law_asked.kp (bd__law_asked T) .nil pass0 (@pa_cons _ _ _ _ _ (pv 6) pa_nil (by walk_at "u")) (by walk_at "u") (by walk_at "u") (by walk_at "u")) (@pe_ix _ _ _ _ _ _ _ ix_list (pv 2) (pv 5) (fun _ _ => rfl)) (nomark _)) pss_at pss_at) ?_ ?_
    · refine ⟨_, rfl, lt, _, rfl, ⟨as, ht6, hA6⟩, wok_of hne (by omega) r3, fun pa H7 hpa s7 => ?_⟩
      rw [r1] at hpa
      have hpa : H7 pa = some (.tup [.int g.1, .int g.2]) := hpa
      refine ⟨_, rfl, _, rfl, _, _, _, _, rfl, rfl, SqL.of (s7 _ _ hg6), ef, pa, pf, _, _, rfl, rfl, SqT.of hpa, SqT.of (s7 _ _ hfg), rfl, plain_ints2 (xs := [(g.1 : Int), (g.2 : Int)]) (ys := [(g.1 : Int), (g.2 : Int)]), _, rfl, ifeq (c := false) (by simp) (at_nil ⟨rfl, s7⟩)⟩
    rintro σ' H7 ⟨rfl, s7⟩
    refine @at_one _ _ _ _ _ _ (@ps_ret _ _ _ _ (@pe_cmpR _ _ _ _ _ _ _ _ (op_eqTs (Nat.lt_of_succ_lt (hu_of hr))) (@pe_call _ _ _ _ _ _ _ _ _ _ _ _ _ _ _ _ (ok__law_asked T) (hr.mono (by decide)) rfl T.mg__law_asked T.F__law_asked.kp (bd__law_asked T) .nil pass0 (@pa_cons _ _ _ _ _ (@pe_op _ _ _ _ _ _ _ _ op_cat (pv 6) (@pe_lst _ _ _ _ (@pa_cons _ _ _ _ _ (@pe_lst _ _ _ _ (@pa_cons _ _ _ _ _ (@pe_tup _ _ _ _ _ (@pa_cons _ _ _ _ _ pe_str (@pa_cons _ _ _ _ _ pe_str pa_nil (by walk_at "u")) (by walk_at "u"))) pa_nil (by walk_at "u"))) pa_nil (by walk_at "u")))) pa_nil (by walk_at "u")) (by walk_at "u") (by walk_at "u") (by walk_at "u")) (@pe_tup _ _ _ _ _ (@pa_cons _ _ _ _ _ (@pe_callB _ _ _ _ _ _ _ _ _ call_len_seq (by rfl) T.z_len (by decide +kernel) (@pa_cons _ _ _ _ _ (pv 1) pa_nil (by walk_at "u")) (by walk_at "u") (by walk_at "u") (by walk_at "u") (by walk_at "u")) (@pa_cons _ _ _ _ _ pe_int pa_nil (by walk_at "u")) (by walk_at "u"))) (nomark _))) ⟨_, rfl, by show 2 ≤ sizeLine; decide, fun p1 e1 => ?_⟩
    have t1 := Same.upd (o := .tup [.str "", .str ""]) e1
    have g1 : upd H7 p1 (.tup [.str "", .str ""]) p1 = some (.tup [.str "", .str ""]) := upd_same
    generalize upd H7 p1 (.tup [.str "", .str ""]) = G1 at t1 g1 ⊢
    refine ⟨by show 1 ≤ sizeLine; decide, fun l2 e2 => ?_⟩
    have t2 := Same.upd (o := .lst [.ref p1]) e2
    have g2 : upd G1 l2 (.lst [.ref p1]) l2 = some (.lst [.ref p1]) := upd_same
    generalize upd G1 l2 (.lst [.ref p1]) = G2 at t2 g2 ⊢
    refine ⟨by show 1 ≤ sizeLine; decide, fun l3 e3 => ?_⟩
    have t3 := Same.upd (o := .lst [.ref l2]) e3
    have g3 : upd G2 l3 (.lst [.ref l2]) l3 = some (.lst [.ref l2]) := upd_same
    generalize upd G2 l3 (.lst [.ref l2]) = G3 at t3 g3 ⊢
    have u3 := ((s7.trans t1).trans t2).trans t3
    refine ⟨lt, l3, _, _, rfl, rfl, u3 _ _ ht6, g3, sl_le (by rw [List.length_map]; show _ + 1 ≤ 1000000; omega), fun l4 e4 => ?_⟩
    have t4 := Same.upd (o := .lst (as.map V.ref ++ [.ref l2])) e4
    have g4 : upd G3 l4 (.lst (as.map V.ref ++ [.ref l2])) l4 = some (.lst (as.map V.ref ++ [.ref l2])) := upd_same
    generalize upd G3 l4 (.lst (as.map V.ref ++ [.ref l2])) = G4 at t4 g4 ⊢
    have u4 := u3.trans t4
    have hRv : RowH G4 l2 voidR := (row1 (w := nr "") (t2 _ _ g1) g2).same (t3.trans t4)
    refine ⟨l4, turnT mk 0 (rowsD ms) ++ [voidR], rfl, ⟨as ++ [l2], by rw [g4, List.map_append]; rfl, (rows_same hA6 u4).snoc hRv⟩, wok_of (by simp) (by rw [List.length_append]; show _ + 1 ≤ 200; omega) (fun x hx => ?_), fun pa H8 hpa s8 => ?_⟩
    · rcases List.mem_append.mp hx with z | z
      · exact r3 x z
      · rw [List.mem_singleton.mp z]; exact few_rw (by decide) (by decide) (by decide +kernel)
    rw [r2] at hpa
    have hpa : H8 pa = some (.tup [.int ((rowsD ms).length : Int), .int 0]) := hpa
    have u8 := u4.trans s8
    refine ⟨_, rfl, _, _, rfl, .inl (SqL.of (u8 _ _ (s6 _ _ hl))), by show 2 ≤ sizeLine; decide, fun pb epb => ?_⟩
    refine ⟨pa, pb, _, _, rfl, rfl, SqT.of (Same.upd epb _ _ hpa), SqT.of upd_same, rfl, plain_ints2 (xs := [((rowsD ms).length : Int), 0]) (ys := [((ls.map V.ref).length : Int), 0]), ?_⟩
    have : decide (([.int ((rowsD ms).length : Int), .int 0] : List V) = [.int ((ls.map V.ref).length : Int), .int 0]) = true := by rw [List.length_map, hll]; simp
    rw [this]
    exact q _ (s6.trans (u8.trans (Same.upd epb)))
end
section
variable {P : Program} {w : World} {K : PySem.W.Frag} {mg : Str → Option Value} {base : Heap} {t : Adr}
def spLaw (K : PySem.W.Frag) : Sp := fun vs H Q _ => ∃ (a : Addr) (ns : List Int), vs = [.ref a] ∧ SqL K H a (ns.map V.int) ∧ ns.length ≤ 63 ∧ ∀ H', Q (.bl true) H'
theorem ok_law {f : Addr} {fd : FuncData} (F : Fun K "law" "law" s_law f fd) (T : Txt K mg t) : FnOk P w K mg base CX0 11 f fd ["_law_script"] (spLaw K) := by
  refine F.ok sc_law (fun vs H Q E h => ?_) (fun cdv A outer s H vs Q E hr h => at_body ?_)
  · obtain ⟨a, ns, rfl, _⟩ := h
    rfl
  · obtain ⟨a, ns, rfl, hS, hns, q⟩ := h
    refine @at_cons _ _ _ _ _ _ _ (@ps_set _ _ 1 _ _ _ _ sc_law.nd rfl (Or.inl rfl) (@pe_call _ _ _ _ _ _ _ _ _ _ _ _ _ _ _ _ (ok__law_rows T) (hr.mono (by decide)) rfl T.mg__law_rows T.F__law_rows.kp (bd__law_rows T) .nil pass0 (@pa_cons _ _ _ _ _ (pv 0) pa_nil (by walk_at "u")) (by walk_at "u") (by walk_at "u") (by walk_at "u")) (by walk_at "u") (by walk_at "u")) ⟨_, rfl, a, ns, rfl, hS, hns, fun l names ms H1 hN hm hM hR s1 => ?_⟩
    have D : DrawnOk names ms := ⟨hN, hm, hM⟩
    have hR1 := hR.rows
    have hrw := rows_rw D.nm.good.2.1 D.all
    obtain ⟨hn1, hn2⟩ := rowsD_pos D
    have hne : rowsD ms ≠ [] := fun z => by rw [z] at hn1; simp at hn1
    show At _ _ _ [some (.ref a), some (.ref l), none, none, none] H1
    refine @at_consR _ _ _ _ _ _ _ (fun σ' H' => σ' = [some (.ref a), some (.ref l), none, none, none] ∧ Same H1 H') (@ps_if _ _ _ _ _ _ _ _ (@PW.pt _ _ _ (@pw_or _ _ _ _ _ _ _ (@pt_cmpR _ _ _ _ _ _ _ _ (op_neTs (Nat.lt_of_succ_lt (hu_of hr))) (@pe_call _ _ _ _ _ _ _ _ _ _ _ _ _ _ _ _ (ok__law_asked T) (hr.mono (by decide)) rfl T.mg__law_asked T.F__law_asked.kp (bd__law_asked T) .nil pass0 (@pa_cons _ _ _ _ _ (pv 1) pa_nil (by walk_at "u")) (by walk_at "u") (by walk_at "u") (by walk_at "u")) (@pe_tup _ _ _ _ _ (@pa_cons _ _ _ _ _ (@pe_un _ _ _ _ _ _ un_neg pe_int) (@pa_cons _ _ _ _ _ (@pe_un _ _ _ _ _ _ un_neg pe_int) pa_nil (by walk_at "u")) (by walk_at "u"))) (nomark _)) (@pw_or1 _ _ _ _ (@pt_not _ _ _ _ (@pt_val _ _ _ (@pe_call _ _ _ _ _ _ _ _ _ _ _ _ _ _ _ _ (ok__law_nowhere T) (hr.mono (by decide)) rfl T.mg__law_nowhere T.F__law_nowhere.kp (bd__law_nowhere T) .nil pass0 (@pa_cons _ _ _ _ _ (pv 0) (@pa_cons _ _ _ _ _ (pv 1) pa_nil (by walk_at "u")) (by walk_at "u")) (by walk_at "u") (by walk_at "u") (by walk_at "u")) (by walk_at "u")))))) pss_at pss_at) ?_ ?_
    · refine ⟨_, rfl, l, _, rfl, hR1, wok_of hne (by omega) (fun r hr => (hrw r hr).1), fun p H2 hp s2 => ?_⟩
      rw [D.good] at hp
      have hp : H2 p = some (.tup [.int (-2), .int (-2)]) := hp
      refine ⟨_, rfl, _, rfl, by show 2 ≤ sizeLine; decide, fun p2 e2 => ⟨p, p2, _, _, rfl, rfl, SqT.of (Same.upd e2 _ _ hp), SqT.of upd_same, rfl, plain_ints2 (xs := [-2, -2]) (ys := [-2, -2]), _, rfl, ifeq (c := false) (by decide) ?_⟩⟩
      have s3 := s2.trans (Same.upd (o := .tup [.int (-2), .int (-2)]) e2)
      exact ⟨_, rfl, _, rfl, a, l, ns, names, ms, rfl, hS.same (s1.trans s3), hns, hR1.same s3, D, fun H4 s4 => ⟨true, rfl, iteF (at_nil ⟨rfl, s3.trans s4⟩)⟩⟩
    rintro σ' H2 ⟨rfl, s2⟩
    have s12 := s1.trans s2
    refine @at_cons _ _ _ _ _ _ _ (@ps_set _ _ 2 _ _ _ _ sc_law.nd rfl (Or.inl rfl) (@pe_call _ _ _ _ _ _ _ _ _ _ _ _ _ _ _ _ (ok__law_spoiled T) (hr.mono (by decide)) rfl T.mg__law_spoiled T.F__law_spoiled.kp (bd__law_spoiled T) .nil pass0 (@pa_cons _ _ _ _ _ (pv 0) (@pa_cons _ _ _ _ _ (pv 1) pa_nil (by walk_at "u")) (by walk_at "u")) (by walk_at "u") (by walk_at "u") (by walk_at "u")) (by walk_at "u") (by walk_at "u")) ⟨_, rfl, _, rfl, a, l, ns, names, ms, rfl, hS.same s12, hns, hR1.same s2, D, fun p l2 rs i j H3 hp hR3 hsp s3 => ?_⟩
    have s13 := s12.trans s3
    obtain ⟨w1, w2, w3⟩ := spoilt_rw D hsp
    refine @at_cons _ _ _ _ _ _ _ (@ps_set _ _ 3 _ _ _ _ sc_law.nd rfl (Or.inl rfl) (@pe_ix _ _ _ _ _ _ _ ix_tup (pv 2) pe_int (fun _ _ => rfl)) (by walk_at "u") (by walk_at "u")) ⟨_, rfl, _, _, _, _, rfl, rfl, SqT.of hp, atI_nat (j := 0) rfl, ?_⟩
    show At _ _ _ [some (.ref a), some (.ref l), some (.ref p), some (.ref l2), none] H3
    refine @at_consR _ _ _ _ _ _ _ (fun σ' H' => ∃ l5 ex, σ' = [some (.ref a), some (.ref l), some (.ref p), some (.ref l5), none] ∧ Same H3 H' ∧ RowsH H' l5 (rs ++ ex) ∧ ex.length ≤ 1 ∧ ∀ r ∈ ex, RowW r) (@ps_if _ _ _ _ _ _ _ _ (@pt_cmpR _ _ _ _ _ _ _ _ op_eq (@pe_call _ _ _ _ _ _ _ _ _ _ _ _ _ _ _ _ (ok__law_draw T) (hr.mono (by decide)) rfl T.mg__law_draw T.F__law_draw.kp (bd__law_draw T) .nil pass0 (@pa_cons _ _ _ _ _ (pv 0) (@pa_cons _ _ _ _ _ pe_int (@pa_cons _ _ _ _ _ pe_int pa_nil (by walk_at "u")) (by walk_at "u")) (by walk_at "u")) (by walk_at "u") (by walk_at "u") (by walk_at "u")) pe_int (nomark _)) pss_at pss_at) ?_ ?_
    · refine ⟨_, rfl, a, ns, 35, 2, rfl, hS.same s13, by decide, by decide, by decide, by decide, hns, fun d4 H4 h1 h2 s4 => ⟨rfl, _, rfl, ifd (fun _ => ?_) (fun _ => at_nil ⟨l2, [], rfl, s4, by rw [List.append_nil]; exact hR3.same s4, by decide, by simp⟩)⟩⟩
      obtain ⟨ls, hl4, hA4⟩ := hR3.same s4
      have hll := hA4.1
      refine @at_one _ _ _ _ _ _ (@ps_set _ _ 3 _ _ _ _ sc_law.nd rfl (Or.inl rfl) (@pe_op _ _ _ _ _ _ _ _ op_cat (pv 3) (@pe_lst _ _ _ _ (@pa_cons _ _ _ _ _ (@pe_lst _ _ _ _ (@pa_cons _ _ _ _ _ (@pe_tup _ _ _ _ _ (@pa_cons _ _ _ _ _ pe_str (@pa_cons _ _ _ _ _ pe_str pa_nil (by walk_at "u")) (by walk_at "u"))) (@pa_cons _ _ _ _ _ (@pe_tup _ _ _ _ _ (@pa_cons _ _ _ _ _ pe_str (@pa_cons _ _ _ _ _ pe_str pa_nil (by walk_at "u")) (by walk_at "u"))) pa_nil (by walk_at "u")) (by walk_at "u"))) pa_nil (by walk_at "u")))) (by walk_at "u") (by walk_at "u")) ⟨_, rfl, by show 2 ≤ sizeLine; decide, fun p1 e1 => ?_⟩
      have t1 := Same.upd (o := .tup [.str "mode", .str ""]) e1
      have g1 : upd H4 p1 (.tup [.str "mode", .str ""]) p1 = some (.tup [.str "mode", .str ""]) := upd_same
      generalize upd H4 p1 (.tup [.str "mode", .str ""]) = G1 at t1 g1 ⊢
      refine ⟨by show 2 ≤ sizeLine; decide, fun p2 e2 => ?_⟩
      have t2 := Same.upd (o := .tup [.str "Bad", .str ""]) e2
      have g2 : upd G1 p2 (.tup [.str "Bad", .str ""]) p2 = some (.tup [.str "Bad", .str ""]) := upd_same
      generalize upd G1 p2 (.tup [.str "Bad", .str ""]) = G2 at t2 g2 ⊢
      refine ⟨by show 2 ≤ sizeLine; decide, fun l3 e3 => ?_⟩
      have t3 := Same.upd (o := .lst [.ref p1, .ref p2]) e3
      have g3 : upd G2 l3 (.lst [.ref p1, .ref p2]) l3 = some (.lst [.ref p1, .ref p2]) := upd_same
      generalize upd G2 l3 (.lst [.ref p1, .ref p2]) = G3 at t3 g3 ⊢
      have hRb : RowH G3 l3 badR := row2 (w1 := nr "mode") (w2 := nr "Bad") (t3 _ _ (t2 _ _ g1)) (t3 _ _ g2) g3
      refine ⟨by show 1 ≤ sizeLine; decide, fun l4 e4 => ?_⟩
      have t4 := Same.upd (o := .lst [.ref l3]) e4
      have g4 : upd G3 l4 (.lst [.ref l3]) l4 = some (.lst [.ref l3]) := upd_same
      generalize upd G3 l4 (.lst [.ref l3]) = G4 at t4 g4 ⊢
      have u4 := ((t1.trans t2).trans t3).trans t4
      refine ⟨l2, l4, _, _, rfl, rfl, u4 _ _ hl4, g4, sl_le (by rw [List.length_map]; show _ + 1 ≤ 1000000; omega), fun l5 e5 => ?_⟩
      have t5 := Same.upd (o := .lst (ls.map V.ref ++ [.ref l3])) e5
      have g5 : upd G4 l5 (.lst (ls.map V.ref ++ [.ref l3])) l5 = some (.lst (ls.map V.ref ++ [.ref l3])) := upd_same
      generalize upd G4 l5 (.lst (ls.map V.ref ++ [.ref l3])) = G5 at t5 g5 ⊢
      refine ⟨l5, [badR], rfl, s4.trans (u4.trans t5), ⟨ls ++ [l3], by rw [g5, List.map_append]; rfl, (rows_same hA4 (u4.trans t5)).snoc (hRb.same (t4.trans t5))⟩, by decide, fun r hr => ?_⟩
      rw [List.mem_singleton.mp hr]
      exact few_rw (by decide) (by decide) (by decide +kernel)
    rintro σ' H4 ⟨l5, ex, rfl, s4, hR4, hex, hexw⟩
    refine @at_cons _ _ _ _ _ _ _ (@ps_set _ _ 4 _ _ _ _ sc_law.nd rfl (Or.inl rfl) (@pe_call _ _ _ _ _ _ _ _ _ _ _ _ _ _ _ _ (ok__law_asked T) (hr.mono (by decide)) rfl T.mg__law_asked T.F__law_asked.kp (bd__law_asked T) .nil pass0 (@pa_cons _ _ _ _ _ (pv 3) pa_nil (by walk_at "u")) (by walk_at "u") (by walk_at "u") (by walk_at "u")) (by walk_at "u") (by walk_at "u")) ⟨_, rfl, l5, _, rfl, hR4, wok_of (fun z => w1 (List.append_eq_nil_iff.mp z).1) (by rw [List.length_append]; omega) (fun r hr => ?_), fun pa H5 hpa s5 => ?_⟩
    · rcases List.mem_append.mp hr with z | z
      · exact w3 r z
      · exact hexw r z
    have hrd : readP (wordsT (rs ++ ex)) = some (i, j) := by
      unfold readP
      rw [wordsT_app]
      exact spoilt_read D hsp _ _
    rw [hrd] at hpa
    have hpa : H5 pa = some (.tup [.int (i : Int), .int (j : Int)]) := hpa
    show At _ _ _ [some (.ref a), some (.ref l), some (.ref p), some (.ref l5), some (.ref pa)] H5
    refine @at_consR _ _ _ _ _ _ _ (fun σ' H' => σ' = [some (.ref a), some (.ref l), some (.ref p), some (.ref l5), some (.ref pa)] ∧ H5 = H') (@ps_if _ _ _ _ _ _ _ _ (@PW.pt _ _ _ (@pw_or _ _ _ _ _ _ _ (@pt_val _ _ _ (@pe_callB _ _ _ _ _ _ _ _ _ call_isi (by rfl) T.z_isinstance (by decide +kernel) (@pa_cons _ _ _ _ _ (@pe_ix _ _ _ _ _ _ _ ix_tup (pv 4) pe_int (fun _ _ => rfl)) (@pa_cons _ _ _ _ _ (@pe_bltn _ _ (V.ty "bool") (Value.type "bool") _ rfl T.z_bool (by decide +kernel) rfl (by walk_at "u") (by walk_at "u")) pa_nil (by walk_at "u")) (by walk_at "u")) (by walk_at "u") (by walk_at "u") (by walk_at "u") (by walk_at "u")) (by walk_at "u")) (@pw_or1 _ _ _ _ (@pt_val _ _ _ (@pe_callB _ _ _ _ _ _ _ _ _ call_isi (by rfl) T.z_isinstance (by decide +kernel) (@pa_cons _ _ _ _ _ (@pe_ix _ _ _ _ _ _ _ ix_tup (pv 4) pe_int (fun _ _ => rfl)) (@pa_cons _ _ _ _ _ (@pe_bltn _ _ (V.ty "bool") (Value.type "bool") _ rfl T.z_bool (by decide +kernel) rfl (by walk_at "u") (by walk_at "u")) pa_nil (by walk_at "u")) (by walk_at "u")) (by walk_at "u") (by walk_at "u") (by walk_at "u") (by walk_at "u")) (by walk_at "u"))))) pss_at pss_at) ?_ ?_
    · exact ⟨_, rfl, _, _, _, _, rfl, rfl, SqT.of hpa, atI_nat (j := 0) rfl, _, _, _, _, false, rfl, .inl rfl, .int _, T.kb_int_bool, false, rfl, iteF ⟨_, rfl, _, _, _, _, rfl, rfl, SqT.of hpa, atI_nat (j := 1) rfl, _, _, _, _, false, rfl, .inl rfl, .int _, T.kb_int_bool, false, rfl, iteF (at_nil ⟨rfl, rfl⟩)⟩⟩
    rintro σ' H' ⟨rfl, rfl⟩
    have hp5 := (s4.trans s5) _ _ hp
    refine @at_one _ _ _ _ _ _ (@ps_ret _ _ _ _ (@pe_cmpR _ _ _ _ _ _ _ _ (op_eqTs (Nat.lt_of_succ_lt (hu_of hr))) (pv 4) (@pe_tup _ _ _ _ _ (@pa_cons _ _ _ _ _ (@pe_ix _ _ _ _ _ _ _ ix_tup (pv 2) pe_int (fun _ _ => rfl)) (@pa_cons _ _ _ _ _ (@pe_ix _ _ _ _ _ _ _ ix_tup (pv 2) pe_int (fun _ _ => rfl)) pa_nil (by walk_at "u")) (by walk_at "u"))) (nomark _))) ⟨_, rfl, _, rfl, _, _, _, _, rfl, rfl, SqT.of hp5, atI_nat (j := 1) rfl, _, rfl, _, _, _, _, rfl, rfl, SqT.of hp5, atI_nat (j := 2) rfl, by show 2 ≤ sizeLine; decide, fun pb epb => ?_⟩
    refine ⟨pa, pb, _, _, rfl, rfl, SqT.of (Same.upd epb _ _ hpa), SqT.of upd_same, rfl, plain_ints2 (xs := [(i : Int), (j : Int)]) (ys := [(i : Int), (j : Int)]), ?_⟩
    have : decide (([.int (i : Int), .int (j : Int)] : List V) = [.int (i : Int), .int (j : Int)]) = true := by simp
    rw [this]
    exact q _
end
theorem all_mk {l : PySem.W.OpenLaw} {w : World} {K : PySem.W.Frag} {h : Heap} {mg : Str → Option Value} {fa c_TintError c_NoRules c_Pattern c_Word c_One c_Without c_Many c_Any c_Still c_End c_Rule c_Mode c_Rules c_Cursor f_NoRules___init__ f_Pattern_eaten f_Pattern_eats f_Word___init__ f_Word_eaten f_Word_eats f_One___init__ f_One_eaten f_One_eats f_Without___init__ f_Without_eaten f_Without_eats f_Many___init__ f_Many_eaten f_Many_eats f_Any_eaten f_Any_eats f_Still_eaten f_End_eaten f_Rule___init__ f_Mode___init__ f_Rules___init__ f_Cursor___init__ f_Cursor_more f_Cursor_peek f_Cursor_ask f_Cursor_take f_Cursor_take_choice f_Cursor_take_name f_Cursor_take_signs f__wall f_is_name f_read_rules f_mode_numbers f_read_mode f_read_rule f_read_pattern f_read_goal f__law_draw f__law_rule f__law_rows f__law_strange f__law_spoiled f__law_asked f__law_nowhere f_law g_PATTERNS g_DEEDS g_GOING g_FOLDS : Addr} {d_NoRules___init__ : FuncData} {d_Pattern_eaten : FuncData} {d_Pattern_eats : FuncData} {d_Word___init__ : FuncData} {d_Word_eaten : FuncData} {d_Word_eats : FuncData} {d_One___init__ : FuncData} {d_One_eaten : FuncData} {d_One_eats : FuncData} {d_Without___init__ : FuncData} {d_Without_eaten : FuncData} {d_Without_eats : FuncData} {d_Many___init__ : FuncData} {d_Many_eaten : FuncData} {d_Many_eats : FuncData} {d_Any_eaten : FuncData} {d_Any_eats : FuncData} {d_Still_eaten : FuncData} {d_End_eaten : FuncData} {d_Rule___init__ : FuncData} {d_Mode___init__ : FuncData} {d_Rules___init__ : FuncData} {d_Cursor___init__ : FuncData} {d_Cursor_more : FuncData} {d_Cursor_peek : FuncData} {d_Cursor_ask : FuncData} {d_Cursor_take : FuncData} {d_Cursor_take_choice : FuncData} {d_Cursor_take_name : FuncData} {d_Cursor_take_signs : FuncData} {d__wall : FuncData} {d_is_name : FuncData} {d_read_rules : FuncData} {d_mode_numbers : FuncData} {d_read_mode : FuncData} {d_read_rule : FuncData} {d_read_pattern : FuncData} {d_read_goal : FuncData} {d__law_draw : FuncData} {d__law_rule : FuncData} {d__law_rows : FuncData} {d__law_strange : FuncData} {d__law_spoiled : FuncData} {d__law_asked : FuncData} {d__law_nowhere : FuncData} {d_law : FuncData} {u_LETTERS : Tok} {u_LONGEST_NAME : Tok} {u_MOST_MODES : Tok} {u_MOST_RULES : Tok} {u0_PATTERNS u1_PATTERNS u2_PATTERNS u3_PATTERNS u4_PATTERNS u5_PATTERNS u6_PATTERNS : Tok} {od_PATTERNS : Option Addr} {n_PATTERNS : Nat} {sl_PATTERNS : Array (Option Value)} {u0_DEEDS u1_DEEDS u2_DEEDS u3_DEEDS : Tok} {od_DEEDS : Option Addr} {n_DEEDS : Nat} {sl_DEEDS : Array (Option Value)} {u0_GOING u1_GOING : Tok} {od_GOING : Option Addr} {n_GOING : Nat} {sl_GOING : Array (Option Value)} {u0_FOLDS u1_FOLDS : Tok} {od_FOLDS : Option Addr} {n_FOLDS : Nat} {sl_FOLDS : Array (Option Value)} (X : K.In h) (G : h.Ns mainGlobals mg) (hfa : mg "law" = some (.ref fa))
    (a_TintError : PySem.W.nsIn K mainGlobals "TintError" = some (some (.ref c_TintError)))
    (a_NoRules : PySem.W.nsIn K mainGlobals "NoRules" = some (some (.ref c_NoRules)))
    (a_Pattern : PySem.W.nsIn K mainGlobals "Pattern" = some (some (.ref c_Pattern)))
    (a_Word : PySem.W.nsIn K mainGlobals "Word" = some (some (.ref c_Word)))
    (a_One : PySem.W.nsIn K mainGlobals "One" = some (some (.ref c_One)))
    (a_Without : PySem.W.nsIn K mainGlobals "Without" = some (some (.ref c_Without)))
    (a_Many : PySem.W.nsIn K mainGlobals "Many" = some (some (.ref c_Many)))
    (a_Any : PySem.W.nsIn K mainGlobals "Any" = some (some (.ref c_Any)))
    (a_Still : PySem.W.nsIn K mainGlobals "Still" = some (some (.ref c_Still)))
    (a_End : PySem.W.nsIn K mainGlobals "End" = some (some (.ref c_End)))
    (a_Rule : PySem.W.nsIn K mainGlobals "Rule" = some (some (.ref c_Rule)))
    (a_Mode : PySem.W.nsIn K mainGlobals "Mode" = some (some (.ref c_Mode)))
    (a_Rules : PySem.W.nsIn K mainGlobals "Rules" = some (some (.ref c_Rules)))
    (a_Cursor : PySem.W.nsIn K mainGlobals "Cursor" = some (some (.ref c_Cursor)))
    (a_NoRules___init__ : PySem.W.findIn K (.ref c_NoRules) "__init__" = some (some (.ref f_NoRules___init__)))
    (i_NoRules___init__ : PySem.W.isFn K (.ref f_NoRules___init__) = true)
    (F_NoRules___init__ : Fun K "__init__" "NoRules.__init__" s_NoRules___init__ f_NoRules___init__ d_NoRules___init__)
    (a_Pattern_eaten : PySem.W.findIn K (.ref c_Pattern) "eaten" = some (some (.ref f_Pattern_eaten)))
    (i_Pattern_eaten : PySem.W.isFn K (.ref f_Pattern_eaten) = true)
    (F_Pattern_eaten : Fun K "eaten" "Pattern.eaten" s_Pattern_eaten f_Pattern_eaten d_Pattern_eaten)
    (a_Pattern_eats : PySem.W.findIn K (.ref c_Pattern) "eats" = some (some (.ref f_Pattern_eats)))
    (i_Pattern_eats : PySem.W.isFn K (.ref f_Pattern_eats) = true)
    (F_Pattern_eats : Fun K "eats" "Pattern.eats" s_Pattern_eats f_Pattern_eats d_Pattern_eats)
    (a_Word___init__ : PySem.W.findIn K (.ref c_Word) "__init__" = some (some (.ref f_Word___init__)))
    (i_Word___init__ : PySem.W.isFn K (.ref f_Word___init__) = true)
    (F_Word___init__ : Fun K "__init__" "Word.__init__" s_Word___init__ f_Word___init__ d_Word___init__)
    (a_Word_eaten : PySem.W.findIn K (.ref c_Word) "eaten" = some (some (.ref f_Word_eaten)))
    (i_Word_eaten : PySem.W.isFn K (.ref f_Word_eaten) = true)
    (F_Word_eaten : Fun K "eaten" "Word.eaten" s_Word_eaten f_Word_eaten d_Word_eaten)
    (a_Word_eats : PySem.W.findIn K (.ref c_Word) "eats" = some (some (.ref f_Word_eats)))
    (i_Word_eats : PySem.W.isFn K (.ref f_Word_eats) = true)
    (F_Word_eats : Fun K "eats" "Word.eats" s_Word_eats f_Word_eats d_Word_eats)
    (a_One___init__ : PySem.W.findIn K (.ref c_One) "__init__" = some (some (.ref f_One___init__)))
    (i_One___init__ : PySem.W.isFn K (.ref f_One___init__) = true)
    (F_One___init__ : Fun K "__init__" "One.__init__" s_One___init__ f_One___init__ d_One___init__)
    (a_One_eaten : PySem.W.findIn K (.ref c_One) "eaten" = some (some (.ref f_One_eaten)))
    (i_One_eaten : PySem.W.isFn K (.ref f_One_eaten) = true)
    (F_One_eaten : Fun K "eaten" "One.eaten" s_One_eaten f_One_eaten d_One_eaten)
    (a_One_eats : PySem.W.findIn K (.ref c_One) "eats" = some (some (.ref f_One_eats)))
    (i_One_eats : PySem.W.isFn K (.ref f_One_eats) = true)
    (F_One_eats : Fun K "eats" "One.eats" s_One_eats f_One_eats d_One_eats)
    (a_Without___init__ : PySem.W.findIn K (.ref c_Without) "__init__" = some (some (.ref f_Without___init__)))
    (i_Without___init__ : PySem.W.isFn K (.ref f_Without___init__) = true)
    (F_Without___init__ : Fun K "__init__" "Without.__init__" s_Without___init__ f_Without___init__ d_Without___init__)
    (a_Without_eaten : PySem.W.findIn K (.ref c_Without) "eaten" = some (some (.ref f_Without_eaten)))
    (i_Without_eaten : PySem.W.isFn K (.ref f_Without_eaten) = true)
    (F_Without_eaten : Fun K "eaten" "Without.eaten" s_Without_eaten f_Without_eaten d_Without_eaten)
    (a_Without_eats : PySem.W.findIn K (.ref c_Without) "eats" = some (some (.ref f_Without_eats)))
    (i_Without_eats : PySem.W.isFn K (.ref f_Without_eats) = true)
    (F_Without_eats : Fun K "eats" "Without.eats" s_Without_eats f_Without_eats d_Without_eats)
    (a_Many___init__ : PySem.W.findIn K (.ref c_Many) "__init__" = some (some (.ref f_Many___init__)))
    (i_Many___init__ : PySem.W.isFn K (.ref f_Many___init__) = true)
    (F_Many___init__ : Fun K "__init__" "Many.__init__" s_Many___init__ f_Many___init__ d_Many___init__)
    (a_Many_eaten : PySem.W.findIn K (.ref c_Many) "eaten" = some (some (.ref f_Many_eaten)))
    (i_Many_eaten : PySem.W.isFn K (.ref f_Many_eaten) = true)
    (F_Many_eaten : Fun K "eaten" "Many.eaten" s_Many_eaten f_Many_eaten d_Many_eaten)
    (a_Many_eats : PySem.W.findIn K (.ref c_Many) "eats" = some (some (.ref f_Many_eats)))
    (i_Many_eats : PySem.W.isFn K (.ref f_Many_eats) = true)
    (F_Many_eats : Fun K "eats" "Many.eats" s_Many_eats f_Many_eats d_Many_eats)
    (a_Any_eaten : PySem.W.findIn K (.ref c_Any) "eaten" = some (some (.ref f_Any_eaten)))
    (i_Any_eaten : PySem.W.isFn K (.ref f_Any_eaten) = true)
    (F_Any_eaten : Fun K "eaten" "Any.eaten" s_Any_eaten f_Any_eaten d_Any_eaten)
    (a_Any_eats : PySem.W.findIn K (.ref c_Any) "eats" = some (some (.ref f_Any_eats)))
    (i_Any_eats : PySem.W.isFn K (.ref f_Any_eats) = true)
    (F_Any_eats : Fun K "eats" "Any.eats" s_Any_eats f_Any_eats d_Any_eats)
    (a_Still_eaten : PySem.W.findIn K (.ref c_Still) "eaten" = some (some (.ref f_Still_eaten)))
    (i_Still_eaten : PySem.W.isFn K (.ref f_Still_eaten) = true)
    (F_Still_eaten : Fun K "eaten" "Still.eaten" s_Still_eaten f_Still_eaten d_Still_eaten)
    (a_End_eaten : PySem.W.findIn K (.ref c_End) "eaten" = some (some (.ref f_End_eaten)))
    (i_End_eaten : PySem.W.isFn K (.ref f_End_eaten) = true)
    (F_End_eaten : Fun K "eaten" "End.eaten" s_End_eaten f_End_eaten d_End_eaten)
    (a_Rule___init__ : PySem.W.findIn K (.ref c_Rule) "__init__" = some (some (.ref f_Rule___init__)))
    (i_Rule___init__ : PySem.W.isFn K (.ref f_Rule___init__) = true)
    (F_Rule___init__ : Fun K "__init__" "Rule.__init__" s_Rule___init__ f_Rule___init__ d_Rule___init__)
    (a_Mode___init__ : PySem.W.findIn K (.ref c_Mode) "__init__" = some (some (.ref f_Mode___init__)))
    (i_Mode___init__ : PySem.W.isFn K (.ref f_Mode___init__) = true)
    (F_Mode___init__ : Fun K "__init__" "Mode.__init__" s_Mode___init__ f_Mode___init__ d_Mode___init__)
    (a_Rules___init__ : PySem.W.findIn K (.ref c_Rules) "__init__" = some (some (.ref f_Rules___init__)))
    (i_Rules___init__ : PySem.W.isFn K (.ref f_Rules___init__) = true)
    (F_Rules___init__ : Fun K "__init__" "Rules.__init__" s_Rules___init__ f_Rules___init__ d_Rules___init__)
    (a_Cursor___init__ : PySem.W.findIn K (.ref c_Cursor) "__init__" = some (some (.ref f_Cursor___init__)))
    (i_Cursor___init__ : PySem.W.isFn K (.ref f_Cursor___init__) = true)
    (F_Cursor___init__ : Fun K "__init__" "Cursor.__init__" s_Cursor___init__ f_Cursor___init__ d_Cursor___init__)
    (a_Cursor_more : PySem.W.findIn K (.ref c_Cursor) "more" = some (some (.ref f_Cursor_more)))
    (i_Cursor_more : PySem.W.isFn K (.ref f_Cursor_more) = true)
    (F_Cursor_more : Fun K "more" "Cursor.more" s_Cursor_more f_Cursor_more d_Cursor_more)
    (a_Cursor_peek : PySem.W.findIn K (.ref c_Cursor) "peek" = some (some (.ref f_Cursor_peek)))
    (i_Cursor_peek : PySem.W.isFn K (.ref f_Cursor_peek) = true)
    (F_Cursor_peek : Fun K "peek" "Cursor.peek" s_Cursor_peek f_Cursor_peek d_Cursor_peek)
    (a_Cursor_ask : PySem.W.findIn K (.ref c_Cursor) "ask" = some (some (.ref f_Cursor_ask)))
    (i_Cursor_ask : PySem.W.isFn K (.ref f_Cursor_ask) = true)
    (F_Cursor_ask : Fun K "ask" "Cursor.ask" s_Cursor_ask f_Cursor_ask d_Cursor_ask)
    (a_Cursor_take : PySem.W.findIn K (.ref c_Cursor) "take" = some (some (.ref f_Cursor_take)))
    (i_Cursor_take : PySem.W.isFn K (.ref f_Cursor_take) = true)
    (F_Cursor_take : Fun K "take" "Cursor.take" s_Cursor_take f_Cursor_take d_Cursor_take)
    (a_Cursor_take_choice : PySem.W.findIn K (.ref c_Cursor) "take_choice" = some (some (.ref f_Cursor_take_choice)))
    (i_Cursor_take_choice : PySem.W.isFn K (.ref f_Cursor_take_choice) = true)
    (F_Cursor_take_choice : Fun K "take_choice" "Cursor.take_choice" s_Cursor_take_choice f_Cursor_take_choice d_Cursor_take_choice)
    (a_Cursor_take_name : PySem.W.findIn K (.ref c_Cursor) "take_name" = some (some (.ref f_Cursor_take_name)))
    (i_Cursor_take_name : PySem.W.isFn K (.ref f_Cursor_take_name) = true)
    (F_Cursor_take_name : Fun K "take_name" "Cursor.take_name" s_Cursor_take_name f_Cursor_take_name d_Cursor_take_name)
    (a_Cursor_take_signs : PySem.W.findIn K (.ref c_Cursor) "take_signs" = some (some (.ref f_Cursor_take_signs)))
    (i_Cursor_take_signs : PySem.W.isFn K (.ref f_Cursor_take_signs) = true)
    (F_Cursor_take_signs : Fun K "take_signs" "Cursor.take_signs" s_Cursor_take_signs f_Cursor_take_signs d_Cursor_take_signs)
    (a__wall : PySem.W.nsIn K mainGlobals "_wall" = some (some (.ref f__wall)))
    (F__wall : Fun K "_wall" "_wall" s__wall f__wall d__wall)
    (a_is_name : PySem.W.nsIn K mainGlobals "is_name" = some (some (.ref f_is_name)))
    (F_is_name : Fun K "is_name" "is_name" s_is_name f_is_name d_is_name)
    (a_read_rules : PySem.W.nsIn K mainGlobals "read_rules" = some (some (.ref f_read_rules)))
    (F_read_rules : Fun K "read_rules" "read_rules" s_read_rules f_read_rules d_read_rules)
    (a_mode_numbers : PySem.W.nsIn K mainGlobals "mode_numbers" = some (some (.ref f_mode_numbers)))
    (F_mode_numbers : Fun K "mode_numbers" "mode_numbers" s_mode_numbers f_mode_numbers d_mode_numbers)
    (a_read_mode : PySem.W.nsIn K mainGlobals "read_mode" = some (some (.ref f_read_mode)))
    (F_read_mode : Fun K "read_mode" "read_mode" s_read_mode f_read_mode d_read_mode)
    (a_read_rule : PySem.W.nsIn K mainGlobals "read_rule" = some (some (.ref f_read_rule)))
    (F_read_rule : Fun K "read_rule" "read_rule" s_read_rule f_read_rule d_read_rule)
    (a_read_pattern : PySem.W.nsIn K mainGlobals "read_pattern" = some (some (.ref f_read_pattern)))
    (F_read_pattern : Fun K "read_pattern" "read_pattern" s_read_pattern f_read_pattern d_read_pattern)
    (a_read_goal : PySem.W.nsIn K mainGlobals "read_goal" = some (some (.ref f_read_goal)))
    (F_read_goal : Fun K "read_goal" "read_goal" s_read_goal f_read_goal d_read_goal)
    (a__law_draw : PySem.W.nsIn K mainGlobals "_law_draw" = some (some (.ref f__law_draw)))
    (F__law_draw : Fun K "_law_draw" "_law_draw" s__law_draw f__law_draw d__law_draw)
    (a__law_rule : PySem.W.nsIn K mainGlobals "_law_rule" = some (some (.ref f__law_rule)))
    (F__law_rule : Fun K "_law_rule" "_law_rule" s__law_rule f__law_rule d__law_rule)
    (a__law_rows : PySem.W.nsIn K mainGlobals "_law_rows" = some (some (.ref f__law_rows)))
    (F__law_rows : Fun K "_law_rows" "_law_rows" s__law_rows f__law_rows d__law_rows)
    (a__law_strange : PySem.W.nsIn K mainGlobals "_law_strange" = some (some (.ref f__law_strange)))
    (F__law_strange : Fun K "_law_strange" "_law_strange" s__law_strange f__law_strange d__law_strange)
    (a__law_spoiled : PySem.W.nsIn K mainGlobals "_law_spoiled" = some (some (.ref f__law_spoiled)))
    (F__law_spoiled : Fun K "_law_spoiled" "_law_spoiled" s__law_spoiled f__law_spoiled d__law_spoiled)
    (a__law_asked : PySem.W.nsIn K mainGlobals "_law_asked" = some (some (.ref f__law_asked)))
    (F__law_asked : Fun K "_law_asked" "_law_asked" s__law_asked f__law_asked d__law_asked)
    (a__law_nowhere : PySem.W.nsIn K mainGlobals "_law_nowhere" = some (some (.ref f__law_nowhere)))
    (F__law_nowhere : Fun K "_law_nowhere" "_law_nowhere" s__law_nowhere f__law_nowhere d__law_nowhere)
    (a_law : PySem.W.nsIn K mainGlobals "law" = some (some (.ref f_law)))
    (F_law : Fun K "law" "law" s_law f_law d_law)
    (pg_Word : PySem.W.plainGet K c_Word Str.empty = true)
    (hd_Word : PySem.W.hasDictIn K c_Word = true)
    (po_Word : PySem.W.plainOver K c_Word = true)
    (sa_Word : PySem.W.findIn K (.ref c_Word) "__setattr__" = some (some (.builtin "object.__setattr__")))
    (mk_Word : PySem.W.makesIn K c_Word = true)
    (kc_Word : PySem.W.keepIn K (.ref c_Word) = true)
    (n_Word_wanted : PySem.W.findIn K (.ref c_Word) "wanted" = some none)
    (pg_One : PySem.W.plainGet K c_One Str.empty = true)
    (hd_One : PySem.W.hasDictIn K c_One = true)
    (po_One : PySem.W.plainOver K c_One = true)
    (sa_One : PySem.W.findIn K (.ref c_One) "__setattr__" = some (some (.builtin "object.__setattr__")))
    (mk_One : PySem.W.makesIn K c_One = true)
    (kc_One : PySem.W.keepIn K (.ref c_One) = true)
    (n_One_signs : PySem.W.findIn K (.ref c_One) "signs" = some none)
    (pg_Without : PySem.W.plainGet K c_Without Str.empty = true)
    (hd_Without : PySem.W.hasDictIn K c_Without = true)
    (po_Without : PySem.W.plainOver K c_Without = true)
    (sa_Without : PySem.W.findIn K (.ref c_Without) "__setattr__" = some (some (.builtin "object.__setattr__")))
    (mk_Without : PySem.W.makesIn K c_Without = true)
    (kc_Without : PySem.W.keepIn K (.ref c_Without) = true)
    (n_Without_signs : PySem.W.findIn K (.ref c_Without) "signs" = some none)
    (pg_Many : PySem.W.plainGet K c_Many Str.empty = true)
    (hd_Many : PySem.W.hasDictIn K c_Many = true)
    (po_Many : PySem.W.plainOver K c_Many = true)
    (sa_Many : PySem.W.findIn K (.ref c_Many) "__setattr__" = some (some (.builtin "object.__setattr__")))
    (mk_Many : PySem.W.makesIn K c_Many = true)
    (kc_Many : PySem.W.keepIn K (.ref c_Many) = true)
    (n_Many_signs : PySem.W.findIn K (.ref c_Many) "signs" = some none)
    (pg_Any : PySem.W.plainGet K c_Any Str.empty = true)
    (hd_Any : PySem.W.hasDictIn K c_Any = true)
    (po_Any : PySem.W.plainOver K c_Any = true)
    (sa_Any : PySem.W.findIn K (.ref c_Any) "__setattr__" = some (some (.builtin "object.__setattr__")))
    (mk_Any : PySem.W.makesIn K c_Any = true)
    (kc_Any : PySem.W.keepIn K (.ref c_Any) = true)
    (oi_Any : PySem.W.findIn K (.ref c_Any) "__init__" = some (some (.builtin "object.__init__")))
    (pg_Still : PySem.W.plainGet K c_Still Str.empty = true)
    (hd_Still : PySem.W.hasDictIn K c_Still = true)
    (po_Still : PySem.W.plainOver K c_Still = true)
    (sa_Still : PySem.W.findIn K (.ref c_Still) "__setattr__" = some (some (.builtin "object.__setattr__")))
    (mk_Still : PySem.W.makesIn K c_Still = true)
    (kc_Still : PySem.W.keepIn K (.ref c_Still) = true)
    (oi_Still : PySem.W.findIn K (.ref c_Still) "__init__" = some (some (.builtin "object.__init__")))
    (h_Still_eats : PySem.W.findIn K (.ref c_Still) "eats" = some (some (.ref f_Pattern_eats)))
    (pg_End : PySem.W.plainGet K c_End Str.empty = true)
    (hd_End : PySem.W.hasDictIn K c_End = true)
    (po_End : PySem.W.plainOver K c_End = true)
    (sa_End : PySem.W.findIn K (.ref c_End) "__setattr__" = some (some (.builtin "object.__setattr__")))
    (mk_End : PySem.W.makesIn K c_End = true)
    (kc_End : PySem.W.keepIn K (.ref c_End) = true)
    (oi_End : PySem.W.findIn K (.ref c_End) "__init__" = some (some (.builtin "object.__init__")))
    (h_End_eats : PySem.W.findIn K (.ref c_End) "eats" = some (some (.ref f_Pattern_eats)))
    (pg_Rule : PySem.W.plainGet K c_Rule Str.empty = true)
    (hd_Rule : PySem.W.hasDictIn K c_Rule = true)
    (po_Rule : PySem.W.plainOver K c_Rule = true)
    (sa_Rule : PySem.W.findIn K (.ref c_Rule) "__setattr__" = some (some (.builtin "object.__setattr__")))
    (mk_Rule : PySem.W.makesIn K c_Rule = true)
    (kc_Rule : PySem.W.keepIn K (.ref c_Rule) = true)
    (n_Rule_pattern : PySem.W.findIn K (.ref c_Rule) "pattern" = some none)
    (n_Rule_colour : PySem.W.findIn K (.ref c_Rule) "colour" = some none)
    (n_Rule_deed : PySem.W.findIn K (.ref c_Rule) "deed" = some none)
    (n_Rule_goal : PySem.W.findIn K (.ref c_Rule) "goal" = some none)
    (n_Rule_fold : PySem.W.findIn K (.ref c_Rule) "fold" = some none)
    (pg_Mode : PySem.W.plainGet K c_Mode Str.empty = true)
    (hd_Mode : PySem.W.hasDictIn K c_Mode = true)
    (po_Mode : PySem.W.plainOver K c_Mode = true)
    (sa_Mode : PySem.W.findIn K (.ref c_Mode) "__setattr__" = some (some (.builtin "object.__setattr__")))
    (mk_Mode : PySem.W.makesIn K c_Mode = true)
    (kc_Mode : PySem.W.keepIn K (.ref c_Mode) = true)
    (n_Mode_name : PySem.W.findIn K (.ref c_Mode) "name" = some none)
    (n_Mode_colour : PySem.W.findIn K (.ref c_Mode) "colour" = some none)
    (n_Mode_rules : PySem.W.findIn K (.ref c_Mode) "rules" = some none)
    (pg_Rules : PySem.W.plainGet K c_Rules Str.empty = true)
    (hd_Rules : PySem.W.hasDictIn K c_Rules = true)
    (po_Rules : PySem.W.plainOver K c_Rules = true)
    (sa_Rules : PySem.W.findIn K (.ref c_Rules) "__setattr__" = some (some (.builtin "object.__setattr__")))
    (mk_Rules : PySem.W.makesIn K c_Rules = true)
    (kc_Rules : PySem.W.keepIn K (.ref c_Rules) = true)
    (n_Rules_modes : PySem.W.findIn K (.ref c_Rules) "modes" = some none)
    (pg_Cursor : PySem.W.plainGet K c_Cursor Str.empty = true)
    (hd_Cursor : PySem.W.hasDictIn K c_Cursor = true)
    (po_Cursor : PySem.W.plainOver K c_Cursor = true)
    (sa_Cursor : PySem.W.findIn K (.ref c_Cursor) "__setattr__" = some (some (.builtin "object.__setattr__")))
    (mk_Cursor : PySem.W.makesIn K c_Cursor = true)
    (kc_Cursor : PySem.W.keepIn K (.ref c_Cursor) = true)
    (n_Cursor_row : PySem.W.findIn K (.ref c_Cursor) "row" = some none)
    (n_Cursor_words : PySem.W.findIn K (.ref c_Cursor) "words" = some none)
    (n_Cursor_at : PySem.W.findIn K (.ref c_Cursor) "at" = some none)
    (xcg : PySem.W.specialIn K (.builtin "object.__class__") "__get__" = some (some (.builtin "getset_descriptor.__get__")))
    (xct : PySem.W.takesIn K (.builtin "object.__class__") = some true)
    (xa_TintError : excC K c_TintError = true)
    (xg_TintError : PySem.W.findIn K (.ref c_TintError) "__getattribute__" = some (some (.builtin "BaseException.__getattribute__")))
    (xh_TintError : PySem.W.findIn K (.ref c_TintError) "__getattr__" = some none)
    (xb_TintError : PySem.W.mroIn K c_TintError (.type "BaseException") = some true)
    (xs_TintError : PySem.W.findIn K (.ref c_TintError) "__setattr__" = some (some (.builtin "object.__setattr__")))
    (xo_TintError : PySem.W.mroIn K c_TintError (.type "object") = some true)
    (xd_TintError : PySem.W.hasDictIn K c_TintError = true)
    (xc_TintError : PySem.W.findIn K (.ref c_TintError) "__class__" = some (some (.builtin "object.__class__")))
    (xn_TintError : PySem.W.excIn K c_TintError VE "ValueError.__new__" = true)
    (xa_NoRules : excC K c_NoRules = true)
    (xg_NoRules : PySem.W.findIn K (.ref c_NoRules) "__getattribute__" = some (some (.builtin "BaseException.__getattribute__")))
    (xh_NoRules : PySem.W.findIn K (.ref c_NoRules) "__getattr__" = some none)
    (xb_NoRules : PySem.W.mroIn K c_NoRules (.type "BaseException") = some true)
    (xs_NoRules : PySem.W.findIn K (.ref c_NoRules) "__setattr__" = some (some (.builtin "object.__setattr__")))
    (xo_NoRules : PySem.W.mroIn K c_NoRules (.type "object") = some true)
    (xd_NoRules : PySem.W.hasDictIn K c_NoRules = true)
    (xc_NoRules : PySem.W.findIn K (.ref c_NoRules) "__class__" = some (some (.builtin "object.__class__")))
    (xk_NoRules : PySem.W.keepIn K (.ref c_NoRules) = true)
    (n_NoRules_row : PySem.W.findIn K (.ref c_NoRules) "row" = some none)
    (n_NoRules_word : PySem.W.findIn K (.ref c_NoRules) "word" = some none)
    (tk_NoRules_TintError : PySem.W.mroIn K c_NoRules (.ref c_TintError) = some true)
    (kx_NoRules_NoRules : PySem.W.kitOne K (.ref c_NoRules) (.ref c_NoRules) = some true)
    (kb_int_bool : PySem.W.kitOne K (.type "int") (.type "bool") = some false)
    (v_LETTERS : PySem.W.nsIn K mainGlobals "LETTERS" = some (some (.str "abcdefghijklmnopqrstuvwxyz" u_LETTERS)))
    (v_LONGEST_NAME : PySem.W.nsIn K mainGlobals "LONGEST_NAME" = some (some (.int 8 u_LONGEST_NAME)))
    (v_MOST_MODES : PySem.W.nsIn K mainGlobals "MOST_MODES" = some (some (.int 12 u_MOST_MODES)))
    (v_MOST_RULES : PySem.W.nsIn K mainGlobals "MOST_RULES" = some (some (.int 12 u_MOST_RULES)))
    (v_PATTERNS : PySem.W.nsIn K mainGlobals "PATTERNS" = some (some (.ref g_PATTERNS)))
    (o_PATTERNS : K.lookup g_PATTERNS = some ⟨.type "tuple", od_PATTERNS, .seq #[.str "word" u0_PATTERNS, .str "one" u1_PATTERNS, .str "none" u2_PATTERNS, .str "many" u3_PATTERNS, .str "any" u4_PATTERNS, .str "still" u5_PATTERNS, .str "end" u6_PATTERNS] n_PATTERNS, sl_PATTERNS⟩)
    (v_DEEDS : PySem.W.nsIn K mainGlobals "DEEDS" = some (some (.ref g_DEEDS)))
    (o_DEEDS : K.lookup g_DEEDS = some ⟨.type "tuple", od_DEEDS, .seq #[.str "stay" u0_DEEDS, .str "push" u1_DEEDS, .str "pop" u2_DEEDS, .str "into" u3_DEEDS] n_DEEDS, sl_DEEDS⟩)
    (v_GOING : PySem.W.nsIn K mainGlobals "GOING" = some (some (.ref g_GOING)))
    (o_GOING : K.lookup g_GOING = some ⟨.type "tuple", od_GOING, .seq #[.str "push" u0_GOING, .str "into" u1_GOING] n_GOING, sl_GOING⟩)
    (v_FOLDS : PySem.W.nsIn K mainGlobals "FOLDS" = some (some (.ref g_FOLDS)))
    (o_FOLDS : K.lookup g_FOLDS = some ⟨.type "tuple", od_FOLDS, .seq #[.str "open" u0_FOLDS, .str "close" u1_FOLDS] n_FOLDS, sl_FOLDS⟩)
    (z_all : PySem.W.nsIn K mainGlobals "all" = some none)
    (z_bool : PySem.W.nsIn K mainGlobals "bool" = some none)
    (z_enumerate : PySem.W.nsIn K mainGlobals "enumerate" = some none)
    (z_isinstance : PySem.W.nsIn K mainGlobals "isinstance" = some none)
    (z_len : PySem.W.nsIn K mainGlobals "len" = some none)
    (z_list : PySem.W.nsIn K mainGlobals "list" = some none)
    (z_max : PySem.W.nsIn K mainGlobals "max" = some none)
    (z_range : PySem.W.nsIn K mainGlobals "range" = some none)
    : ∃ fd : FuncData, (∀ (s : Shared) (v : Value), BindsTo s fd ⟨[v], []⟩ [("_law_script", v)]) ∧ ∀ base : Heap, K.In base → base.Ns mainGlobals mg → FnOk l.prog w K mg base CX0 11 fa fd ["_law_script"] (spLaw K) := by
  have e := hfa.symm.trans (PySem.W.mg_of X G a_law)
  cases e
  let t : Adr := ⟨c_TintError, c_NoRules, c_Pattern, c_Word, c_One, c_Without, c_Many, c_Any, c_Still, c_End, c_Rule, c_Mode, c_Rules, c_Cursor, f__wall, d__wall, f_NoRules___init__, d_NoRules___init__, f_Pattern_eaten, d_Pattern_eaten, f_Pattern_eats, d_Pattern_eats, f_Word___init__, d_Word___init__, f_Word_eaten, d_Word_eaten, f_Word_eats, d_Word_eats, f_One___init__, d_One___init__, f_One_eaten, d_One_eaten, f_One_eats, d_One_eats, f_Without___init__, d_Without___init__, f_Without_eaten, d_Without_eaten, f_Without_eats, d_Without_eats, f_Many___init__, d_Many___init__, f_Many_eaten, d_Many_eaten, f_Many_eats, d_Many_eats, f_Any_eaten, d_Any_eaten, f_Any_eats, d_Any_eats, f_Still_eaten, d_Still_eaten, f_End_eaten, d_End_eaten, f_is_name, d_is_name, f_Rule___init__, d_Rule___init__, f_Mode___init__, d_Mode___init__, f_Rules___init__, d_Rules___init__, f_Cursor___init__, d_Cursor___init__, f_Cursor_more, d_Cursor_more, f_Cursor_peek, d_Cursor_peek, f_Cursor_ask, d_Cursor_ask, f_Cursor_take, d_Cursor_take, f_Cursor_take_choice, d_Cursor_take_choice, f_Cursor_take_name, d_Cursor_take_name, f_Cursor_take_signs, d_Cursor_take_signs, f_read_rules, d_read_rules, f_mode_numbers, d_mode_numbers, f_read_mode, d_read_mode, f_read_rule, d_read_rule, f_read_pattern, d_read_pattern, f_read_goal, d_read_goal, f__law_draw, d__law_draw, f__law_rule, d__law_rule, f__law_rows, d__law_rows, f__law_strange, d__law_strange, f__law_spoiled, d__law_spoiled, f__law_asked, d__law_asked, f__law_nowhere, d__law_nowhere, g_PATTERNS, g_DEEDS, g_GOING, g_FOLDS⟩
  have T : Txt K mg t := ⟨PySem.W.mg_of X G a_TintError, PySem.W.mg_of X G a_NoRules, PySem.W.mg_of X G a_Pattern, PySem.W.mg_of X G a_Word, PySem.W.mg_of X G a_One, PySem.W.mg_of X G a_Without, PySem.W.mg_of X G a_Many, PySem.W.mg_of X G a_Any, PySem.W.mg_of X G a_Still, PySem.W.mg_of X G a_End, PySem.W.mg_of X G a_Rule, PySem.W.mg_of X G a_Mode, PySem.W.mg_of X G a_Rules, PySem.W.mg_of X G a_Cursor, F_NoRules___init__, F_Pattern_eaten, F_Pattern_eats, F_Word___init__, F_Word_eaten, F_Word_eats, F_One___init__, F_One_eaten, F_One_eats, F_Without___init__, F_Without_eaten, F_Without_eats, F_Many___init__, F_Many_eaten, F_Many_eats, F_Any_eaten, F_Any_eats, F_Still_eaten, F_End_eaten, F_Rule___init__, F_Mode___init__, F_Rules___init__, F_Cursor___init__, F_Cursor_more, F_Cursor_peek, F_Cursor_ask, F_Cursor_take, F_Cursor_take_choice, F_Cursor_take_name, F_Cursor_take_signs, F__wall, PySem.W.mg_of X G a__wall, F_is_name, PySem.W.mg_of X G a_is_name, F_read_rules, PySem.W.mg_of X G a_read_rules, F_mode_numbers, PySem.W.mg_of X G a_mode_numbers, F_read_mode, PySem.W.mg_of X G a_read_mode, F_read_rule, PySem.W.mg_of X G a_read_rule, F_read_pattern, PySem.W.mg_of X G a_read_pattern, F_read_goal, PySem.W.mg_of X G a_read_goal, F__law_draw, PySem.W.mg_of X G a__law_draw, F__law_rule, PySem.W.mg_of X G a__law_rule, F__law_rows, PySem.W.mg_of X G a__law_rows, F__law_strange, PySem.W.mg_of X G a__law_strange, F__law_spoiled, PySem.W.mg_of X G a__law_spoiled, F__law_asked, PySem.W.mg_of X G a__law_asked, F__law_nowhere, PySem.W.mg_of X G a__law_nowhere, ⟨pg_Word, hd_Word, po_Word, sa_Word⟩, ⟨mk_Word, a_Word___init__, i_Word___init__, kc_Word⟩, n_Word_wanted, ⟨a_Word_eaten, i_Word_eaten, F_Word_eaten.kp⟩, ⟨a_Word_eats, i_Word_eats, F_Word_eats.kp⟩, ⟨pg_One, hd_One, po_One, sa_One⟩, ⟨mk_One, a_One___init__, i_One___init__, kc_One⟩, n_One_signs, ⟨a_One_eaten, i_One_eaten, F_One_eaten.kp⟩, ⟨a_One_eats, i_One_eats, F_One_eats.kp⟩, ⟨pg_Without, hd_Without, po_Without, sa_Without⟩, ⟨mk_Without, a_Without___init__, i_Without___init__, kc_Without⟩, n_Without_signs, ⟨a_Without_eaten, i_Without_eaten, F_Without_eaten.kp⟩, ⟨a_Without_eats, i_Without_eats, F_Without_eats.kp⟩, ⟨pg_Many, hd_Many, po_Many, sa_Many⟩, ⟨mk_Many, a_Many___init__, i_Many___init__, kc_Many⟩, n_Many_signs, ⟨a_Many_eaten, i_Many_eaten, F_Many_eaten.kp⟩, ⟨a_Many_eats, i_Many_eats, F_Many_eats.kp⟩, ⟨pg_Any, hd_Any, po_Any, sa_Any⟩, ⟨mk_Any, oi_Any, kc_Any⟩, ⟨a_Any_eaten, i_Any_eaten, F_Any_eaten.kp⟩, ⟨a_Any_eats, i_Any_eats, F_Any_eats.kp⟩, ⟨pg_Still, hd_Still, po_Still, sa_Still⟩, ⟨mk_Still, oi_Still, kc_Still⟩, ⟨a_Still_eaten, i_Still_eaten, F_Still_eaten.kp⟩, ⟨h_Still_eats, i_Pattern_eats, F_Pattern_eats.kp⟩, ⟨pg_End, hd_End, po_End, sa_End⟩, ⟨mk_End, oi_End, kc_End⟩, ⟨a_End_eaten, i_End_eaten, F_End_eaten.kp⟩, ⟨h_End_eats, i_Pattern_eats, F_Pattern_eats.kp⟩, ⟨pg_Rule, hd_Rule, po_Rule, sa_Rule⟩, ⟨mk_Rule, a_Rule___init__, i_Rule___init__, kc_Rule⟩, n_Rule_pattern, n_Rule_colour, n_Rule_deed, n_Rule_goal, n_Rule_fold, ⟨pg_Mode, hd_Mode, po_Mode, sa_Mode⟩, ⟨mk_Mode, a_Mode___init__, i_Mode___init__, kc_Mode⟩, n_Mode_name, n_Mode_colour, n_Mode_rules, ⟨pg_Rules, hd_Rules, po_Rules, sa_Rules⟩, ⟨mk_Rules, a_Rules___init__, i_Rules___init__, kc_Rules⟩, n_Rules_modes, ⟨pg_Cursor, hd_Cursor, po_Cursor, sa_Cursor⟩, ⟨mk_Cursor, a_Cursor___init__, i_Cursor___init__, kc_Cursor⟩, n_Cursor_row, n_Cursor_words, n_Cursor_at, ⟨a_Cursor_more, i_Cursor_more, F_Cursor_more.kp⟩, ⟨a_Cursor_peek, i_Cursor_peek, F_Cursor_peek.kp⟩, ⟨a_Cursor_ask, i_Cursor_ask, F_Cursor_ask.kp⟩, ⟨a_Cursor_take, i_Cursor_take, F_Cursor_take.kp⟩, ⟨a_Cursor_take_choice, i_Cursor_take_choice, F_Cursor_take_choice.kp⟩, ⟨a_Cursor_take_name, i_Cursor_take_name, F_Cursor_take_name.kp⟩, ⟨a_Cursor_take_signs, i_Cursor_take_signs, F_Cursor_take_signs.kp⟩, { at_ := xa_TintError, ge := ⟨xg_TintError, xh_TintError, xb_TintError⟩, sa := xs_TintError, ob := xo_TintError, hd := xd_TintError, ca := xc_TintError, cg := xcg, ct := xct }, xn_TintError, { at_ := xa_NoRules, ge := ⟨xg_NoRules, xh_NoRules, xb_NoRules⟩, sa := xs_NoRules, ob := xo_NoRules, hd := xd_NoRules, ca := xc_NoRules, cg := xcg, ct := xct }, ⟨a_NoRules___init__, i_NoRules___init__, xk_NoRules⟩, n_NoRules_row, n_NoRules_word, tk_NoRules_TintError, kx_NoRules_NoRules, kb_int_bool, ⟨_, PySem.W.mg_of X G v_LETTERS, ⟨_, rfl⟩⟩, ⟨_, PySem.W.mg_of X G v_LONGEST_NAME, ⟨_, rfl⟩⟩, ⟨_, PySem.W.mg_of X G v_MOST_MODES, ⟨_, rfl⟩⟩, ⟨_, PySem.W.mg_of X G v_MOST_RULES, ⟨_, rfl⟩⟩, PySem.W.mg_of X G v_PATTERNS, fun H => .inr ⟨_, _, _, o_PATTERNS, rfl, rfl, by show 7 ≤ sizeLine; decide, .cons ⟨_, rfl⟩ (.cons ⟨_, rfl⟩ (.cons ⟨_, rfl⟩ (.cons ⟨_, rfl⟩ (.cons ⟨_, rfl⟩ (.cons ⟨_, rfl⟩ (.cons ⟨_, rfl⟩ (.nil)))))))⟩, PySem.W.mg_of X G v_DEEDS, fun H => .inr ⟨_, _, _, o_DEEDS, rfl, rfl, by show 4 ≤ sizeLine; decide, .cons ⟨_, rfl⟩ (.cons ⟨_, rfl⟩ (.cons ⟨_, rfl⟩ (.cons ⟨_, rfl⟩ (.nil))))⟩, PySem.W.mg_of X G v_GOING, fun H => .inr ⟨_, _, _, o_GOING, rfl, rfl, by show 2 ≤ sizeLine; decide, .cons ⟨_, rfl⟩ (.cons ⟨_, rfl⟩ (.nil))⟩, PySem.W.mg_of X G v_FOLDS, fun H => .inr ⟨_, _, _, o_FOLDS, rfl, rfl, by show 2 ≤ sizeLine; decide, .cons ⟨_, rfl⟩ (.cons ⟨_, rfl⟩ (.nil))⟩, PySem.W.mg_none_of X G z_all, PySem.W.mg_none_of X G z_bool, PySem.W.mg_none_of X G z_enumerate, PySem.W.mg_none_of X G z_isinstance, PySem.W.mg_none_of X G z_len, PySem.W.mg_none_of X G z_list, PySem.W.mg_none_of X G z_max, PySem.W.mg_none_of X G z_range⟩
  exact ⟨d_law, (by obtain ⟨_, _, _, _, _, _, _, _, _, e, _⟩ := F_law.ex; rw [e]; exact fun s v => .of_eq rfl), fun base _ _ => ok_law F_law T⟩
theorem walk {l : PySem.W.OpenLaw} {q : Program} {loose : List Str} {XP : (Str → Option Value) → Heap → Prop} {YP : World → Heap → Prop} {d : DefRec} {K : Params → PySem.W.Frag} (hn : l.most = some 63) (hdf : d.params.defaults = [])
    (hY : ∀ (w : World) (h : Heap), YP w h → (K w.params).In h)
    (F : ∀ (w : World) (mg : Str → Option Value) (fa : Addr) (h : Heap), (K w.params).In h → h.Ns mainGlobals mg → mg d.name = some (.ref fa) →
      ∃ fd : FuncData, (∀ (s : Shared) (u : Value), BindsTo s fd ⟨[u], []⟩ [("_law_script", u)]) ∧ ∀ base : Heap, (K w.params).In base → base.Ns mainGlobals mg → FnOk l.prog w (K w.params) mg base CX0 11 fa fd ["_law_script"] (spLaw (K w.params))) :
    PySem.W.WalkO q loose XP YP l.row.toRowW d [] (fun f vs => PySem.call f vs) :=
  L2.walk_of (n := 63) (k := 11) (x := "_law_script") (CX := fun _ => CX0) (sp := fun w => spLaw (K w.params)) hn (by decide) hdf ⟨rfl, by decide, by decide⟩ hY F (fun _ _ a ns hl _ hS => ⟨a, ns, rfl, hS, hl, fun _ => rfl⟩) fun _ _ _ _ _ z => z
end K03
open PySem PySem.W PyProof.Rows
set_option maxRecDepth 100000 in
set_option maxHeartbeats 0 in
theorem PySem.Challenge.cw_tintrow_k03_rules_refused_holds : PySem.Challenge.rw_tintrow_k03_rules_refused.Holds := by
  w_on; o_law; k_head; (case hw => w_witness2)
  k_fill
  refine K03.walk (l := PySem.Challenge.rw_tintrow_k03_rules_refused) rfl rfl (fun w h Y => PySem.W.kIn_of Y) ?F
  case F =>
    intro w mg fa h KX G hmg
    refine' K03.all_mk KX G hmg ?a_TintError ?a_NoRules ?a_Pattern ?a_Word ?a_One ?a_Without ?a_Many ?a_Any ?a_Still ?a_End ?a_Rule ?a_Mode ?a_Rules ?a_Cursor ?a_NoRules___init__ ?i_NoRules___init__ ?F_NoRules___init__ ?a_Pattern_eaten ?i_Pattern_eaten ?F_Pattern_eaten ?a_Pattern_eats ?i_Pattern_eats ?F_Pattern_eats ?a_Word___init__ ?i_Word___init__ ?F_Word___init__ ?a_Word_eaten ?i_Word_eaten ?F_Word_eaten ?a_Word_eats ?i_Word_eats ?F_Word_eats ?a_One___init__ ?i_One___init__ ?F_One___init__ ?a_One_eaten ?i_One_eaten ?F_One_eaten ?a_One_eats ?i_One_eats ?F_One_eats ?a_Without___init__ ?i_Without___init__ ?F_Without___init__ ?a_Without_eaten ?i_Without_eaten ?F_Without_eaten ?a_Without_eats ?i_Without_eats ?F_Without_eats ?a_Many___init__ ?i_Many___init__ ?F_Many___init__ ?a_Many_eaten ?i_Many_eaten ?F_Many_eaten ?a_Many_eats ?i_Many_eats ?F_Many_eats ?a_Any_eaten ?i_Any_eaten ?F_Any_eaten ?a_Any_eats ?i_Any_eats ?F_Any_eats ?a_Still_eaten ?i_Still_eaten ?F_Still_eaten ?a_End_eaten ?i_End_eaten ?F_End_eaten ?a_Rule___init__ ?i_Rule___init__ ?F_Rule___init__ ?a_Mode___init__ ?i_Mode___init__ ?F_Mode___init__ ?a_Rules___init__ ?i_Rules___init__ ?F_Rules___init__ ?a_Cursor___init__ ?i_Cursor___init__ ?F_Cursor___init__ ?a_Cursor_more ?i_Cursor_more ?F_Cursor_more ?a_Cursor_peek ?i_Cursor_peek ?F_Cursor_peek ?a_Cursor_ask ?i_Cursor_ask ?F_Cursor_ask ?a_Cursor_take ?i_Cursor_take ?F_Cursor_take ?a_Cursor_take_choice ?i_Cursor_take_choice ?F_Cursor_take_choice ?a_Cursor_take_name ?i_Cursor_take_name ?F_Cursor_take_name ?a_Cursor_take_signs ?i_Cursor_take_signs ?F_Cursor_take_signs ?a__wall ?F__wall ?a_is_name ?F_is_name ?a_read_rules ?F_read_rules ?a_mode_numbers ?F_mode_numbers ?a_read_mode ?F_read_mode ?a_read_rule ?F_read_rule ?a_read_pattern ?F_read_pattern ?a_read_goal ?F_read_goal ?a__law_draw ?F__law_draw ?a__law_rule ?F__law_rule ?a__law_rows ?F__law_rows ?a__law_strange ?F__law_strange ?a__law_spoiled ?F__law_spoiled ?a__law_asked ?F__law_asked ?a__law_nowhere ?F__law_nowhere ?a_law ?F_law ?pg_Word ?hd_Word ?po_Word ?sa_Word ?mk_Word ?kc_Word ?n_Word_wanted ?pg_One ?hd_One ?po_One ?sa_One ?mk_One ?kc_One ?n_One_signs ?pg_Without ?hd_Without ?po_Without ?sa_Without ?mk_Without ?kc_Without ?n_Without_signs ?pg_Many ?hd_Many ?po_Many ?sa_Many ?mk_Many ?kc_Many ?n_Many_signs ?pg_Any ?hd_Any ?po_Any ?sa_Any ?mk_Any ?kc_Any ?oi_Any ?pg_Still ?hd_Still ?po_Still ?sa_Still ?mk_Still ?kc_Still ?oi_Still ?h_Still_eats ?pg_End ?hd_End ?po_End ?sa_End ?mk_End ?kc_End ?oi_End ?h_End_eats ?pg_Rule ?hd_Rule ?po_Rule ?sa_Rule ?mk_Rule ?kc_Rule ?n_Rule_pattern ?n_Rule_colour ?n_Rule_deed ?n_Rule_goal ?n_Rule_fold ?pg_Mode ?hd_Mode ?po_Mode ?sa_Mode ?mk_Mode ?kc_Mode ?n_Mode_name ?n_Mode_colour ?n_Mode_rules ?pg_Rules ?hd_Rules ?po_Rules ?sa_Rules ?mk_Rules ?kc_Rules ?n_Rules_modes ?pg_Cursor ?hd_Cursor ?po_Cursor ?sa_Cursor ?mk_Cursor ?kc_Cursor ?n_Cursor_row ?n_Cursor_words ?n_Cursor_at ?xcg ?xct ?xa_TintError ?xg_TintError ?xh_TintError ?xb_TintError ?xs_TintError ?xo_TintError ?xd_TintError ?xc_TintError ?xn_TintError ?xa_NoRules ?xg_NoRules ?xh_NoRules ?xb_NoRules ?xs_NoRules ?xo_NoRules ?xd_NoRules ?xc_NoRules ?xk_NoRules ?n_NoRules_row ?n_NoRules_word ?tk_NoRules_TintError ?kx_NoRules_NoRules ?kb_int_bool ?v_LETTERS ?v_LONGEST_NAME ?v_MOST_MODES ?v_MOST_RULES ?v_PATTERNS ?o_PATTERNS ?v_DEEDS ?o_DEEDS ?v_GOING ?o_GOING ?v_FOLDS ?o_FOLDS ?z_all ?z_bool ?z_enumerate ?z_isinstance ?z_len ?z_list ?z_max ?z_range
    (case a_TintError => k_is)
    (case a_NoRules => k_is)
    (case a_Pattern => k_is)
    (case a_Word => k_is)
    (case a_One => k_is)
    (case a_Without => k_is)
    (case a_Many => k_is)
    (case a_Any => k_is)
    (case a_Still => k_is)
    (case a_End => k_is)
    (case a_Rule => k_is)
    (case a_Mode => k_is)
    (case a_Rules => k_is)
    (case a_Cursor => k_is)
    (case a_NoRules___init__ => k_is)
    (case i_NoRules___init__ => k_is)
    (case F_NoRules___init__ => (apply L2.fun_mk <;> k_is))
    (case a_Pattern_eaten => k_is)
    (case i_Pattern_eaten => k_is)
    (case F_Pattern_eaten => (apply L2.fun_mk <;> k_is))
    (case a_Pattern_eats => k_is)
    (case i_Pattern_eats => k_is)
    (case F_Pattern_eats => (apply L2.fun_mk <;> k_is))
    (case a_Word___init__ => k_is)
    (case i_Word___init__ => k_is)
    (case F_Word___init__ => (apply L2.fun_mk <;> k_is))
    (case a_Word_eaten => k_is)
    (case i_Word_eaten => k_is)
    (case F_Word_eaten => (apply L2.fun_mk <;> k_is))
    (case a_Word_eats => k_is)
    (case i_Word_eats => k_is)
    (case F_Word_eats => (apply L2.fun_mk <;> k_is))
    (case a_One___init__ => k_is)
    (case i_One___init__ => k_is)
    (case F_One___init__ => (apply L2.fun_mk <;> k_is))
    (case a_One_eaten => k_is)
    (case i_One_eaten => k_is)
    (case F_One_eaten => (apply L2.fun_mk <;> k_is))
    (case a_One_eats => k_is)
    (case i_One_eats => k_is)
    (case F_One_eats => (apply L2.fun_mk <;> k_is))
    (case a_Without___init__ => k_is)
    (case i_Without___init__ => k_is)
    (case F_Without___init__ => (apply L2.fun_mk <;> k_is))
    (case a_Without_eaten => k_is)
    (case i_Without_eaten => k_is)
    (case F_Without_eaten => (apply L2.fun_mk <;> k_is))
    (case a_Without_eats => k_is)
    (case i_Without_eats => k_is)
    (case F_Without_eats => (apply L2.fun_mk <;> k_is))
    (case a_Many___init__ => k_is)
    (case i_Many___init__ => k_is)
    (case F_Many___init__ => (apply L2.fun_mk <;> k_is))
    (case a_Many_eaten => k_is)
    (case i_Many_eaten => k_is)
    (case F_Many_eaten => (apply L2.fun_mk <;> k_is))
    (case a_Many_eats => k_is)
    (case i_Many_eats => k_is)
    (case F_Many_eats => (apply L2.fun_mk <;> k_is))
    (case a_Any_eaten => k_is)
    (case i_Any_eaten => k_is)
    (case F_Any_eaten => (apply L2.fun_mk <;> k_is))
    (case a_Any_eats => k_is)
    (case i_Any_eats => k_is)
    (case F_Any_eats => (apply L2.fun_mk <;> k_is))
    (case a_Still_eaten => k_is)
    (case i_Still_eaten => k_is)
    (case F_Still_eaten => (apply L2.fun_mk <;> k_is))
    (case a_End_eaten => k_is)
    (case i_End_eaten => k_is)
    (case F_End_eaten => (apply L2.fun_mk <;> k_is))
    (case a_Rule___init__ => k_is)
    (case i_Rule___init__ => k_is)
    (case F_Rule___init__ => (apply L2.fun_mk <;> k_is))
    (case a_Mode___init__ => k_is)
    (case i_Mode___init__ => k_is)
    (case F_Mode___init__ => (apply L2.fun_mk <;> k_is))
    (case a_Rules___init__ => k_is)
    (case i_Rules___init__ => k_is)
    (case F_Rules___init__ => (apply L2.fun_mk <;> k_is))
    (case a_Cursor___init__ => k_is)
    (case i_Cursor___init__ => k_is)
    (case F_Cursor___init__ => (apply L2.fun_mk <;> k_is))
    (case a_Cursor_more => k_is)
    (case i_Cursor_more => k_is)
    (case F_Cursor_more => (apply L2.fun_mk <;> k_is))
    (case a_Cursor_peek => k_is)
    (case i_Cursor_peek => k_is)
    (case F_Cursor_peek => (apply L2.fun_mk <;> k_is))
    (case a_Cursor_ask => k_is)
    (case i_Cursor_ask => k_is)
    (case F_Cursor_ask => (apply L2.fun_mk <;> k_is))
    (case a_Cursor_take => k_is)
    (case i_Cursor_take => k_is)
    (case F_Cursor_take => (apply L2.fun_mk <;> k_is))
    (case a_Cursor_take_choice => k_is)
    (case i_Cursor_take_choice => k_is)
    (case F_Cursor_take_choice => (apply L2.fun_mk <;> k_is))
    (case a_Cursor_take_name => k_is)
    (case i_Cursor_take_name => k_is)
    (case F_Cursor_take_name => (apply L2.fun_mk <;> k_is))
    (case a_Cursor_take_signs => k_is)
    (case i_Cursor_take_signs => k_is)
    (case F_Cursor_take_signs => (apply L2.fun_mk <;> k_is))
    (case a__wall => k_is)
    (case F__wall => (apply L2.fun_mk <;> k_is))
    (case a_is_name => k_is)
    (case F_is_name => (apply L2.fun_mk <;> k_is))
    (case a_read_rules => k_is)
    (case F_read_rules => (apply L2.fun_mk <;> k_is))
    (case a_mode_numbers => k_is)
    (case F_mode_numbers => (apply L2.fun_mk <;> k_is))
    (case a_read_mode => k_is)
    (case F_read_mode => (apply L2.fun_mk <;> k_is))
    (case a_read_rule => k_is)
    (case F_read_rule => (apply L2.fun_mk <;> k_is))
    (case a_read_pattern => k_is)
    (case F_read_pattern => (apply L2.fun_mk <;> k_is))
    (case a_read_goal => k_is)
    (case F_read_goal => (apply L2.fun_mk <;> k_is))
    (case a__law_draw => k_is)
    (case F__law_draw => (apply L2.fun_mk <;> k_is))
    (case a__law_rule => k_is)
    (case F__law_rule => (apply L2.fun_mk <;> k_is))
    (case a__law_rows => k_is)
    (case F__law_rows => (apply L2.fun_mk <;> k_is))
    (case a__law_strange => k_is)
    (case F__law_strange => (apply L2.fun_mk <;> k_is))
    (case a__law_spoiled => k_is)
    (case F__law_spoiled => (apply L2.fun_mk <;> k_is))
    (case a__law_asked => k_is)
    (case F__law_asked => (apply L2.fun_mk <;> k_is))
    (case a__law_nowhere => k_is)
    (case F__law_nowhere => (apply L2.fun_mk <;> k_is))
    (case a_law => k_is)
    (case F_law => (apply L2.fun_mk <;> k_is))
    (case pg_Word => k_is)
    (case hd_Word => k_is)
    (case po_Word => k_is)
    (case sa_Word => k_is)
    (case mk_Word => k_is)
    (case kc_Word => k_is)
    (case n_Word_wanted => k_is)
    (case pg_One => k_is)
    (case hd_One => k_is)
    (case po_One => k_is)
    (case sa_One => k_is)
    (case mk_One => k_is)
    (case kc_One => k_is)
    (case n_One_signs => k_is)
    (case pg_Without => k_is)
    (case hd_Without => k_is)
    (case po_Without => k_is)
    (case sa_Without => k_is)
    (case mk_Without => k_is)
    (case kc_Without => k_is)
    (case n_Without_signs => k_is)
    (case pg_Many => k_is)
    (case hd_Many => k_is)
    (case po_Many => k_is)
    (case sa_Many => k_is)
    (case mk_Many => k_is)
    (case kc_Many => k_is)
    (case n_Many_signs => k_is)
    (case pg_Any => k_is)
    (case hd_Any => k_is)
    (case po_Any => k_is)
    (case sa_Any => k_is)
    (case mk_Any => k_is)
    (case kc_Any => k_is)
    (case oi_Any => k_is)
    (case pg_Still => k_is)
    (case hd_Still => k_is)
    (case po_Still => k_is)
    (case sa_Still => k_is)
    (case mk_Still => k_is)
    (case kc_Still => k_is)
    (case oi_Still => k_is)
    (case h_Still_eats => k_is)
    (case pg_End => k_is)
    (case hd_End => k_is)
    (case po_End => k_is)
    (case sa_End => k_is)
    (case mk_End => k_is)
    (case kc_End => k_is)
    (case oi_End => k_is)
    (case h_End_eats => k_is)
    (case pg_Rule => k_is)
    (case hd_Rule => k_is)
    (case po_Rule => k_is)
    (case sa_Rule => k_is)
    (case mk_Rule => k_is)
    (case kc_Rule => k_is)
    (case n_Rule_pattern => k_is)
    (case n_Rule_colour => k_is)
    (case n_Rule_deed => k_is)
    (case n_Rule_goal => k_is)
    (case n_Rule_fold => k_is)
    (case pg_Mode => k_is)
    (case hd_Mode => k_is)
    (case po_Mode => k_is)
    (case sa_Mode => k_is)
    (case mk_Mode => k_is)
    (case kc_Mode => k_is)
    (case n_Mode_name => k_is)
    (case n_Mode_colour => k_is)
    (case n_Mode_rules => k_is)
    (case pg_Rules => k_is)
    (case hd_Rules => k_is)
    (case po_Rules => k_is)
    (case sa_Rules => k_is)
    (case mk_Rules => k_is)
    (case kc_Rules => k_is)
    (case n_Rules_modes => k_is)
    (case pg_Cursor => k_is)
    (case hd_Cursor => k_is)
    (case po_Cursor => k_is)
    (case sa_Cursor => k_is)
    (case mk_Cursor => k_is)
    (case kc_Cursor => k_is)
    (case n_Cursor_row => k_is)
    (case n_Cursor_words => k_is)
    (case n_Cursor_at => k_is)
    (case xcg => k_is)
    (case xct => k_is)
    (case xa_TintError => kernel_rfl)
    (case xg_TintError => k_is)
    (case xh_TintError => k_is)
    (case xb_TintError => k_is)
    (case xs_TintError => k_is)
    (case xo_TintError => k_is)
    (case xd_TintError => k_is)
    (case xc_TintError => k_is)
    (case xn_TintError => k_exc)
    (case xa_NoRules => kernel_rfl)
    (case xg_NoRules => k_is)
    (case xh_NoRules => k_is)
    (case xb_NoRules => k_is)
    (case xs_NoRules => k_is)
    (case xo_NoRules => k_is)
    (case xd_NoRules => k_is)
    (case xc_NoRules => k_is)
    (case xk_NoRules => k_is)
    (case n_NoRules_row => k_is)
    (case n_NoRules_word => k_is)
    (case tk_NoRules_TintError => k_is)
    (case kx_NoRules_NoRules => kit_is)
    (case kb_int_bool => kit_is)
    (case v_LETTERS => k_is)
    (case v_LONGEST_NAME => k_is)
    (case v_MOST_MODES => k_is)
    (case v_MOST_RULES => k_is)
    (case v_PATTERNS => k_is)
    (case o_PATTERNS => k_is)
    (case v_DEEDS => k_is)
    (case o_DEEDS => k_is)
    (case v_GOING => k_is)
    (case o_GOING => k_is)
    (case v_FOLDS => k_is)
    (case o_FOLDS => k_is)
    (case z_all => k_is)
    (case z_bool => k_is)
    (case z_enumerate => k_is)
    (case z_isinstance => k_is)
    (case z_len => k_is)
    (case z_list => k_is)
    (case z_max => k_is)
    (case z_range => k_is)
