import PyProof.Rows.All
import Wide.All
import OpenK.AllK
import Wide.FinOn
import PyProof.EqAt
import PyProof.EqKinds
import PyProof.TupleCall
import PyProof.ListStr
import PyProof.EnumFor
import PyProof.EnumMake
import PyProof.EnumStmt
import PyProof.StrLawsTight
import PyProof.StrLawsReplace
import PyProof.StrCalls6
import PyProof.ToksMono
import PyProof.ZipIter
import KE.KRevIter
import PySem.Challenge.RW_tintrow_k32_whole_changed_rows
set_option Elab.async false
set_option linter.all false
set_option maxRecDepth 100000
namespace L2
open PySem PySem.Spec PyProof.Rows
abbrev Key := Sum Int Str
def keyIs : Key -> Value -> Bool
 | .inl k, v => Value.isInt k v
 | .inr x, v => Value.isStrOf x v
def keyH (w : World) : Key -> Int
 | .inl k => hashInt k
 | .inr x => hashStr w x
theorem keyIs_shape : ∀ {k : Key} {v : Value}, keyIs k v = true -> (∃ i t, k = Sum.inl i /\ v = Value.int i t) ∨ (∃ x t, k = Sum.inr x /\ v = Value.str x t)
 | .inl i, v, h => by
  obtain ⟨t, e⟩ := Value.isInt_shape (k := i) (v := v) h
  exact .inl ⟨i, t, rfl, e⟩
 | .inr x, v, h => by
  obtain ⟨t, e⟩ := Value.isStrOf_shape (x := x) (v := v) h
  exact .inr ⟨x, t, rfl, e⟩
theorem keyIs_int (i : Int) (t : Tok) : keyIs (.inl i) (.int i t) = true := by simp [keyIs, Value.isInt]
theorem keyIs_str (x : Str) (t : Tok) : keyIs (.inr x) (.str x t) = true := by simp [keyIs, Value.isStrOf]
theorem key_ll (a b : Int) : decide ((Sum.inl a : Key) = Sum.inl b) = (a == b) := by
 by_cases e : a = b
 ·subst e; simp
 ·have h : ¬ (Sum.inl a : Key) = Sum.inl b := fun q => e (Sum.inl.inj q)
  rw [decide_eq_false h]
  exact (beq_eq_false_iff_ne.mpr e).symm
theorem key_rr (a b : Str) : decide ((Sum.inr a : Key) = Sum.inr b) = decide (a = b) := by
 by_cases e : a = b
 ·subst e; simp
 ·have h : ¬ (Sum.inr a : Key) = Sum.inr b := fun q => e (Sum.inr.inj q)
  rw [decide_eq_false h, decide_eq_false e]
theorem key_lr (a : Int) (b : Str) : decide ((Sum.inl a : Key) = Sum.inr b) = false := decide_eq_false (fun q => nomatch q)
theorem key_rl (a : Str) (b : Int) : decide ((Sum.inr a : Key) = Sum.inl b) = false := decide_eq_false (fun q => nomatch q)
def mixKind (prog : Program) (w : World) : PySem.KeyKind prog w Key where
 is := keyIs
 hash := keyH w
 inj := fun v a b ha hb => by
  rcases keyIs_shape ha with ⟨i, t, rfl, rfl⟩ | ⟨x, t, rfl, rfl⟩
  ·rcases keyIs_shape hb with ⟨j, u, rfl, e⟩ | ⟨y, u, rfl, e⟩
   ·injection e with e1 _; rw [e1]
   ·exact nomatch e
  ·rcases keyIs_shape hb with ⟨j, u, rfl, e⟩ | ⟨y, u, rfl, e⟩
   ·exact nomatch e
   ·injection e with e1 _; rw [e1]
 byValue := fun k v h => by
  rcases keyIs_shape h with ⟨i, t, rfl, rfl⟩ | ⟨x, t, rfl, rfl⟩ <;> rfl
 pyHash := fun hv h => by
  rcases keyIs_shape hv with ⟨i, t, rfl, rfl⟩ | ⟨x, t, rfl, rfl⟩
  ·exact wpAny_pyHash_int h
  ·exact wpAny_pyHash_str h
 eqBool := fun hu hv h => by
  rcases keyIs_shape hu with ⟨i, t, rfl, rfl⟩ | ⟨x, t, rfl, rfl⟩
  ·rcases keyIs_shape hv with ⟨j, u, rfl, rfl⟩ | ⟨y, u, rfl, rfl⟩
   ·rw [key_ll] at h; exact wpAny_eqBool_int h
   ·rw [key_lr] at h; exact SeqAt.EqAt.int_str i t y u _ _ _ _ h
  ·rcases keyIs_shape hv with ⟨j, u, rfl, rfl⟩ | ⟨y, u, rfl, rfl⟩
   ·rw [key_rl] at h; exact SeqAt.EqAt.str_int x t j u _ _ _ _ h
   ·rw [key_rr] at h; exact wpAny_eqBool_str h
 «strs» := fun k x t v h => by
  rcases keyIs_shape h with ⟨i, u, rfl, e⟩ | ⟨y, u, rfl, e⟩
  ·exact nomatch e
  ·injection e with e1 _
   subst e1
   cases v <;> rfl
theorem mixKind_int (prog : Program) (w : World) (i : Int) (t : Tok) : (mixKind prog w).is (.inl i) (.int i t) = true := keyIs_int i t
theorem mixKind_str (prog : Program) (w : World) (x : Str) (t : Tok) : (mixKind prog w).is (.inr x) (.str x t) = true := keyIs_str x t
end L2
namespace L2
open PySem PySem.Spec PyProof.Rows
inductive V where
 | non | bl (b : Bool) | int (i : Int) | str (x : Str) | byt (b : Array UInt8) | flt (b : UInt64) | ref (a : Addr) | ty (n : String)
 deriving DecidableEq
def RelV : V -> Value -> Prop
 | .non, u => u = Value.none
 | .bl b, u => u = Value.bool b
 | .int i, u => ∃ t, u = Value.int i t
 | .str x, u => ∃ t, u = Value.str x t
 | .byt b, u => ∃ t, u = Value.bytes b t
 | .flt b, u => ∃ t, u = Value.float b t
 | .ref a, u => u = Value.ref a
 | .ty n, u => u = Value.type n
abbrev Vals : List V -> List Value -> Prop := Paired RelV
theorem Vals.length {xs : List V} {us : List Value} (r : Vals xs us) : xs.length = us.length := Paired.length r
theorem Vals.get : ∀ {xs : List V} {us : List Value} {i : Nat} {x : V}, Vals xs us -> xs[i]? = some x -> ∃ u, us[i]? = some u /\ RelV x u
 | _, _, _, _, .nil, e => by simp at e
 | _, _, 0, _, .cons r _, e => by simp at e; subst e; exact ⟨_, rfl, r⟩
 | _, _, i + 1, x, .cons _ t, e => by
  obtain ⟨u, h1, h2⟩ := Vals.get (i := i) (x := x) t (by simpa using e)
  exact ⟨u, by simpa using h1, h2⟩
theorem Vals.set {x : V} {u : Value} (r : RelV x u) : ∀ {xs : List V} {us : List Value} (i : Nat), Vals xs us -> Vals (xs.set i x) (us.set i u)
 | _, _, _, .nil => .nil
 | _, _, 0, .cons _ t => .cons r t
 | _, _, i + 1, .cons q t => .cons q (Vals.set r i t)
theorem Vals.append : ∀ {xs ys : List V} {us ws : List Value}, Vals xs us -> Vals ys ws -> Vals (xs ++ ys) (us ++ ws)
 | _, _, _, _, .nil, s => s
 | _, _, _, _, .cons r t, s => .cons r (Vals.append t s)
theorem Vals.take : ∀ {xs : List V} {us : List Value} (n : Nat), Vals xs us -> Vals (xs.take n) (us.take n)
 | _, _, 0, _ => .nil
 | _, _, _ + 1, .nil => .nil
 | _, _, n + 1, .cons r t => .cons r (Vals.take n t)
theorem Vals.drop : ∀ {xs : List V} {us : List Value} (n : Nat), Vals xs us -> Vals (xs.drop n) (us.drop n)
 | _, _, 0, r => r
 | _, _, _ + 1, .nil => .nil
 | _, _, n + 1, .cons _ t => Vals.drop n t
def RelO : Option V -> Option Value -> Prop
 | some v, some u => RelV v u
 | none, none => True
 | _, _ => False
def KV {κ : Type} : List (κ × V) -> List (κ × Value) -> Prop := Paired fun (p : κ × V) (q : κ × Value) => p.1 = q.1 /\ RelV p.2 q.2
def kV : Key -> V
 | .inl i => .int i
 | .inr x => .str x
inductive HO where
  | lst (xs : List V)
  | tup (xs : List V)
  | dK (kvs : List (Key × V)) | dT (kvs : List (List Key × V))
  | set (S : Int -> Bool) (n : Nat)
  | ins (C dx : Addr) (fs : List (Str × V))
  | own (x : Addr)
  | xd (fs : List (Str × V))
  | met (f x : Addr)
  | rng (lo hi : Int)
  | frz (o : Obj) (u : HO)
  | tbl (ps : Array Value)
  | ext (φ : Heap -> Prop)
abbrev Hp := Addr -> Option HO
def upd (H : Hp) (a : Addr) (o : HO) : Hp := fun b => if b = a then some o else H b
theorem upd_same {H : Hp} {a : Addr} {o : HO} : upd H a o a = some o := by unfold upd; rw [if_pos rfl]
theorem upd_ne {H : Hp} {a b : Addr} {o : HO} (h : b ≠ a) : upd H a o b = H b := by unfold upd; rw [if_neg h]
theorem upd_upd {H : Hp} {a : Addr} {o u : HO} : upd (upd H a o) a u = upd H a u := by
 funext b; unfold upd; split <;> rfl
theorem ne_of {H : Hp} {a b : Addr} {o u : HO} (h : H a = some o) (h' : H b = some u) (d : o ≠ u) : a ≠ b := by
 intro e; subst e; rw [h] at h'; exact d (Option.some.inj h')
theorem ne_of_none {H : Hp} {a b : Addr} {o : HO} (h : H a = some o) (h' : H b = none) : a ≠ b := by
 intro e; subst e; rw [h] at h'; cases h'
section
variable (P : Program) (w : World)
def ObjOk (H : Hp) (h : Heap) (a : Addr) : HO -> Prop
 | .lst xs => xs.length <= sizeLine /\ ∃ (its : List Value) (n : Nat), Vals xs its /\ h.get? a = some { cls := .type "list", data := .seq its.toArray n }
 | .tup xs => xs.length <= sizeLine /\ ∃ its : List Value, Vals xs its /\ IsTup h a its.toArray
 | .dK kvs => kvs.length <= sizeLine /\ (a == sysModules) = false /\ ∃ vs, KV kvs vs /\ h.DictOf (mixKind P w) a vs
 | .dT kvs => kvs.length <= sizeLine /\ (a == sysModules) = false /\ ∃ xs : List (List Key × Addr × Value),
   Paired (fun (p : List Key × V) (q : List Key × Addr × Value) => p.1 = q.1 /\ H q.2.1 = some (.tup (p.1.map kV)) /\ RelV p.2 q.2.2) kvs xs /\
   ∃ o es ep, h.get? a = some o /\ o.ExactDict /\ o.data = .dict es ep /\ es.toList = xs.map (entryOfKey (tupleKind (mixKind P w))) /\ (xs.map (·.1)).Nodup
 | .set S n => h.SetOf (intKind P w) a S n
 | .ins C dx fs => H dx = some (.own a) /\ fs.length <= 1000 /\ dx ≠ a /\ h.get? a = some (PySem.W.instObj C dx) /\
   ∃ mA, h.Ns1 dx mA /\ (∀ f, RelO (fs.lookup f) (mA f)) /\ PySem.Within mA (fs.map (·.1))
 | .own _ => ∃ o, h.get? a = some o
 | .xd fs => ∃ mA, h.Ns1 a mA /\ ∀ f, RelO (fs.lookup f) (mA f)
 | .rng lo hi => ∃ t u v, h.get? a = some { cls := .type "range", data := .fields #[.int lo t, .int hi u, .int 1 v] }
 | .frz o u => h.get? a = some o /\ ObjOk H h a u
 | .tbl ps => h.get? a = some { cls := .none, data := .fields ps }
 | .met f x => h.get? a = some (PySem.W.methodObj (.ref f) (.ref x))
 | .ext φ => φ h /\ (∃ o, h.get? a = some o) /\ ∀ h1 h2 : Heap, φ h1 -> (∀ o, h1.get? a = some o -> h2.get? a = some o) -> φ h2
def HOk (H : Hp) (h : Heap) : Prop := ∀ a o, H a = some o -> ObjOk P w H h a o
end
section
variable {P : Program} {w : World} {H H' : Hp} {h h' : Heap} {a : Addr} {o : HO}
theorem ObjOk.lt (x : ObjOk P w H h a o) : a < h.objs.size := by
 cases o with
 | lst xs => obtain ⟨_, _, _, _, e⟩ := x; exact Heap.lt_size e
 | tup xs => obtain ⟨_, _, _, p⟩ := x; exact p.lt
 | dK kvs => obtain ⟨_, _, _, _, o, _, _, e, _⟩ := x; exact Heap.lt_size e
 | dT kvs => obtain ⟨_, _, _, _, o, _, _, e, _⟩ := x; exact Heap.lt_size e
 | set S n => obtain ⟨o, _, _, _, e, _⟩ := x; exact Heap.lt_size e
 | ins C dx fs => obtain ⟨_, _, _, e, _⟩ := x; exact Heap.lt_size e
 | own y => obtain ⟨_, e⟩ := x; exact Heap.lt_size e
 | xd fs => obtain ⟨_, ⟨_, _, _, e, _⟩, _⟩ := x; exact Heap.lt_size e
 | rng lo hi => obtain ⟨_, _, _, e⟩ := x; exact Heap.lt_size e
 | frz ob u => obtain ⟨e, _⟩ := x; exact Heap.lt_size e
 | tbl ps => exact Heap.lt_size (show h.get? a = some _ from x)
 | met f y => exact Heap.lt_size (show h.get? a = some _ from x)
 | ext φ => obtain ⟨_, ⟨_, e⟩, _⟩ := x; exact Heap.lt_size e
theorem Paired.mapP {α β : Type} {F G : α -> β -> Prop} : ∀ {l₁ : List α} {l₂ : List β}, Paired F l₁ l₂ -> (∀ a b, F a b -> G a b) -> Paired G l₁ l₂
 | _, _, .nil, _ => .nil
 | _, _, .cons r t, f => .cons (f _ _ r) (Paired.mapP t f)
theorem ObjOk.stay (x : ObjOk P w H h a o) (k : ∀ b u, (b = a ∨ H b = some (.own a)) -> h.get? b = some u -> h'.get? b = some u)
  (ho : ∀ b, H b = some (.own a) -> H' b = some (.own a)) (ht : ∀ b xs, H b = some (.tup xs) -> H' b = some (.tup xs)) : ObjOk P w H' h' a o := by
 induction o with
 | lst xs => obtain ⟨z, its, n, r, e⟩ := x; exact ⟨z, its, n, r, k _ _ (.inl rfl) e⟩
 | tup xs => obtain ⟨z, its, r, ob, e, c⟩ := x; exact ⟨z, its, r, ob, k _ _ (.inl rfl) e, c⟩
 | dK kvs => obtain ⟨z, y, vs, r, ob, es, ep, e, c⟩ := x; exact ⟨z, y, vs, r, ob, es, ep, k _ _ (.inl rfl) e, c⟩
 | dT kvs =>
  obtain ⟨z, y, xs, r, ob, es, ep, e, c⟩ := x
  exact ⟨z, y, xs, Paired.mapP r fun p q z => ⟨z.1, ht _ _ z.2.1, z.2.2⟩, ob, es, ep, k _ _ (.inl rfl) e, c⟩
 | set S n => obtain ⟨ob, es, ep, t, e, c⟩ := x; exact ⟨ob, es, ep, t, k _ _ (.inl rfl) e, c⟩
 | ins C dx fs =>
  obtain ⟨d, z, ne, e, mA, ⟨od, es, ep, e2, c⟩, r⟩ := x
  exact ⟨ho _ d, z, ne, k _ _ (.inl rfl) e, mA, ⟨od, es, ep, k _ _ (.inr d) e2, c⟩, r⟩
 | own y => obtain ⟨ob, e⟩ := x; exact ⟨ob, k _ _ (.inl rfl) e⟩
 | xd fs => obtain ⟨mA, ⟨od, es, ep, e, c⟩, r⟩ := x; exact ⟨mA, ⟨od, es, ep, k _ _ (.inl rfl) e, c⟩, r⟩
 | rng lo hi => obtain ⟨t, u, v, e⟩ := x; exact ⟨t, u, v, k _ _ (.inl rfl) e⟩
 | frz ob u ih => obtain ⟨e, q⟩ := x; exact ⟨k _ _ (.inl rfl) e, ih q⟩
 | tbl ps =>
  have e : h.get? a = some { cls := .none, data := .fields ps } := x
  show h'.get? a = some { cls := .none, data := .fields ps }
  exact k a _ (.inl rfl) e
 | met f y =>
  have e : h.get? a = some (PySem.W.methodObj (.ref f) (.ref y)) := x
  show h'.get? a = some (PySem.W.methodObj (.ref f) (.ref y))
  exact k a _ (.inl rfl) e
 | ext φ => obtain ⟨p, ⟨o, e⟩, st⟩ := x; exact ⟨st _ _ p fun o q => k _ _ (.inl rfl) q, ⟨o, k _ _ (.inl rfl) e⟩, st⟩
theorem HOk.lt (x : HOk P w H h) (e : H a = some o) : a < h.objs.size := (x a o e).lt
theorem HOk.fresh (x : HOk P w H h) (e : h.objs.size <= a) : H a = none := by
 cases q : H a with
 | none => rfl
 | some u => exact absurd (Nat.lt_of_lt_of_le (x.lt q) e) (Nat.lt_irrefl _)
theorem HOk.kept (x : HOk P w H h) (k : ∀ b u, h.get? b = some u -> h'.get? b = some u) : HOk P w H h' := fun a o e =>
 (x a o e).stay (fun b u _ q => k b u q) (fun _ q => q) fun _ _ q => q
theorem HOk.laid (x : HOk P w H h) (k : ∀ b u, h.get? b = some u -> h'.get? b = some u) (hp : h.objs.size <= a) (new : ObjOk P w (upd H a o) h' a o) : HOk P w (upd H a o) h' := fun b u e => by
 have hn := x.fresh hp
 by_cases hb : b = a
 ·subst hb; rw [upd_same] at e; cases e; exact new
 ·rw [upd_ne hb] at e
  exact (x b u e).stay (fun c v _ q => k c v q) (fun c q => by rw [upd_ne (ne_of_none q hn)]; exact q) fun c xs q => by rw [upd_ne (ne_of_none q hn)]; exact q
end
def Rd (H : Hp) (a : Addr) (u : HO) : Prop := H a = some u ∨ ∃ o, H a = some (.frz o u)
theorem Rd.ok {P : Program} {w : World} {H : Hp} {h : Heap} {a : Addr} {u : HO} (r : Rd H a u) (x : HOk P w H h) : ObjOk P w H h a u := by
 rcases r with r | ⟨o, r⟩
 ·exact x a u r
 ·obtain ⟨_, q⟩ := x a _ r
  exact q
def Mut : Option HO -> Prop
 | some (.lst _) => True
 | some (.dK _) => True
 | some (.dT _) => True
 | some (.set _ _) => True
 | some (.ins _ _ _) => True
 | some (.ext _) => True
 | _ => False
section
variable {P : Program} {w : World} {H : Hp} {h h' : Heap} {x e : Addr} {o' : HO}
theorem HOk.write (ok : HOk P w H h) (mu : Mut (H x)) (he : e = x ∨ H e = some (.own x)) (k : ∀ b u, b ≠ e -> h.get? b = some u -> h'.get? b = some u) (heo : ∃ u, h'.get? e = some u)
  (new : ObjOk P w (upd H x o') h' x o') : HOk P w (upd H x o') h' := fun b u q => by
 have nown : ∀ c y, H c = some (.own y) -> c ≠ x := fun c y r z => by subst z; rw [r] at mu; exact mu
 have ntup : ∀ c xs, H c = some (.tup xs) -> c ≠ x := fun c xs r z => by subst z; rw [r] at mu; exact mu
 by_cases hb : b = x
 ·subst hb; rw [upd_same] at q; cases q; exact new
 ·rw [upd_ne hb] at q
  by_cases hbe : b = e
  ·have q' : H b = some (.own x) := by
    rcases he with z | z
    ·exact absurd (hbe.trans z) hb
    ·rw [hbe]; exact z
   rw [q] at q'; cases q'
   obtain ⟨v, hv⟩ := heo
   exact ⟨v, by rw [hbe]; exact hv⟩
  ·refine (ok b u q).stay (fun c v hc r => k c v ?_ r) (fun c r => by rw [upd_ne (nown c b r)]; exact r) fun c xs r => by rw [upd_ne (ntup c xs r)]; exact r
   rcases hc with rfl | hc
   ·exact hbe
   ·rintro rfl
    rcases he with z | z
    ·exact nown c b hc z
    ·rw [hc] at z; cases z; exact hb rfl
end
structure Un (fs ex : List Addr) (H H' : Hp) (h h' : Heap) : Prop where
 keep : ∀ b o, h.get? b = some o -> H b = none -> b ∉ fs -> b ∉ ex -> h'.get? b = some o
 slot : ∀ b o, h.get? b = some o -> H b = none -> b ∈ fs -> b ∉ ex -> ∃ sl, h'.get? b = some { o with slots := sl }
 free : ∀ b o, h.get? b = some o -> H b = none -> b ∉ ex -> H' b = none
 there : ∀ b o, h.get? b = some o -> b ∉ ex -> ∃ o', h'.get? b = some o'
 tups : ∀ b xs, H b = some (.tup xs) -> H' b = some (.tup xs)
 frzs : ∀ b o u, H b = some (.frz o u) -> H' b = some (.frz o u)
 tbls : ∀ b ps, H b = some (.tbl ps) -> ∃ more, H' b = some (.tbl (ps ++ more))
section
variable {fs fs' ex ex' : List Addr} {H H1 H2 : Hp} {h h1 h2 h' : Heap} {a x e : Addr} {o : HO}
theorem Un.any (u : Un fs ex H H1 h h1) {b : Addr} {ob : Obj} (q : h.get? b = some ob) (n : H b = none) (hx : b ∉ ex) : ∃ sl, h1.get? b = some { ob with slots := sl } := by
 by_cases hb : b ∈ fs
 ·exact u.slot b ob q n hb hx
 ·exact ⟨ob.slots, u.keep b ob q n hb hx⟩
theorem Un.kept (k : ∀ b u, h.get? b = some u -> h'.get? b = some u) : Un fs ex H H h h' :=
 ⟨fun b ob q _ _ _ => k b ob q, fun b ob q _ _ _ => ⟨ob.slots, k b ob q⟩, fun _ _ _ n _ => n, fun b ob q _ => ⟨ob, k b ob q⟩, fun _ _ q => q, fun _ _ _ q => q, fun _ ps q => ⟨#[], by rw [q]; simp⟩⟩
theorem Un.refl : Un fs ex H H h h := Un.kept fun _ _ q => q
theorem Un.laid (k : ∀ b u, h.get? b = some u -> h'.get? b = some u) (hp : h.objs.size <= a) (hn : H a = none) : Un fs ex H (upd H a o) h h' where
 keep := fun b u q _ _ _ => k b u q
 slot := fun b u q _ _ _ => ⟨u.slots, k b u q⟩
 free := fun b u q n _ => by rw [upd_ne (Nat.ne_of_lt (Nat.lt_of_lt_of_le (Heap.lt_size q) hp))]; exact n
 there := fun b u q _ => ⟨u, k b u q⟩
 tups := fun b xs q => by rw [upd_ne (ne_of_none q hn)]; exact q
 frzs := fun b u xs q => by rw [upd_ne (ne_of_none q hn)]; exact q
 tbls := fun b ps q => ⟨#[], by rw [upd_ne (ne_of_none q hn), q]; simp⟩
theorem Un.write (mu : Mut (H x)) (he : e = x ∨ H e = some (.own x)) (k : ∀ b u, b ≠ e -> h.get? b = some u -> h'.get? b = some u) (heo : ∃ u, h'.get? e = some u) : Un fs ex H (upd H x o) h h' := by
 have hx : ∀ b, H b = none -> b ≠ x := fun b n z => by subst z; rw [n] at mu; exact mu
 have hb : ∀ b, H b = none -> b ≠ e := fun b n z => by
  subst z
  rcases he with r | r
  ·exact hx b n r
  ·rw [n] at r; cases r
 have hm : ∀ b u, H b = some u -> ¬ Mut (some u) -> b ≠ x := fun b u q nm z => by subst z; rw [q] at mu; exact nm mu
 refine ⟨fun b u q n _ _ => k b u (hb b n) q, fun b u q n _ _ => ⟨u.slots, k b u (hb b n) q⟩, fun b u q n _ => by rw [upd_ne (hx b n)]; exact n, fun b u q _ => ?_,
  fun b xs q => by rw [upd_ne (hm b _ q fun z => z)]; exact q, fun b u xs q => by rw [upd_ne (hm b _ q fun z => z)]; exact q, fun b ps q => ⟨#[], by rw [upd_ne (hm b _ q fun z => z), q]; simp⟩⟩
 by_cases hbe : b = e
 ·subst hbe; exact heo
 ·exact ⟨u, k b u hbe q⟩
end
def trk (h : Heap) (H : Hp) : List Addr := (List.range h.objs.size).filter fun a => (H a).isSome
def hidT (h : Heap) (H : Hp) : Heap := PySem.W.hideAll h (trk h H)
theorem hidT_size (h : Heap) (H : Hp) : (hidT h H).objs.size = h.objs.size := PySem.W.hideAll_size _ _
theorem hidT_get {h : Heap} {H : Hp} {b : Addr} {o : Obj} (e : h.get? b = some o) (n : H b = none) : (hidT h H).get? b = some o :=
 PySem.W.hideAll_get _ e fun hm => by
  have q : (H b).isSome = true := (List.mem_filter.mp hm).2
  rw [n] at q; simp at q
theorem of_hidT {h : Heap} {H : Hp} {b : Addr} {o : Obj} (e : (hidT h H).get? b = some o) : h.get? b = some o /\ H b = none := by
 have e' : h.get? b = some o := PySem.W.of_hideAll (trk h H) e
 refine ⟨e', ?_⟩
 cases q : H b with
 | none => rfl
 | some x =>
  have hm : b ∈ trk h H := List.mem_filter.mpr ⟨List.mem_range.mpr (Heap.lt_size e'), by simp [q]⟩
  have z : (hidT h H).get? b = none := PySem.W.hideAll_none (trk h H) hm
  rw [z] at e; cases e
end L2
namespace L2
open PySem PySem.Spec PyProof.Rows
structure Mod (K : PySem.W.Frag) (mg : Str -> Option Value) (base : Heap) : Prop where
 kin : K.In base
 glob : base.Ns mainGlobals mg
 blt : ∃ mb, base.Ns builtinsNs mb /\ ∀ x : Str, x ≠ "__name__" -> mb x = bootBuiltins x
 nolimit : base.NoLimit
structure Cx where
 prog : Program
 w : World
 K : PySem.W.Frag
 mg : Str -> Option Value
 base : Heap
 A : Around
 N : List Str
 s₀ : Shared
 H₀ : Hp
 env : Env
 outer : List Env
 stack : List Env
 ex : List Addr
 fn : Str -> Bool
 calm : Bool
 pn : List (Addr × Obj)
 xe : Value -> Shared -> Prop
def frs (l : List Env) : List Addr := l.filterMap (·.frame)
abbrev Cx.fs (X : Cx) : List Addr := frs X.outer
def Vis (sc : Scope) (x : Str) : Prop := sc.names.lookup x = some .local ∨ sc.names.lookup x = some .cell ∨ sc.names.lookup x = some .free
def Loc (sc : Scope) (x : Str) : Prop := sc.names.lookup x = some .local ∨ sc.names.lookup x = some .cell
def Look (env : Env) (h : Heap) (m : Str -> Option Value) (x : Str) (u : Value) : Prop :=
 (env.kindOf x = some .local /\ m x = some u) ∨ ((env.kindOf x = some .cell ∨ env.kindOf x = some .free) /\ ∃ c, env.cells.lookup x = some c /\ h.IsCell c (some u))
structure Cx.Ok (X : Cx) : Prop where
 mod : Mod X.K X.mg X.base
 kind : X.env.scope.kind = .function
 glob : X.env.globals = mainGlobals
 blt : X.env.builtins = builtinsNs
 above : X.s₀.heap.objs.size <= X.env.locals
 inj : ∀ x y c, X.env.cells.lookup x = some c -> X.env.cells.lookup y = some c -> x = y
 has : ∀ x, (X.env.kindOf x = some .cell ∨ X.env.kindOf x = some .free) -> ∃ c, X.env.cells.lookup x = some c
 cab : ∀ x c, X.fn x = true -> X.env.cells.lookup x = some c -> X.s₀.heap.objs.size <= c
 hd : X.calm = true -> X.A.handled = none
 frames : X.A.frames = some X.stack
 stk : X.stack = X.outer ∨ (X.stack = X.env :: X.outer /\ X.env.frame = some X.env.locals)
 exf : ∀ b ∈ X.ex, b ≠ X.env.locals /\ ∀ x c, X.env.cells.lookup x = some c -> c ≠ b
 bs : ∀ b o, X.base.get? b = some o -> X.s₀.heap.get? b = some o /\ X.H₀ b = none
 bsz : X.base.objs.size <= X.s₀.heap.objs.size
 noex : ∀ b o, X.base.get? b = some o -> b ∉ X.ex
 exfs : ∀ b ∈ X.ex, b ∉ X.fs
 funs : X.s₀.heap.FunFrames X.base X.outer
 frf : ∀ b ∈ X.fs, X.H₀ b = none
structure Inv (X : Cx) (pins : List (Addr × Obj)) (Z : List (Option V)) (H : Hp) (s : Shared) : Prop where
 ok : X.Ok
 os : s.os = X.s₀.os
 bare : AllBare s.gens
 base : Un X.fs X.ex X.H₀ H X.s₀.heap s.heap
 loc : ∃ m, s.heap.Ns X.env.locals m /\ ∀ (i : Nat) (x : Str) (v : V), X.N[i]? = some x -> Z[i]? = some (some v) -> Vis X.env.scope x -> ∃ u, RelV v u /\ Look X.env s.heap m x u
 cell : ∀ x c, X.env.cells.lookup x = some c -> ∃ v, s.heap.IsCell c v
 free : H X.env.locals = none
 freeC : ∀ x c, X.env.cells.lookup x = some c -> H c = none
 pin : ∀ p ∈ X.pn ++ pins, s.heap.get? p.1 = some p.2 /\ H p.1 = none /\ p.1 ≠ X.env.locals /\ p.1 ∉ X.fs /\ ∀ v, p.2.data ≠ .cell v
 hok : HOk X.prog X.w H s.heap
 len : Z.length = X.N.length
section
variable {X : Cx} {pins : List (Addr × Obj)} {Z : List (Option V)} {H H' : Hp} {s : Shared} {h' : Heap}
theorem Cx.Ok.nofr (ok : X.Ok) {b : Addr} {o : Obj} (e : X.base.get? b = some o) : b ∉ X.fs := fun hb => by
 have := (ok.funs.mem hb).1
 rw [e] at this; cases this
theorem Inv.bs (I : Inv X pins Z H s) : ∀ b o, X.base.get? b = some o -> s.heap.get? b = some o /\ H b = none := fun b o e =>
 ⟨I.base.keep b o (I.ok.bs b o e).1 (I.ok.bs b o e).2 (I.ok.nofr e) (I.ok.noex b o e), I.base.free b o (I.ok.bs b o e).1 (I.ok.bs b o e).2 (I.ok.noex b o e)⟩
theorem Inv.bk (I : Inv X pins Z H s) : ∀ b o, X.base.get? b = some o -> s.heap.get? b = some o := fun b o e => (I.bs b o e).1
theorem Inv.mod (I : Inv X pins Z H s) : Mod X.K X.mg X.base := I.ok.mod
theorem Inv.kIn (I : Inv X pins Z H s) : X.K.In s.heap := I.ok.mod.kin.keeps I.bk
theorem Inv.lt (I : Inv X pins Z H s) : X.env.locals < s.heap.objs.size := let ⟨_, hn, _⟩ := I.loc; hn.lt
theorem Inv.sz (I : Inv X pins Z H s) : X.s₀.heap.objs.size <= s.heap.objs.size := Nat.le_trans I.ok.above (Nat.le_of_lt I.lt)
theorem Inv.nofs (I : Inv X pins Z H s) {a : Addr} (h : s.heap.objs.size <= a) : a ∉ X.fs := fun hb => by
 obtain ⟨_, o, ho, _⟩ := I.ok.funs.mem hb
 exact absurd (Nat.lt_of_lt_of_le (Heap.lt_size ho) (Nat.le_trans I.sz h)) (Nat.lt_irrefl _)
theorem Inv.cne (I : Inv X pins Z H s) : ∀ x c, X.env.cells.lookup x = some c -> c ≠ X.env.locals := fun x c e z => by
 obtain ⟨v, o, ho, hd⟩ := I.cell x c e
 obtain ⟨m, ⟨o', es, ep, ho', hd', _⟩, _⟩ := I.loc
 rw [z, ho'] at ho; cases ho; rw [hd'] at hd; cases hd
theorem Inv.funs (I : Inv X pins Z H s) : s.heap.FunFrames X.base X.outer := by
 have all : ∀ (l : List Env), (∀ b ∈ frs l, b ∈ X.fs) -> X.s₀.heap.FunFrames X.base l -> s.heap.FunFrames X.base l := by
  intro l
  induction l with
  | nil => intro _ _; trivial
  | cons env r ih =>
   intro hs hl
   obtain ⟨hk, ⟨L, o, hf, hn, ho, hd⟩, hr⟩ := hl
   have hL : L ∈ X.fs := hs L (by unfold frs; rw [List.filterMap_cons, hf]; exact List.mem_cons_self)
   obtain ⟨sl, e⟩ := I.base.slot L o ho (I.ok.frf L hL) hL fun z => I.ok.exfs L z hL
   exact ⟨hk, ⟨L, _, hf, hn, e, hd⟩, ih (fun b hb => hs b (by unfold frs; rw [List.filterMap_cons, hf]; exact List.mem_cons_of_mem _ hb)) hr⟩
 exact all X.outer (fun _ hb => hb) I.ok.funs
theorem Inv.stack (I : Inv X pins Z H s) : s.heap.FunFrames X.base X.stack := by
 rcases I.ok.stk with e | ⟨e, hf⟩
 ·rw [e]; exact I.funs
 ·rw [e]
  obtain ⟨m, hn, _⟩ := I.loc
  refine .cons (by rw [I.ok.kind]; decide) hf hn ?_ I.funs
  exact Heap.get?_none_of_le (Nat.le_trans I.ok.bsz I.ok.above)
theorem Inv.stkSub (I : Inv X pins Z H s) : ∀ b ∈ frs X.stack, b ∈ X.env.locals :: X.fs := fun b hb => by
 rcases I.ok.stk with e | ⟨e, hf⟩
 ·rw [e] at hb; exact List.mem_cons_of_mem _ hb
 ·rw [e] at hb
  unfold frs at hb
  rw [List.filterMap_cons, hf] at hb
  exact hb
theorem Inv.stkFree (I : Inv X pins Z H s) : ∀ b ∈ frs X.stack, H b = none := fun b hb => by
 rcases List.mem_cons.mp (I.stkSub b hb) with e | hb
 ·rw [e]; exact I.free
 ·obtain ⟨_, o, ho, _⟩ := I.ok.funs.mem hb
  exact I.base.free b o ho (I.ok.frf b hb) fun z => I.ok.exfs b z hb
theorem Inv.step {g' : Array GenState} {t' : Nat} {d' : Drawn} {ch : List Addr} (I : Inv X pins Z H s)
  (hch : ∀ b ∈ ch, (b ∈ X.ex ∨ X.s₀.heap.objs.size <= b) /\ b ≠ X.env.locals /\ (∀ x c, X.env.cells.lookup x = some c -> c ≠ b) /\ ∀ p ∈ X.pn ++ pins, p.1 ≠ b)
  (keep : ∀ b o, b ≠ X.env.locals -> b ∉ X.fs -> b ∉ ch -> s.heap.get? b = some o -> H b = none -> h'.get? b = some o)
  (slot : ∀ b o, b ≠ X.env.locals -> b ∈ X.fs -> b ∉ ch -> s.heap.get? b = some o -> H b = none -> ∃ sl, h'.get? b = some { o with slots := sl }) (free : ∀ b o, b ∉ ch -> s.heap.get? b = some o -> H b = none -> H' b = none)
  (there : ∀ b o, b ∉ ch -> s.heap.get? b = some o -> ∃ o', h'.get? b = some o')
  (tups : ∀ b xs, H b = some (.tup xs) -> H' b = some (.tup xs)) (frzs : ∀ b o u, H b = some (.frz o u) -> H' b = some (.frz o u)) (tbls : ∀ b ps, H b = some (.tbl ps) -> ∃ more, H' b = some (.tbl (ps ++ more)))
  (ns : ∀ m, s.heap.Ns X.env.locals m -> h'.Ns X.env.locals m) (hok : HOk X.prog X.w H' h') (hg : AllBare g') :
  Inv X pins Z H' { s with heap := h', gens := g', drawn := d', toks := t' } := by
 have neL : ∀ b o, X.s₀.heap.get? b = some o -> b ≠ X.env.locals := fun b o e => Nat.ne_of_lt (Nat.lt_of_lt_of_le (Heap.lt_size e) I.ok.above)
 have neC : ∀ b o, X.s₀.heap.get? b = some o -> b ∉ X.ex -> b ∉ ch := fun b o e hx hb => by
  rcases (hch b hb).1 with z | z
  ·exact hx z
  ·exact absurd (Nat.lt_of_lt_of_le (Heap.lt_size e) z) (Nat.lt_irrefl _)
 have cellK : ∀ x c, X.env.cells.lookup x = some c -> ∀ v, s.heap.IsCell c v -> h'.IsCell c v := fun x c e v ⟨o, ho, hd⟩ => by
  have nch : c ∉ ch := fun z => (hch c z).2.2.1 x c e rfl
  by_cases hc : c ∈ X.fs
  ·obtain ⟨sl, q⟩ := slot c o (I.cne x c e) hc nch ho (I.freeC x c e)
   exact ⟨_, q, hd⟩
  ·exact ⟨o, keep c o (I.cne x c e) hc nch ho (I.freeC x c e), hd⟩
 refine ⟨I.ok, I.os, hg, ⟨fun b o e n hb hx => ?_, fun b o e n hb hx => ?_, fun b o e n hx => ?_, fun b o e hx => ?_, fun b xs e => tups b xs (I.base.tups b xs e), fun b o xs e => frzs b o xs (I.base.frzs b o xs e), fun b ps e => ?_⟩, ?_, fun x c e => ?_, ?_, fun x c e => ?_, fun p hp => ?_, hok, I.len⟩
 ·exact keep b o (neL b o e) hb (neC b o e hx) (I.base.keep b o e n hb hx) (I.base.free b o e n hx)
 ·obtain ⟨sl, e1⟩ := I.base.slot b o e n hb hx
  obtain ⟨sl', e2⟩ := slot b _ (neL b o e) hb (neC b o e hx) e1 (I.base.free b o e n hx)
  exact ⟨sl', e2⟩
 ·obtain ⟨o', e1⟩ := I.base.there b o e hx
  exact free b o' (neC b o e hx) e1 (I.base.free b o e n hx)
 ·obtain ⟨o', e1⟩ := I.base.there b o e hx
  exact there b o' (neC b o e hx) e1
 ·obtain ⟨m1, e1⟩ := I.base.tbls b ps e
  obtain ⟨m2, e2⟩ := tbls b _ e1
  exact ⟨m1 ++ m2, by rw [e2, Array.append_assoc]⟩
 ·obtain ⟨m, hn, hl⟩ := I.loc
  refine ⟨m, ns m hn, fun i x v e1 e2 e3 => ?_⟩
  obtain ⟨u, r, l⟩ := hl i x v e1 e2 e3
  refine ⟨u, r, ?_⟩
  rcases l with l | ⟨k, c, e, z⟩
  ·exact .inl l
  ·exact .inr ⟨k, c, e, cellK x c e _ z⟩
 ·obtain ⟨v, z⟩ := I.cell x c e
  exact ⟨v, cellK x c e v z⟩
 ·obtain ⟨m, ⟨o, _, _, ho, _⟩, _⟩ := I.loc
  exact free _ o (fun z => (hch _ z).2.1 rfl) ho I.free
 ·obtain ⟨v, o, ho, hd⟩ := I.cell x c e
  exact free c o (fun z => (hch c z).2.2.1 x c e rfl) ho (I.freeC x c e)
 ·obtain ⟨e, n, ne, nf, d⟩ := I.pin p hp
  have nch : p.1 ∉ ch := fun z => (hch p.1 z).2.2.2 p hp rfl
  exact ⟨keep p.1 p.2 ne nf nch e n, free p.1 p.2 nch e n, ne, nf, d⟩
theorem Inv.un {t' : Nat} (I : Inv X pins Z H s) (u : Un X.fs [] H H' s.heap h') (hok : HOk X.prog X.w H' h') : Inv X pins Z H' { s with heap := h', toks := t' } := by
 obtain ⟨m, ⟨o, es, ep, ho, r⟩, _⟩ := id I.loc
 obtain ⟨sl, hL⟩ := u.any ho I.free (by simp)
 exact I.step (g' := s.gens) (d' := s.drawn) (ch := []) (fun _ z => nomatch z) (fun b o _ hb _ e n => u.keep b o e n hb (by simp)) (fun b o _ hb _ e n => u.slot b o e n hb (by simp)) (fun b o _ e n => u.free b o e n (by simp)) (fun b o _ e => u.there b o e (by simp)) u.tups u.frzs u.tbls (fun m' hm => by
  obtain ⟨o', es', ep', ho', r'⟩ := hm
  rw [ho] at ho'; cases ho'
  exact ⟨_, es', ep', hL, r'⟩) hok I.bare
theorem Inv.call {g' : Array GenState} {t' : Nat} {d' : Drawn} {ch : List Addr} (I : Inv X pins Z H s) (u : Un (frs X.stack) ch H H' s.heap h') (hok : HOk X.prog X.w H' h') (hg : AllBare g')
  (hch : ∀ b ∈ ch, (b ∈ X.ex ∨ X.s₀.heap.objs.size <= b) /\ b ≠ X.env.locals /\ (∀ x c, X.env.cells.lookup x = some c -> c ≠ b) /\ ∀ p ∈ X.pn ++ pins, p.1 ≠ b) :
  Inv X pins Z H' { s with heap := h', gens := g', drawn := d', toks := t' } := by
 obtain ⟨m, ⟨o, es, ep, ho, r⟩, _⟩ := id I.loc
 obtain ⟨sl, hL⟩ := u.any ho I.free fun z => (hch _ z).2.1 rfl
 exact I.step (ch := ch) hch (fun b o hL hb hc e n => u.keep b o e n (fun z => (List.mem_cons.mp (I.stkSub b z)).elim hL hb) hc) (fun b o _ _ hc e n => u.any e n hc) (fun b o hc e n => u.free b o e n hc) (fun b o hc e => u.there b o e hc) u.tups u.frzs u.tbls (fun m' hm => by
  obtain ⟨o', es', ep', ho', r'⟩ := hm
  rw [ho] at ho'; cases ho'
  exact ⟨_, es', ep', hL, r'⟩) hok hg
theorem Inv.turned {t' : Nat} {it : Addr} (I : Inv X pins Z H s) (k : ∀ b o, b ≠ it -> s.heap.get? b = some o -> h'.get? b = some o) (hn : H it = none) (hL : it ≠ X.env.locals)
  (h1 : it ∈ X.ex ∨ X.s₀.heap.objs.size <= it) (h2 : ∀ x c, X.env.cells.lookup x = some c -> c ≠ it) (h3 : ∀ p ∈ X.pn ++ pins, p.1 ≠ it) : Inv X pins Z H { s with heap := h', toks := t' } := by
 have nit : ∀ b u, H b = some u -> b ≠ it := fun b u e z => by rw [z, hn] at e; cases e
 refine I.step (g' := s.gens) (d' := s.drawn) (ch := [it]) (fun b hb => ?_) (fun b o _ _ hc e _ => k b o (fun z => hc (by simp [z])) e) (fun b o _ _ hc e _ => ⟨o.slots, k b o (fun z => hc (by simp [z])) e⟩) (fun _ _ _ _ n => n)
  (fun b o hc e => ⟨o, k b o (fun z => hc (by simp [z])) e⟩) (fun _ _ e => e) (fun _ _ _ e => e) (fun b ps e => ⟨#[], by rw [e]; simp⟩) (fun m hm => ?_) (fun b u e => ?_) I.bare
 ·have e : b = it := by simpa using hb
  subst e
  exact ⟨h1, hL, h2, h3⟩
 ·obtain ⟨o, es, ep, ho, r⟩ := hm
  exact ⟨o, es, ep, k _ o (Ne.symm hL) ho, r⟩
 ·refine (I.hok b u e).stay (fun c v hc q => k c v ?_ q) (fun _ q => q) fun _ _ q => q
  rcases hc with z | z
  ·rw [z]; exact nit b u e
  ·exact nit c _ z
theorem Inv.tok (I : Inv X pins Z H s) (t : Nat) : Inv X pins Z H { s with toks := t } := I.un (h' := s.heap) (t' := t) Un.refl I.hok
theorem Inv.kept {t' : Nat} (I : Inv X pins Z H s) (k : ∀ b u, s.heap.get? b = some u -> h'.get? b = some u) : Inv X pins Z H { s with heap := h', toks := t' } := I.un (Un.kept k) (I.hok.kept k)
theorem Inv.laid {a : Addr} {o : HO} {t' : Nat} (I : Inv X pins Z H s) (k : ∀ b u, s.heap.get? b = some u -> h'.get? b = some u) (hp : s.heap.objs.size <= a) (new : ObjOk X.prog X.w (upd H a o) h' a o) :
  Inv X pins Z (upd H a o) { s with heap := h', toks := t' } := I.un (Un.laid k hp (I.hok.fresh hp)) (I.hok.laid k hp new)
theorem Inv.write {x e : Addr} {o : HO} {t' : Nat} (I : Inv X pins Z H s) (mu : Mut (H x)) (he : e = x ∨ H e = some (.own x)) (k : ∀ b u, b ≠ e -> s.heap.get? b = some u -> h'.get? b = some u) (heo : ∃ u, h'.get? e = some u)
  (new : ObjOk X.prog X.w (upd H x o) h' x o) : Inv X pins Z (upd H x o) { s with heap := h', toks := t' } := I.un (Un.write mu he k heo) (I.hok.write mu he k heo new)
theorem Inv.pins_of {pins' : List (Addr × Obj)} (I : Inv X pins Z H s) (h : ∀ p ∈ pins', s.heap.get? p.1 = some p.2 /\ H p.1 = none /\ p.1 ≠ X.env.locals /\ p.1 ∉ X.fs /\ ∀ v, p.2.data ≠ .cell v) : Inv X pins' Z H s :=
 ⟨I.ok, I.os, I.bare, I.base, I.loc, I.cell, I.free, I.freeC, fun p hp => (List.mem_append.mp hp).elim (fun z => I.pin p (List.mem_append_left _ z)) (h p), I.hok, I.len⟩
theorem nodup_ix {N : List Str} (hN : N.Nodup) {i j : Nat} {x : Str} (a : N[i]? = some x) (b : N[j]? = some x) : i = j := by
 obtain ⟨h1, e1⟩ := List.getElem?_eq_some_iff.mp a
 obtain ⟨h2, e2⟩ := List.getElem?_eq_some_iff.mp b
 exact (List.getElem_inj hN).mp (e1.trans e2.symm)
theorem store_ok2 {M : Model} {A : Around} {E : Value -> Shared -> Prop} {i : Nat} {x : Str} {v : V} {u : Value} {Q : Unit -> Shared -> Prop} (I : Inv X pins Z H s) (hN : X.N.Nodup) (hi : X.N[i]? = some x) (hx : Loc X.env.scope x) (r : RelV v u)
  (h : ∀ s', Inv X pins (Z.set i (some v)) H s' -> (∃ a, Heap.SameBut a s.heap s'.heap /\ (a = X.env.locals ∨ X.env.cells.lookup x = some a)) -> Q () s') (hf : X.fn x = true ∨ X.env.scope.names.lookup x = some .local := by first | exact .inl rfl | exact .inr rfl | assumption) : wpAny M A (storeName X.env x u) Q E s := by
 obtain ⟨m, hn, hl⟩ := id I.loc
 have hcls : (X.env.scope.kind == .class || (X.env.scope.kind == .module && X.env.locals != X.env.globals)) = false := by rw [I.ok.kind]; rfl
 have hiZ : i < Z.length := by rw [I.len]; exact (List.getElem?_eq_some_iff.mp hi).1
 have cne := I.cne
 have tracked : ∀ {a : Addr} {h' : Heap}, (∃ o, s.heap.get? a = some o /\ H a = none) -> Heap.SameBut a s.heap h' -> HOk X.prog X.w H h' := fun {a h'} ha hs b ob e => by
  obtain ⟨_, _, hfree⟩ := ha
  refine (I.hok b ob e).stay (fun c w' hc q => (hs.2 c ?_).trans q) (fun _ q => q) fun _ _ q => q
  rintro rfl
  rcases hc with rfl | hc
  ·rw [hfree] at e; cases e
  ·rw [hfree] at hc; cases hc
 rcases hx with hk | hk
 ·refine wpAny_storeName_local hk hn (fun h' hn' hs => ?_) hcls
  obtain ⟨oL, _, _, hoL, _⟩ := id hn
  refine h _ ⟨I.ok, I.os, I.bare, ⟨fun b o e n hb hx => ?_, fun b o e n hb hx => ?_, I.base.free, fun b o e hx => ?_, I.base.tups, I.base.frzs, I.base.tbls⟩, ⟨_, hn', fun j y v' e1 e2 e3 => ?_⟩, fun y c e => ?_, I.free, I.freeC, fun p hp => ?_, tracked ⟨oL, hoL, I.free⟩ hs, by simpa using I.len⟩ ⟨_, hs, .inl rfl⟩
  ·exact (hs.2 b (Nat.ne_of_lt (Nat.lt_of_lt_of_le (Heap.lt_size e) I.ok.above))).trans (I.base.keep b o e n hb hx)
  ·obtain ⟨sl, e1⟩ := I.base.slot b o e n hb hx
   exact ⟨sl, (hs.2 b (Nat.ne_of_lt (Nat.lt_of_lt_of_le (Heap.lt_size e) I.ok.above))).trans e1⟩
  ·obtain ⟨o', e1⟩ := I.base.there b o e hx
   exact ⟨o', (hs.2 b (Nat.ne_of_lt (Nat.lt_of_lt_of_le (Heap.lt_size e) I.ok.above))).trans e1⟩
  ·by_cases hj : j = i
   ·subst hj
    rw [hi] at e1; cases e1
    rw [List.getElem?_set_self hiZ] at e2
    cases e2
    exact ⟨u, r, .inl ⟨hk, by simp⟩⟩
   ·rw [List.getElem?_set_ne (Ne.symm hj)] at e2
    obtain ⟨u', r', q⟩ := hl j y v' e1 e2 e3
    refine ⟨u', r', ?_⟩
    rcases q with ⟨k, e⟩ | ⟨k, c, e, z⟩
    ·refine .inl ⟨k, ?_⟩
     have : y ≠ x := fun e => hj (nodup_ix hN e1 (e ▸ hi))
     simp [this, e]
    ·exact .inr ⟨k, c, e, z.sameBut hs (cne y c e)⟩
  ·obtain ⟨w', z⟩ := I.cell y c e
   exact ⟨w', z.sameBut hs (cne y c e)⟩
  ·obtain ⟨e, n, ne, nf, d⟩ := I.pin p hp
   exact ⟨(hs.2 p.1 ne).trans e, n, ne, nf, d⟩
 ·have hfn : X.fn x = true := by
   rcases hf with z | z
   ·exact z
   ·rw [z] at hk; cases hk
  obtain ⟨c, hc⟩ := I.ok.has x (.inl hk)
  obtain ⟨w', z⟩ := I.cell x c hc
  refine wpAny_storeName_cell I.ok.kind hk hc z (fun h' hc' hs => ?_)
  obtain ⟨oc, hoc, hocd⟩ := id z
  refine h { s with heap := h' } ⟨I.ok, I.os, I.bare, ⟨fun b o e n hb hx => ?_, fun b o e n hb hx => ?_, I.base.free, fun b o e hx => ?_, I.base.tups, I.base.frzs, I.base.tbls⟩, ⟨m, hn.sameBut hs (Ne.symm (cne x c hc)), fun j y v' e1 e2 e3 => ?_⟩, fun y c' e => ?_, I.free, I.freeC, fun p hp => ?_, tracked ⟨oc, hoc, I.freeC x c hc⟩ hs, by simpa using I.len⟩ ⟨c, hs, .inr hc⟩
  ·exact (hs.2 b (Nat.ne_of_lt (Nat.lt_of_lt_of_le (Heap.lt_size e) (I.ok.cab x c hfn hc)))).trans (I.base.keep b o e n hb hx)
  ·obtain ⟨sl, e1⟩ := I.base.slot b o e n hb hx
   exact ⟨sl, (hs.2 b (Nat.ne_of_lt (Nat.lt_of_lt_of_le (Heap.lt_size e) (I.ok.cab x c hfn hc)))).trans e1⟩
  ·obtain ⟨o', e1⟩ := I.base.there b o e hx
   exact ⟨o', (hs.2 b (Nat.ne_of_lt (Nat.lt_of_lt_of_le (Heap.lt_size e) (I.ok.cab x c hfn hc)))).trans e1⟩
  ·by_cases hj : j = i
   ·subst hj
    rw [hi] at e1; cases e1
    rw [List.getElem?_set_self hiZ] at e2
    cases e2
    exact ⟨u, r, .inr ⟨.inl hk, c, hc, hc'⟩⟩
   ·rw [List.getElem?_set_ne (Ne.symm hj)] at e2
    obtain ⟨u', r', q⟩ := hl j y v' e1 e2 e3
    refine ⟨u', r', ?_⟩
    rcases q with q | ⟨k, c', e, z'⟩
    ·exact .inl q
    ·refine .inr ⟨k, c', e, z'.sameBut hs ?_⟩
     rintro rfl
     exact hj (nodup_ix hN e1 (I.ok.inj _ _ _ e hc ▸ hi))
  ·by_cases hcc : c' = c
   ·subst hcc; exact ⟨_, hc'⟩
   ·obtain ⟨w2, z2⟩ := I.cell y c' e
    exact ⟨w2, z2.sameBut hs hcc⟩
  ·obtain ⟨e, n, ne, nf, d⟩ := I.pin p hp
   refine ⟨(hs.2 p.1 ?_).trans e, n, ne, nf, d⟩
   intro q
   rw [q, hoc] at e
   have q' : oc = p.2 := Option.some.inj e
   exact d w' (by rw [← q']; exact hocd)
theorem store_ok {M : Model} {A : Around} {E : Value -> Shared -> Prop} {i : Nat} {x : Str} {v : V} {u : Value} {Q : Unit -> Shared -> Prop} (I : Inv X pins Z H s) (hN : X.N.Nodup) (hi : X.N[i]? = some x) (hx : Loc X.env.scope x) (r : RelV v u)
  (h : ∀ s', Inv X pins (Z.set i (some v)) H s' -> Q () s') (hf : X.fn x = true ∨ X.env.scope.names.lookup x = some .local := by first | exact .inl rfl | exact .inr rfl | assumption) : wpAny M A (storeName X.env x u) Q E s :=
 store_ok2 I hN hi hx r (fun s' I' _ => h s' I') hf
theorem Inv.call' {s' : Shared} {ch : List Addr} (I : Inv X pins Z H s) (ho : s'.os = s.os) (u : Un (frs X.stack) ch H H' s.heap s'.heap) (hok : HOk X.prog X.w H' s'.heap) (hg : AllBare s'.gens)
  (hch : ∀ b ∈ ch, (b ∈ X.ex ∨ X.s₀.heap.objs.size <= b) /\ b ≠ X.env.locals /\ (∀ x c, X.env.cells.lookup x = some c -> c ≠ b) /\ ∀ p ∈ X.pn ++ pins, p.1 ≠ b) : Inv X pins Z H' s' := by
 obtain ⟨h', g', d', t', o'⟩ := s'
 have e : o' = s.os := ho
 subst e
 exact I.call (g' := g') (t' := t') (d' := d') u hok hg hch
end
abbrev XK := Value -> Option Addr -> Hp -> Prop
abbrev St := List (Option V)
abbrev VK := V -> Hp -> Prop
abbrev TE := St -> Hp -> VK -> Prop
abbrev TT := St -> Hp -> (Bool -> Hp -> Prop) -> Prop
abbrev TA := St -> Hp -> (List V -> Hp -> Prop) -> Prop
structure Ends where
 nx : St -> Hp -> Prop
 rt : VK
 bk : St -> Hp -> Prop := fun _ _ => False
 ct : St -> Hp -> Prop := fun _ _ => False
abbrev TS := Ends -> St -> Hp -> Prop
def EP (X : Cx) (pins : List (Addr × Obj)) (Z : St) (Q : VK) (u : Value) (s' : Shared) : Prop := ∃ v H', Inv X pins Z H' s' /\ RelV v u /\ Q v H'
def TP (X : Cx) (pins : List (Addr × Obj)) (Z : St) (Q : Bool -> Hp -> Prop) (b : Bool) (s' : Shared) : Prop := ∃ H', Inv X pins Z H' s' /\ Q b H'
def AP (X : Cx) (pins : List (Addr × Obj)) (Z : St) (Q : List V -> Hp -> Prop) (us : List Value) (s' : Shared) : Prop := ∃ vs H', Inv X pins Z H' s' /\ Vals vs us /\ Q vs H'
def SP (X : Cx) (pins : List (Addr × Obj)) (D : Ends) (f : Flow) (s' : Shared) : Prop :=
 match f with
 | .next => ∃ Z' H', Inv X pins Z' H' s' /\ D.nx Z' H'
 | .brk => ∃ Z' H', Inv X pins Z' H' s' /\ D.bk Z' H'
 | .cont => ∃ Z' H', Inv X pins Z' H' s' /\ D.ct Z' H'
 | .ret u => ∃ v Z' H', Inv X pins Z' H' s' /\ RelV v u /\ D.rt v H'
def PE (X : Cx) (e : Expr) (t : TE) : Prop :=
 ∀ (pins : List (Addr × Obj)) (s : Shared) (Z : St) (H : Hp) (Q : VK), Inv X pins Z H s -> t Z H Q -> wpAny (model X.prog X.w) X.A (eval e X.env) (EP X pins Z Q) X.xe s
def PT (X : Cx) (e : Expr) (t : TT) : Prop :=
 ∀ (pins : List (Addr × Obj)) (s : Shared) (Z : St) (H : Hp) (Q : Bool -> Hp -> Prop), Inv X pins Z H s -> t Z H Q -> wpAny (model X.prog X.w) X.A (isTrue e X.env (eval e X.env)) (TP X pins Z Q) X.xe s
def PW (X : Cx) (e : Expr) (t : TT) : Prop :=
 ∀ (whole : Sem Value) (pins : List (Addr × Obj)) (s : Shared) (Z : St) (H : Hp) (Q : Bool -> Hp -> Prop), Inv X pins Z H s -> t Z H Q -> wpAny (model X.prog X.w) X.A (isTrue e X.env whole) (TP X pins Z Q) X.xe s
theorem PW.pt {X : Cx} {e : Expr} {t : TT} (h : PW X e t) : PT X e t := h _
def PA (X : Cx) (es : List Expr) (t : TA) : Prop :=
 ∀ (pos : Pos) (pins : List (Addr × Obj)) (s : Shared) (Z : St) (H : Hp) (Q : List V -> Hp -> Prop), Inv X pins Z H s -> t Z H Q -> wpAny (model X.prog X.w) X.A (spliced (backTo pos (starEach es X.env))) (AP X pins Z Q) X.xe s
def PS (X : Cx) (st : Stmt) (t : TS) : Prop :=
 ∀ (pins : List (Addr × Obj)) (s : Shared) (Z : St) (H : Hp) (D : Ends), Inv X pins Z H s -> t D Z H -> wpAny (model X.prog X.w) X.A (exec st X.env) (SP X pins D) X.xe s
def PSs (X : Cx) (st : List Stmt) (t : TS) : Prop :=
 ∀ (pins : List (Addr × Obj)) (s : Shared) (Z : St) (H : Hp) (D : Ends), Inv X pins Z H s -> t D Z H -> wpAny (model X.prog X.w) X.A (execs st X.env) (SP X pins D) X.xe s
theorem thn {α : Type} {t : Sem α} {Q Q' : α -> Shared -> Prop} {M : Model} {A : Around} {E : Value -> Shared -> Prop} {s : Shared} (h : wpAny M A t Q E s) (hQ : ∀ a s, Q a s -> Q' a s) : wpAny M A t Q' E s := wpAny_mono h hQ fun _ _ x => x
end L2
namespace L2
open PySem PySem.Spec PyProof.Rows
section
variable {X : Cx}
def tVar (i : Nat) : TE := fun Z H Q => ∃ v, Z[i]? = some (some v) /\ Q v H
def tC (v : V) : TE := fun _ H Q => Q v H
theorem pe_var {i : Nat} {x : Str} {pos : Pos} (hN : X.N[i]? = some x) (hv : Vis X.env.scope x) (hd : (x == ("__debug__" : Str)) = false := by decide) (hcd : (x == ("__classdict__" : Str)) = false := by decide) : PE X (.Name x pos) (tVar i) := by
 intro pins s Z H Q I h
 obtain ⟨v, e, h⟩ := h
 obtain ⟨m, hn, hl⟩ := I.loc
 obtain ⟨u, r, l⟩ := hl i x v hN e hv
 have fin : EP X pins Z Q u s := ⟨v, H, I, r, h⟩
 rcases l with ⟨hk, hm⟩ | ⟨hk, c, hc, hcell⟩
 ·exact wpAny_Name (wpAny_loadName_local I.ok.kind hk hn hm fin) hd
 ·rcases hk with hk | hk
  ·exact wpAny_Name (wpAny_loadName_cell I.ok.kind hk hc hcell fin) hd
  ·exact wpAny_Name (wpAny_loadName_free I.ok.kind hk hc hcell fin hcd) hd
theorem pe_int {i j pos} : PE X (.Constant (.int i) j pos) (tC (.int i)) := fun _ _ _ H _ I h => wpAny_Constant_int ⟨.int i, H, I.tok _, ⟨_, rfl⟩, h⟩
theorem pe_bl {b j pos} : PE X (.Constant (.bool b) j pos) (tC (.bl b)) := fun _ _ _ H _ I h => Constant_bool ⟨.bl b, H, I, rfl, h⟩
theorem pe_non {j pos} : PE X (.Constant .none j pos) (tC .non) := fun _ _ _ H _ I h => Constant_none ⟨.non, H, I, rfl, h⟩
theorem pe_str {x j pos} : PE X (.Constant (.str x) j pos) (tC (.str x)) := fun _ _ _ H _ I h => Calls.Constant_str ⟨.str x, H, I.tok _, ⟨_, rfl⟩, h⟩
def Gl (X : Cx) (x : Str) : Prop := X.env.kindOf x = some .globalImplicit
theorem ld_glob {E : Value -> Shared -> Prop} {pins : List (Addr × Obj)} {s : Shared} {Z : St} {H : Hp} {x : Str} {u : Value} {pos : Pos} {Q : Value -> Shared -> Prop} (I : Inv X pins Z H s) (hg : Gl X x) (hm : X.mg x = some u) (h : Q u s)
  (hd : (x == ("__debug__" : Str)) = false := by decide) : wpAny (model X.prog X.w) X.A (eval (.Name x pos) X.env) Q E s :=
 Calls.Name_function_global I.ok.kind hg (Calls.loadGlobal_global (by rw [I.ok.glob]; exact I.mod.glob.keeps I.bk) hm h) hd
theorem ld_blt {E : Value -> Shared -> Prop} {pins : List (Addr × Obj)} {s : Shared} {Z : St} {H : Hp} {x : Str} {u : Value} {pos : Pos} {Q : Value -> Shared -> Prop} (I : Inv X pins Z H s) (hg : Gl X x) (hm : X.mg x = none) (hv : bootBuiltins x = some u) (h : Q u s)
  (hn : x ≠ "__name__" := by decide) (hd : (x == ("__debug__" : Str)) = false := by decide) : wpAny (model X.prog X.w) X.A (eval (.Name x pos) X.env) Q E s := by
 obtain ⟨mb, h1, h2⟩ := I.mod.blt
 exact Calls.Name_function_global I.ok.kind hg (Calls.loadGlobal_builtin (by rw [I.ok.glob]; exact I.mod.glob.keeps I.bk) hm (by rw [I.ok.blt]; exact h1.keeps I.bk) ((h2 x hn).trans hv) h) hd
theorem pe_glob {x : Str} {v : V} {u : Value} {pos : Pos} (hg : Gl X x) (hm : X.mg x = some u) (r : RelV v u) (hd : (x == ("__debug__" : Str)) = false := by decide) : PE X (.Name x pos) (tC v) :=
 fun _ _ _ H _ I h => ld_glob I hg hm ⟨v, H, I, r, h⟩ hd
theorem pe_bltn {x : Str} {v : V} {u : Value} {pos : Pos} (hg : Gl X x) (hm : X.mg x = none) (hv : bootBuiltins x = some u) (r : RelV v u) (hn : x ≠ "__name__" := by decide) (hd : (x == ("__debug__" : Str)) = false := by decide) : PE X (.Name x pos) (tC v) :=
 fun _ _ _ H _ I h => ld_blt I hg hm hv ⟨v, H, I, r, h⟩ hn hd
variable {a b : Expr} {ta tb : TE} {pos : Pos}
def PC (X : Cx) (op : CmpOp) (a b : Expr) (t : TE) : Prop :=
 ∀ (pins : List (Addr × Obj)) (s : Shared) (Z : St) (H : Hp) (Q : VK), Inv X pins Z H s -> t Z H Q ->
  wpAny (model X.prog X.w) X.A (eval a X.env) (fun v s₁ => wpAny (model X.prog X.w) X.A (eval b X.env) (fun u s₂ => wpAny (model X.prog X.w) X.A (compareOp op v u) (EP X pins Z Q) X.xe s₂) X.xe s₁) X.xe s
theorem nobehind (b : Expr) {op : CmpOp} (h : op ≠ .In) (h2 : op ≠ .NotIn) : behindInMarks op b = false := by
 have e1 : (op == CmpOp.In) = false := by cases op <;> first | rfl | exact absurd rfl h
 have e2 : (op == CmpOp.NotIn) = false := by cases op <;> first | rfl | exact absurd rfl h2
 cases b <;> simp [behindInMarks, e1, e2]
def tB (t : TE) : TT := fun Z H Q => t Z H fun x H1 => ∃ c, x = .bl c /\ Q c H1
theorem pt_cmp {op : CmpOp} {t : TE} (h : PC X op a b t) (h1 : behindInMarks op b = false := by first | exact nobehind _ (by decide) (by decide) | rfl) : PT X (.Compare a [op] [b] pos) (tB t) := by
 intro pins s Z H Q I hw
 refine wpAny_isTrue_Compare1 (thn (h pins s Z H _ I hw) fun v s1 h1 => thn h1 fun u s2 h2 => thn h2 fun c s3 ⟨x, H1, I1, r1, q1⟩ => ?_) h1
 obtain ⟨d, rfl, q⟩ := q1
 cases r1
 exact wpAny_truthy_bool ⟨H1, I1, q⟩
theorem pt_val {e : Expr} {t : TE} (h : PE X e t) (he : ∀ whole, isTrue e X.env whole = (do let v ← whole; standAt e.pos; holding [v] (truthy v)) := by intro _; rfl) : PT X e (tB t) := by
 intro pins s Z H Q I hw
 refine isTrue_plain (thn (h pins s Z H _ I hw) fun v s1 ⟨x, H1, I1, r1, q1⟩ => ?_) (he _)
 obtain ⟨d, rfl, q⟩ := q1
 cases r1
 exact wpAny_truthy_bool ⟨H1, I1, q⟩
variable {tA tB' : TT} {rest : List Expr}
def tAnd (t u : TT) : TT := fun Z H Q => t Z H fun c H1 => if c = true then u Z H1 Q else Q false H1
def tOr (t u : TT) : TT := fun Z H Q => t Z H fun c H1 => if c = true then Q true H1 else u Z H1 Q
def tNot (t : TT) : TT := fun Z H Q => t Z H fun c H1 => Q (!c) H1
theorem pw_and1 (ha : PT X a tA) : PW X (.BoolOp .And [a] pos) tA := by
 intro wh pins s Z H Q I h
 refine isTrue_and (thn (ha pins s Z H Q I h) fun c s1 e => ?_)
 cases c with
 | true => exact isTrue_and_nil e
 | false => exact e
theorem pw_or1 (ha : PT X a tA) : PW X (.BoolOp .Or [a] pos) tA := by
 intro wh pins s Z H Q I h
 refine isTrue_or (thn (ha pins s Z H Q I h) fun c s1 e => ?_)
 cases c with
 | false => exact isTrue_or_nil e
 | true => exact e
theorem pw_and (ha : PT X a tA) (hb : PW X (.BoolOp .And (b :: rest) pos) tB') : PW X (.BoolOp .And (a :: b :: rest) pos) (tAnd tA tB') := by
 intro wh pins s Z H Q I h
 refine isTrue_and (thn (ha pins s Z H _ I h) fun c s1 ⟨H1, I1, q1⟩ => ?_)
 cases c with
 | true => exact hb wh pins s1 Z H1 Q I1 q1
 | false => exact ⟨H1, I1, q1⟩
theorem pw_or (ha : PT X a tA) (hb : PW X (.BoolOp .Or (b :: rest) pos) tB') : PW X (.BoolOp .Or (a :: b :: rest) pos) (tOr tA tB') := by
 intro wh pins s Z H Q I h
 refine isTrue_or (thn (ha pins s Z H _ I h) fun c s1 ⟨H1, I1, q1⟩ => ?_)
 cases c with
 | true => exact ⟨H1, I1, q1⟩
 | false => exact hb wh pins s1 Z H1 Q I1 q1
theorem pt_not (ha : PT X a tA) : PT X (.UnaryOp .Not a pos) (tNot tA) := by
 intro pins s Z H Q I h
 exact isTrue_not (ha pins s Z H (fun c H1 => Q (!c) H1) I h)
def tAndV (ta tb : TE) : TE := fun Z H Q => ta Z H fun x H1 => ∃ c, x = .bl c /\ if c = true then tb Z H1 Q else Q (.bl false) H1
def tOrV (ta tb : TE) : TE := fun Z H Q => ta Z H fun x H1 => ∃ c, x = .bl c /\ if c = true then Q (.bl true) H1 else tb Z H1 Q
def tNotV (ta : TE) : TE := fun Z H Q => ta Z H fun x H1 => ∃ c, x = .bl c /\ Q (.bl (!c)) H1
theorem pe_one {op} {t : TE} (h : PE X a t) : PE X (.BoolOp op [a] pos) t := fun pins s Z H Q I hw => BoolOp_one (h pins s Z H Q I hw)
theorem pe_and (ha : PE X a ta) (hb : PE X (.BoolOp .And (b :: rest) pos) tb) : PE X (.BoolOp .And (a :: b :: rest) pos) (tAndV ta tb) := by
 intro pins s Z H Q I h
 refine BoolOp_and (thn (ha pins s Z H _ I h) fun v s1 ⟨x, H1, I1, r1, q1⟩ => ?_)
 obtain ⟨c, rfl, q1⟩ := q1
 cases r1
 refine wpAny_truthy_bool ?_
 cases c with
 | true => exact hb pins s1 Z H1 Q I1 q1
 | false => exact ⟨.bl false, H1, I1, rfl, q1⟩
theorem pe_not (ha : PE X a ta) : PE X (.UnaryOp .Not a pos) (tNotV ta) := by
 intro pins s Z H Q I h
 refine UnaryOp_ (thn (ha pins s Z H _ I h) fun v s1 ⟨x, H1, I1, r1, q1⟩ => ?_)
 obtain ⟨c, rfl, q1⟩ := q1
 cases r1
 exact not_of (wpAny_truthy_bool ⟨.bl (!c), H1, I1, rfl, q1⟩)
def tIf (t : TT) (ta tb : TE) : TE := fun Z H Q => t Z H fun c H1 => if c = true then ta Z H1 Q else tb Z H1 Q
theorem pe_ifExp {c : Expr} (hc : PT X c tA) (ha : PE X a ta) (hb : PE X b tb) : PE X (.IfExp c a b pos) (tIf tA ta tb) := by
 intro pins s Z H Q I h
 refine wpAny_IfExp (thn (hc pins s Z H _ I h) fun d s1 ⟨H1, I1, q1⟩ => ?_)
 cases d with
 | true => exact ha pins s1 Z H1 Q I1 q1
 | false => exact hb pins s1 Z H1 Q I1 q1
end
end L2
namespace L2
open PySem PySem.Spec PyProof.Rows
def SqL (K : PySem.W.Frag) (H : Hp) (a : Addr) (xs : List V) : Prop :=
 Rd H a (.lst xs) ∨
  ∃ (o : Obj) (its : Array Value) (n : Nat), K.lookup a = some o /\ o.cls = .type "list" /\ o.dict = none /\ o.data = .seq its n /\ its.size <= sizeLine /\ Vals xs its.toList
def SqT (K : PySem.W.Frag) (H : Hp) (a : Addr) (xs : List V) : Prop :=
 Rd H a (.tup xs) ∨
  ∃ (o : Obj) (its : Array Value) (n : Nat), K.lookup a = some o /\ o.cls = .type "tuple" /\ o.data = .seq its n /\ its.size <= sizeLine /\ Vals xs its.toList
def absV : Value -> Option V
 | .none => some .non
 | .bool b => some (.bl b)
 | .int i _ => some (.int i)
 | .str x _ => some (.str x)
 | .bytes b _ => some (.byt b)
 | .float b _ => some (.flt b)
 | .ref a => some (.ref a)
 | .type n => some (.ty n)
 | _ => none
theorem RelV.abs {x : V} {u : Value} (r : RelV x u) : absV u = some x := by
 cases x with
 | non => cases r; rfl
 | bl _ => cases r; rfl
 | int _ => obtain ⟨t, rfl⟩ := r; rfl
 | str _ => obtain ⟨t, rfl⟩ := r; rfl
 | byt _ => obtain ⟨t, rfl⟩ := r; rfl
 | flt _ => obtain ⟨t, rfl⟩ := r; rfl
 | ref _ => cases r; rfl
 | ty _ => cases r; rfl
theorem RelV.inj {x y : V} {u : Value} (r : RelV x u) (q : RelV y u) : x = y := Option.some.inj (r.abs.symm.trans q.abs)
theorem Vals.inj : ∀ {xs ys : List V} {us : List Value}, Vals xs us -> Vals ys us -> xs = ys
 | _, _, _, .nil, .nil => rfl
 | _, _, _, .cons r t, .cons r' t' => by rw [r.inj r', Vals.inj t t']
section
variable {X : Cx} {pins : List (Addr × Obj)} {Z : St} {H : Hp} {s : Shared} {a : Addr} {xs ys : List V}
theorem SqL.of {K : PySem.W.Frag} (h : H a = some (.lst xs)) : SqL K H a xs := .inl (.inl h)
theorem SqT.of {K : PySem.W.Frag} (h : H a = some (.tup xs)) : SqT K H a xs := .inl (.inl h)
theorem Inv.list (I : Inv X pins Z H s) (h : SqL X.K H a xs) : ∃ its : List Value, Vals xs its /\ PlainL s.heap a its.toArray /\ xs.length <= sizeLine := by
 rcases h with h | ⟨o, its, n, hk, hc, hd, hs, hz, r⟩
 ·obtain ⟨z, its, n, r, e⟩ := h.ok I.hok
  exact ⟨its, r, ⟨_, n, e, rfl, rfl, rfl⟩, z⟩
 ·refine ⟨its.toList, r, ⟨o, n, I.kIn a o hk, hc, hd, by simpa using hs⟩, ?_⟩
  have e := r.length
  simp only [Array.length_toList] at e
  omega
theorem Inv.tuple (I : Inv X pins Z H s) (h : SqT X.K H a xs) : ∃ its : List Value, Vals xs its /\ IsTup s.heap a its.toArray /\ xs.length <= sizeLine := by
 rcases h with h | ⟨o, its, n, hk, hc, hs, hz, r⟩
 ·obtain ⟨z, its, r, p⟩ := h.ok I.hok
  exact ⟨its, r, p, z⟩
 ·refine ⟨its.toList, r, ⟨o, I.kIn a o hk, hc, n, by simpa using hs⟩, ?_⟩
  have e := r.length
  simp only [Array.length_toList] at e
  omega
theorem Inv.list_inj (I : Inv X pins Z H s) (h : SqL X.K H a xs) (h' : SqL X.K H a ys) : xs = ys := by
 obtain ⟨its, r, ⟨o, n, e, _, _, d⟩, _⟩ := I.list h
 obtain ⟨its', r', ⟨o', n', e', _, _, d'⟩, _⟩ := I.list h'
 rw [e] at e'; cases e'
 rw [d] at d'
 injection d' with d1 _
 have : its = its' := by simpa using congrArg Array.toList d1
 subst this
 exact r.inj r'
end
abbrev Cx.wish (X : Cx) (E : Value -> Shared -> Prop) : Cx := { X with xe := E }
abbrev Cx.nox (X : Cx) : Cx := X.wish fun _ _ => False
theorem Cx.Ok.wish {X : Cx} (ok : X.Ok) (E : Value -> Shared -> Prop) : (X.wish E).Ok :=
 ⟨ok.mod, ok.kind, ok.glob, ok.blt, ok.above, ok.inj, ok.has, ok.cab, ok.hd, ok.frames, ok.stk, ok.exf, ok.bs, ok.bsz, ok.noex, ok.exfs, ok.funs, ok.frf⟩
theorem Cx.Ok.unwish {X : Cx} {E : Value -> Shared -> Prop} (ok : (X.wish E).Ok) : X.Ok :=
 ⟨ok.mod, ok.kind, ok.glob, ok.blt, ok.above, ok.inj, ok.has, ok.cab, ok.hd, ok.frames, ok.stk, ok.exf, ok.bs, ok.bsz, ok.noex, ok.exfs, ok.funs, ok.frf⟩
section
variable {X : Cx} {pins : List (Addr × Obj)} {Z : St} {H : Hp} {s : Shared} {E : Value -> Shared -> Prop}
theorem Inv.wish (I : Inv X pins Z H s) (E : Value -> Shared -> Prop) : Inv (X.wish E) pins Z H s := ⟨I.ok.wish E, I.os, I.bare, I.base, I.loc, I.cell, I.free, I.freeC, I.pin, I.hok, I.len⟩
theorem Inv.unwish (I : Inv (X.wish E) pins Z H s) : Inv X pins Z H s := ⟨I.ok.unwish, I.os, I.bare, I.base, I.loc, I.cell, I.free, I.freeC, I.pin, I.hok, I.len⟩
theorem SP.unwish {D : Ends} {f : Flow} {s' : Shared} (h : SP (X.wish E) pins D f s') : SP X pins D f s' := by
 cases f with
 | next => obtain ⟨Z', H', I, q⟩ := h; exact ⟨Z', H', I.unwish, q⟩
 | brk => obtain ⟨Z', H', I, q⟩ := h; exact ⟨Z', H', I.unwish, q⟩
 | cont => obtain ⟨Z', H', I, q⟩ := h; exact ⟨Z', H', I.unwish, q⟩
 | ret u => obtain ⟨v, Z', H', I, r, q⟩ := h; exact ⟨v, Z', H', I.unwish, r, q⟩
theorem PSs.nox {st : List Stmt} {t : TS} (h : PSs X.nox st t) : PSs X st t := fun pins s Z H D I hw =>
 wpAny_mono (h pins s Z H D (I.wish _) hw) (fun _ _ q => q.unwish) fun _ _ z => False.elim z
end
section
variable {X : Cx} {st : Stmt} {rest : List Stmt} {t u : TS} {e : Expr} {te : TE} {pos : Pos}
def tNext : TS := fun D Z H => D.nx Z H
def tSeq (t u : TS) : TS := fun D Z H => t { D with nx := u D } Z H
theorem pss_cons (h1 : PS X st t) (h2 : PSs X rest u) : PSs X (st :: rest) (tSeq t u) := by
 intro pins s Z H D I h
 refine wpAny_execs_cons (thn (h1 pins s Z H { D with nx := u D } I h) fun f s1 q => ?_)
 cases f with
 | next =>
  obtain ⟨Z', H', I', q⟩ := q
  exact h2 pins s1 Z' H' D I' q
 | ret v => exact q
 | brk => exact q
 | cont => exact q
theorem pss_one (h1 : PS X st t) : PSs X [st] t := by
 intro pins s Z H D I h
 refine wpAny_execs_cons (thn (h1 pins s Z H D I h) fun f s1 q => ?_)
 cases f with
 | next => exact wpAny_execs_nil q
 | ret v => exact q
 | brk => exact q
 | cont => exact q
theorem Inv.quiet {pins : List (Addr × Obj)} {Z : St} {H : Hp} {s : Shared} (I : Inv X pins Z H s) : interactive X.env = false := by simp [interactive, I.ok.kind]
def tDrop (te : TE) : TS := fun D Z H => te Z H fun _ H1 => D.nx Z H1
theorem ps_expr (he : PE X e te) (hs : swapsWith e none pos.line X.env = pure false := by rfl) : PS X (.Expr e pos) (tDrop te) := by
 intro pins s Z H D I h
 exact wpAny_Expr_any (thn (he pins s Z H _ I h) fun v s1 ⟨x, H1, I1, r1, q1⟩ => ⟨Z, H1, I1, q1⟩) I.quiet hs
def tRet (te : TE) : TS := fun D Z H => te Z H D.rt
theorem ps_ret (he : PE X e te) : PS X (.Return (some e) pos) (tRet te) := by
 intro pins s Z H D I h
 exact wpAny_Return_some (thn (he pins s Z H _ I h) fun v s1 ⟨x, H1, I1, r1, q1⟩ => ⟨x, Z, H1, I1, r1, q1⟩)
def tIfS (c : TT) (t u : TS) : TS := fun D Z H => c Z H fun b H1 => if b = true then t D Z H1 else u D Z H1
theorem ps_if {c : Expr} {a b : List Stmt} {tc : TT} (hc : PT X c tc) (ha : PSs X a t) (hb : PSs X b u) : PS X (.If c a b pos) (tIfS tc t u) := by
 intro pins s Z H D I h
 refine wpAny_If (thn (hc pins s Z H _ I h) fun d s1 ⟨H1, I1, q1⟩ => ?_)
 cases d with
 | true => exact ha pins s1 Z H1 D I1 q1
 | false => exact hb pins s1 Z H1 D I1 q1
end
abbrev TG := V -> St -> Hp -> (St -> Hp -> Prop) -> Prop
abbrev TGs := List V -> St -> Hp -> (St -> Hp -> Prop) -> Prop
def PG (X : Cx) (target : Expr) (t : TG) : Prop :=
 ∀ (pins : List (Addr × Obj)) (s : Shared) (Z : St) (H : Hp) (v : V) (u : Value) (Q : St -> Hp -> Prop), Inv X pins Z H s -> RelV v u -> t v Z H Q ->
  wpAny (model X.prog X.w) X.A (assign target X.env u) (fun _ s' => ∃ Z' H', Inv X pins Z' H' s' /\ Q Z' H') X.xe s
def PGs (X : Cx) (ts : List Expr) (t : TGs) : Prop :=
 ∀ (pins : List (Addr × Obj)) (s : Shared) (Z : St) (H : Hp) (vs : List V) (us : List Value) (Q : St -> Hp -> Prop), Inv X pins Z H s -> Vals vs us -> t vs Z H Q ->
  wpAny (model X.prog X.w) X.A (assignInOrder ((assignEach ts X.env).map (·.2)) us) (fun _ s' => ∃ Z' H', Inv X pins Z' H' s' /\ Q Z' H') X.xe s
abbrev TSet := V -> V -> V -> Hp -> (Hp -> Prop) -> Prop
def PSet (X : Cx) (t : TSet) : Prop :=
 ∀ (pins : List (Addr × Obj)) (s : Shared) (Z : St) (H : Hp) (o i v : V) (ov iv u : Value) (Q : Hp -> Prop), Inv X pins Z H s -> RelV o ov -> RelV i iv -> RelV v u -> t o i v H Q ->
  wpAny (model X.prog X.w) X.A (setItem ov iv u) (fun _ s' => ∃ H', Inv X pins Z H' s' /\ Q H') X.xe s
abbrev TIp := V -> V -> Hp -> VK -> Prop
def PIp (X : Cx) (op : Operator) (t : TIp) : Prop :=
 ∀ (pins : List (Addr × Obj)) (s : Shared) (Z : St) (H : Hp) (x y : V) (v u : Value) (Q : VK), Inv X pins Z H s -> RelV x v -> RelV y u -> t x y H Q ->
  wpAny (model X.prog X.w) X.A (inplaceOp op v u) (EP X pins Z Q) X.xe s
section
variable {X : Cx} {pos : Pos}
def gName (i : Nat) : TG := fun v Z H Q => Q (Z.set i (some v)) H
theorem pg_name {i : Nat} {x : Str} (hN : X.N.Nodup) (hi : X.N[i]? = some x) (hx : Loc X.env.scope x) (hf : X.fn x = true ∨ X.env.scope.names.lookup x = some .local := by first | exact .inl rfl | exact .inr rfl | assumption) : PG X (.Name x pos) (gName i) := by
 intro pins s Z H v u Q I r h
 exact wpAny_assign_Name (store_ok I hN hi hx r (fun s' I' => ⟨_, H, I', h⟩) hf)
def gNil : TGs := fun vs Z H Q => vs = [] /\ Q Z H
def gCons (t : TG) (u : TGs) : TGs := fun vs Z H Q => ∃ v r, vs = v :: r /\ t v Z H fun Z' H' => u r Z' H' Q
theorem pgs_nil : PGs X [] gNil := by
 intro pins s Z H vs us Q I r h
 obtain ⟨e, h⟩ := h
 subst e
 cases r
 exact assignInOrder_nil ⟨Z, H, I, h⟩
theorem pgs_cons {e : Expr} {es : List Expr} {t : TG} {u : TGs} (h1 : PG X e t) (h2 : PGs X es u)
  (hs : (assignEach (e :: es) X.env).map (·.2) = assign e X.env :: (assignEach es X.env).map (·.2) := by rfl) : PGs X (e :: es) (gCons t u) := by
 intro pins s Z H vs us Q I r h
 obtain ⟨v, vr, e1, h⟩ := h
 subst e1
 cases r with
 | cons r rr =>
  rw [hs]
  refine assignInOrder_cons (thn (h1 pins s Z H _ _ _ I r h) fun _ s1 ⟨Z1, H1, I1, q1⟩ => ?_)
  exact h2 pins s1 Z1 H1 _ _ Q I1 rr q1
def gTup (K : PySem.W.Frag) (n : Nat) (t : TGs) : TG := fun v Z H Q => ∃ a xs, v = .ref a /\ SqT K H a xs /\ xs.length = n /\ t xs Z H Q
theorem pg_tup {es : List Expr} {k : Nat} {t : TGs} {n : Nat} (hc : X.calm = true) (h : PGs X es t)
  (hn : (assignEach es X.env).length = n := by rfl) (hst : (assignEach es X.env).findIdx? (·.1) = none := by rfl) : PG X (.Tuple es k pos) (gTup X.K n t) := by
 intro pins s Z H v u Q I r hw
 obtain ⟨a, xs, e1, hq, hl, hw⟩ := hw
 subst e1
 cases r
 obtain ⟨its, rv, ht, hz⟩ := I.tuple hq
 refine assign_Tuple_tuple (I.ok.hd hc) ht (by simp [hn, ← hl, rv.length]) hst fun h' hx => ?_
 have I1 : Inv X pins Z H { s with heap := h' } := I.kept (t' := s.toks) fun b o e => hx b o (Nat.ne_of_lt (Heap.lt_size e)) e
 exact h pins _ Z H xs _ Q I1 (by simpa using rv) hw
def gSub (to ti : TE) (t : TSet) : TG := fun v Z H Q => to Z H fun o H1 => ti Z H1 fun i H2 => t o i v H2 fun H3 => Q Z H3
theorem pg_sub {o i : Expr} {to ti : TE} {t : TSet} (ho : PE X o to) (hi : PE X i ti) (hs : PSet X t)
  (ha : ∀ v, assign (.Subscript o i pos) X.env v = (do
   let ov ← holding [v] (eval o X.env)
   let iv ← holding [v, ov] (eval i X.env)
   standAt pos
   holding [v, ov, iv] (setItem ov iv v)
   release [v, ov, iv] []) := by intro _; rfl) : PG X (.Subscript o i pos) (gSub to ti t) := by
 intro pins s Z H v u Q I r h
 rw [ha]
 refine wpAny_bind (wpAny_holding (thn (ho pins s Z H _ I h) fun ov s1 ⟨x, H1, I1, r1, q1⟩ => ?_))
 refine wpAny_bind (wpAny_holding (thn (hi pins s1 Z H1 _ I1 q1) fun iv s2 ⟨y, H2, I2, r2, q2⟩ => ?_))
 refine wpAny_bind (wpAny_standAt (wpAny_bind (wpAny_holding (thn (hs pins s2 Z H2 x y v ov iv u _ I2 r1 r2 r q2) fun _ s3 ⟨H3, I3, q3⟩ => ?_))))
 exact wpAny_release ⟨Z, H3, I3, q3⟩
def tAsg (te : TE) (g : TG) : TS := fun D Z H => te Z H fun x H1 => g x Z H1 D.nx
theorem ps_asg {tg e : Expr} {te : TE} {g : TG} (he : PE X e te) (hg : PG X tg g) (hs : swapsWithSole [tg] e pos.line X.env = pure false := by rfl) (hw : swappedStores [tg] e X.env = pure none := by rfl)
  (h1 : (assignEach [tg] X.env).map (·.2) = [assign tg X.env] := by rfl) : PS X (.Assign [tg] e pos) (tAsg te g) := by
 intro pins s Z H D I h
 refine wpAny_Assign_stores (thn (he pins s Z H _ I h) fun v s1 ⟨x, H1, I1, r1, q1⟩ => ?_) hs hw
 rw [h1]
 exact thn (hg pins s1 Z H1 x v _ I1 r1 q1) fun _ s2 q => q
theorem ps_set {i : Nat} {x : Str} {e : Expr} {te : TE} {pos' : Pos} (hN : X.N.Nodup) (hi : X.N[i]? = some x) (hx : Loc X.env.scope x) (he : PE X e te) (hs : swapsWith e (some (.Name x pos')) pos.line X.env = pure false := by rfl) (hf : X.fn x = true ∨ X.env.scope.names.lookup x = some .local := by first | exact .inl rfl | exact .inr rfl | assumption) :
  PS X (.Assign [.Name x pos'] e pos) (tAsg te (gName i)) := by
 intro pins s Z H D I h
 refine wpAny_Assign_Name (thn (he pins s Z H _ I h) fun v s1 ⟨y, H1, I1, r1, q1⟩ => ?_) hs
 exact store_ok I1 hN hi hx r1 (fun s2 I2 => ⟨_, H1, I2, q1⟩) hf
def tAug (i : Nat) (te : TE) (ti : TIp) : TS := fun D Z H => ∃ x, Z[i]? = some (some x) /\ te Z H fun y H1 => ti x y H1 fun z H2 => D.nx (Z.set i (some z)) H2
theorem ps_aug {i : Nat} {x : Str} {e : Expr} {te : TE} {op : Operator} {ti : TIp} {pos' : Pos} (hN : X.N.Nodup) (hi : X.N[i]? = some x) (hx : Loc X.env.scope x) (he : PE X e te) (ho : PIp X op ti) (hf : X.fn x = true ∨ X.env.scope.names.lookup x = some .local := by first | exact .inl rfl | exact .inr rfl | assumption) :
  PS X (.AugAssign (.Name x pos') op e pos) (tAug i te ti) := by
 intro pins s Z H D I h
 obtain ⟨v, e1, h⟩ := h
 obtain ⟨m, hn, hl⟩ := I.loc
 have vis : Vis X.env.scope x := by rcases hx with k | k; exact .inl k; exact .inr (.inl k)
 obtain ⟨u, r, l⟩ := hl i x v hi e1 vis
 refine wpAny_AugAssign_Name ?_
 have go : wpAny (model X.prog X.w) X.A (eval e X.env) (fun w s₂ => wpAny (model X.prog X.w) X.A (inplaceOp op u w) (fun r s₃ => wpAny (model X.prog X.w) X.A (storeName X.env x r) (fun _ => SP X pins D .next) X.xe s₃) X.xe s₂) X.xe s := by
  refine thn (he pins s Z H _ I h) fun w s1 ⟨y, H1, I1, r1, q1⟩ => ?_
  refine thn (ho pins s1 Z H1 v y u w _ I1 r r1 q1) fun z s2 ⟨zv, H2, I2, r2, q2⟩ => ?_
  exact store_ok I2 hN hi hx r2 (fun s3 I3 => ⟨_, H2, I3, q2⟩) hf
 rcases l with ⟨hk, hm⟩ | ⟨hk, c, hc, hcell⟩
 ·exact wpAny_loadName_local I.ok.kind hk hn hm go
 ·rcases hk with hk | hk
  ·exact wpAny_loadName_cell I.ok.kind hk hc hcell go
  ·rcases hx with k | k
   ·have : X.env.scope.names.lookup x = some .free := hk
    rw [k] at this; cases this
   ·have : X.env.scope.names.lookup x = some .free := hk
    rw [k] at this; cases this
def ipI (f : Int -> Int -> Int) : TIp := fun x y H Q => ∃ i j, x = .int i /\ y = .int j /\ Q (.int (f i j)) H
theorem ip_add : PIp X .Add (ipI fun i j => i + j) := by
 intro pins s Z H x y v u Q I r1 r2 h
 obtain ⟨i, j, e1, e2, q⟩ := h
 subst e1; subst e2
 obtain ⟨t, rfl⟩ := r1
 obtain ⟨t', rfl⟩ := r2
 exact iadd_int ⟨.int _, H, I.tok _, ⟨_, rfl⟩, q⟩
end
section
variable {X : Cx} {pos : Pos}
def tWhile (c : TT) (tb : TS) : TS := fun D Z H => ∃ W : Nat -> St -> Hp -> Prop, (∃ m, W m Z H) /\ ∀ m Z H, W m Z H ->
 c Z H fun b H1 => if b = true then ∃ N : St -> Hp -> Prop, (∀ Z' H', N Z' H' -> ∃ m', m' < m /\ W m' Z' H') /\ tb { D with nx := N, ct := N, bk := D.nx } Z H1 else D.nx Z H1
theorem ps_while {c : Expr} {body : List Stmt} {tc : TT} {tb : TS} (hp : PassesOwn (model X.prog X.w) X.A X.env X.xe) (hc : PT X c tc) (hb : PSs X body tb) : PS X (.While c body [] pos) (tWhile tc tb) := by
 intro pins s Z H D I h
 obtain ⟨W, ⟨m0, w0⟩, turn⟩ := h
 refine wpAny_While (codeAny_whileLoop (fun n s' => ∃ Z' H', Inv X pins Z' H' s' /\ W n Z' H') ?_ m0 ⟨Z, H, I, w0⟩)
 rintro n s1 ⟨Z1, H1, I1, w1⟩
 refine wpAny_passesOwn hp (thn (hc pins s1 Z1 H1 _ I1 (turn n Z1 H1 w1)) fun b s2 ⟨H2, I2, q2⟩ => ?_)
 cases b with
 | true =>
  obtain ⟨N, hN, q2⟩ := q2
  rw [if_pos rfl]
  refine wpAny_passesOwn hp (thn (hb pins s2 Z1 H2 _ I2 q2) fun f s3 q3 => ?_)
  cases f with
  | next =>
   obtain ⟨Z3, H3, I3, n3⟩ := q3
   obtain ⟨m', hm, w3⟩ := hN Z3 H3 n3
   exact ⟨m', hm, Z3, H3, I3, w3⟩
  | cont =>
   obtain ⟨Z3, H3, I3, n3⟩ := q3
   obtain ⟨m', hm, w3⟩ := hN Z3 H3 n3
   exact ⟨m', hm, Z3, H3, I3, w3⟩
  | brk => exact q3
  | ret v => exact q3
 | false =>
  rw [if_neg Bool.false_ne_true]
  exact wpAny_execs_nil ⟨Z1, H2, I2, q2⟩
end
structure It where
 go : Nat -> Hp -> Prop
 yld : Nat -> Hp -> V -> Hp -> Prop
 stop : Nat -> Hp -> Prop
def FpOk (X : Cx) (pins : List (Addr × Obj)) (H : Hp) (b : Addr) : Prop :=
 H b = none /\ b ≠ X.env.locals /\ b ∉ X.fs /\ (b ∈ X.ex ∨ X.s₀.heap.objs.size <= b) /\ (∀ x c, X.env.cells.lookup x = some c -> c ≠ b) /\ ∀ p ∈ X.pn ++ pins, p.1 ≠ b
theorem Inv.fpOk {X : Cx} {pins : List (Addr × Obj)} {Z : St} {H H' : Hp} {s : Shared} {b : Addr} (I : Inv X pins Z H s) (hb : s.heap.objs.size <= b) (hn : H' b = none) : FpOk X pins H' b := by
 refine ⟨hn, Nat.ne_of_gt (Nat.lt_of_lt_of_le I.lt hb), I.nofs hb, .inr (Nat.le_trans I.sz hb), fun x c e z => ?_, fun p hp z => ?_⟩
 ·obtain ⟨v, q⟩ := I.cell x c e
  exact absurd (Nat.lt_of_lt_of_le q.lt (by rw [z]; exact hb)) (Nat.lt_irrefl _)
 ·exact absurd (Nat.lt_of_lt_of_le (Heap.lt_size (I.pin p hp).1) (by rw [z]; exact hb)) (Nat.lt_irrefl _)
structure Turn (P : Program) (w : World) (K : PySem.W.Frag) (tg : Expr) (J : It) (fp : List Addr) (it : Addr) (tn : Nat -> Heap -> Prop) : Prop where
 mem : it ∈ fp
 obj : ∀ i h, tn i h -> ∀ b ∈ fp, ∃ o, h.get? b = some o /\ ∀ v, o.data ≠ .cell v
 keep : ∀ i h h', tn i h -> (∀ b ∈ fp, ∀ o, h.get? b = some o -> h'.get? b = some o) -> tn i h'
 item : ∀ (X : Cx), X.prog = P -> X.w = w -> X.K = K -> X.calm = true -> ∀ (i : Nat) (pins : List (Addr × Obj)) (s : Shared) (Z : St) (H : Hp) (E : Value -> Shared -> Prop), Inv X pins Z H s -> (∀ b ∈ fp, FpOk X pins H b) -> tn i s.heap -> J.go i H ->
  wpAny (model P w) X.A (pyNext (.ref it)) (fun r s1 => ∃ u, r = some u /\
   wpAny (model P w) X.A (letOwnedTupleGo tg (.ref it) u) (fun _ s2 => ∃ x H', Inv X pins Z H' s2 /\ RelV x u /\ J.yld i H x H' /\ tn (i + 1) s2.heap /\ ∀ b ∈ fp, H' b = none) E s1) E s
 done : ∀ (X : Cx), X.prog = P -> X.w = w -> X.K = K -> X.calm = true -> ∀ (i : Nat) (pins : List (Addr × Obj)) (s : Shared) (Z : St) (H : Hp) (E : Value -> Shared -> Prop), Inv X pins Z H s -> (∀ b ∈ fp, FpOk X pins H b) -> tn i s.heap -> J.stop i H ->
  wpAny (model P w) X.A (pyNext (.ref it)) (fun r s1 => r = none /\ Inv X pins Z H s1) E s
 self : ∀ (A : Around) (i : Nat) (s : Shared) (Q : Value -> Shared -> Prop) (E : Value -> Shared -> Prop), tn i s.heap -> Q (.ref it) s -> wpAny (model P w) A (pyIter (.ref it)) Q E s
abbrev TI := St -> Hp -> (It -> Hp -> Prop) -> Prop
def PIE (X : Cx) (pins : List (Addr × Obj)) (Z : St) (tg : Expr) (R : It -> Hp -> Prop) (itv : Value) (s2 : Shared) : Prop :=
 ∃ (it : Addr) (fp : List Addr) (tn : Nat -> Heap -> Prop) (J : It) (H' : Hp), itv = .ref it /\ Inv X pins Z H' s2 /\ Turn X.prog X.w X.K tg J fp it tn /\ tn 0 s2.heap /\ (∀ b ∈ fp, FpOk X pins H' b) /\ R J H'
def PI (X : Cx) (tg iter : Expr) (wi : TI) : Prop :=
 ∀ (pins : List (Addr × Obj)) (s : Shared) (Z : St) (H : Hp) (R : It -> Hp -> Prop), Inv X pins Z H s -> wi Z H R ->
  wpAny (model X.prog X.w) X.A (eval iter X.env) (fun v s1 => wpAny (model X.prog X.w) X.A (pyIter v) (PIE X pins Z tg R) X.xe s1) X.xe s
theorem go_of {M : Model} {A : Around} {E : Value -> Shared -> Prop} {s : Shared} {tg : Expr} {it : Addr} {u : Value} {o : Obj} {n : String} {vs : Array Value} {Q : Unit -> Shared -> Prop} (ho : s.heap.get? it = some o) (hc : o.cls = .type n) (hd : o.data = .fields vs)
  (hn : ["enumerate", "zip", "dict_itemiterator", "dict_reverseitemiterator", "odict_iterator", "itertools.zip_longest", "itertools.pairwise"].contains n = false) (hQ : Q () s) : wpAny M A (letOwnedTupleGo tg (.ref it) u) Q E s := by
 unfold letOwnedTupleGo
 cases tg <;> first
  | exact wpAny_pure hQ
  | (cases u <;> first
    | exact wpAny_pure hQ
    | (refine wpAny_bind (wpAny_load ho ?_)
       rw [hc, hd]
       show wpAny M A (if (["enumerate", "zip", "dict_itemiterator", "dict_reverseitemiterator", "odict_iterator", "itertools.zip_longest", "itertools.pairwise"].contains n && vs[0]? == some (rawInt _)) = true then _ else _) Q E s
       rw [if_neg (by intro h; rw [hn, Bool.false_and] at h; cases h)]
       exact wpAny_pure hQ))
def Itl (K : PySem.W.Frag) (a : Addr) : It :=
 ⟨fun i H => ∃ xs x, SqL K H a xs /\ xs[i]? = some x, fun i H x H' => H' = H /\ ∀ xs, SqL K H a xs -> xs[i]? = some x, fun i H => ∃ xs, SqL K H a xs /\ xs.length <= i⟩
def Itr (lo : Int) (n : Nat) : It := ⟨fun i _ => i < n, fun i H x H' => H' = H /\ x = .int (lo + i), fun i _ => n <= i⟩
theorem turn_list {P : Program} {w : World} {K : PySem.W.Frag} {tg : Expr} (a it : Addr) : Turn P w K tg (Itl K a) [it] it (fun i h => h.IsListIter it a i) where
 mem := by simp
 obj := fun i h st b hb => by
  have e : b = it := by simpa using hb
  subst e
  obtain ⟨o, e, c, d⟩ := st
  exact ⟨o, e, fun v z => by rw [d] at z; cases z⟩
 keep := fun i h h' st k => st.at fun o e => k it (by simp) o e
 item := by
  intro X hP hw hK hc i pins s Z H E I hf st hg
  subst hP hw hK
  obtain ⟨xs, x, hq, hx⟩ := hg
  obtain ⟨its, rv, p, hz⟩ := I.list hq
  obtain ⟨u, hu, ru⟩ := rv.get hx
  obtain ⟨f0, f1, f2, f3, f4, f5⟩ := hf it (by simp)
  refine wpAny_pyNext_list_item st p.isList (x := u) (by simpa using hu) fun h' st' sb => ?_
  have I1 : Inv X pins Z H { s with heap := h' } := I.turned (t' := s.toks) (fun b o hb e => (sb.2 b hb).trans e) f0 f1 f3 f4 f5
  obtain ⟨o, e, c, d⟩ := id st'
  exact ⟨u, rfl, go_of (s := { s with heap := h' }) e c d (by decide) ⟨x, H, I1, ru, ⟨rfl, fun ys hy => by rw [I.list_inj hy hq]; exact hx⟩, st', fun b hb => (hf b hb).1⟩⟩
 done := by
  intro X hP hw hK hc i pins s Z H E I hf st hg
  subst hP hw hK
  obtain ⟨xs, hq, hx⟩ := hg
  obtain ⟨its, rv, p, hz⟩ := I.list hq
  obtain ⟨f0, f1, f2, f3, f4, f5⟩ := hf it (by simp)
  have hl := rv.length
  exact wpAny_pyNext_list_end (I.ok.hd hc) st p.isList (by simp; omega) fun h' eb => ⟨rfl, I.turned (t' := s.toks) (fun b o hb e => eb b o hb e) f0 f1 f3 f4 f5⟩
 self := fun _ _ _ _ _ st h => wpAny_pyIter_listiter st h
theorem turn_range {P : Program} {w : World} {K : PySem.W.Frag} {tg : Expr} (it : Addr) (lo : Int) (n : Nat) : Turn P w K tg (Itr lo n) [it] it (fun i h => IsRangeIter h it (lo + (i : Nat) * 1) ((n : Int) - (i : Nat)) 1) where
 mem := by simp
 obj := fun i h st b hb => by
  have e : b = it := by simpa using hb
  subst e
  exact ⟨_, st, fun v z => by
   have z' : Data.fields _ = Data.cell v := z
   cases z'⟩
 keep := fun i h h' st k => k it (by simp) _ st
 item := by
  intro X hP hw hK hc i pins s Z H E I hf st hg
  subst hP hw hK
  obtain ⟨f0, f1, f2, f3, f4, f5⟩ := hf it (by simp)
  have W := Walks.range (prog := X.prog) (w := X.w) (I.ok.hd hc) it lo 1 n
  refine W.item i s _ _ hg st fun v h' tk hv st' kk => ?_
  obtain ⟨t, rfl⟩ := hv
  have I1 : Inv X pins Z H { s with heap := h', toks := tk } := I.turned (fun b o hb e => kk b o (by simpa using hb) e) f0 f1 f3 f4 f5
  refine ⟨_, rfl, go_of (s := { s with heap := h', toks := tk }) (n := "range_iterator") st' rfl rfl (by decide) ⟨.int (lo + i), H, I1, ⟨t, ?_⟩, ⟨rfl, rfl⟩, st', fun b hb => (hf b hb).1⟩⟩
  rw [Int.mul_one]
 done := by
  intro X hP hw hK hc i pins s Z H E I hf st hg
  subst hP hw hK
  obtain ⟨f0, f1, f2, f3, f4, f5⟩ := hf it (by simp)
  exact wpAny_pyNext_range_end (I.ok.hd hc) st (by have : n <= i := hg; omega) fun h' eb => ⟨rfl, I.turned (t' := s.toks) (fun b o hb e => eb b o hb e) f0 f1 f3 f4 f5⟩
 self := fun _ _ _ _ _ st h => wpAny_pyIter_rangeiter st h
end L2
namespace L2
open PySem PySem.Spec PyProof.Rows
section
variable {X : Cx} {tg : Expr}
def iList (K : PySem.W.Frag) (tl : TE) : TI := fun Z H R => tl Z H fun x H1 => ∃ a, x = .ref a /\ (∃ xs, SqL K H1 a xs) /\ R (Itl K a) H1
theorem pi_list {l : Expr} {tl : TE} (hl : PE X l tl) : PI X tg l (iList X.K tl) := by
 intro pins s Z H R I h
 refine thn (hl pins s Z H _ I h) fun v s1 ⟨x, H1, I1, r1, q1⟩ => ?_
 obtain ⟨a, e, ⟨xs, hq⟩, q⟩ := q1
 subst e
 cases r1
 obtain ⟨its, rv, p, hz⟩ := I1.list hq
 refine wpAny_pyIter_list p.isList ?_
 refine ⟨s1.heap.objs.size, [s1.heap.objs.size], _, _, H1, rfl, I1.kept (t' := s1.toks) fun b o e => Heap.get?_push_of_some _ e, turn_list a _, ⟨_, Heap.get?_push_size _ rfl, rfl, rfl⟩, fun b hb => ?_, q⟩
 have e : b = s1.heap.objs.size := by simpa using hb
 subst e
 exact I1.fpOk (Nat.le_refl _) (I1.hok.fresh (Nat.le_refl _))
theorem range_it {pins : List (Addr × Obj)} {Z : St} {H : Hp} {s : Shared} {R : It -> Hp -> Prop} {E : Value -> Shared -> Prop} {lo hi : Int} {t u v : Tok} {tk : Nat} (I : Inv X pins Z H s) (h1 : -(2 ^ 62) <= lo) (h2 : lo < 2 ^ 62) (h3 : -(2 ^ 62) <= hi) (h4 : hi < 2 ^ 62)
  (q : R (Itr lo (hi - lo).toNat) H) : wpAny (model X.prog X.w) X.A (pyIter (.ref s.heap.objs.size)) (PIE X pins Z tg R) E { s with heap := s.heap.push { cls := .type "range", data := .fields #[.int lo t, .int hi u, .int 1 v] }, toks := tk } := by
 refine wpAny_pyIter_range (IsRange.new ..) (small_one h1 h2 h3 h4) ?_
 have I1 : Inv X pins Z H { s with heap := s.heap.push { cls := .type "range", data := .fields #[.int lo t, .int hi u, .int 1 v] }, toks := tk } := I.kept fun b o e => Heap.get?_push_of_some _ e
 refine ⟨(s.heap.push { cls := .type "range", data := .fields #[.int lo t, .int hi u, .int 1 v] }).objs.size, [(s.heap.push { cls := .type "range", data := .fields #[.int lo t, .int hi u, .int 1 v] }).objs.size], _, _, H, rfl,
  I1.kept (t' := tk) fun b o e => Heap.get?_push_of_some _ e, turn_range _ lo (hi - lo).toNat, ?_, fun b hb => ?_, q⟩
 ·have e1 : lo + ((0 : Nat) : Int) * 1 = lo := by simp
  have e2 : (((hi - lo).toNat : Nat) : Int) - ((0 : Nat) : Int) = Builtin.Range.rangeSize lo hi 1 := by rw [rangeSize_one]; split <;> omega
  show IsRangeIter _ _ (lo + ((0 : Nat) : Int) * 1) ((((hi - lo).toNat : Nat) : Int) - ((0 : Nat) : Int)) 1
  rw [e1, e2]
  exact Heap.get?_push_size _ rfl
 ·have e : b = (s.heap.push { cls := .type "range", data := .fields #[.int lo t, .int hi u, .int 1 v] }).objs.size := by simpa using hb
  subst e
  exact I1.fpOk (Nat.le_refl _) (I1.hok.fresh (Nat.le_refl _))
def iRng1 (ta : TA) : TI := fun Z H R => ta Z H fun vs H1 => ∃ j : Int, vs = [.int j] /\ -(2 ^ 62) <= j /\ j < 2 ^ 62 /\ R (Itr 0 j.toNat) H1
theorem pi_range1 {a : Expr} {ta : TA} {p pos : Pos} (hg : Gl X "range") (hm : X.mg "range" = none) (ha : PA X [a] ta) (hs : starEach [a] X.env = [(false, eval a X.env)] := by rfl) : PI X tg (.Call (.Name "range" p) [a] [] pos) (iRng1 ta) := by
 intro pins s Z H R I h
 refine Call_ (ld_blt I hg hm boot_range (PyProof.Rows.callWith_type1 (thn (ha pos pins s Z H _ I h) fun us s1 ⟨vs, H1, I1, r1, q1⟩ => ?_) hs rfl))
 obtain ⟨j, e, q1, q2, q⟩ := q1
 subst e
 cases r1 with
 | cons r rr =>
  cases rr
  obtain ⟨t, rfl⟩ := r
  exact call_range_1 (range_it I1 (by omega) (by omega) q1 q2 (by simpa using q))
def tFor (wi : TI) (g : TG) (tb : TS) : TS := fun D Z H => wi Z H fun J H1 => ∃ W : Nat -> Nat -> St -> Hp -> Prop, (∃ m, W 0 m Z H1) /\ ∀ i m Z H, W i m Z H ->
 (J.stop i H /\ D.nx Z H) ∨ (J.go i H /\ ∃ N : St -> Hp -> Prop, (∀ Z' H', N Z' H' -> ∃ m', m' < m /\ W (i + 1) m' Z' H') /\ ∀ x H', J.yld i H x H' -> g x Z H' fun Z2 H2 => tb { D with nx := N, ct := N, bk := D.nx } Z2 H2)
def pinsAt (fp : List Addr) (h : Heap) : List (Addr × Obj) := fp.filterMap fun b => (h.get? b).map fun o => (b, o)
theorem mem_pinsAt {fp : List Addr} {h : Heap} {b : Addr} {o : Obj} (hb : b ∈ fp) (e : h.get? b = some o) : (b, o) ∈ pinsAt fp h := List.mem_filterMap.mpr ⟨b, hb, by rw [e]; rfl⟩
theorem of_pinsAt {fp : List Addr} {h : Heap} {p : Addr × Obj} (hp : p ∈ pinsAt fp h) : p.1 ∈ fp /\ h.get? p.1 = some p.2 := by
 obtain ⟨b, hb, e⟩ := List.mem_filterMap.mp hp
 cases q : h.get? b with
 | none => rw [q] at e; cases e
 | some o =>
  rw [q] at e
  have e' : (b, o) = p := Option.some.inj e
  subst e'
  exact ⟨hb, q⟩
theorem Inv.pinned {pins : List (Addr × Obj)} {Z : St} {H : Hp} {s : Shared} {fp : List Addr} (I : Inv X pins Z H s) (hf : ∀ b ∈ fp, FpOk X pins H b) (ho : ∀ b ∈ fp, ∃ o, s.heap.get? b = some o /\ ∀ v, o.data ≠ .cell v) : Inv X (pins ++ pinsAt fp s.heap) Z H s :=
 I.pins_of fun p hp => (List.mem_append.mp hp).elim (fun z => I.pin p (List.mem_append_right _ z)) fun z => by
  obtain ⟨hb, e⟩ := of_pinsAt z
  obtain ⟨f0, f1, f2, _⟩ := hf p.1 hb
  obtain ⟨o, e', d⟩ := ho p.1 hb
  rw [e] at e'; cases e'
  exact ⟨e, f0, f1, f2, d⟩
theorem Inv.unpinned {pins pl : List (Addr × Obj)} {Z : St} {H : Hp} {s : Shared} (I : Inv X (pins ++ pl) Z H s) : Inv X pins Z H s := I.pins_of fun p hp => I.pin p (List.mem_append_right _ (List.mem_append_left _ hp))
theorem ps_for {iter : Expr} {body : List Stmt} {wi : TI} {g : TG} {tb : TS} {pos : Pos} (hp : PassesOwn (model X.prog X.w) X.A X.env X.xe) (hc : X.calm = true) (hi : PI X tg iter wi) (hg : PG X tg g) (hb : PSs X body tb)
  (hs : ∀ x, foldedSetIterable iter X.env x = pure x := by intro _; rfl) : PS X (.For tg iter body [] pos) (tFor wi g tb) := by
 intro pins s Z H D I h
 refine wpAny_For (thn (hi pins s Z H _ I h) fun v s1 h1 => thn h1 fun itv s2 h2 => ?_) hs
 obtain ⟨it, fp, tn, J, H2, e, I2, T, st2, f2, W, ⟨m0, w0⟩, turn⟩ := h2
 subst e
 have stat : ∀ {H' : Hp}, (∀ b ∈ fp, H' b = none) -> ∀ b ∈ fp, FpOk X pins H' b := fun hn b hb => ⟨hn b hb, (f2 b hb).2⟩
 refine codeAny_forLoop_any (fun n s' => ∃ i Z' H', Inv X pins Z' H' s' /\ tn i s'.heap /\ (∀ b ∈ fp, H' b = none) /\ W i n Z' H') ?_ m0 ⟨0, Z, H2, I2, st2, fun b hb => (f2 b hb).1, w0⟩
 rintro n s3 ⟨i, Z3, H3, I3, st3, fr3, w3⟩
 rcases turn i n Z3 H3 w3 with ⟨stop, qn⟩ | ⟨go, N, hN, step⟩
 ·refine wpAny_passesOwn hp (thn (T.done X rfl rfl rfl hc i pins s3 Z3 H3 X.xe I3 (stat fr3) st3 stop) fun r s4 ⟨hr, I4⟩ => ?_)
  subst hr
  exact wpAny_execs_nil ⟨Z3, H3, I4, qn⟩
 ·refine wpAny_passesOwn hp (thn (T.item X rfl rfl rfl hc i pins s3 Z3 H3 X.xe I3 (stat fr3) st3 go) fun r s4 ⟨u, hr, h4⟩ => ?_)
  subst hr
  refine wpAny_passesOwn hp (thn h4 fun _ s5 ⟨x, H5, I5, r5, y5, st5, fr5⟩ => ?_)
  have I5' := I5.pinned (stat fr5) (T.obj _ _ st5)
  refine wpAny_passesOwn hp (thn (hg _ s5 Z3 H5 x u _ I5' r5 (step x H5 y5)) fun _ s6 ⟨Z6, H6, I6, q6⟩ => ?_)
  refine wpAny_passesOwn hp (thn (hb _ s6 Z6 H6 _ I6 q6) fun f s7 q7 => ?_)
  have again : ∀ {Z7 : St} {H7 : Hp}, Inv X (pins ++ pinsAt fp s5.heap) Z7 H7 s7 -> N Z7 H7 -> ∃ m, m < n /\ ∃ i Z' H', Inv X pins Z' H' s7 /\ tn i s7.heap /\ (∀ b ∈ fp, H' b = none) /\ W i m Z' H' := fun {Z7 H7} I7 n7 => by
   obtain ⟨m', hm, w7⟩ := hN Z7 H7 n7
   refine ⟨m', hm, i + 1, Z7, H7, I7.unpinned, T.keep _ _ _ st5 fun b hb o e => (I7.pin (b, o) (List.mem_append_right _ (List.mem_append_right _ (mem_pinsAt hb e)))).1, fun b hb => ?_, w7⟩
   obtain ⟨o, e, d⟩ := T.obj _ _ st5 b hb
   exact (I7.pin (b, o) (List.mem_append_right _ (List.mem_append_right _ (mem_pinsAt hb e)))).2.1
  cases f with
  | next => obtain ⟨Z7, H7, I7, n7⟩ := q7; exact again I7 n7
  | cont => obtain ⟨Z7, H7, I7, n7⟩ := q7; exact again I7 n7
  | brk => obtain ⟨Z7, H7, I7, q7⟩ := q7; exact ⟨Z7, H7, I7.unpinned, q7⟩
  | ret v => obtain ⟨x7, Z7, H7, I7, r7, q7⟩ := q7; exact ⟨x7, Z7, H7, I7.unpinned, r7, q7⟩
end
theorem for_list {K : PySem.W.Frag} {a : Addr} {xs : List V} {g : TG} {tb : TS} {D : Ends} {Z : St} {H : Hp} (Pv : Nat -> St -> Hp -> Prop) (h0 : Pv 0 Z H) (hl : ∀ i Z H, i <= xs.length -> Pv i Z H -> SqL K H a xs)
  (hs : ∀ i x Z H, xs[i]? = some x -> Pv i Z H -> g x Z H fun Z2 H2 => tb { D with nx := Pv (i + 1), ct := Pv (i + 1), bk := D.nx } Z2 H2) (hd : ∀ Z H, Pv xs.length Z H -> D.nx Z H) :
  ∃ W : Nat -> Nat -> St -> Hp -> Prop, (∃ m, W 0 m Z H) /\ ∀ i m Z H, W i m Z H ->
   ((Itl K a).stop i H /\ D.nx Z H) ∨ ((Itl K a).go i H /\ ∃ N : St -> Hp -> Prop, (∀ Z' H', N Z' H' -> ∃ m', m' < m /\ W (i + 1) m' Z' H') /\ ∀ x H', (Itl K a).yld i H x H' -> g x Z H' fun Z2 H2 => tb { D with nx := N, ct := N, bk := D.nx } Z2 H2) := by
 refine ⟨fun i m Z H => m = xs.length - i /\ i <= xs.length /\ Pv i Z H, ⟨xs.length, by simp, Nat.zero_le _, h0⟩, ?_⟩
 rintro i m Z H ⟨rfl, hi, p⟩
 have q := hl i Z H hi p
 by_cases hlt : i < xs.length
 ·refine .inr ⟨⟨xs, xs[i], q, by simp [hlt]⟩, Pv (i + 1), fun Z' H' p' => ⟨xs.length - (i + 1), by omega, rfl, hlt, p'⟩, fun x H' y => ?_⟩
  obtain ⟨e, y⟩ := y
  subst e
  exact hs i x Z _ (y xs q) p
 ·have e : i = xs.length := by omega
  subst e
  exact .inl ⟨⟨xs, q, Nat.le_refl _⟩, hd Z H p⟩
theorem for_range {lo : Int} {n : Nat} {g : TG} {tb : TS} {D : Ends} {Z : St} {H : Hp} (Pv : Nat -> St -> Hp -> Prop) (h0 : Pv 0 Z H)
  (hs : ∀ i Z H, i < n -> Pv i Z H -> g (.int (lo + i)) Z H fun Z2 H2 => tb { D with nx := Pv (i + 1), ct := Pv (i + 1), bk := D.nx } Z2 H2) (hd : ∀ Z H, Pv n Z H -> D.nx Z H) :
  ∃ W : Nat -> Nat -> St -> Hp -> Prop, (∃ m, W 0 m Z H) /\ ∀ i m Z H, W i m Z H ->
   ((Itr lo n).stop i H /\ D.nx Z H) ∨ ((Itr lo n).go i H /\ ∃ N : St -> Hp -> Prop, (∀ Z' H', N Z' H' -> ∃ m', m' < m /\ W (i + 1) m' Z' H') /\ ∀ x H', (Itr lo n).yld i H x H' -> g x Z H' fun Z2 H2 => tb { D with nx := N, ct := N, bk := D.nx } Z2 H2) := by
 refine ⟨fun i m Z H => m = n - i /\ i <= n /\ Pv i Z H, ⟨n, by simp, Nat.zero_le _, h0⟩, ?_⟩
 rintro i m Z H ⟨rfl, hi, p⟩
 by_cases hlt : i < n
 ·refine .inr ⟨hlt, Pv (i + 1), fun Z' H' p' => ⟨n - (i + 1), by omega, rfl, hlt, p'⟩, fun x H' y => ?_⟩
  obtain ⟨e, y⟩ := y
  subst e y
  exact hs i Z _ hlt p
 ·have e : i = n := by omega
  subst e
  exact .inl ⟨Nat.le_refl _, hd Z H p⟩
end L2
namespace L2
open PySem PySem.Spec PyProof.Rows
abbrev R2 := V -> V -> Hp -> VK -> Prop
def OpR (X : Cx) (f : Value -> Value -> Sem Value) (r : R2) : Prop :=
 ∀ (pins : List (Addr × Obj)) (s : Shared) (Z : St) (H : Hp) (x y : V) (v u : Value) (Q : VK), Inv X pins Z H s -> RelV x v -> RelV y u -> r x y H Q ->
  wpAny (model X.prog X.w) X.A (f v u) (EP X pins Z Q) X.xe s
def UnR (X : Cx) (f : Value -> Sem Value) (r : V -> Hp -> VK -> Prop) : Prop :=
 ∀ (pins : List (Addr × Obj)) (s : Shared) (Z : St) (H : Hp) (x : V) (v : Value) (Q : VK), Inv X pins Z H s -> RelV x v -> r x H Q ->
  wpAny (model X.prog X.w) X.A (f v) (EP X pins Z Q) X.xe s
def CallR (X : Cx) (f : Value) (r : List V -> Hp -> VK -> Prop) : Prop :=
 ∀ (pins : List (Addr × Obj)) (s : Shared) (Z : St) (H : Hp) (xs : List V) (us : List Value) (Q : VK), Inv X pins Z H s -> Vals xs us -> r xs H Q ->
  wpAny (model X.prog X.w) X.A (call f us) (EP X pins Z Q) X.xe s
def TruR (X : Cx) (r : V -> Hp -> (Bool -> Hp -> Prop) -> Prop) : Prop :=
 ∀ (pins : List (Addr × Obj)) (s : Shared) (Z : St) (H : Hp) (x : V) (v : Value) (Q : Bool -> Hp -> Prop), Inv X pins Z H s -> RelV x v -> r x H Q ->
  wpAny (model X.prog X.w) X.A (truthy v) (TP X pins Z Q) X.xe s
def tOp (r : R2) (ta tb : TE) : TE := fun Z H Q => ta Z H fun x H1 => tb Z H1 fun y H2 => r x y H2 Q
def tUn (r : V -> Hp -> VK -> Prop) (ta : TE) : TE := fun Z H Q => ta Z H fun x H1 => r x H1 Q
def rI (C : Int -> Int -> Prop) (g : Int -> Int -> V) : R2 := fun x y H Q => ∃ i j, x = .int i /\ y = .int j /\ C i j /\ Q (g i j) H
def rI0 (g : Int -> Int -> V) : R2 := fun x y H Q => ∃ i j, x = .int i /\ y = .int j /\ Q (g i j) H
def rU (g : Int -> V) : V -> Hp -> VK -> Prop := fun x H Q => ∃ i, x = .int i /\ Q (g i) H
section
variable {X : Cx} {a b c : Expr} {ta tb tc : TE} {pos : Pos}
theorem binT (ha : PE X a ta) (hb : PE X b tb) {pins : List (Addr × Obj)} {s : Shared} {Z : St} {H : Hp} {R : V -> V -> Hp -> Prop} (I : Inv X pins Z H s)
  (h : ta Z H fun x H1 => tb Z H1 fun y H2 => R x y H2) {Q : Value -> Shared -> Prop} {f : Value -> Value -> Sem Value}
  (hf : ∀ v u s2 x y H2, Inv X pins Z H2 s2 -> RelV x v -> RelV y u -> R x y H2 -> wpAny (model X.prog X.w) X.A (f v u) Q X.xe s2) :
  wpAny (model X.prog X.w) X.A (eval a X.env) (fun v s₁ => wpAny (model X.prog X.w) X.A (eval b X.env) (fun u s₂ => wpAny (model X.prog X.w) X.A (f v u) Q X.xe s₂) X.xe s₁) X.xe s := by
 refine thn (ha pins s Z H _ I h) fun v s1 ⟨x, H1, I1, r1, q1⟩ => ?_
 refine thn (hb pins s1 Z H1 _ I1 q1) fun u s2 ⟨y, H2, I2, r2, q2⟩ => ?_
 exact hf v u s2 x y H2 I2 r1 r2 q2
theorem pe_op {op : Operator} {r : R2} (ho : OpR X (binaryOp op) r) (ha : PE X a ta) (hb : PE X b tb) : PE X (.BinOp a op b pos) (tOp r ta tb) := by
 intro pins s Z H Q I h
 exact wpAny_BinOp (binT ha hb I h fun v u s2 x y H2 I2 rx ry q => ho pins s2 Z H2 x y v u Q I2 rx ry q)
theorem pe_un {op : UnaryOp} {r : V -> Hp -> VK -> Prop} (ho : UnR X (unaryOp op) r) (ha : PE X a ta) : PE X (.UnaryOp op a pos) (tUn r ta) := by
 intro pins s Z H Q I h
 exact UnaryOp_ (thn (ha pins s Z H _ I h) fun v s1 ⟨x, H1, I1, r1, q1⟩ => ho pins s1 Z H1 x v Q I1 r1 q1)
theorem opI {f : Value -> Value -> Sem Value} {C : Int -> Int -> Prop} {g : Int -> Int -> Int}
  (rule : ∀ (i j : Int) (t u : Tok) (s : Shared) (Q : Value -> Shared -> Prop) (E : Value -> Shared -> Prop), C i j -> Q (.int (g i j) s.toks) { s with toks := s.toks + 1 } -> wpAny (model X.prog X.w) X.A (f (.int i t) (.int j u)) Q E s) :
  OpR X f (rI C fun i j => .int (g i j)) := by
 intro pins s Z H x y v u Q I rx ry h
 obtain ⟨i, j, rfl, rfl, hc, q⟩ := h
 obtain ⟨t, rfl⟩ := rx
 obtain ⟨t', rfl⟩ := ry
 exact rule i j t t' s _ _ hc ⟨.int (g i j), H, I.tok _, ⟨_, rfl⟩, q⟩
theorem opI0 {f : Value -> Value -> Sem Value} {g : Int -> Int -> Int}
  (rule : ∀ (i j : Int) (t u : Tok) (s : Shared) (Q : Value -> Shared -> Prop) (E : Value -> Shared -> Prop), Q (.int (g i j) s.toks) { s with toks := s.toks + 1 } -> wpAny (model X.prog X.w) X.A (f (.int i t) (.int j u)) Q E s) :
  OpR X f (rI0 fun i j => .int (g i j)) := by
 intro pins s Z H x y v u Q I rx ry h
 obtain ⟨i, j, rfl, rfl, q⟩ := h
 obtain ⟨t, rfl⟩ := rx
 obtain ⟨t', rfl⟩ := ry
 exact rule i j t t' s _ _ ⟨.int (g i j), H, I.tok _, ⟨_, rfl⟩, q⟩
theorem opB0 {f : Value -> Value -> Sem Value} {g : Int -> Int -> Bool}
  (rule : ∀ (i j : Int) (t u : Tok) (s : Shared) (Q : Value -> Shared -> Prop) (E : Value -> Shared -> Prop), Q (.bool (g i j)) s -> wpAny (model X.prog X.w) X.A (f (.int i t) (.int j u)) Q E s) :
  OpR X f (rI0 fun i j => .bl (g i j)) := by
 intro pins s Z H x y v u Q I rx ry h
 obtain ⟨i, j, rfl, rfl, q⟩ := h
 obtain ⟨t, rfl⟩ := rx
 obtain ⟨t', rfl⟩ := ry
 exact rule i j t t' s _ _ ⟨.bl (g i j), H, I, rfl, q⟩
def CDiv (i j : Int) : Prop := 0 < j /\ j < 1073741824
def CMul (i j : Int) : Prop := (-(2 ^ 64) < i /\ i < 2 ^ 64) ∨ (-(2 ^ 64) < j /\ j < 2 ^ 64)
theorem CMul.ok {i j : Int} (h : CMul i j) : IntMulOk i j := by
 rcases h with ⟨h1, h2⟩ | ⟨h1, h2⟩
 ·exact .of_left (intBits_le_64 h1 h2)
 ·exact .of_right (intBits_le_64 h1 h2)
theorem op_add : OpR X (binaryOp .Add) (rI0 fun i j => .int (i + j)) := opI0 fun _ _ _ _ _ _ _ q => add_int q
theorem op_sub : OpR X (binaryOp .Sub) (rI0 fun i j => .int (i - j)) := opI0 fun _ _ _ _ _ _ _ q => sub_int q
theorem op_mul : OpR X (binaryOp .Mult) (rI CMul fun i j => .int (i * j)) := opI fun _ _ _ _ _ _ _ hc q => mul_int q hc.ok
theorem op_fdiv : OpR X (binaryOp .FloorDiv) (rI CDiv fun i j => .int (i / j)) := opI fun i j _ _ _ _ _ hc q => by
 have h1 : (0 : Int) < j := hc.1
 have h2 : j < 1073741824 := hc.2
 exact floordiv_int (by omega) (by rw [Int.fdiv_eq_ediv_of_nonneg i (by omega)]; exact q) (.inl (PyProof.noPylong_small (by omega)))
theorem op_mod : OpR X (binaryOp .Mod) (rI (fun _ j => 0 < j) fun i j => .int (i % j)) := opI fun i j _ _ _ _ _ hc q => by
 have h1 : (0 : Int) < j := hc
 exact mod_int' (by omega) (by rw [Int.fmod_eq_emod_of_nonneg i (by omega)]; exact q)
theorem unI {f : Value -> Sem Value} {g : Int -> Int}
  (rule : ∀ (i : Int) (t : Tok) (s : Shared) (Q : Value -> Shared -> Prop) (E : Value -> Shared -> Prop), Q (.int (g i) s.toks) { s with toks := s.toks + 1 } -> wpAny (model X.prog X.w) X.A (f (.int i t)) Q E s) :
  UnR X f (rU fun i => .int (g i)) := by
 intro pins s Z H x v Q I rx h
 obtain ⟨i, rfl, q⟩ := h
 obtain ⟨t, rfl⟩ := rx
 exact rule i t s _ _ ⟨.int (g i), H, I.tok _, ⟨_, rfl⟩, q⟩
theorem un_neg : UnR X (unaryOp .USub) (rU fun i => .int (-i)) := unI fun _ _ _ _ _ q => neg_int q
end
def scal : V -> V -> Bool
 | .non, .non => true | .non, .int _ => true | .int _, .non => true | .non, .bl _ => true | .bl _, .non => true | .non, .str _ => true | .str _, .non => true
 | .int _, .int _ => true | .bl _, .bl _ => true | .str _, .str _ => true | .byt _, .byt _ => true
 | .int _, .str _ => true | .str _, .int _ => true | .bl _, .str _ => true | .str _, .bl _ => true
 | _, _ => false
def rEq : R2 := fun x y H Q => scal x y = true /\ Q (.bl (decide (x = y))) H
def rNe : R2 := fun x y H Q => scal x y = true /\ Q (.bl (!decide (x = y))) H
theorem dec_int {i j : Int} : decide (V.int i = V.int j) = (i == j) := by
 rw [Bool.eq_iff_iff]
 simp
theorem dec_bl {i j : Bool} : decide (V.bl i = V.bl j) = (i == j) := by
 rw [Bool.eq_iff_iff]
 simp
theorem dec_str {i j : Str} : decide (V.str i = V.str j) = (i == j) := by
 rw [Bool.eq_iff_iff]
 simp
theorem dec_byt {i j : Array UInt8} : decide (V.byt i = V.byt j) = (i.toList == j.toList) := by
 rw [Bool.eq_iff_iff]
 cases i
 cases j
 simp
section
variable {X : Cx} {a b c : Expr} {ta tb tc : TE} {pos : Pos}
theorem fin_bl {pins : List (Addr × Obj)} {Z : St} {H : Hp} {s : Shared} {Q : VK} {k k' : Bool} (I : Inv X pins Z H s) (q : Q (.bl k) H) (e : k = k') : EP X pins Z Q (.bool k') s := by
 subst e
 exact ⟨.bl k, H, I, rfl, q⟩
theorem op_eq : OpR X (compareOp .Eq) rEq := by
 intro pins s Z H x y v u Q I rx ry h
 obtain ⟨hs, q⟩ := h
 cases x with
 | non =>
  cases rx
  cases y with
  | non => cases ry; exact PySem.EqNone.eq_none_none (fin_bl I q (by simp))
  | bl j => cases ry; exact PySem.EqNone.eq_none_bool (fin_bl I q (by simp))
  | int j => obtain ⟨t', rfl⟩ := ry; exact PySem.EqNone.eq_none_int (fin_bl I q (by simp))
  | str j => obtain ⟨t', rfl⟩ := ry; exact PySem.EqNone.eq_none_str (fin_bl I q (by simp))
  | _ => exact absurd (show false = true from hs) Bool.false_ne_true
 | bl i =>
  cases rx
  cases y with
  | non => cases ry; exact PySem.EqNone.eq_bool_none (fin_bl I q (by simp))
  | bl j => cases ry; exact eq_bool (fin_bl I q dec_bl)
  | str j => obtain ⟨t', rfl⟩ := ry; exact PySem.EqMixed.eq_bool_str (fin_bl I q (by simp))
  | _ => exact absurd (show false = true from hs) Bool.false_ne_true
 | int i =>
  obtain ⟨t, rfl⟩ := rx
  cases y with
  | non => cases ry; exact PySem.EqNone.eq_int_none (fin_bl I q (by simp))
  | int j => obtain ⟨t', rfl⟩ := ry; exact eq_int (fin_bl I q dec_int)
  | str j => obtain ⟨t', rfl⟩ := ry; exact PySem.EqMixed.eq_int_str (fin_bl I q (by simp))
  | _ => exact absurd (show false = true from hs) Bool.false_ne_true
 | str i =>
  obtain ⟨t, rfl⟩ := rx
  cases y with
  | non => cases ry; exact PySem.EqNone.eq_str_none (fin_bl I q (by simp))
  | bl j => cases ry; exact PySem.EqMixed.eq_str_bool (fin_bl I q (by simp))
  | int j => obtain ⟨t', rfl⟩ := ry; exact PySem.EqMixed.eq_str_int (fin_bl I q (by simp))
  | str j => obtain ⟨t', rfl⟩ := ry; exact eq_str (fin_bl I q dec_str)
  | _ => exact absurd (show false = true from hs) Bool.false_ne_true
 | byt i =>
  obtain ⟨t, rfl⟩ := rx
  cases y with
  | byt j => obtain ⟨t', rfl⟩ := ry; exact PySem.W.eq_bytes (fin_bl I q dec_byt)
  | _ => exact absurd (show false = true from hs) Bool.false_ne_true
 | _ => cases y <;> exact absurd (show false = true from hs) Bool.false_ne_true
theorem op_ne : OpR X (compareOp .NotEq) rNe := by
 intro pins s Z H x y v u Q I rx ry h
 obtain ⟨hs, q⟩ := h
 cases x with
 | non =>
  cases rx
  cases y with
  | non => cases ry; exact PySem.EqNone.ne_none_none (fin_bl I q (by simp))
  | bl j => cases ry; exact PySem.EqNone.ne_none_bool (fin_bl I q (by simp))
  | int j => obtain ⟨t', rfl⟩ := ry; exact PySem.EqNone.ne_none_int (fin_bl I q (by simp))
  | str j => obtain ⟨t', rfl⟩ := ry; exact PySem.EqNone.ne_none_str (fin_bl I q (by simp))
  | _ => exact absurd (show false = true from hs) Bool.false_ne_true
 | bl i =>
  cases rx
  cases y with
  | non => cases ry; exact PySem.EqNone.ne_bool_none (fin_bl I q (by simp))
  | bl j => cases ry; exact ne_bool (fin_bl I q (congrArg not dec_bl))
  | str j => obtain ⟨t', rfl⟩ := ry; exact PySem.EqMixed.ne_bool_str (fin_bl I q (by simp))
  | _ => exact absurd (show false = true from hs) Bool.false_ne_true
 | int i =>
  obtain ⟨t, rfl⟩ := rx
  cases y with
  | non => cases ry; exact PySem.EqNone.ne_int_none (fin_bl I q (by simp))
  | int j => obtain ⟨t', rfl⟩ := ry; exact ne_int (fin_bl I q (congrArg not dec_int))
  | str j => obtain ⟨t', rfl⟩ := ry; exact PySem.EqMixed.ne_int_str (fin_bl I q (by simp))
  | _ => exact absurd (show false = true from hs) Bool.false_ne_true
 | str i =>
  obtain ⟨t, rfl⟩ := rx
  cases y with
  | non => cases ry; exact PySem.EqNone.ne_str_none (fin_bl I q (by simp))
  | bl j => cases ry; exact PySem.EqMixed.ne_str_bool (fin_bl I q (by simp))
  | int j => obtain ⟨t', rfl⟩ := ry; exact PySem.EqMixed.ne_str_int (fin_bl I q (by simp))
  | str j => obtain ⟨t', rfl⟩ := ry; exact ne_str (fin_bl I q (congrArg not dec_str))
  | _ => exact absurd (show false = true from hs) Bool.false_ne_true
 | byt i =>
  obtain ⟨t, rfl⟩ := rx
  cases y with
  | byt j => obtain ⟨t', rfl⟩ := ry; exact PySem.W.ne_bytes (fin_bl I q (congrArg not dec_byt))
  | _ => exact absurd (show false = true from hs) Bool.false_ne_true
 | _ => cases y <;> exact absurd (show false = true from hs) Bool.false_ne_true
theorem op_lt : OpR X (compareOp .Lt) (rI0 fun i j => .bl (decide (i < j))) := opB0 fun _ _ _ _ _ _ _ q => lt_int q
theorem op_gt : OpR X (compareOp .Gt) (rI0 fun i j => .bl (decide (j < i))) := opB0 fun _ _ _ _ _ _ _ q => gt_int q
theorem op_ge : OpR X (compareOp .GtE) (rI0 fun i j => .bl (decide (j <= i))) := opB0 fun _ _ _ _ _ _ _ q => ge_int q
theorem op_in_str : OpR X (compareOp .In) (fun x y H Q => ∃ i j, x = .str i /\ y = .str j /\ Q (.bl (!(Builtin.Str.occurrences j i 0 j.length 1).isEmpty)) H) := by
 intro pins s Z H x y v u Q I rx ry h
 obtain ⟨i, j, rfl, rfl, q⟩ := h
 obtain ⟨t, rfl⟩ := rx
 obtain ⟨t', rfl⟩ := ry
 exact in_str (fin_bl I q rfl)
theorem op_isN : OpR X (compareOp .Is) (fun x y H Q => y = .non /\ Q (.bl (decide (x = .non))) H) := by
 intro pins s Z H x y v u Q I rx ry h
 obtain ⟨rfl, q⟩ := h
 cases ry
 refine is_none_gen (fin_bl I q ?_)
 cases x <;> first
  | (cases rx; rfl)
  | (obtain ⟨t, rfl⟩ := rx; rfl)
theorem op_notN : OpR X (compareOp .IsNot) (fun x y H Q => y = .non /\ Q (.bl (!decide (x = .non))) H) := by
 intro pins s Z H x y v u Q I rx ry h
 obtain ⟨rfl, q⟩ := h
 cases ry
 refine isnot_none_gen (fin_bl I q ?_)
 cases x <;> first
  | (cases rx; rfl)
  | (obtain ⟨t, rfl⟩ := rx; rfl)
theorem op_notin_str : OpR X (compareOp .NotIn) (fun x y H Q => ∃ i j, x = .str i /\ y = .str j /\ Q (.bl (!(!(Builtin.Str.occurrences j i 0 j.length 1).isEmpty))) H) := by
 intro pins s Z H x y v u Q I rx ry h
 obtain ⟨i, j, rfl, rfl, q⟩ := h
 obtain ⟨t, rfl⟩ := rx
 obtain ⟨t', rfl⟩ := ry
 exact notIn_str (fin_bl I q rfl)
theorem nomark (b : Expr) {op : CmpOp} (h : op ≠ .In := by decide) (h2 : op ≠ .NotIn := by decide) : behindInMarks op b = false := by
 have e1 : (op == CmpOp.In) = false := by cases op <;> first | rfl | exact absurd rfl h
 have e2 : (op == CmpOp.NotIn) = false := by cases op <;> first | rfl | exact absurd rfl h2
 cases b <;> simp [behindInMarks, e1, e2]
theorem pe_cmpR {op : CmpOp} {r : R2} (ho : OpR X (compareOp op) r) (ha : PE X a ta) (hb : PE X b tb) (hm : behindInMarks op b = false) : PE X (.Compare a [op] [b] pos) (tOp r ta tb) := by
 intro pins s Z H Q I h
 exact wpAny_Compare1 (binT ha hb I h fun v u s2 x y H2 I2 rx ry q => ho pins s2 Z H2 x y v u Q I2 rx ry q) hm
def tTest (t : TE) : TT := fun Z H Q => t Z H fun x H' => ∃ k, x = .bl k /\ Q k H'
theorem pt_cmpR {op : CmpOp} {r : R2} (ho : OpR X (compareOp op) r) (ha : PE X a ta) (hb : PE X b tb) (hm : behindInMarks op b = false) : PT X (.Compare a [op] [b] pos) (tTest (tOp r ta tb)) := by
 intro pins s Z H Q I h
 refine wpAny_isTrue_Compare1 (thn (ha pins s Z H _ I h) fun v s1 ⟨x, H1, I1, r1, q1⟩ => thn (hb pins s1 Z H1 _ I1 q1) fun u s2 ⟨y, H2, I2, r2, q2⟩ =>
  thn (ho pins s2 Z H2 x y v u _ I2 r1 r2 q2) fun c s3 ⟨z, H3, I3, r3, k, e, q3⟩ => ?_) hm
 subst e
 cases r3
 exact wpAny_truthy_bool ⟨H3, I3, q3⟩
def TruV (K : PySem.W.Frag) (x : V) (H : Hp) (k : Bool) : Prop :=
 match x with
 | .non => k = false
 | .bl b => k = b
 | .int i => k = (i != 0)
 | .str y => y.length <= sizeLine /\ k = ((y.length : Int) != 0)
 | .byt y => y.size <= sizeLine /\ k = ((y.size : Int) != 0)
 | .ref p => (∃ xs, SqL K H p xs /\ k = !xs.isEmpty) ∨ (∃ xs, SqT K H p xs /\ k = !xs.isEmpty) ∨ ∃ kvs, H p = some (.dK kvs) /\ k = !kvs.isEmpty
 | _ => False
theorem isEmpty_kv {κ : Type} {kvs : List (κ × V)} {vs : List (κ × Value)} (r : KV kvs vs) : (!vs.isEmpty) = !kvs.isEmpty := by
 cases r <;> rfl
theorem isEmpty_of {xs : List V} {its : List Value} (r : Vals xs its) : (!its.toArray.isEmpty) = !xs.isEmpty := by
 cases r <;> simp
theorem line63 : (sizeLine : Nat) < 2 ^ 63 := by rw [sizeLine_eq]; decide
theorem tru_ok : TruR X (fun x H Q => ∃ k, TruV X.K x H k /\ Q k H) := by
 intro pins s Z H x v Q I rx h
 obtain ⟨k, e, q⟩ := h
 have hl := line63
 have hs : sizeLine = 16777216 := sizeLine_eq
 cases x with
 | non =>
  cases rx
  have e' : k = false := e
  subst e'
  exact truthy_none ⟨H, I, q⟩
 | bl b =>
  cases rx
  have e' : k = b := e
  subst e'
  exact wpAny_truthy_bool ⟨H, I, q⟩
 | int i =>
  obtain ⟨t, rfl⟩ := rx
  have e' : k = (i != 0) := e
  subst e'
  exact PySem.P.truthy_int ⟨H, I, q⟩
 | str y =>
  obtain ⟨t, rfl⟩ := rx
  obtain ⟨hy, e'⟩ : y.length <= sizeLine /\ k = ((y.length : Int) != 0) := e
  subst e'
  exact PySem.P.truthy_str (by omega) ⟨H, I.tok _, q⟩
 | byt y =>
  obtain ⟨t, rfl⟩ := rx
  obtain ⟨hy, e'⟩ : y.size <= sizeLine /\ k = ((y.size : Int) != 0) := e
  subst e'
  exact PySem.W.truthy_bytes (by omega) ⟨H, I.tok _, q⟩
 | ref p =>
  cases rx
  have e' : (∃ xs, SqL X.K H p xs /\ k = !xs.isEmpty) ∨ (∃ xs, SqT X.K H p xs /\ k = !xs.isEmpty) ∨ ∃ kvs, H p = some (.dK kvs) /\ k = !kvs.isEmpty := e
  rcases e' with ⟨xs, hx, e'⟩ | ⟨xs, hx, e'⟩ | ⟨kvs, hx, e'⟩
  ·subst e'
   obtain ⟨its, r, pl, hz⟩ := I.list hx
   have hlen := r.length
   exact wpAny_truthy_list pl.isList (by simp only [List.size_toArray]; omega) ⟨H, I.tok _, by rw [isEmpty_of r]; exact q⟩
  ·subst e'
   obtain ⟨its, r, pl, hz⟩ := I.tuple hx
   have hlen := r.length
   exact truthy_tuple pl (by simp only [List.size_toArray]; omega) ⟨H, I.tok _, by rw [isEmpty_of r]; exact q⟩
  ·subst e'
   obtain ⟨hz, hS, vs, r, m⟩ : kvs.length <= sizeLine /\ (p == sysModules) = false /\ ∃ vs, KV kvs vs /\ s.heap.DictOf (mixKind X.prog X.w) p vs := I.hok p _ hx
   have hlen : kvs.length = vs.length := Paired.length r
   exact wpAny_truthy_dict hS m (by omega) ⟨H, I.tok _, by rw [isEmpty_kv r]; exact q⟩
 | _ => exact (show False from e).elim
theorem pt_truth (ha : PE X a ta) (he : ∀ whole, isTrue a X.env whole = (do let v ← whole; standAt a.pos; holding [v] (truthy v))) :
  PT X a (fun Z H Q => ta Z H fun x H' => ∃ k, TruV X.K x H' k /\ Q k H') := by
 intro pins s Z H Q I h
 exact isTrue_plain (thn (ha pins s Z H _ I h) fun v s1 ⟨x, H1, I1, r1, q1⟩ => tru_ok pins s1 Z H1 x v Q I1 r1 q1) (he _)
theorem op_add_str : OpR X (binaryOp .Add) (fun x y H Q => ∃ i j, x = .str i /\ y = .str j /\ i.length + j.length <= sizeLine /\ Q (.str (i ++ j)) H) := by
 intro pins s Z H x y v u Q I rx ry h
 obtain ⟨i, j, rfl, rfl, hz, q⟩ := h
 obtain ⟨t, rfl⟩ := rx
 obtain ⟨t', rfl⟩ := ry
 exact add_str (fun t' tk => ⟨.str (i ++ j), H, I.tok _, ⟨_, rfl⟩, q⟩) hz
theorem vals1 {x : V} {us : List Value} (r : Vals [x] us) : ∃ u, us = [u] /\ RelV x u := by
 cases r with
 | cons r1 r2 => cases r2; exact ⟨_, rfl, r1⟩
theorem vals2 {x y : V} {us : List Value} (r : Vals [x, y] us) : ∃ u w', us = [u, w'] /\ RelV x u /\ RelV y w' := by
 cases r with
 | cons r1 r2 =>
  cases r2 with
  | cons r3 r4 => cases r4; exact ⟨_, _, rfl, r1, r3⟩
theorem call_min2 (hc : X.calm = true) : CallR X (.builtin "min") (fun xs H Q => ∃ i j, xs = [.int i, .int j] /\ Q (.int (if j < i then j else i)) H) := by
 intro pins s Z H xs us Q I r h
 obtain ⟨i, j, rfl, q⟩ := h
 obtain ⟨u, w', rfl, ⟨t, rfl⟩, ⟨t', rfl⟩⟩ := vals2 r
 refine min_two_ints (I.ok.hd hc) fun h' tk k => ⟨_, H, I.kept k, ?_, q⟩
 by_cases hj : j < i
 ·rw [if_pos hj, if_pos hj]; exact ⟨_, rfl⟩
 ·rw [if_neg hj, if_neg hj]; exact ⟨_, rfl⟩
theorem call_int1 : CallR X (.type "int") (fun xs H Q => (∃ i, xs = [.int i] /\ Q (.int i) H) ∨ ∃ k, xs = [.bl k] /\ Q (.int (if k then 1 else 0)) H) := by
 intro pins s Z H xs us Q I r h
 rcases h with ⟨i, rfl, q⟩ | ⟨k, rfl, q⟩
 ·obtain ⟨u, rfl, t, rfl⟩ := vals1 r
  exact call_int_int ⟨.int i, H, I, ⟨_, rfl⟩, q⟩
 ·obtain ⟨u, rfl, r1⟩ := vals1 r
  cases r1
  exact call_int_bool ⟨.int (if k then 1 else 0), H, I.tok _, ⟨_, rfl⟩, q⟩
end
end L2
namespace L2
open PySem PySem.Spec PyProof.Rows
structure ObjM (h : Heap) (x dx C : Addr) (mA : Str -> Option Value) : Prop where
 obj : h.get? x = some (PySem.W.instObj C dx)
 ns : h.Ns1 dx mA
 ne : dx ≠ x
theorem lookIn_ns {h : Heap} {dx : Addr} {mA : Str -> Option Value} (n : h.Ns1 dx mA) : ∃ od, h.get? dx = some od /\ ∀ name, PySem.W.lookIn name od = some (mA name) := by
 obtain ⟨o, es, ep, ho, hd, hk, _, hm⟩ := n
 refine ⟨o, ho, fun name => ?_⟩
 have e := hm name
 unfold nsFind findBy at e
 rw [← Array.find?_toList] at e
 unfold PySem.W.lookIn
 rw [hd]
 dsimp only
 split
 ·rename_i y q
  rw [q] at e
  exact congrArg some e
 ·rename_i q
  rw [q] at e
  have a : es.toList.any (·.refKey) = false := by
   rw [List.any_eq_false]
   intro y hy
   obtain ⟨z, t, hkey⟩ := hk y (Array.mem_toList_iff.mp hy)
   simp [DictEntry.refKey, hkey]
  have a' : ¬ es.toList.any (·.refKey) = true := by rw [a]; exact Bool.false_ne_true
  rw [if_neg a']
  exact congrArg some e
theorem ObjM.look {h : Heap} {x dx C : Addr} {mA : Str -> Option Value} (I : ObjM h x dx C mA) : ∃ od, PySem.W.InstAt h x (PySem.W.instObj C dx) C (some od) /\ ∀ name, PySem.W.lookIn name od = some (mA name) :=
 let ⟨od, ho, hl⟩ := lookIn_ns I.ns
 ⟨od, ⟨I.obj, rfl, rfl, ho⟩, hl⟩
section
variable {prog : Program} {w : World} {A : Around} {E : Value -> Shared -> Prop} {s : Shared} {K : PySem.W.Frag} {x dx C f : Addr} {mA : Str -> Option Value} {name : Str} {v : Value}
theorem get_map {expr : Bool} {Q : Value -> Shared -> Prop} (X : K.In s.heap) (I : ObjM s.heap x dx C mA) (hg : PySem.W.plainGet K C name = true) (hh : PySem.W.hasDictIn K C = true)
  (ha : PySem.W.findIn K (.ref C) name = some none) (hv : mA name = some v) (hv' : PySem.W.handedIn v = true) (h : Q v { s with toks := s.toks + 1 }) :
  wpAny (model prog w) A (getAttr (.ref x) name expr) Q E s := by
 obtain ⟨od, J, hl⟩ := I.look
 exact PySem.W.get_value X J (PySem.W.plainGet_of hg).1 (PySem.W.findObj_own hh ha rfl (by rw [hl, hv])) hv' h
theorem get_meth {pl : Sem Bool} {Q : Value × List Value -> Shared -> Prop} (X : K.In s.heap) (I : ObjM s.heap x dx C mA) (hg : PySem.W.plainGet K C name = true)
  (hf : PySem.W.findIn K (.ref C) name = some (some (.ref f))) (ht : PySem.W.isFn K (.ref f) = true) (hv : mA name = none) (h : Q (.ref f, [.ref x]) s) :
  wpAny (model prog w) A (getMethod (.ref x) name pl) Q E s := by
 obtain ⟨od, J, hl⟩ := I.look
 exact PySem.W.method_fn X J (PySem.W.plainGet_of hg).1 (PySem.W.plainGet_of hg).2 hf (beq_iff_eq.mp ht) (by show (PySem.W.lookIn name od).map (·.isSome) = some false; rw [hl, hv]; rfl) h
theorem set_map {ns : List Str} {Q : Unit -> Shared -> Prop} (X : K.In s.heap) (I : ObjM s.heap x dx C mA)
  (hs : PySem.W.findIn K (.ref C) "__setattr__" = some (some (.builtin "object.__setattr__"))) (hp : PySem.W.plainOver K C = true) (ht : PySem.W.takerIn K C name = some none) (hh : PySem.W.hasDictIn K C = true)
  (hw : PySem.Within mA ns) (hsz : ns.length <= sizeLine)
  (h : ∀ h', ObjM h' x dx C (fun y => if y = name then some v else mA y) -> Heap.SameBut dx s.heap h' -> Q () { s with heap := h', toks := s.toks + 2 }) :
  wpAny (model prog w) A (setAttr (.ref x) name v) Q E s := by
 obtain ⟨od, J, hl⟩ := I.look
 refine PySem.W.set_plain X J hs (PySem.W.osa_open (s := { s with toks := s.toks + 1 }) (r := none) X J hp ht fun b => ?_)
 obtain ⟨cd, hc, hd'⟩ := PySem.W.any_some hh
 have hx : s.heap.get? x = some ⟨.ref C, some dx, .plain, #[]⟩ := I.obj
 refine wpAny_bind (wpAny_pure (wpAny_bind (wpAny_bind (wpAny_loadPart hx (wpAny_bind (PySem.W.Looks.here (s := { s with toks := s.toks + 1 }) (PySem.W.looks_clsIn X hc) ?_))))))
 rw [hd']
 refine wpAny_pure (a := some dx) (wpAny_bind (wpAny_pure (wpAny_bind ?_)))
 refine wpAny_nsSet1 (s := { s with toks := s.toks + 1 }) I.ns fun h' hn2 hs2 => ?_
 obtain ⟨oD, esD, epD, hoD, hdD, hcD⟩ := hn2.count (PySem.Within.cons name v hw)
 refine wpAny_bind (wpAny_lookBehind hoD (by rw [hdD]; exact pastItsLine_dict (Nat.le_trans hcD (by rw [List.length_cons]; omega))) ?_)
 exact wpAny_pure (h _ ⟨(hs2.2 _ (Ne.symm I.ne)).trans I.obj, hn2, I.ne⟩ hs2)
theorem make_map {R : Result -> Shared -> Prop} {vs : List Value} {kw : List (Str × Value)} (X : K.In s.heap) (hm : PySem.W.makesIn K C = true)
  (hi : PySem.W.findIn K (.ref C) "__init__" = some (some (.ref f))) (hf : PySem.W.typeIn K (.ref f) = some (.type "function"))
  (h : codeAny (model prog w) (A.under (.builtin "type.__call__" ⟨.ref C :: vs, kw⟩)) (.call (.ref f) ⟨.ref (s.heap.objs.size + 1) :: vs, kw⟩) (PySem.W.InitBack (s.heap.objs.size + 1) R)
   { s with heap := (s.heap.push PySem.W.emptyDict).push (PySem.W.instObj C s.heap.objs.size) }) :
  codeAny (model prog w) A (.call (.ref C) ⟨vs, kw⟩) R s := by
 obtain ⟨hh, g, d, t, os⟩ := s
 exact PySem.W.make_core (PySem.W.makes_of X hm) (PySem.W.looks_findIn X hi) (fun self => PySem.W.bind_fn X self hf) (.inl rfl) h
theorem make_map0 {R : Result -> Shared -> Prop} (X : K.In s.heap) (hm : PySem.W.makesIn K C = true)
  (hi : PySem.W.findIn K (.ref C) "__init__" = some (some (.builtin "object.__init__")))
  (hb : ∀ self, PySem.W.Looks (model prog w) s.heap (bindSpecial (.builtin "object.__init__") self) (.builtin "object.__init__", [self]))
  (h : codeAny (model prog w) (A.under (.builtin "type.__call__" ⟨[.ref C], []⟩)) (.call (.builtin "object.__init__") ⟨[.ref (s.heap.objs.size + 1)], []⟩) (PySem.W.InitBack (s.heap.objs.size + 1) R)
   { s with heap := (s.heap.push PySem.W.emptyDict).push (PySem.W.instObj C s.heap.objs.size) }) :
  codeAny (model prog w) A (.call (.ref C) ⟨[], []⟩) R s := by
 obtain ⟨hh, g, d, t, os⟩ := s
 exact PySem.W.make_core (PySem.W.makes_of X hm) (PySem.W.looks_findIn X hi) hb (.inr ⟨rfl, rfl⟩) h
end
def putF (f : Str) (v : V) : List (Str × V) -> List (Str × V)
 | [] => [(f, v)]
 | (g, x) :: r => if g = f then (g, v) :: r else (g, x) :: putF f v r
theorem lookup_putF (f g : Str) (v : V) : ∀ fs : List (Str × V), (putF f v fs).lookup g = if g = f then some v else fs.lookup g
 | [] => by
  show List.lookup g [(f, v)] = _
  by_cases h : g = f
  ·have hb : (g == f) = true := beq_iff_eq.mpr h
   simp only [List.lookup, hb, if_pos h]
  ·have hb : (g == f) = false := beq_eq_false_iff_ne.mpr h
   simp only [List.lookup, hb, if_neg h]
 | (k, x) :: r => by
  have ih := lookup_putF f g v r
  rw [show putF f v ((k, x) :: r) = (if k = f then (k, v) :: r else (k, x) :: putF f v r) from rfl]
  by_cases hk : k = f
  ·rw [if_pos hk]
   by_cases h : g = k
   ·have hb : (g == k) = true := beq_iff_eq.mpr h
    simp only [List.lookup, hb, if_pos (h.trans hk)]
   ·have hb : (g == k) = false := beq_eq_false_iff_ne.mpr h
    simp only [List.lookup, hb, if_neg (fun e : g = f => h (e.trans hk.symm))]
  ·rw [if_neg hk]
   by_cases h : g = k
   ·have hb : (g == k) = true := beq_iff_eq.mpr h
    simp only [List.lookup, hb, if_neg (fun e : g = f => hk (h.symm.trans e))]
   ·have hb : (g == k) = false := beq_eq_false_iff_ne.mpr h
    simp only [List.lookup, hb]
    exact ih
theorem keys_putF (f : Str) (v : V) : ∀ fs : List (Str × V), f ∈ (putF f v fs).map (·.1) /\ ∀ g, g ∈ fs.map (·.1) -> g ∈ (putF f v fs).map (·.1)
 | [] => ⟨by simp [putF], fun g h => by simp at h⟩
 | (k, x) :: r => by
  obtain ⟨i1, i2⟩ := keys_putF f v r
  rw [show putF f v ((k, x) :: r) = (if k = f then (k, v) :: r else (k, x) :: putF f v r) from rfl]
  by_cases hk : k = f
  ·rw [if_pos hk]
   subst hk
   exact ⟨by simp, fun g h => by simpa using h⟩
  ·rw [if_neg hk]
   refine ⟨?_, fun g h => ?_⟩
   ·rw [List.map_cons]
    exact List.mem_cons_of_mem _ i1
   ·rw [List.map_cons] at h ⊢
    rcases List.mem_cons.mp h with e | e
    ·exact List.mem_cons.mpr (.inl e)
    ·exact List.mem_cons_of_mem _ (i2 g e)
theorem length_putF (f : Str) (v : V) : ∀ fs : List (Str × V), (putF f v fs).length <= fs.length + 1
 | [] => by simp [putF]
 | (k, x) :: r => by
  have ih := length_putF f v r
  rw [show putF f v ((k, x) :: r) = (if k = f then (k, v) :: r else (k, x) :: putF f v r) from rfl]
  by_cases hk : k = f
  ·rw [if_pos hk, List.length_cons, List.length_cons]; omega
  ·rw [if_neg hk, List.length_cons, List.length_cons]; omega
theorem RelO.some_of {v : V} {o : Option Value} (r : RelO (some v) o) : ∃ u, o = some u /\ RelV v u := by
 cases o with
 | none => exact (show False from r).elim
 | some u => exact ⟨u, rfl, r⟩
theorem RelO.none_of {o : Option Value} (r : RelO none o) : o = none := by
 cases o with
 | none => rfl
 | some u => exact (show False from r).elim
theorem handed_of {v : V} {u : Value} (r : RelV v u) : PySem.W.handedIn u = true := by
 cases v with
 | non => cases (show u = Value.none from r); rfl
 | bl b => cases (show u = Value.bool b from r); rfl
 | int i => obtain ⟨t, e⟩ := (show ∃ t, u = Value.int i t from r); cases e; rfl
 | str x => obtain ⟨t, e⟩ := (show ∃ t, u = Value.str x t from r); cases e; rfl
 | byt b => obtain ⟨t, e⟩ := (show ∃ t, u = Value.bytes b t from r); cases e; rfl
 | flt b => obtain ⟨t, e⟩ := (show ∃ t, u = Value.float b t from r); cases e; rfl
 | ref a => cases (show u = Value.ref a from r); rfl
 | ty n => cases (show u = Value.type n from r); rfl
section
variable {P : Program} {w : World} {H H' : Hp} {h h' : Heap} {a C dx : Addr} {fs fs' : List (Str × V)}
theorem ins_get (hok : HOk P w H h) (e : H a = some (.ins C dx fs)) : ∃ mA, ObjM h a dx C mA /\ (∀ f, RelO (fs.lookup f) (mA f)) /\ PySem.Within mA (fs.map (·.1)) /\ fs.length <= 1000 /\ H dx = some (.own a) := by
 obtain ⟨d, z, ne, ob, mA, n, r, q⟩ := (show ObjOk P w H h a (.ins C dx fs) from hok a _ e)
 exact ⟨mA, ⟨ob, n, ne⟩, r, q, z, d⟩
end
structure Cls (K : PySem.W.Frag) (C : Addr) : Prop where
 pg : PySem.W.plainGet K C Str.empty = true
 hd : PySem.W.hasDictIn K C = true
 po : PySem.W.plainOver K C = true
 sa : PySem.W.findIn K (.ref C) "__setattr__" = some (some (.builtin "object.__setattr__"))
theorem Cls.get {K : PySem.W.Frag} {C : Addr} (c : Cls K C) (f : Str) : PySem.W.plainGet K C f = true := c.pg
def NoAttr (K : PySem.W.Frag) (C : Addr) (f : Str) : Prop := PySem.W.findIn K (.ref C) f = some none
theorem NoAttr.taker {K : PySem.W.Frag} {C : Addr} {f : Str} (n : NoAttr K C f) : PySem.W.takerIn K C f = some none := by
 unfold PySem.W.takerIn
 rw [show PySem.W.findIn K (.ref C) f = some none from n]
 rfl
structure Meth (K : PySem.W.Frag) (C : Addr) (m : Str) (f : Addr) : Prop where
 at_ : PySem.W.findIn K (.ref C) m = some (some (.ref f))
 fn : PySem.W.isFn K (.ref f) = true
 kp : PySem.W.keepIn K (.ref f) = true
section
variable {X : Cx} {pins : List (Addr × Obj)} {Z : St} {H : Hp} {s : Shared} {a C dx : Addr} {fs : List (Str × V)} {f : Str} {v : V} {A : Around} {E : Value -> Shared -> Prop}
theorem getattr_ok {b : Bool} {Q : Value -> Shared -> Prop} (I : Inv X pins Z H s) (e : H a = some (.ins C dx fs)) (c : Cls X.K C) (n : NoAttr X.K C f) (l : fs.lookup f = some v)
  (h : ∀ u s', Inv X pins Z H s' -> RelV v u -> Q u s') : wpAny (model X.prog X.w) A (getAttr (.ref a) f b) Q E s := by
 obtain ⟨mA, O, r, _, _, _⟩ := ins_get I.hok e
 obtain ⟨u, hu, ru⟩ := RelO.some_of (v := v) (o := mA f) (by rw [← l]; exact r f)
 exact get_map I.kIn O (c.get f) c.hd n hu (handed_of ru) (h u _ (I.tok _) ru)
theorem getmeth_ok {m : Str} {g : Addr} {pl : Sem Bool} {Q : Value × List Value -> Shared -> Prop} (I : Inv X pins Z H s) (e : H a = some (.ins C dx fs)) (c : Cls X.K C) (k : Meth X.K C m g) (l : fs.lookup m = none)
  (h : Q (.ref g, [.ref a]) s) : wpAny (model X.prog X.w) A (getMethod (.ref a) m pl) Q E s := by
 obtain ⟨mA, O, r, _, _, _⟩ := ins_get I.hok e
 have hn : mA m = none := RelO.none_of (by rw [← l]; exact r m)
 exact get_meth I.kIn O (c.get m) k.at_ k.fn hn h
theorem setattr_ok {y : V} {u : Value} {Q : Unit -> Shared -> Prop} (I : Inv X pins Z H s) (e : H a = some (.ins C dx fs)) (c : Cls X.K C) (n : NoAttr X.K C f) (hl : fs.length < 1000) (ry : RelV y u)
  (h : ∀ s', Inv X pins Z (upd H a (.ins C dx (putF f y fs))) s' -> Q () s') : wpAny (model X.prog X.w) A (setAttr (.ref a) f u) Q E s := by
 obtain ⟨mA, O, r, wi, _, ho⟩ := ins_get I.hok e
 have hz : (fs.map (·.1)).length <= sizeLine := by rw [List.length_map, sizeLine_eq]; omega
 refine set_map I.kIn O c.sa c.po n.taker c.hd wi hz fun h' O' sb => h _ ?_
 have hd : ∃ o, h'.get? dx = some o := let ⟨o, _, _, e', _⟩ := O'.ns; ⟨o, e'⟩
 refine I.write (x := a) (e := dx) (by rw [e]; exact True.intro) (.inr ho) (fun b q hb z => (sb.2 b hb).trans z) hd ?_
 refine ⟨by rw [upd_ne O.ne]; exact ho, ?_, O.ne, O'.obj, _, O'.ns, fun g => ?_, fun g hg => ?_⟩
 ·have := length_putF f y fs; omega
 ·show RelO ((putF f y fs).lookup g) (if g = f then some u else mA g)
  rw [lookup_putF]
  by_cases q : g = f
  ·rw [if_pos q, if_pos q]; exact ry
  ·rw [if_neg q, if_neg q]; exact r g
 ·by_cases q : g = f
  ·rw [q]; exact (keys_putF f y fs).1
  ·refine (keys_putF f y fs).2 g (wi g fun z => hg ?_)
   show (if g = f then some u else mA g) = none
   rw [if_neg q]; exact z
theorem Inv.made (I : Inv X pins Z H s) : Inv X pins Z (upd (upd H s.heap.objs.size (.own (s.heap.objs.size + 1))) (s.heap.objs.size + 1) (.ins C s.heap.objs.size []))
  { s with heap := (s.heap.push PySem.W.emptyDict).push (PySem.W.instObj C s.heap.objs.size) } := by
 have e1 : (s.heap.push PySem.W.emptyDict).get? s.heap.objs.size = some PySem.W.emptyDict := Heap.get?_push_size s.heap rfl
 have e2 : ((s.heap.push PySem.W.emptyDict).push (PySem.W.instObj C s.heap.objs.size)).get? (s.heap.objs.size + 1) = some (PySem.W.instObj C s.heap.objs.size) := by
  have := Heap.get?_push_size (s.heap.push PySem.W.emptyDict) (o := PySem.W.instObj C s.heap.objs.size) rfl
  rwa [Heap.size_push] at this
 have e3 : (s.heap.push PySem.W.emptyDict).Ns s.heap.objs.size (fun _ => none) := ⟨PySem.W.emptyDict, #[], _, e1, rfl, (fun e he => absurd he (by simp)), fun _ => rfl⟩
 have I1 := I.laid (a := s.heap.objs.size) (o := .own (s.heap.objs.size + 1)) (h' := s.heap.push PySem.W.emptyDict) (t' := s.toks) (fun b u q => Heap.get?_push_of_some _ q) (Nat.le_refl _) ⟨_, e1⟩
 refine I1.laid (a := s.heap.objs.size + 1) (o := .ins C s.heap.objs.size []) (t' := s.toks) (fun b u q => Heap.get?_push_of_some _ q) (Nat.le_of_eq (Heap.size_push _ _)) ?_
 have ne : s.heap.objs.size ≠ s.heap.objs.size + 1 := Nat.ne_of_lt (Nat.lt_succ_self _)
 refine ⟨by rw [upd_ne ne, upd_same], Nat.zero_le _, ne, e2, fun _ => none, (Heap.Ns1.of_empty e3).at fun o q => Heap.get?_push_of_some _ q, fun _ => True.intro, fun y hy => absurd rfl hy⟩
theorem attr_of {prog : Program} {w : World} {env : Env} {e : Expr} {f : Str} {pos : Pos} {s : Shared} {Q : Value -> Shared -> Prop} (hb : attributeBase e f env (eval e env) = eval e env)
  (h : wpAny (model prog w) A (eval e env) (fun o s₁ => wpAny (model prog w) A (getAttr o f true) Q E s₁) E s) : wpAny (model prog w) A (eval (.Attribute e f pos) env) Q E s :=
 Attribute_any_ h (by rw [arm_eval_Attribute, hb])
end
def tFld (K : PySem.W.Frag) (ta : TE) (f : Str) : TE := fun Z H Q => ta Z H fun x H1 => ∃ a C dx fs v, x = .ref a /\ H1 a = some (.ins C dx fs) /\ Cls K C /\ NoAttr K C f /\ fs.lookup f = some v /\ Q v H1
def sFld (K : PySem.W.Frag) (ta tv : TE) (f : Str) : TS := fun D Z H => tv Z H fun y H1 => ta Z H1 fun x H2 => ∃ a C dx fs, x = .ref a /\ H2 a = some (.ins C dx fs) /\ Cls K C /\ NoAttr K C f /\ fs.length < 1000 /\
 D.nx Z (upd H2 a (.ins C dx (putF f y fs)))
def InOp (X : Cx) (op : Operator) (rd : V -> V -> Hp -> VK -> Prop) : Prop :=
 ∀ (pins : List (Addr × Obj)) (s : Shared) (Z : St) (H : Hp) (x y : V) (u v : Value) (Q : VK), Inv X pins Z H s -> RelV x u -> RelV y v -> rd x y H Q -> wpAny (model X.prog X.w) X.A (inplaceOp op u v) (EP X pins Z Q) X.xe s
def sFldAug (K : PySem.W.Frag) (ta tv : TE) (rd : V -> V -> Hp -> VK -> Prop) (f : Str) : TS := fun D Z H => ta Z H fun x H1 => ∃ a C dx fs v, x = .ref a /\ H1 a = some (.ins C dx fs) /\ Cls K C /\ NoAttr K C f /\ fs.lookup f = some v /\
 tv Z H1 fun y H2 => rd v y H2 fun z H3 => ∃ dx' fs', H3 a = some (.ins C dx' fs') /\ fs'.length < 1000 /\ D.nx Z (upd H3 a (.ins C dx' (putF f z fs')))
section
variable {X : Cx} {o e value : Expr} {f : Str} {pos pos' tpos : Pos} {ta tv : TE}
theorem pe_fld (he : PE X e ta) (hb : attributeBase e f X.env (eval e X.env) = eval e X.env) : PE X (.Attribute e f pos) (tFld X.K ta f) := by
 intro pins s Z H Q I h
 refine attr_of hb (thn (he pins s Z H _ I h) fun u s1 ⟨x, H1, I1, rx, a, C, dx, fs, v, ex, ea, c, n, l, q⟩ => ?_)
 subst ex
 obtain rfl : u = Value.ref a := rx
 exact getattr_ok I1 ea c n l fun u' s2 I2 ru => ⟨v, H1, I2, ru, q⟩
theorem ps_fld (ha : PE X o ta) (hv : PE X value tv) (hs : swapsWith value (some (.Attribute o f pos')) pos.line X.env = pure false) : PS X (.Assign [.Attribute o f pos'] value pos) (sFld X.K ta tv f) := by
 intro pins s Z H D I h
 refine plainObj_wpAny_Assign_Attribute (thn (hv pins s Z H _ I h) fun u s1 ⟨y, H1, I1, ry, q⟩ => thn (ha pins s1 Z H1 _ I1 q) fun ov s2 ⟨x, H2, I2, rx, a, C, dx, fs, ex, ea, c, n, l, q2⟩ => ?_) hs
 subst ex
 obtain rfl : ov = Value.ref a := rx
 exact setattr_ok I2 ea c n l ry fun s3 I3 => ⟨Z, _, I3, q2⟩
theorem ps_fldaug {op : Operator} {rd : V -> V -> Hp -> VK -> Prop} (ha : PE X o ta) (hv : PE X value tv) (hop : InOp X op rd) : PS X (.AugAssign (.Attribute o f tpos) op value pos) (sFldAug X.K ta tv rd f) := by
 intro pins s Z H D I h
 refine wpAny_AugAssign_AttributeAny (thn (ha pins s Z H _ I h) fun ov s1 ⟨x, H1, I1, rx, a, C, dx, fs, v, ex, ea, c, n, l, q⟩ => ?_)
 subst ex
 obtain rfl : ov = Value.ref a := rx
 refine getattr_ok I1 ea c n l fun u s2 I2 ru => thn (hv pins s2 Z H1 _ I2 q) fun w3 s3 ⟨y, H2, I3, ry, q3⟩ => thn (hop pins s3 Z H2 v y u w3 _ I3 ru ry q3) fun w4 s4 ⟨z, H3, I4, rz, dx', fs', ea', l', q4⟩ => ?_
 exact setattr_ok I4 ea' c n l' rz fun s5 I5 => ⟨Z, _, I5, q4⟩
def rAdd : V -> V -> Hp -> VK -> Prop := fun x y H Q => ∃ i j, x = .int i /\ y = .int j /\ Q (.int (i + j)) H
theorem in_add : InOp X .Add rAdd := by
 rintro pins s Z H x y u v Q I rx ry ⟨i, j, rfl, rfl, q⟩
 obtain ⟨t, rfl⟩ := (show ∃ t, u = Value.int i t from rx)
 obtain ⟨t', rfl⟩ := (show ∃ t', v = Value.int j t' from ry)
 exact PyProof.Rows.iadd_int ⟨.int (i + j), H, I.tok _, ⟨_, rfl⟩, q⟩
end
section
variable {X : Cx} {pins : List (Addr × Obj)} {Z : St} {H : Hp} {s : Shared} {A : Around} {E : Value -> Shared -> Prop} {Q : Value -> Shared -> Prop} {c : Value} {b : Bool}
inductive TyOf (K : PySem.W.Frag) (H : Hp) : V -> Value -> Prop where
 | non : TyOf K H .non (.type "NoneType")
 | bl (x : Bool) : TyOf K H (.bl x) (.type "bool")
 | int (i : Int) : TyOf K H (.int i) (.type "int")
 | str (x : Str) : TyOf K H (.str x) (.type "str")
 | flt (x : UInt64) : TyOf K H (.flt x) (.type "float")
 | lst {a : Addr} {xs : List V} (e : H a = some (.lst xs)) : TyOf K H (.ref a) (.type "list")
 | frz {a : Addr} {o : Obj} {xs : List V} (e : H a = some (.frz o (.lst xs))) : TyOf K H (.ref a) (.type "list")
 | tup {a : Addr} {xs : List V} (e : H a = some (.tup xs)) : TyOf K H (.ref a) (.type "tuple")
 | dK {a : Addr} {kvs : List (Key × V)} (e : H a = some (.dK kvs)) : TyOf K H (.ref a) (.type "dict")
 | dT {a : Addr} {kvs : List (List Key × V)} (e : H a = some (.dT kvs)) : TyOf K H (.ref a) (.type "dict")
 | ins {a C dx : Addr} {fs : List (Str × V)} (e : H a = some (.ins C dx fs)) (cl : Cls K C) (ha : PySem.W.findIn K (.ref C) "__class__" = some (some (.builtin "object.__class__")))
   (hn : PySem.W.specialIn K (.builtin "object.__class__") "__get__" = some (some (.builtin "getset_descriptor.__get__"))) (htk : PySem.W.takesIn K (.builtin "object.__class__") = some true)
   (hm : PySem.W.mroIn K C (.type "object") = some true) : TyOf K H (.ref a) (.ref C)
theorem isinst_ok {x : V} {u t : Value} (I : Inv X pins Z H s) (rx : RelV x u) (ty : TyOf X.K H x t) (e : PySem.W.kitOne X.K t c = some b) (h : ∀ tk, Q (.bool b) { s with toks := tk }) :
  wpAny (model X.prog X.w) A (call (.builtin "isinstance") [u, c]) Q E s := by
 cases ty with
 | non => cases (show u = Value.none from rx); exact PySem.W.kia_one PySem.W.kitx_none I.kIn True.intro e (fun z => nomatch z) h
 | bl y => cases (show u = Value.bool y from rx); exact PySem.W.kia_one PySem.W.kitx_bool I.kIn True.intro e (fun z => nomatch z) h
 | int i => obtain ⟨t, q⟩ := (show ∃ t, u = Value.int i t from rx); cases q; exact PySem.W.kia_one PySem.W.kitx_int I.kIn True.intro e (fun z => nomatch z) h
 | str y => obtain ⟨t, q⟩ := (show ∃ t, u = Value.str y t from rx); cases q; exact PySem.W.kia_one PySem.W.kitx_str I.kIn True.intro e (fun z => nomatch z) h
 | flt y => obtain ⟨t, q⟩ := (show ∃ t, u = Value.float y t from rx); cases q; exact PySem.W.kia_one PySem.W.kitx_float I.kIn True.intro e (fun z => nomatch z) h
 | @lst a xs ea =>
  cases (show u = Value.ref a from rx)
  obtain ⟨_, _, n, _, h1⟩ := (show ObjOk X.prog X.w H s.heap a (.lst xs) from I.hok a _ ea)
  exact PySem.W.kia_one PySem.W.kitx_list I.kIn ⟨_, h1, rfl⟩ e (fun z => nomatch z) h
 | @frz a ob xs ea =>
  cases (show u = Value.ref a from rx)
  obtain ⟨_, _, _, n, _, h1⟩ := (show ObjOk X.prog X.w H s.heap a (.frz ob (.lst xs)) from I.hok a _ ea)
  exact PySem.W.kia_one PySem.W.kitx_list I.kIn ⟨_, h1, rfl⟩ e (fun z => nomatch z) h
 | @tup a xs ea =>
  cases (show u = Value.ref a from rx)
  obtain ⟨_, _, _, p⟩ := (show ObjOk X.prog X.w H s.heap a (.tup xs) from I.hok a _ ea)
  obtain ⟨o, h1, h2, _⟩ := p
  exact PySem.W.kia_one PySem.W.kitx_tuple I.kIn ⟨o, h1, h2⟩ e (fun z => nomatch z) h
 | @dK a kvs ea =>
  cases (show u = Value.ref a from rx)
  obtain ⟨_, _, vs, _, p⟩ := (show ObjOk X.prog X.w H s.heap a (.dK kvs) from I.hok a _ ea)
  obtain ⟨o, es, ep, h1, h2, _⟩ := p
  exact PySem.W.kia_one PySem.W.kitx_dict I.kIn ⟨o, h1, h2.1⟩ e (fun z => nomatch z) h
 | @dT a kvs ea =>
  cases (show u = Value.ref a from rx)
  obtain ⟨_, _, xs, _, o, es, ep, h1, h2, _⟩ := (show ObjOk X.prog X.w H s.heap a (.dT kvs) from I.hok a _ ea)
  exact PySem.W.kia_one PySem.W.kitx_dict I.kIn ⟨o, h1, h2.1⟩ e (fun z => nomatch z) h
 | @ins a C dx fs ea cl ha hn htk hm =>
  cases (show u = Value.ref a from rx)
  obtain ⟨mA, O, _⟩ := ins_get I.hok ea
  obtain ⟨od, J, _⟩ := O.look
  exact PySem.W.kia_one (PySem.W.kitx_own (cl.get _) cl.hd ha hn htk hm) I.kIn J e (fun z => nomatch z) h
end
end L2
namespace L2
open PySem PySem.Spec PyProof.Rows
structure Room (k : Nat) (A : Around) : Prop where
 hd : A.handled = none
 dp : A.depth + 3 * k + 5 < recursionLimit
 un : A.units + 16 * k + 200 < cLine
theorem Room.mono {j k : Nat} {A : Around} (r : Room k A) (h : j <= k) : Room j A := ⟨r.hd, by have := r.dp; omega, by have := r.un; omega⟩
theorem Room.deeper {k : Nat} {A : Around} (r : Room (k + 1) A) (env : Env) : Room k (A.deeper env) :=
 ⟨r.hd, by have := r.dp; show A.depth + 1 + 3 * k + 5 < _; omega, by have := r.un; show A.units + 3 + 16 * k + 200 < _; omega⟩
theorem make_depth {A : Around} {C : Addr} {us : List Value} {kw : List (Str × Value)} : (A.under (.builtin "type.__call__" ⟨.ref C :: us, kw⟩)).depth = A.depth + 1 := by
 first | rfl | simp [Around.under, Code.weight, Code.isCreation, Code.isGuard, Code.isCaller, Code.frames, Code.isFrame, guardIds]
theorem make_units {A : Around} {C : Addr} {us : List Value} {kw : List (Str × Value)} : (A.under (.builtin "type.__call__" ⟨.ref C :: us, kw⟩)).units = A.units + 1 := by
 first | rfl | simp [Around.under, Code.cUnits, Code.frames, Code.isFrame]
theorem Room.make {k : Nat} {A : Around} (r : Room (k + 1) A) (C : Addr) (us : List Value) (kw : List (Str × Value)) : Room k (A.under (.builtin "type.__call__" ⟨.ref C :: us, kw⟩)) :=
 ⟨r.hd, by have := r.dp; rw [make_depth]; omega, by have := r.un; rw [make_units]; omega⟩
theorem Room.depth {k : Nat} {A : Around} (r : Room k A) : A.depth < recursionLimit := by have := r.dp; omega
theorem Room.units {k : Nat} {A : Around} (r : Room k A) : A.units + 64 < cLine := by have := r.un; omega
def tNil : TA := fun _ H Q => Q [] H
def tCons (ta : TE) (tr : TA) : TA := fun Z H Q => ta Z H fun x H1 => tr Z H1 fun xs H2 => Q (x :: xs) H2
section
variable {X : Cx} {e : Expr} {es : List Expr} {te : TE} {t : TA} {pos : Pos}
theorem pa_nil : PA X [] tNil := fun _ _ _ _ H Q I h => Calls.spliced_nil ⟨[], H, I, .nil, h⟩
theorem pa_cons (ha : PE X e te) (hr : PA X es t) (hs : starEach (e :: es) X.env = (false, eval e X.env) :: starEach es X.env := by rfl) : PA X (e :: es) (tCons te t) := by
 intro pos pins s Z H Q I h
 rw [hs]
 show wpAny _ _ (spliced ((false, eval e X.env) :: backTo pos (starEach es X.env))) _ _ s
 refine Calls.spliced_cons (thn (ha pins s Z H _ I h) fun u s1 ⟨x, H1, I1, r1, q1⟩ => ?_)
 exact thn (hr pos pins s1 Z H1 _ I1 q1) fun us s2 ⟨xs, H2, I2, r2, q2⟩ => ⟨x :: xs, H2, I2, .cons r1 r2, q2⟩
def tTup (t : TA) : TE := fun Z H Q => t Z H fun xs H1 => xs.length <= sizeLine /\ ∀ p, H1 p = none -> Q (.ref p) (upd H1 p (.tup xs))
def tLst (t : TA) : TE := fun Z H Q => t Z H fun xs H1 => xs.length <= sizeLine /\ ∀ p, H1 p = none -> Q (.ref p) (upd H1 p (.lst xs))
theorem pe_tup {x1} (h : PA X es t) : PE X (.Tuple es x1 pos) (tTup t) := by
 intro pins s Z H Q I hq
 refine wpAny_Tuple_spliced (thn (h pos pins s Z H _ I hq) fun us s1 ⟨xs, H1, I1, r, z, q⟩ => ⟨by rw [← r.length]; exact z, ?_⟩)
 have hf : H1 s1.heap.objs.size = none := I1.hok.fresh (Nat.le_refl _)
 refine ⟨.ref s1.heap.objs.size, upd H1 s1.heap.objs.size (.tup xs), I1.laid (t' := s1.toks) (fun b u e => Heap.get?_push_of_some _ e) (Nat.le_refl _) ?_, rfl, q _ hf⟩
 exact ⟨z, us, r, ⟨_, Heap.get?_push_size _ rfl, rfl, _, rfl⟩⟩
theorem pe_lst (h : PA X es t) : PE X (.List es pos) (tLst t) := by
 intro pins s Z H Q I hq
 refine wpAny_List_spliced (thn (h pos pins s Z H _ I hq) fun us s1 ⟨xs, H1, I1, r, z, q⟩ => ⟨by rw [← r.length]; exact z, ?_⟩)
 have hf : H1 s1.heap.objs.size = none := I1.hok.fresh (Nat.le_refl _)
 refine ⟨.ref s1.heap.objs.size, upd H1 s1.heap.objs.size (.lst xs), I1.laid (t' := s1.toks) (fun b u e => Heap.get?_push_of_some _ e) (Nat.le_refl _) ?_, rfl, q _ hf⟩
 exact ⟨z, us, 0, r, Heap.get?_push_size _ rfl⟩
end
abbrev Sp := List V -> Hp -> VK -> XK -> Prop
abbrev CXT := List Env -> Hp -> Shared -> XK -> Value -> Shared -> Prop
structure Env0 (P : Program) (w : World) (K : PySem.W.Frag) (mg : Str -> Option Value) (base : Heap) (A : Around) (outer : List Env) (s : Shared) (H : Hp) : Prop where
 frames : A.frames = some outer
 mod : Mod K mg base
 bs : ∀ b o, base.get? b = some o -> s.heap.get? b = some o /\ H b = none
 bsz : base.objs.size <= s.heap.objs.size
 funs : s.heap.FunFrames base outer
 frf : ∀ b ∈ frs outer, H b = none
 hok : HOk P w H s.heap
 bare : AllBare s.gens
def CE (outer : List Env) (P : Program) (w : World) (H : Hp) (s : Shared) (Q : VK) (u : Value) (s' : Shared) : Prop :=
 ∃ v H', s'.os = s.os /\ AllBare s'.gens /\ Un (frs outer) [] H H' s.heap s'.heap /\ HOk P w H' s'.heap /\ RelV v u /\ Q v H'
def CR (CX : CXT) (outer : List Env) (P : Program) (w : World) (H : Hp) (s : Shared) (Q : VK) (E : XK) (r : Result) (s' : Shared) : Prop :=
 match r with
 | .ok (.ret u) => CE outer P w H s Q u s'
 | .ok _ => False
 | .error e => CX outer H s E e s'
structure FnOk (P : Program) (w : World) (K : PySem.W.Frag) (mg : Str -> Option Value) (base : Heap) (CX : CXT) (k : Nat) (f : Addr) (fd : FuncData) (ps : List Str) (sp : Sp) : Prop where
 len : ∀ vs H Q E, sp vs H Q E -> vs.length = ps.length
 run : ∀ (A : Around) (outer : List Env) (s : Shared) (H : Hp) (args : Args) (us : List Value) (vs : List V) (Q : VK) (E : XK), Room k A -> Env0 P w K mg base A outer s H -> BindsTo s fd args (ps.zip us) -> Vals vs us -> sp vs H Q E ->
  codeAny (model P w) A (.call (.ref f) args) (CR CX outer P w H s Q E) s
theorem Env0.make {P : Program} {w : World} {K : PySem.W.Frag} {mg : Str -> Option Value} {base : Heap} {A : Around} {outer : List Env} {s : Shared} {H : Hp} (e : Env0 P w K mg base A outer s H) (C : Addr) (us : List Value) (kw : List (Str × Value)) :
  Env0 P w K mg base (A.under (.builtin "type.__call__" ⟨.ref C :: us, kw⟩)) outer s H := ⟨by first | exact e.frames | (simpa [Around.under, Code.envs, Code.isFrame, pushEnvs] using e.frames), e.mod, e.bs, e.bsz, e.funs, e.frf, e.hok, e.bare⟩
section
variable {X : Cx} {pins : List (Addr × Obj)} {Z : St} {H : Hp} {s s' : Shared}
theorem Inv.env0 (I : Inv X pins Z H s) : Env0 X.prog X.w X.K X.mg X.base X.A X.stack s H :=
 ⟨I.ok.frames, I.ok.mod, I.bs, Nat.le_trans I.ok.bsz I.sz, I.stack, I.stkFree, I.hok, I.bare⟩
theorem Inv.after {Q : VK} {u : Value} (I : Inv X pins Z H s) (h : CE X.stack X.prog X.w H s Q u s') : EP X pins Z Q u s' := by
 obtain ⟨v, H', os, bare, un, hok, r, q⟩ := h
 obtain ⟨hh, g, d, t, os'⟩ := s'
 obtain rfl : os' = s.os := os
 exact ⟨v, H', I.call (h' := hh) (g' := g) (d' := d) (t' := t) (ch := []) un hok bare (fun b z => absurd z (by simp)), r, q⟩
end
def tCall (sp : Sp) (dvs : List V) (E : XK) (t : TA) : TE := fun Z H Q => t Z H fun vs H1 => sp (vs ++ dvs) H1 Q E
def tMeth (C : Addr) (m : Str) (sp : Sp) (dvs : List V) (E : XK) (ta : TE) (t : TA) : TE := fun Z H Q => ta Z H fun x H1 => ∃ a dx fs, x = .ref a /\ H1 a = some (.ins C dx fs) /\ fs.lookup m = none /\
 t Z H1 fun vs H2 => sp (x :: (vs ++ dvs)) H2 Q E
def tMake (C : Addr) (sp : Sp) (dvs : List V) (E : XK) (t : TA) : TE := fun Z H Q => t Z H fun vs H1 => ∀ x dx, H1 x = none -> H1 dx = none -> dx ≠ x ->
 sp (.ref x :: (vs ++ dvs)) (upd (upd H1 dx (.own x)) x (.ins C dx [])) (fun v H2 => v = .non /\ Q (.ref x) H2) E
def Binds (K : PySem.W.Frag) (fd : FuncData) (ps : List Str) (ds : List Value) : Prop :=
 ∀ (s : Shared) (us : List Value), K.In s.heap -> (us ++ ds).length = ps.length -> BindsTo s fd ⟨us, []⟩ (ps.zip (us ++ ds))
theorem Binds.all {K : PySem.W.Frag} {fd : FuncData} {ps : List Str} (h : ∀ us : List Value, us.length = ps.length -> bindArgs fd ⟨us, []⟩ = pure (ps.zip us)) : Binds K fd ps [] := fun s us _ hl => by
 rw [List.append_nil] at hl ⊢
 exact .of_eq (h us hl)
def Passes (CX : CXT) (X : Cx) (E : XK) : Prop := ∀ (pins : List (Addr × Obj)) (Z : St) (H : Hp) (s : Shared) (e : Value) (s' : Shared), Inv X pins Z H s -> CX X.stack H s E e s' -> X.xe e s'
section
variable {X : Cx} {CX : CXT} {k : Nat} {f C : Addr} {fd : FuncData} {ps : List Str} {sp : Sp} {dvs : List V} {ds : List Value} {E : XK} {x m : Str} {p pos apos : Pos} {e o : Expr} {es : List Expr} {ta : TE} {t : TA}
theorem run_fn {pins : List (Addr × Obj)} {Z : St} {H : Hp} {s : Shared} {Q : VK} {us : List Value} {vs : List V} (F : FnOk X.prog X.w X.K X.mg X.base CX k f fd ps sp) (hr : Room k X.A) (hb : Binds X.K fd ps ds) (hd : Vals dvs ds) (hx : Passes CX X E)
  (I : Inv X pins Z H s) (r : Vals vs us) (h : sp (vs ++ dvs) H Q E) : wpAny (model X.prog X.w) X.A (call (.ref f) us) (EP X pins Z Q) X.xe s := by
 have r2 : Vals (vs ++ dvs) (us ++ ds) := r.append hd
 have hl : (us ++ ds).length = ps.length := by rw [← r2.length]; exact F.len _ _ _ _ h
 refine wpAny_call (codeAny_mono (F.run X.A X.stack s H ⟨us, []⟩ (us ++ ds) (vs ++ dvs) Q E hr I.env0 (hb s us I.kIn hl) r2 h) fun r s' hq => ?_)
 cases r with
 | error e => exact hx pins Z H s e s' I hq
 | ok fl =>
  cases fl with
  | ret u => exact I.after hq
  | next => exact False.elim hq
  | brk => exact False.elim hq
  | cont => exact False.elim hq
theorem pe_call (F : FnOk X.prog X.w X.K X.mg X.base CX k f fd ps sp) (hr : Room k X.A) (hg : Gl X x) (hm : X.mg x = some (.ref f)) (hk : PySem.W.keepIn X.K (.ref f) = true) (hb : Binds X.K fd ps ds) (hd : Vals dvs ds) (hx : Passes CX X E)
  (ha : PA X (e :: es) t) (hdb : (x == ("__debug__" : Str)) = false := by decide) (he : starEach (e :: es) X.env = (false, eval e X.env) :: starEach es X.env := by rfl) (hpl : (backTo pos (starEach es X.env)).any (·.1) = false := by rfl) :
  PE X (.Call (.Name x p) (e :: es) [] pos) (tCall sp dvs E t) := by
 intro pins s Z H Q I h
 refine wpAny_Call_Name_kw (ld_glob I hg hm ?_ hdb)
 refine PySem.W.callWith_K (h₀ := X.base) I.ok.mod.kin hk (thn (ha pos pins s Z H _ I h) fun us s1 ⟨vs, H1, I1, r, q⟩ => ⟨I1.kIn, ?_⟩) he hpl
 exact run_fn F hr hb hd hx I1 r q
theorem pe_call0 (F : FnOk X.prog X.w X.K X.mg X.base CX k f fd ps sp) (hr : Room k X.A) (hg : Gl X x) (hm : X.mg x = some (.ref f)) (hk : PySem.W.keepIn X.K (.ref f) = true) (hb : Binds X.K fd ps ds) (hd : Vals dvs ds) (hx : Passes CX X E)
  (hdb : (x == ("__debug__" : Str)) = false := by decide) : PE X (.Call (.Name x p) [] [] pos) (tCall sp dvs E tNil) := by
 intro pins s Z H Q I h
 refine wpAny_Call_Name_kw (ld_glob I hg hm ?_ hdb)
 exact PySem.W.callWith_K0 I.kIn hk (run_fn (us := []) F hr hb hd hx I .nil h)
theorem pe_meth {pl : Sem Bool} (he : PE X o ta) (c : Cls X.K C) (hm : Meth X.K C m f) (F : FnOk X.prog X.w X.K X.mg X.base CX k f fd ps sp) (hr : Room k X.A) (hb : Binds X.K fd ps ds) (hd : Vals dvs ds) (hx : Passes CX X E) (ha : PA X (e :: es) t)
  (hst : starEach (e :: es) X.env = (false, eval e X.env) :: starEach es X.env := by rfl) (hpl : (backTo pos (starEach es X.env)).any (·.1) = false := by rfl)
  (ht : eval (.Call (.Attribute o m apos) (e :: es) [] pos) X.env = (do
   let ov ← eval o X.env
   standAt apos.atName
   let (f, first) ← holding [ov] (getMethod ov m pl)
   callWith pos f first (backTo pos (starEach (e :: es) X.env)) (backToKw pos (keywordEach [] X.env))) := by rfl) :
  PE X (.Call (.Attribute o m apos) (e :: es) [] pos) (tMeth C m sp dvs E ta t) := by
 intro pins s Z H Q I h
 refine PySem.W.methodCall_KW (pl := pl) (thn (he pins s Z H _ I h) fun u s1 ⟨x, H1, I1, rx, a, dx, fs, ex, ea, l, q⟩ => ?_) ht
 subst ex
 obtain rfl : u = Value.ref a := rx
 refine getmeth_ok I1 ea c hm l ?_
 refine PySem.W.callWith_K (first := [.ref a]) (h₀ := X.base) I.ok.mod.kin hm.kp (thn (ha pos pins s1 Z H1 _ I1 q) fun us s2 ⟨vs, H2, I2, r, q2⟩ => ⟨I2.kIn, ?_⟩) hst hpl
 exact run_fn (us := .ref a :: us) (vs := .ref a :: vs) F hr hb hd hx I2 (.cons rfl r) q2
theorem pe_meth0 {pl : Sem Bool} (he : PE X o ta) (c : Cls X.K C) (hm : Meth X.K C m f) (F : FnOk X.prog X.w X.K X.mg X.base CX k f fd ps sp) (hr : Room k X.A) (hb : Binds X.K fd ps ds) (hd : Vals dvs ds) (hx : Passes CX X E)
  (ht : eval (.Call (.Attribute o m apos) [] [] pos) X.env = (do
   let ov ← eval o X.env
   standAt apos.atName
   let (f, first) ← holding [ov] (getMethod ov m pl)
   callWith pos f first (backTo pos (starEach [] X.env)) (backToKw pos (keywordEach [] X.env))) := by rfl) :
  PE X (.Call (.Attribute o m apos) [] [] pos) (tMeth C m sp dvs E ta tNil) := by
 intro pins s Z H Q I h
 refine PySem.W.methodCall_KW (pl := pl) (thn (he pins s Z H _ I h) fun u s1 ⟨x, H1, I1, rx, a, dx, fs, ex, ea, l, q⟩ => ?_) ht
 subst ex
 obtain rfl : u = Value.ref a := rx
 refine getmeth_ok I1 ea c hm l ?_
 exact PySem.W.callWith_K0 (first := [.ref a]) I1.kIn hm.kp (run_fn (us := [.ref a]) (vs := [.ref a]) F hr hb hd hx I1 (.cons rfl .nil) q)
structure Mk (K : PySem.W.Frag) (C f : Addr) : Prop where
 makes : PySem.W.makesIn K C = true
 init : PySem.W.findIn K (.ref C) "__init__" = some (some (.ref f))
 fn : PySem.W.isFn K (.ref f) = true
 kp : PySem.W.keepIn K (.ref C) = true
theorem run_make {pins : List (Addr × Obj)} {Z : St} {H : Hp} {s : Shared} {Q : VK} {us : List Value} {vs : List V} (M : Mk X.K C f) (F : FnOk X.prog X.w X.K X.mg X.base CX k f fd ps sp) (hr : Room (k + 1) X.A) (hb : Binds X.K fd ps ds) (hd : Vals dvs ds)
  (hx : Passes CX X E) (I : Inv X pins Z H s) (r : Vals vs us)
  (h : ∀ x dx, H x = none -> H dx = none -> dx ≠ x -> sp (.ref x :: (vs ++ dvs)) (upd (upd H dx (.own x)) x (.ins C dx [])) (fun v H2 => v = .non /\ Q (.ref x) H2) E) :
  wpAny (model X.prog X.w) X.A (call (.ref C) us) (EP X pins Z Q) X.xe s := by
 have hq := h (s.heap.objs.size + 1) s.heap.objs.size (I.hok.fresh (Nat.le_succ _)) (I.hok.fresh (Nat.le_refl _)) (Nat.ne_of_lt (Nat.lt_succ_self _))
 have I2 := Inv.made (C := C) I
 have r2 : Vals (V.ref (s.heap.objs.size + 1) :: (vs ++ dvs)) (Value.ref (s.heap.objs.size + 1) :: (us ++ ds)) := .cons rfl (r.append hd)
 have hl : (Value.ref (s.heap.objs.size + 1) :: us ++ ds).length = ps.length := by
  have e := r2.length
  rw [F.len _ _ _ _ hq] at e
  exact e.symm
 refine wpAny_call (make_map (f := f) I.kIn M.makes M.init (beq_iff_eq.mp M.fn) (codeAny_mono (F.run _ X.stack _ _ ⟨Value.ref (s.heap.objs.size + 1) :: us, []⟩ (Value.ref (s.heap.objs.size + 1) :: (us ++ ds)) _ _ E (hr.make C us [])
  (I2.env0.make C us []) (hb _ (Value.ref (s.heap.objs.size + 1) :: us) I2.kIn hl) r2 hq) fun r s' hq' => ?_))
 cases r with
 | error e => exact hx pins Z _ _ e s' I2 hq'
 | ok fl =>
  cases fl with
  | ret u =>
   obtain ⟨v, H', I3, rv, ev, q3⟩ := I2.after hq'
   subst ev
   exact ⟨rv, ⟨V.ref (s.heap.objs.size + 1), H', I3, rfl, q3⟩⟩
  | next => exact False.elim hq'
  | brk => exact False.elim hq'
  | cont => exact False.elim hq'
theorem pe_make (M : Mk X.K C f) (F : FnOk X.prog X.w X.K X.mg X.base CX k f fd ps sp) (hr : Room (k + 1) X.A) (hg : Gl X x) (hm : X.mg x = some (.ref C)) (hb : Binds X.K fd ps ds) (hd : Vals dvs ds) (hx : Passes CX X E)
  (ha : PA X (e :: es) t) (hdb : (x == ("__debug__" : Str)) = false := by decide) (he : starEach (e :: es) X.env = (false, eval e X.env) :: starEach es X.env := by rfl) (hpl : (backTo pos (starEach es X.env)).any (·.1) = false := by rfl) :
  PE X (.Call (.Name x p) (e :: es) [] pos) (tMake C sp dvs E t) := by
 intro pins s Z H Q I h
 refine wpAny_Call_Name_kw (ld_glob I hg hm ?_ hdb)
 refine PySem.W.callWith_K (h₀ := X.base) I.ok.mod.kin M.kp (thn (ha pos pins s Z H _ I h) fun us s1 ⟨vs, H1, I1, r, q⟩ => ⟨I1.kIn, ?_⟩) he hpl
 exact run_make M F hr hb hd hx I1 r q
end
section
variable {X : Cx} {CX : CXT} {k : Nat} {f C : Addr} {fd : FuncData} {ps ks : List Str} {sp : Sp} {E : XK} {x m : Str} {p pos apos kpos : Pos} {e o : Expr} {es : List Expr} {kws : List Keyword} {te ta : TE} {t tk : TA} {nm : Option Str}
variable {g : List Value -> List Value -> List Value} {gV : List V -> List V -> List V}
end
structure FnScope (N P : List Str) (sc : Scope) : Prop where
 kind : sc.kind = .function
 co : sc.isCoroutine = false
 gen : sc.isGenerator = false
 nd : N.Nodup
 pre : N.take P.length = P
 par : ∀ x ∈ P, sc.names.lookup x = some .local ∨ sc.names.lookup x = some .cell
 nofree : ∀ y ∈ sc.names, y.2 ≠ .free
theorem bindL_out {kindOf : Str -> Option NameKind} {x : Str} : ∀ {binds : List (Str × Value)} {m : Str -> Option Value}, (∀ v, (x, v) ∉ binds) -> bindL kindOf binds m x = m x
 | [], _, _ => rfl
 | (n, v) :: r, m, h => by
  unfold bindL
  rw [bindL_out fun w hw => h w (List.mem_cons_of_mem _ hw)]
  split
  ·have : x ≠ n := by rintro rfl; exact h v List.mem_cons_self
   simp [this]
  ·rfl
theorem bindC_out {kindOf : Str -> Option NameKind} {x : Str} : ∀ {binds : List (Str × Value)} {m : Str -> Option Value}, (∀ v, (x, v) ∉ binds) -> bindC kindOf binds m x = m x
 | [], _, _ => rfl
 | (n, v) :: r, m, h => by
  unfold bindC
  rw [bindC_out fun w hw => h w (List.mem_cons_of_mem _ hw)]
  split
  ·rfl
  ·have : x ≠ n := by rintro rfl; exact h v List.mem_cons_self
   simp [this]
theorem bindL_get {kindOf : Str -> Option NameKind} {x : Str} {v : Value} : ∀ {P : List Str} {vs : List Value} {i : Nat} {m : Str -> Option Value}, P.Nodup -> P[i]? = some x -> vs[i]? = some v -> kindOf x = some .local ->
  bindL kindOf (P.zip vs) m x = some v
 | [], _, _, _, _, h, _, _ => by simp at h
 | _ :: _, [], _, _, _, _, h, _ => by simp at h
 | p :: P, w :: vs, 0, m, nd, h1, h2, hk => by
  simp at h1 h2; subst h1; subst h2
  show bindL kindOf ((p, w) :: P.zip vs) m p = _
  unfold bindL
  rw [bindL_out fun v hv => (List.nodup_cons.mp nd).1 (List.of_mem_zip hv).1, if_pos hk]
  simp
 | p :: P, w :: vs, i + 1, m, nd, h1, h2, hk => by
  show bindL kindOf ((p, w) :: P.zip vs) m x = _
  unfold bindL
  exact bindL_get (i := i) (List.nodup_cons.mp nd).2 (by simpa using h1) (by simpa using h2) hk
theorem bindC_get {kindOf : Str -> Option NameKind} {x : Str} {v : Value} : ∀ {P : List Str} {vs : List Value} {i : Nat} {m : Str -> Option Value}, P.Nodup -> P[i]? = some x -> vs[i]? = some v -> kindOf x ≠ some .local ->
  bindC kindOf (P.zip vs) m x = some v
 | [], _, _, _, _, h, _, _ => by simp at h
 | _ :: _, [], _, _, _, _, h, _ => by simp at h
 | p :: P, w :: vs, 0, m, nd, h1, h2, hk => by
  simp at h1 h2; subst h1; subst h2
  show bindC kindOf ((p, w) :: P.zip vs) m p = _
  unfold bindC
  rw [bindC_out fun v hv => (List.nodup_cons.mp nd).1 (List.of_mem_zip hv).1, if_neg hk]
  simp
 | p :: P, w :: vs, i + 1, m, nd, h1, h2, hk => by
  show bindC kindOf ((p, w) :: P.zip vs) m x = _
  unfold bindC
  exact bindC_get (i := i) (List.nodup_cons.mp nd).2 (by simpa using h1) (by simpa using h2) hk
def start (N : List Str) (vs : List V) : St := vs.map some ++ List.replicate (N.length - vs.length) none
def cxOf (CX : CXT) (P : Program) (w : World) (K : PySem.W.Frag) (mg : Str -> Option Value) (base : Heap) (N : List Str) (qual : Str) (scope : Scope) (f : Addr) (cd : Value) (A : Around) (outer : List Env) (s : Shared) (H : Hp) (E : XK) : Cx where
 prog := P
 w := w
 K := K
 mg := mg
 base := base
 A := A.deeper (envOfC qual scope s.heap.objs.size f cd)
 N := N
 s₀ := s
 H₀ := H
 env := envOfC qual scope s.heap.objs.size f cd
 outer := outer
 stack := envOfC qual scope s.heap.objs.size f cd :: outer
 ex := []
 calm := true
 fn := fun _ => true
 pn := []
 xe := fun e s' => wpAny (model P w) (A.deeper (envOfC qual scope s.heap.objs.size f cd)) (leaving (envOfC qual scope s.heap.objs.size f cd) e) (fun _ s'' => CX outer H s E e s'') (fun e' s'' => CX outer H s E e' s'') s'
theorem cell_has {sc : Scope} {n : Nat} {x : Str} (h : sc.names.lookup x = some .cell) : ∃ c, (cellsFrom n sc.names []).lookup x = some c := by
 have q := PySem.W.cellsFrom_some sc.names n [] (.inl h)
 exact Option.isSome_iff_exists.mp q
theorem inv_start {CX : CXT} {P : Program} {w : World} {K : PySem.W.Frag} {mg : Str -> Option Value} {base : Heap} {N ps : List Str} {qual : Str} {scope : Scope} {f : Addr} {cd : Value} {A : Around} {outer : List Env} {s s1 : Shared} {H : Hp} {E : XK} {us : List Value} {vs : List V}
  (S : FnScope N ps scope) (hd : A.handled = none) (e0 : Env0 P w K mg base A outer s H) (hl : vs.length = ps.length) (r : Vals vs us)
  (x : InCallC s s.heap.objs.size (bindL (envOfC qual scope s.heap.objs.size f cd).kindOf (ps.zip us) fun _ => none) (cellsFrom (s.heap.objs.size + 1) scope.names []) (bindC (envOfC qual scope s.heap.objs.size f cd).kindOf (ps.zip us) fun _ => none) s1) :
  Inv (cxOf CX P w K mg base N qual scope f cd A outer s H E) [] (start N vs) H s1 := by
 have hpl : ps.length <= N.length := by have := congrArg List.length S.pre; rw [List.length_take] at this; omega
 obtain ⟨h1, tk, rfl, hk⟩ := x.done
 have noA : ∀ b : Addr, b ∉ (cxOf CX P w K mg base N qual scope f cd A outer s H E).ex := fun b z => absurd (show b ∈ ([] : List Addr) from z) (by simp)
 refine ⟨⟨e0.mod, S.kind, rfl, rfl, Nat.le_refl _, fun y z c h1 h2 => ?_, fun y hy => ?_, fun y c _ h => ?_, fun _ => hd, Around.frames_deeper e0.frames, .inr ⟨rfl, rfl⟩, fun b z => absurd z (noA b), e0.bs, e0.bsz, fun b _ _ => noA b, fun b z => absurd z (noA b), e0.funs, e0.frf⟩,
  rfl, e0.bare, Un.kept hk, ⟨_, x.toInCall.ns, fun i y v h1 h2 h3 => ?_⟩, fun y c h => ⟨_, x.cell y c h⟩, e0.hok.fresh (Nat.le_refl _), fun y c h => ?_, fun p hp => absurd (show p ∈ ([] : List (Addr × Obj)) from hp) (by simp), e0.hok.kept hk, ?_⟩
 ·exact name_of_addr x.apart (PySem.mem_of_lookup h1) (PySem.mem_of_lookup h2)
 ·have hy : scope.names.lookup y = some .cell ∨ scope.names.lookup y = some .free := hy
  rcases hy with hy | hy
  ·exact cell_has hy
  ·exact absurd rfl (S.nofree _ (PySem.mem_of_lookup hy))
 ·exact Nat.le_of_lt (x.above y c (PySem.mem_of_lookup h))
 ·have hi : i < vs.length := by
   unfold start at h2
   by_cases hi : i < vs.length
   ·exact hi
   ·rw [List.getElem?_append_right (by simpa using hi)] at h2
    rw [List.getElem?_replicate] at h2
    split at h2 <;> cases h2
  have ha : vs[i]? = some v := by
   unfold start at h2
   rw [List.getElem?_append_left (by simpa using hi), List.getElem?_map] at h2
   cases e : vs[i]? with
   | none => rw [e] at h2; cases h2
   | some a => rw [e] at h2; cases h2; rfl
  obtain ⟨u, hu, rv⟩ := r.get ha
  have hp : ps[i]? = some y := by
   rw [← S.pre, List.getElem?_take_of_lt (by omega)]; exact h1
  have ndP : ps.Nodup := by rw [← S.pre]; exact S.nd.sublist (List.take_sublist _ _)
  refine ⟨u, rv, ?_⟩
  rcases S.par y (List.mem_of_getElem? hp) with k | k
  ·exact .inl ⟨k, bindL_get ndP hp hu k⟩
  ·obtain ⟨c, e⟩ := cell_has (n := s.heap.objs.size + 1) k
   refine .inr ⟨.inl k, c, e, ?_⟩
   have q := x.cell y c e
   rw [bindC_get ndP hp hu (by show scope.names.lookup y ≠ _; rw [k]; decide)] at q
   exact q
 ·exact e0.hok.fresh (Nat.le_of_lt (x.above y c (PySem.mem_of_lookup h)))
 ·unfold start
  show _ = N.length
  rw [List.length_append, List.length_map, List.length_replicate]
  omega
theorem fn_of {CX : CXT} {P : Program} {w : World} {K : PySem.W.Frag} {mg : Str -> Option Value} {base : Heap} {k : Nat} {f : Addr} {name qual : Str} {params : Arguments} {body : List Stmt} {scope : Scope} {dV kV doc pm cdv ct oc : Value} {an od : Option Addr}
  {osl : Array (Option Value)} {N ps : List Str} {sp : Sp} (lk : K.lookup f = some ⟨oc, od, .func (PySem.W.fnOf name qual params body scope dV kV doc pm an cdv ct), osl⟩) (hcd : PySem.W.codeIn K cdv qual = true) (S : FnScope N ps scope)
  (len : ∀ vs H Q E, sp vs H Q E -> vs.length = ps.length)
  (hbody : ∀ (A : Around) (outer : List Env) (s : Shared) (H : Hp) (vs : List V) (Q : VK) (E : XK), Room k (A.deeper (envOfC qual scope s.heap.objs.size f cdv)) -> sp vs H Q E ->
   ∃ t, PSs (cxOf CX P w K mg base N qual scope f cdv A outer s H E) body t /\ t { nx := fun _ H' => Q .non H', rt := Q } (start N vs) H) :
  FnOk P w K mg base CX (k + 1) f (PySem.W.fnOf name qual params body scope dV kV doc pm an cdv ct) ps sp := by
 refine ⟨len, fun A outer s H args us vs Q E hr e0 hb r hsp => ?_⟩
 have hl := len _ _ _ _ hsp
 have KX : K.In s.heap := e0.mod.kin.keeps fun b o e => (e0.bs b o e).1
 have lim : s.heap.NoLimit := e0.mod.nolimit.keeps fun b o e => (e0.bs b o e).1
 have hkind : ∀ y ∈ ps.zip us, scope.names.lookup y.1 = some .local ∨ (scope.names.lookup y.1 = some .cell /\ ((cellsFrom (s.heap.objs.size + 1) scope.names []).lookup y.1).isSome = true) := fun ⟨n, v⟩ hy => by
  rcases S.par n (List.of_mem_zip hy).1 with q | q
  ·exact .inl q
  ·exact .inr ⟨q, PySem.W.cellsFrom_some _ _ _ (.inl q)⟩
 refine codeAny_call_function hr.depth (KX _ _ lk) rfl S.co S.gen rfl (PySem.W.codeRec_of KX hcd) (hb _ _ _ _ ?_)
 refine wpAny_newFunctionEnv_cells S.kind hkind fun env he s1 x => ?_
 subst he
 refine ⟨lim.keeps x.toInCall.keep, codeAny_func ?_⟩
 obtain ⟨t, ht, hq⟩ := hbody A outer s H vs Q E (hr.deeper _) hsp
 have I : Inv (cxOf CX P w K mg base N qual scope f cdv A outer s H E) [] (start N vs) H s1 := inv_start S hr.hd e0 hl r x
 refine wpAny_mono (ht [] s1 (start N vs) H _ I hq) (fun fl s' hs => ?_) fun e s' hs => hs
 have fin : ∀ {Z' : St} {H' : Hp} {v : V} {u : Value}, Inv (cxOf CX P w K mg base N qual scope f cdv A outer s H E) [] Z' H' s' -> RelV v u -> Q v H' -> CE outer P w H s Q u s' :=
  fun {Z' H' v u} J rv q => ⟨v, H', J.os, J.bare, J.base, J.hok, rv, q⟩
 cases fl with
 | ret u =>
  obtain ⟨v, Z', H', J, rv, q⟩ := hs
  exact fin J rv q
 | next =>
  obtain ⟨Z', H', J, q⟩ := hs
  exact fin (v := V.non) (u := Value.none) J rfl q
 | brk =>
  obtain ⟨_, _, _, q⟩ := hs
  exact False.elim q
 | cont =>
  obtain ⟨_, _, _, q⟩ := hs
  exact False.elim q
end L2
namespace L2
open PySem PySem.Spec PyProof.Rows
section
variable {X : Cx} {x : Str} {p pos : Pos} {e : Expr} {es : List Expr} {t : TA} {id T : String} {r : List V -> Hp -> VK -> Prop}
def tCB (r : List V -> Hp -> VK -> Prop) (t : TA) : TE := fun Z H Q => t Z H fun vs H1 => r vs H1 Q
theorem pe_callB (hc : CallR X (.builtin id) r) (hg : Gl X x) (hm : X.mg x = none) (hv : bootBuiltins x = some (.builtin id)) (ha : PA X (e :: es) t) (hn : x ≠ "__name__" := by decide) (hdb : (x == ("__debug__" : Str)) = false := by decide)
  (he : starEach (e :: es) X.env = (false, eval e X.env) :: starEach es X.env := by rfl) (hpl : (backTo pos (starEach es X.env)).any (·.1) = false := by rfl) : PE X (.Call (.Name x p) (e :: es) [] pos) (tCB r t) := by
 intro pins s Z H Q I h
 refine wpAny_Call_Name_kw (ld_blt I hg hm hv ?_ hn hdb)
 exact PyProof.Rows.callWith_builtin1 (thn (ha pos pins s Z H _ I h) fun us s1 ⟨vs, H1, I1, r1, q1⟩ => hc pins s1 Z H1 vs us Q I1 r1 q1) he hpl
theorem pe_callTy (hc : CallR X (.type T) r) (hg : Gl X x) (hm : X.mg x = none) (hv : bootBuiltins x = some (.type T)) (ha : PA X (e :: es) t) (hn : x ≠ "__name__" := by decide) (hdb : (x == ("__debug__" : Str)) = false := by decide)
  (he : starEach (e :: es) X.env = (false, eval e X.env) :: starEach es X.env := by rfl) (hpl : (backTo pos (starEach es X.env)).any (·.1) = false := by rfl) : PE X (.Call (.Name x p) (e :: es) [] pos) (tCB r t) := by
 intro pins s Z H Q I h
 refine wpAny_Call_Name_kw (ld_blt I hg hm hv ?_ hn hdb)
 exact PyProof.Rows.callWith_type1 (thn (ha pos pins s Z H _ I h) fun us s1 ⟨vs, H1, I1, r1, q1⟩ => hc pins s1 Z H1 vs us Q I1 r1 q1) he hpl
end
end L2
namespace HT
open PySem PyProof.Rows
section
open PySem.SeqAt
open PySem.AutoSeq1 (wpAny_loadPart')
open PySem.MeetsSeq PySem.MeetsSeq2 PySem.MeetsSeq3
end
section
variable {prog : Program} {w : World} {A : Around} {E : Value -> Shared -> Prop} {s : Shared}
def sIx (n d : Nat) : Option Int -> Nat
 | none => d
 | some v => if v < 0 then (v + (n : Int)).toNat else min v.toNat n
theorem sIx_none (n d : Nat) : sIx n d none = d := rfl
theorem sIx_nat (n d k : Nat) : sIx n d (some (k : Int)) = min k n := by
 show (if (k : Int) < 0 then ((k : Int) + (n : Int)).toNat else min (k : Int).toNat n) = min k n
 rw [if_neg (by omega), Int.toNat_natCast]
end
end HT
namespace L2
open PySem PySem.Spec PyProof.Rows
abbrev TO := St -> Hp -> (Option Int -> Hp -> Prop) -> Prop
def PO (X : Cx) (e : Option Expr) (t : TO) : Prop :=
 ∀ (pins : List (Addr × Obj)) (s : Shared) (Z : St) (H : Hp) (Q : Option Int -> Hp -> Prop), Inv X pins Z H s -> t Z H Q ->
  wpAny (model X.prog X.w) X.A (evalPart e X.env) (fun u s' => ∃ o H', Inv X pins Z H' s' /\ IsPart u o /\ Q o H') X.xe s
def tNoPart : TO := fun _ H Q => Q none H
def tPart (t : TE) : TO := fun Z H Q => t Z H fun x H1 => ∃ i, x = .int i /\ Q (some i) H1
section
variable {X : Cx} {e : Expr} {te : TE} {lo hi : Option Expr} {tl th : TO} {pos p2 : Pos}
theorem po_none : PO X none tNoPart := by
 intro pins s Z H Q I h
 rw [evalPart_none]
 exact wpAny_pure ⟨none, H, I, .none, h⟩
theorem po_some (h : PE X e te) : PO X (some e) (tPart te) := by
 intro pins s Z H Q I hw
 rw [evalPart_some]
 refine thn (h pins s Z H _ I hw) fun u s1 ⟨x, H1, I1, r1, q1⟩ => ?_
 obtain ⟨i, rfl, q⟩ := q1
 obtain ⟨t, rfl⟩ := r1
 exact ⟨some i, H1, I1, .int i t, q⟩
def SlR (X : Cx) (r : V -> Option Int -> Option Int -> Hp -> VK -> Prop) : Prop :=
 ∀ (pins : List (Addr × Obj)) (s : Shared) (Z : St) (H : Hp) (x : V) (v vl vu : Value) (lo hi : Option Int) (sl : Addr) (Q : VK), Inv X pins Z H s -> RelV x v -> s.heap.IsSliceOf sl vl vu .none -> IsPart vl lo -> IsPart vu hi -> r x lo hi H Q ->
  ∃ T id, typeLookup (.type T) "__getitem__" = pure (some (.builtin id)) /\ s.TypeIs v T /\ wpAny (model X.prog X.w) X.A (getItem v (.ref sl)) (EP X pins Z Q) X.xe s
def tSl (r : V -> Option Int -> Option Int -> Hp -> VK -> Prop) (te : TE) (tl th : TO) : TE := fun Z H Q => te Z H fun x H1 => tl Z H1 fun l H2 => th Z H2 fun u H3 => r x l u H3 Q
theorem pe_slice {r : V -> Option Int -> Option Int -> Hp -> VK -> Prop} (hr : SlR X r) (he : PE X e te) (hl : PO X lo tl) (hu : PO X hi th) : PE X (.Subscript e (.Slice lo hi none p2) pos) (tSl r te tl th) := by
 intro pins s Z H Q I h
 refine Subscript_ (thn (he pins s Z H _ I h) fun v s1 ⟨x, H1, I1, r1, q1⟩ => ?_)
 refine wpAny_Slice (thn (hl pins s1 Z H1 _ I1 q1) fun vl s2 ⟨l, H2, I2, pl, q2⟩ => thn (hu pins s2 Z H2 _ I2 q2) fun vu s3 ⟨u, H3, I3, pu, q3⟩ => ?_)
 rw [evalPart_none]
 refine wpAny_pure ?_
 have I4 : Inv X pins Z H3 { s3 with heap := s3.heap.push { cls := .type "slice", data := .fields #[vl, vu, .none] } } := I3.kept (t' := s3.toks) fun b ob q => Heap.get?_push_of_some _ q
 obtain ⟨T, id, hT, ht, hg⟩ := hr pins { s3 with heap := s3.heap.push { cls := .type "slice", data := .fields #[vl, vu, .none] } } Z H3 x v vl vu l u s3.heap.objs.size Q I4 r1 (Heap.IsSliceOf.new ..) pl pu q3
 show wpAny (model X.prog X.w) X.A (subscriptTail e (.Slice lo hi none p2) v (.ref s3.heap.objs.size)) (EP X pins Z Q) X.xe { s3 with heap := s3.heap.push { cls := .type "slice", data := .fields #[vl, vu, .none] } }
 exact tail_any (ops := [.ref s3.heap.objs.size, v]) ht hT hg (by with_unfolding_all rfl)
def cutV (xs : List V) (lo hi : Option Int) : List V := (xs.drop (HT.sIx xs.length 0 lo)).take (HT.sIx xs.length xs.length hi - HT.sIx xs.length 0 lo)
theorem cutV_length (xs : List V) (lo hi : Option Int) : (cutV xs lo hi).length <= xs.length := by
 unfold cutV
 rw [List.length_take, List.length_drop]
 omega
end
end L2
namespace L2
open PySem PySem.Spec PyProof.Rows
def ixN (n : Nat) (i : Int) : Option Nat := if 0 <= i then (if i < n then some i.toNat else none) else if -(n : Int) <= i then some (i + n).toNat else none
def atI {α : Type} (xs : List α) (i : Int) : Option α := (ixN xs.length i).bind fun j => xs[j]?
theorem ixN_seq {n : Nat} {i : Int} {j : Nat} (h : ixN n i = some j) : seqIndex? i n = some j /\ j < n /\ -(n : Int) <= i /\ i < n := by
 unfold ixN at h
 by_cases h0 : 0 <= i
 ·rw [if_pos h0] at h
  by_cases h1 : i < n
  ·rw [if_pos h1] at h
   have e : i.toNat = j := Option.some.inj h
   exact ⟨by rw [seqIndex_of h0 h1, e], by omega, by omega, h1⟩
  ·rw [if_neg h1] at h; cases h
 ·rw [if_neg h0] at h
  by_cases h1 : -(n : Int) <= i
  ·rw [if_pos h1] at h
   have e : (i + n).toNat = j := Option.some.inj h
   exact ⟨by rw [seqIndex_neg (by omega) h1, e], by omega, h1, by omega⟩
  ·rw [if_neg h1] at h; cases h
theorem atI_get {α : Type} {xs : List α} {i : Int} {v : α} (h : atI xs i = some v) : ∃ j, seqIndex? i xs.length = some j /\ xs[j]? = some v /\ j < xs.length /\ -(xs.length : Int) <= i /\ i < xs.length := by
 unfold atI at h
 cases e : ixN xs.length i with
 | none => rw [e] at h; cases h
 | some j =>
  rw [e] at h
  obtain ⟨h1, h2, h3, h4⟩ := ixN_seq e
  exact ⟨j, h1, h, h2, h3, h4⟩
theorem atI_nat {α : Type} {xs : List α} {j : Nat} {v : α} (h : xs[j]? = some v) : atI xs (j : Int) = some v := by
 have hj : j < xs.length := (List.getElem?_eq_some_iff.mp h).1
 have e : ixN xs.length (j : Int) = some j := by
  unfold ixN
  rw [if_pos (by omega), if_pos (by omega)]; simp
 unfold atI; rw [e]; exact h
def PlainIx (b : Expr) : Prop := ∀ o i, subscripted b false o i = operate [o, i] (getItem o i)
def IxR (X : Cx) (r : R2) : Prop :=
 ∀ (value slice : Expr) (pins : List (Addr × Obj)) (s : Shared) (Z : St) (H : Hp) (x y : V) (v u : Value) (Q : VK), Inv X pins Z H s -> RelV x v -> RelV y u -> r x y H Q ->
  subscripted slice false v u = operate [v, u] (getItem v u) -> wpAny (model X.prog X.w) X.A (subscriptTail value slice v u) (EP X pins Z Q) X.xe s
def MtR (X : Cx) (id : String) (r : V -> List V -> Hp -> VK -> Prop) : Prop :=
 ∀ (pins : List (Addr × Obj)) (s : Shared) (Z : St) (H : Hp) (x : V) (xs : List V) (v : Value) (us : List Value) (Q : VK), Inv X pins Z H s -> RelV x v -> Vals xs us -> r x xs H Q ->
  wpAny (model X.prog X.w) X.A (call (.builtin id) (v :: us)) (EP X pins Z Q) X.xe s
section
variable {X : Cx} {a b : Expr} {ta tb : TE} {pos : Pos}
theorem pe_ix {r : R2} (hr : IxR X r) (ha : PE X a ta) (hb : PE X b tb) (hs : PlainIx b) : PE X (.Subscript a b pos) (tOp r ta tb) := by
 intro pins s Z H Q I h
 exact Subscript_ (binT ha hb I h fun v u s2 x y H2 I2 rx ry q => hr a b pins s2 Z H2 x y v u Q I2 rx ry q (hs _ _))
def rIxL (K : PySem.W.Frag) : R2 := fun x y H Q => ∃ p xs i v, x = .ref p /\ y = .int i /\ SqL K H p xs /\ atI xs i = some v /\ Q v H
def rIxT (K : PySem.W.Frag) : R2 := fun x y H Q => ∃ p xs i v, x = .ref p /\ y = .int i /\ SqT K H p xs /\ atI xs i = some v /\ Q v H
def rIxS : R2 := fun x y H Q => ∃ z i c, x = .str z /\ y = .int i /\ z.length <= sizeLine /\ atI z.cps.toList i = some c /\ Q (.str ⟨#[c]⟩) H
theorem ix_list : IxR X (rIxL X.K) := by
 intro value slice pins s Z H x y v u Q I rx ry h hs
 obtain ⟨p, xs, i, z, rfl, rfl, hq, he, q⟩ := h
 cases rx
 obtain ⟨t, rfl⟩ := ry
 obtain ⟨its, r, pl, hz⟩ := I.list hq
 obtain ⟨j, h1, h2, h3, h4, h5⟩ := atI_get he
 obtain ⟨w, ew, rw'⟩ := r.get h2
 have hl := r.length
 have hn := line63
 have fin : EP X pins Z Q w s := ⟨z, H, I, rw', q⟩
 by_cases h0 : 0 <= i
 ·have hj : i.toNat = j := by
   rw [seqIndex_of h0 h5] at h1
   exact Option.some.inj h1
  exact item_listR pl.isList h0 (by omega) (by rw [hj]; simpa using ew) fin hs
 ·have hj : (i + (its.toArray.size : Int)).toNat = j := by
   rw [seqIndex_neg (by omega) h4] at h1
   rw [List.size_toArray, ← hl]
   exact Option.some.inj h1
  exact subscriptTail_builtinR (x := w) pl.isList.typeIs slot_list_getitem.lookup
   (wpAny_getItem_list_neg (Q := fun r s' => r = w /\ EP X pins Z Q r s') pl.isList (by omega) (by rw [List.size_toArray] <;> omega) (by omega) (by rw [hj]; simpa using ew) ⟨rfl, fin⟩) hs
theorem ix_tup : IxR X (rIxT X.K) := by
 intro value slice pins s Z H x y v u Q I rx ry h hs
 obtain ⟨p, xs, i, z, rfl, rfl, hq, he, q⟩ := h
 cases rx
 obtain ⟨t, rfl⟩ := ry
 obtain ⟨its, r, pl, hz⟩ := I.tuple hq
 obtain ⟨j, h1, h2, h3, h4, h5⟩ := atI_get he
 obtain ⟨w, ew, rw'⟩ := r.get h2
 have hl := r.length
 have hn := line63
 have fin : EP X pins Z Q w s := ⟨z, H, I, rw', q⟩
 exact subscriptTail_builtinR (x := w) pl.typeIs slot_tuple_getitem.lookup
  (getItem_tuple (j := j) (Q := fun r s' => r = w /\ EP X pins Z Q r s') pl (by omega) (by omega) (by rw [List.size_toArray, ← hl]; exact h1) (by simpa using ew) ⟨rfl, fin⟩) hs
theorem ix_str : IxR X rIxS := by
 intro value slice pins s Z H x y v u Q I rx ry h hs
 obtain ⟨z, i, c, rfl, rfl, hz, he, q⟩ := h
 obtain ⟨t, rfl⟩ := rx
 obtain ⟨t', rfl⟩ := ry
 obtain ⟨j, h1, h2, h3, h4, h5⟩ := atI_get he
 have hl : z.cps.toList.length = z.length := by simp [Str.length]
 rw [hl] at h1 h4 h5
 have hn := line63
 exact tail_any (typeIs_str s z t) slot_str_getitem.lookup (getItem_str (c := c) (by
  have e1 : decide (i < -(2 ^ 63 : Int)) = false := decide_eq_false (by omega)
  have e2 : decide (i ≥ 2 ^ 63) = false := decide_eq_false (by omega)
  rw [e1, e2, Bool.or_false]) (by rw [h1]; simpa using h2) ⟨.str ⟨#[c]⟩, H, I.tok _, ⟨_, rfl⟩, q⟩) hs
theorem mapSeq_set (its : List Value) (n j : Nat) (u : Value) : Obj.mapSeq (·.setIfInBounds j u) { cls := .type "list", data := .seq its.toArray n } = { cls := .type "list", data := .seq (its.set j u).toArray n } := by
 simp [Obj.mapSeq]
theorem Inv.lst {pins : List (Addr × Obj)} {Z : St} {H : Hp} {s : Shared} {p : Addr} {xs : List V} (I : Inv X pins Z H s) (h : H p = some (.lst xs)) :
  ∃ (its : List Value) (n : Nat), Vals xs its /\ s.heap.get? p = some { cls := .type "list", data := .seq its.toArray n } /\ xs.length <= sizeLine := by
 obtain ⟨z, its, n, r, e⟩ := I.hok p _ h
 exact ⟨its, n, r, e, z⟩
theorem Inv.lstUpd {pins : List (Addr × Obj)} {Z : St} {H : Hp} {s : Shared} {p : Addr} {xs ys : List V} {its its' : List Value} {n n' : Nat} {f : Obj -> Obj} (I : Inv X pins Z H s) (h : H p = some (.lst xs))
  (ho : s.heap.get? p = some { cls := .type "list", data := .seq its.toArray n }) (hf : f { cls := .type "list", data := .seq its.toArray n } = { cls := .type "list", data := .seq its'.toArray n' }) (r : Vals ys its') (hz : ys.length <= sizeLine) (t : Nat) :
  Inv X pins Z (upd H p (.lst ys)) { s with heap := s.heap.update p f, toks := t } := by
 have e : (s.heap.update p f).get? p = some { cls := .type "list", data := .seq its'.toArray n' } := by
  rw [Heap.get?_update_self f ho (by rw [hf] <;> rfl), hf]
 refine I.write (x := p) (e := p) (by rw [h]; trivial) (.inl rfl) (fun b u hb q => (Heap.get?_update_other _ _ (Ne.symm hb)).trans q) ⟨_, e⟩ ?_
 exact ⟨hz, its', n', r, e⟩
def rSetL : V -> V -> V -> Hp -> (Hp -> Prop) -> Prop := fun o i v H Q => ∃ p xs k j, o = .ref p /\ i = .int k /\ H p = some (.lst xs) /\ ixN xs.length k = some j /\ Q (upd H p (.lst (xs.set j v)))
theorem set_list : PSet X rSetL := by
 intro pins s Z H o i v ov iv u Q I ro ri rv h
 obtain ⟨p, xs, k, j, rfl, rfl, hp, hj, q⟩ := h
 cases ro
 obtain ⟨t, rfl⟩ := ri
 obtain ⟨its, n, r, ho, hz⟩ := I.lst hp
 obtain ⟨h1, h2, h3, h4⟩ := ixN_seq hj
 have hl := r.length
 have hn := line63
 have I' : Inv X pins Z (upd H p (.lst (xs.set j v))) { s with heap := s.heap.update p (Obj.mapSeq (·.setIfInBounds j u)) } :=
  I.lstUpd hp ho (mapSeq_set its n j u) (r.set rv j) (by rw [List.length_set]; exact hz) s.toks
 by_cases h0 : 0 <= k
 ·have hk : k.toNat = j := by
   rw [seqIndex_of h0 h4] at h1
   exact Option.some.inj h1
  exact PySem.W.ki_setAt ho h0 (by omega) (by rw [List.size_toArray, ← hl]; exact h4) (by rw [hk]; exact ⟨_, I', q⟩)
 ·have hk : (k + (its.toArray.size : Int)).toNat = j := by
   rw [seqIndex_neg (by omega) h3] at h1
   rw [List.size_toArray, ← hl]
   exact Option.some.inj h1
  exact PySem.W.ki_setBack ho (by omega) (by rw [List.size_toArray, ← hl]; exact h3) (by omega) (by rw [hk]; exact ⟨_, I', q⟩)
theorem slice_bounds (lo hi : Option Int) (n : Nat) : (sliceBounds lo hi none n).1 = ((HT.sIx n 0 lo : Nat) : Int) /\ (sliceBounds lo hi none n).2.1 = ((HT.sIx n n hi : Nat) : Int) /\ (sliceBounds lo hi none n).2.2 = 1 := by
 refine ⟨?_, ?_, rfl⟩
 ·cases lo with
  | none => simp [sliceBounds, HT.sIx]
  | some i =>
   simp only [sliceBounds, HT.sIx, Option.getD_none, show (1 : Int) > 0 by decide, if_true]
   by_cases h : i < 0
   ·simp only [h, if_true] <;> omega
   ·simp only [h, if_false] <;> omega
 ·cases hi with
  | none => simp [sliceBounds, HT.sIx]
  | some i =>
   simp only [sliceBounds, HT.sIx, Option.getD_none, show (1 : Int) > 0 by decide, if_true]
   by_cases h : i < 0
   ·simp only [h, if_true] <;> omega
   ·simp only [h, if_false] <;> omega
theorem slicePick_cut (its : List Value) (lo hi : Option Int) : slicePick its.toArray lo hi none = ((its.drop (HT.sIx its.length 0 lo)).take (HT.sIx its.length its.length hi - HT.sIx its.length 0 lo)).toArray := by
 obtain ⟨h1, h2, h3⟩ := slice_bounds lo hi its.toArray.size
 unfold slicePick
 rw [h1, h2, h3]
 simp only [sliceRange_one, pick_run, List.size_toArray] <;> rfl
def rSlL (K : PySem.W.Frag) : V -> Option Int -> Option Int -> Hp -> VK -> Prop := fun x lo hi H Q => ∃ a xs, x = .ref a /\ SqL K H a xs /\ ∀ p, H p = none -> Q (.ref p) (upd H p (.lst (cutV xs lo hi)))
theorem sl_list : SlR X (rSlL X.K) := by
 intro pins s Z H x v vl vu lo hi sl Q I rx hs pl pu h
 obtain ⟨a, xs, rfl, hx, q⟩ := h
 cases rx
 obtain ⟨its, r, ht, hz⟩ := I.list hx
 have hlen := r.length
 refine ⟨"list", _, slot_list_getitem.lookup, ht.isList.typeIs, ?_⟩
 refine wpAny_getItem_list_slice ht.isList hs pl pu .none (by simp) ?_ (by rw [List.size_toArray] <;> omega)
 rw [slicePick_cut, ← hlen]
 refine ⟨.ref s.heap.objs.size, _, I.laid (t' := s.toks) (o := .lst (cutV xs lo hi)) (fun b ob q => Heap.get?_push_of_some _ q) (Nat.le_refl _) ?_, rfl, q _ (I.hok.fresh (Nat.le_refl _))⟩
 exact ⟨Nat.le_trans (cutV_length xs lo hi) hz, _, 0, (r.drop (HT.sIx xs.length 0 lo)).take (HT.sIx xs.length xs.length hi - HT.sIx xs.length 0 lo), Heap.get?_push_size _ rfl⟩
def flatV : V -> Bool
 | .non => true
 | .bl _ => true
 | .int _ => true
 | .str _ => true
 | _ => false
def eqV : V -> V -> Bool
 | .non, .non => true
 | .bl a, .bl b => a == b
 | .bl a, .int b => (if a then 1 else 0) == b
 | .int a, .bl b => a == (if b then 1 else 0)
 | .int a, .int b => a == b
 | .str a, .str b => a == b
 | _, _ => false
theorem eqAt_V {A : Around} {s : Shared} {y x : V} {u v : Value} (ry : RelV y u) (rx : RelV x v) (fy : flatV y = true) (fx : flatV x = true) : SeqAt.EqAt A s u v (eqV y x) := by
 cases y with
 | non =>
  cases ry
  cases x with
  | non => cases rx; exact SeqAt.EqAt.same _
  | bl b => cases rx; exact SeqAt.EqAt.none_bool b
  | int b => obtain ⟨t, rfl⟩ := rx; exact SeqAt.EqAt.none_int b t
  | str b => obtain ⟨t, rfl⟩ := rx; exact SeqAt.EqAt.none_str b t
  | _ => exact absurd (show false = true from fx) Bool.false_ne_true
 | bl a =>
  cases ry
  cases x with
  | non => cases rx; exact SeqAt.EqAt.bool_none a
  | bl b => cases rx; exact SeqAt.EqAt.bool_bool a b
  | int b => obtain ⟨t, rfl⟩ := rx; exact SeqAt.EqAt.bool_int a b t
  | str b => obtain ⟨t, rfl⟩ := rx; exact SeqAt.EqAt.bool_str a b t
  | _ => exact absurd (show false = true from fx) Bool.false_ne_true
 | int a =>
  obtain ⟨t', rfl⟩ := ry
  cases x with
  | non => cases rx; exact SeqAt.EqAt.int_none a t'
  | bl b => cases rx; exact SeqAt.EqAt.int_bool a t' b
  | int b => obtain ⟨t, rfl⟩ := rx; exact SeqAt.EqAt.int_int a t' b t
  | str b => obtain ⟨t, rfl⟩ := rx; exact SeqAt.EqAt.int_str a t' b t
  | _ => exact absurd (show false = true from fx) Bool.false_ne_true
 | str a =>
  obtain ⟨t', rfl⟩ := ry
  cases x with
  | non => cases rx; exact SeqAt.EqAt.str_none a t'
  | bl b => cases rx; exact SeqAt.EqAt.str_bool a t' b
  | int b => obtain ⟨t, rfl⟩ := rx; exact SeqAt.EqAt.str_int a t' b t
  | str b => obtain ⟨t, rfl⟩ := rx; exact SeqAt.EqAt.str_str a t' b t
  | _ => exact absurd (show false = true from fx) Bool.false_ne_true
 | _ => exact absurd (show false = true from fy) Bool.false_ne_true
def eqU (x : V) (u : Value) : Bool := match u with
 | .none => eqV .non x
 | .bool b => eqV (.bl b) x
 | .int i _ => eqV (.int i) x
 | .str z _ => eqV (.str z) x
 | _ => false
theorem eqU_of {x y : V} {u : Value} (r : RelV y u) (f : flatV y = true) : eqU x u = eqV y x := by
 cases y with
 | non => cases r; rfl
 | bl b => cases r; rfl
 | int i => obtain ⟨t, rfl⟩ := r; rfl
 | str z => obtain ⟨t, rfl⟩ := r; rfl
 | _ => exact absurd (show false = true from f) Bool.false_ne_true
theorem any_eqU {x : V} : ∀ {xs : List V} {us : List Value}, Vals xs us -> xs.all flatV = true -> us.any (eqU x) = xs.any fun y => eqV y x
 | _, _, .nil, _ => rfl
 | y :: xs, u :: us, .cons r t, f => by
  rw [List.all_cons, Bool.and_eq_true] at f
  rw [List.any_cons, List.any_cons, eqU_of r f.1, any_eqU t f.2]
theorem mem_eqAt {A : Around} {s : Shared} {x : V} {v : Value} (rx : RelV x v) (fx : flatV x = true) : ∀ {xs : List V} {us : List Value}, Vals xs us -> xs.all flatV = true -> ∀ u ∈ us, SeqAt.EqAt A s u v (eqU x u)
 | _, _, .nil, _ => fun u hu => by cases hu
 | y :: xs, u :: us, .cons r t, f => fun u' hu => by
  rw [List.all_cons, Bool.and_eq_true] at f
  rcases List.mem_cons.mp hu with rfl | hu
  ·rw [eqU_of r f.1]; exact eqAt_V r rx f.1 fx
  ·exact mem_eqAt rx fx t f.2 u' hu
def inV (x : V) (xs : List V) : Bool := xs.any fun y => eqV y x
def rIn (K : PySem.W.Frag) (neg : Bool) : R2 := fun x y H Q => ∃ p xs, y = .ref p /\ (SqL K H p xs ∨ SqT K H p xs) /\ flatV x = true /\ xs.all flatV = true /\ Q (.bl (if neg then !inV x xs else inV x xs)) H
theorem op_in_seq : OpR X (compareOp .In) (rIn X.K false) := by
 intro pins s Z H x y v u Q I rx ry h
 obtain ⟨p, xs, rfl, hq, fx, fs, q⟩ := h
 cases ry
 rcases hq with hq | hq
 ·obtain ⟨its, r, pl, hz⟩ := I.list hq
  refine SeqAt.in_listAt (eqU x) pl.isList (fun w hw => mem_eqAt rx fx r fs w (by simpa using hw)) ⟨.bl _, H, I, rfl, ?_⟩
  rw [show its.toArray.any (eqU x) = its.any (eqU x) by simp, any_eqU r fs]
  exact q
 ·obtain ⟨its, r, pl, hz⟩ := I.tuple hq
  refine SeqAt.in_tupleAt (eqU x) pl (fun w hw => mem_eqAt rx fx r fs w (by simpa using hw)) ⟨.bl _, H, I, rfl, ?_⟩
  rw [show its.toArray.any (eqU x) = its.any (eqU x) by simp, any_eqU r fs]
  exact q
theorem op_notIn_seq : OpR X (compareOp .NotIn) (rIn X.K true) := by
 intro pins s Z H x y v u Q I rx ry h
 obtain ⟨p, xs, rfl, hq, fx, fs, q⟩ := h
 cases ry
 rcases hq with hq | hq
 ·obtain ⟨its, r, pl, hz⟩ := I.list hq
  refine SeqAt.notIn_listAt (eqU x) pl.isList (fun w hw => mem_eqAt rx fx r fs w (by simpa using hw)) ⟨.bl _, H, I, rfl, ?_⟩
  rw [show its.toArray.any (eqU x) = its.any (eqU x) by simp, any_eqU r fs]
  exact q
 ·obtain ⟨its, r, pl, hz⟩ := I.tuple hq
  refine SeqAt.notIn_tupleAt (eqU x) pl (fun w hw => mem_eqAt rx fx r fs w (by simpa using hw)) ⟨.bl _, H, I, rfl, ?_⟩
  rw [show its.toArray.any (eqU x) = its.any (eqU x) by simp, any_eqU r fs]
  exact q
theorem call_len_seq : CallR X (.builtin "len") (fun xs H Q => ∃ p ys, xs = [.ref p] /\ (SqL X.K H p ys ∨ SqT X.K H p ys) /\ Q (.int ys.length) H) := by
 intro pins s Z H xs us Q I r h
 obtain ⟨p, ys, rfl, hq, q⟩ := h
 obtain ⟨u, rfl, rx⟩ := vals1 r
 cases rx
 have hn := line63
 rcases hq with hq | hq
 ·obtain ⟨its, r', pl, hz⟩ := I.list hq
  have hlen := r'.length
  exact Calls.call_len_list pl.isList (by simp only [List.size_toArray] <;> omega) ⟨.int ys.length, H, I.tok _, ⟨s.toks + 1, by rw [List.size_toArray, hlen]⟩, q⟩
 ·obtain ⟨its, r', pl, hz⟩ := I.tuple hq
  have hlen := r'.length
  exact len_tuple pl (by simp only [List.size_toArray] <;> omega) ⟨.int ys.length, H, I.tok _, ⟨s.toks + 1, by rw [List.size_toArray, hlen]⟩, q⟩
theorem call_len_str : CallR X (.builtin "len") (fun xs H Q => ∃ z, xs = [.str z] /\ z.length <= sizeLine /\ Q (.int z.length) H) := by
 intro pins s Z H xs us Q I r h
 obtain ⟨z, rfl, hz, q⟩ := h
 obtain ⟨u, rfl, t, rfl⟩ := vals1 r
 have hn := line63
 exact len_str (by omega) ⟨.int z.length, H, I.tok _, ⟨_, rfl⟩, q⟩
theorem call_list_of : CallR X (.type "list") (fun xs H Q => ∃ p ys, xs = [.ref p] /\ (SqL X.K H p ys ∨ SqT X.K H p ys) /\ ∀ l, H l = none -> Q (.ref l) (upd H l (.lst ys))) := by
 intro pins s Z H xs us Q I r h
 obtain ⟨p, ys, rfl, hq, q⟩ := h
 obtain ⟨u, rfl, rx⟩ := vals1 r
 cases rx
 have fin : ∀ (its : List Value), Vals ys its -> ys.length <= sizeLine -> ∀ (h' : Heap) (c' : Nat), (∀ b o', s.heap.get? b = some o' -> h'.get? b = some o') ->
   h'.get? s.heap.objs.size = some { cls := .type "list", dict := none, data := .seq its.toArray c', slots := #[] } -> EP X pins Z Q (.ref s.heap.objs.size) { s with heap := h' } := fun its r' hz h' c' kp e =>
  ⟨.ref s.heap.objs.size, _, I.laid (t' := s.toks) kp (Nat.le_refl _) (show ObjOk X.prog X.w _ h' _ (.lst ys) from ⟨hz, its, c', r', e⟩), rfl, q _ (I.hok.fresh (Nat.le_refl _))⟩
 rcases hq with hq | hq
 ·obtain ⟨its, r', pl, hz⟩ := I.list hq
  have hlen := r'.length
  obtain ⟨o, ho, hc, n, hd⟩ := pl.isList
  exact call_list_seq p (.inl rfl) ho hc hd (fun h' c' kp e => fin its r' hz h' c' kp e) (by simp only [List.size_toArray] <;> omega)
 ·obtain ⟨its, r', pl, hz⟩ := I.tuple hq
  have hlen := r'.length
  obtain ⟨o, ho, hc, n, hd⟩ := pl
  exact call_list_seq p (.inr rfl) ho hc hd (fun h' c' kp e => fin its r' hz h' c' kp e) (by simp only [List.size_toArray] <;> omega)
def tyV (K : PySem.W.Frag) (T : String) (x : V) (H : Hp) : Prop := match x with
 | .str _ => T = "str"
 | .int _ => T = "int"
 | .ref p => (T = "list" /\ ∃ xs, SqL K H p xs) ∨ (T = "tuple" /\ ∃ o, K.lookup p = some o /\ o.cls = .type "tuple" /\ o.dict = none) ∨
   (T = "dict" /\ ((∃ kvs, H p = some (.dK kvs)) ∨ ∃ kvs, H p = some (.dT kvs))) ∨ (T = "set" /\ ∃ S n, H p = some (.set S n))
 | _ => False
theorem tyV_is {pins : List (Addr × Obj)} {Z : St} {H : Hp} {s : Shared} {T : String} {x : V} {v : Value} (I : Inv X pins Z H s) (r : RelV x v) (ty : tyV X.K T x H) :
  s.TypeIs v T /\ ∀ a, v = .ref a -> ∃ ob, s.heap.get? a = some ob /\ ob.dict = none := by
 cases x with
 | str z =>
  obtain ⟨t, rfl⟩ := r
  cases (show T = "str" from ty)
  exact ⟨typeIs_str s z t, fun _ e => nomatch e⟩
 | int i =>
  obtain ⟨t, rfl⟩ := r
  cases (show T = "int" from ty)
  exact ⟨typeIs_int s i t, fun _ e => nomatch e⟩
 | ref p =>
  cases r
  rcases ty with ⟨rfl, xs, hq⟩ | ⟨rfl, o, hk, hc, hd⟩ | ⟨rfl, hk⟩ | ⟨rfl, S, n, hk⟩
  ·obtain ⟨its, _, pl, _⟩ := I.list hq
   refine ⟨pl.isList.typeIs, fun a e => ?_⟩
   cases e
   obtain ⟨o, n, e, c, hd, _⟩ := pl
   exact ⟨o, e, hd⟩
  ·refine ⟨⟨o, I.kIn p o hk, hc⟩, fun a e => ?_⟩
   cases e
   exact ⟨o, I.kIn _ o hk, hd⟩
  ·have z : ∃ o, s.heap.get? p = some o /\ o.ExactDict := by
    rcases hk with ⟨kvs, hk⟩ | ⟨kvs, hk⟩
    ·obtain ⟨_, _, _, _, o, _, _, e, ex, _⟩ := I.hok p _ hk
     exact ⟨o, e, ex⟩
    ·obtain ⟨_, _, _, _, o, _, _, e, ex, _⟩ := I.hok p _ hk
     exact ⟨o, e, ex⟩
   obtain ⟨o, e, ex⟩ := z
   refine ⟨⟨o, e, ex.1⟩, fun a e2 => ?_⟩
   cases e2
   exact ⟨o, e, ex.2.1⟩
  ·obtain ⟨o, _, _, _, e, ex, _⟩ := I.hok p _ hk
   refine ⟨⟨o, e, ex.1⟩, fun a e2 => ?_⟩
   cases e2
   exact ⟨o, e, ex.2.1⟩
 | _ => exact False.elim ty
def tBM0 (K : PySem.W.Frag) (T : String) (r : V -> List V -> Hp -> VK -> Prop) (to : TE) : TE := fun Z H Q => to Z H fun x H1 => tyV K T x H1 /\ r x [] H1 Q
def tBM (K : PySem.W.Frag) (T : String) (r : V -> List V -> Hp -> VK -> Prop) (to : TE) (t : TA) : TE := fun Z H Q => to Z H fun x H1 => tyV K T x H1 /\ t Z H1 fun xs H2 => r x xs H2 Q
variable {o e : Expr} {es : List Expr} {to : TE} {t : TA} {name : Str} {apos cpos : Pos} {T id : String} {r : V -> List V -> Hp -> VK -> Prop}
theorem pe_bm0 (pa : PlainAttrs T) (slot : Slot T name id) (hty : typeOf (.builtin id) = pure (.type "method_descriptor")) (hm : MtR X id r) (ho : PE X o to)
  (hbase : attributeBase o name X.env (eval o X.env) = eval o X.env := by rfl) (hline : (apos.endLine == cpos.line) = true := by rfl) : PE X (.Call (.Attribute o name apos) [] [] cpos) (tBM0 X.K T r to) := by
 intro pins s Z H Q I h
 refine wpAny_Call_method0_late hbase hline (thn (ho pins s Z H _ I h) fun v s1 ⟨x, H1, I1, r1, ty, q1⟩ => ?_)
 obtain ⟨h1, h2⟩ := tyV_is I1 r1 ty
 exact ⟨T, id, pa, slot, hty, h1, h2, Calls.callWith_builtin rfl (PySem.evalArgs_none (hm pins s1 Z H1 x [] v [] Q I1 r1 .nil q1))⟩
theorem pe_bm (pa : PlainAttrs T) (slot : Slot T name id) (hty : typeOf (.builtin id) = pure (.type "method_descriptor")) (hm : MtR X id r) (ho : PE X o to) (ha : PA X (e :: es) t)
  (hbase : attributeBase o name X.env (eval o X.env) = eval o X.env := by rfl)
  (hfew : ((backTo cpos (starEach (e :: es) X.env)).all (fun x => !x.1) && (backToKw cpos (keywordEach [] X.env)).all (fun x => x.1.isSome)
   && decide ((e :: es).length + ([] : List Keyword).length + (if ([] : List Keyword).isEmpty then 0 else 1) < 30)) = true := by rfl)
  (hline : (apos.endLine == cpos.line) = true := by rfl) (hs : starEach (e :: es) X.env = (false, eval e X.env) :: starEach es X.env := by rfl) (hplain : (backTo cpos (starEach es X.env)).any (·.1) = false := by rfl) :
  PE X (.Call (.Attribute o name apos) (e :: es) [] cpos) (tBM X.K T r to t) := by
 intro pins s Z H Q I h
 refine wpAny_Call_method_late hbase hfew hline rfl (thn (ho pins s Z H _ I h) fun v s1 ⟨x, H1, I1, r1, ty, q1⟩ => ?_)
 obtain ⟨h1, h2⟩ := tyV_is I1 r1 ty
 refine ⟨T, id, pa, slot, hty, h1, h2, ?_⟩
 have hA := ha cpos pins s1 Z H1 _ I1 q1
 rw [hs] at hA ⊢
 refine Calls.callWith_builtin (by show (false || (backTo cpos (starEach es X.env)).any (·.1)) = false; rw [hplain] <;> rfl) (Calls.evalArgs_plain ?_)
 exact thn hA fun us s2 ⟨vs, H2, I2, r2, q2⟩ => hm pins s2 Z H2 x vs v us Q I2 r1 r2 q2
end
end L2
namespace L2
open PySem PySem.Spec PyProof.Rows
def MtM (X : Cx) (id : String) (r : V -> List V -> Hp -> VK -> Prop) : Prop :=
 ∀ (pins : List (Addr × Obj)) (s : Shared) (Z : St) (H : Hp) (x : V) (xs : List V) (v : Value) (us : List Value) (Q : VK), Inv X pins Z H s -> RelV x v -> Vals xs us -> r x xs H Q ->
  wpAny (model X.prog X.w) X.A (call (.builtin id) (v :: us)) (EP X pins Z Q) X.xe s
theorem Vals.one : ∀ {x : V} {us : List Value}, Vals [x] us -> ∃ u, us = [u] /\ RelV x u
 | _, _, .cons r .nil => ⟨_, rfl, r⟩
theorem Vals.two : ∀ {x y : V} {us : List Value}, Vals [x, y] us -> ∃ u v, us = [u, v] /\ RelV x u /\ RelV y v
 | _, _, _, .cons r (.cons q .nil) => ⟨_, _, rfl, r, q⟩
theorem Vals.zero : ∀ {us : List Value}, Vals [] us -> us = []
 | _, .nil => rfl
theorem Vals.dropLast {xs : List V} {us : List Value} (h : Vals xs us) : Vals xs.dropLast us.dropLast := by
 induction h with
 | nil => exact .nil
 | cons r t ih =>
  cases t with
  | nil => exact .nil
  | cons q t' => exact .cons r ih
theorem Vals.rep {xs : List V} {us : List Value} (h : Vals xs us) : ∀ k : Nat, Vals (List.replicate k xs).flatten (List.replicate k us).flatten
 | 0 => .nil
 | k + 1 => by
  rw [List.replicate_succ, List.replicate_succ, List.flatten_cons, List.flatten_cons]
  exact Vals.append h (Vals.rep h k)
theorem erase_last {α : Type} (l : List α) : l.eraseIdx (l.length - 1) = l.dropLast := by
 induction l with
 | nil => rfl
 | cons a r ih =>
  cases r with
  | nil => rfl
  | cons b r =>
   have e : (a :: b :: r).length - 1 = ((b :: r).length - 1) + 1 := by
    have h1 : (a :: b :: r).length = r.length + 2 := rfl
    have h2 : (b :: r).length = r.length + 1 := rfl
    omega
   rw [e, List.eraseIdx_cons_succ, ih]
   all_goals rfl
theorem foldl_rep (its : List Value) : ∀ (k : Nat) (acc : List Value),
  List.foldl (fun x1 x2 => x1 ++ x2) acc.toArray (List.replicate k its.toArray) = (acc ++ (List.replicate k its).flatten).toArray
 | 0, acc => by simp
 | k + 1, acc => by
  have e : acc.toArray ++ its.toArray = (acc ++ its).toArray := by simp
  have e2 : (acc ++ its) ++ (List.replicate k its).flatten = acc ++ (List.replicate (k + 1) its).flatten := by
   rw [List.replicate_succ, List.flatten_cons, List.append_assoc]
  rw [← e2, ← foldl_rep its k (acc ++ its), ← e, List.replicate_succ, List.foldl_cons]
section
variable {X : Cx} {pins : List (Addr × Obj)} {Z : St} {H : Hp} {s : Shared} {l b : Addr} {xs ys zs : List V}
theorem Inv.lset {its its' : List Value} {n : Nat} {f : Array Value -> Array Value} {t' : Nat} (I : Inv X pins Z H s) (hH : H l = some (.lst xs))
  (e : s.heap.get? l = some { cls := .type "list", data := .seq its.toArray n }) (hf : f its.toArray = its'.toArray) (hv : Vals ys its') (hz : ys.length <= sizeLine) :
  Inv X pins Z (upd H l (.lst ys)) { s with heap := s.heap.update l (Obj.mapSeq f), toks := t' } := by
 have q := PySem.IsL.update e f
 rw [hf] at q
 refine I.write (x := l) (e := l) (by rw [hH]; exact trivial) (.inl rfl) (fun b' u hb hu => (Heap.get?_update_other s.heap (Obj.mapSeq f) (Ne.symm hb)).trans hu) ⟨_, q⟩ ?_
 exact ⟨hz, its', _, hv, q⟩
theorem Inv.lnew {its : List Value} {t' : Nat} (I : Inv X pins Z H s) (hv : Vals ys its) (hz : ys.length <= sizeLine) :
  Inv X pins Z (upd H s.heap.objs.size (.lst ys)) { s with heap := s.heap.push { cls := .type "list", data := .seq its.toArray }, toks := t' } :=
 I.laid (fun _ _ q => Heap.get?_push_of_some _ q) (Nat.le_refl _) ⟨hz, its, 0, hv, Heap.get?_push_size _ rfl⟩
theorem Inv.fresh (I : Inv X pins Z H s) : H s.heap.objs.size = none := I.hok.fresh (Nat.le_refl _)
theorem Inv.lstM (I : Inv X pins Z H s) (hH : H l = some (.lst xs)) : xs.length <= sizeLine /\ ∃ (its : List Value) (n : Nat), Vals xs its /\ xs.length = its.length /\ s.heap.get? l = some { cls := .type "list", data := .seq its.toArray n } := by
 obtain ⟨z, its, n, r, e⟩ := I.hok l _ hH
 exact ⟨z, its, n, r, r.length, e⟩
theorem notLongL {n : Nat} (h : n <= sizeLine) : Builtin.List.listTooLong n = false := by
 unfold Builtin.List.listTooLong
 exact decide_eq_false (by omega)
end
section
variable {X : Cx}
def rAppend : V -> List V -> Hp -> VK -> Prop := fun x vs H Q => ∃ l xs y, x = .ref l /\ vs = [y] /\ H l = some (.lst xs) /\ xs.length < sizeLine /\ Q .non (upd H l (.lst (xs ++ [y])))
theorem mt_append : MtM X "list.append" rAppend := by
 intro pins s Z H x vs v us Q I rx rv h
 obtain ⟨l, xs, y, rfl, rfl, hH, hz, q⟩ := h
 cases rx
 obtain ⟨u, rfl, ru⟩ := rv.one
 obtain ⟨z, its, n, r, hl, e⟩ := I.lstM hH
 refine call_meets F.slot_list_append ⟨_, e, rfl⟩ F.entry_list_append (F.args_list_append_2 _ _) (PySem.list_append l its.toArray n u (by rw [List.size_toArray]; omega)) ⟨e, ?_⟩
 refine ⟨.non, _, I.lset (its' := its ++ [u]) hH e (by simp) (r.append (.cons ru .nil)) ?_, rfl, q⟩
 rw [List.length_append, List.length_singleton]
 omega
def rExtend : V -> List V -> Hp -> VK -> Prop := fun x vs H Q => ∃ l b xs zs, x = .ref l /\ vs = [.ref b] /\ H l = some (.lst xs) /\ H b = some (.lst zs) /\ xs.length + zs.length <= sizeLine /\ Q .non (upd H l (.lst (xs ++ zs)))
theorem mt_extend : MtM X "list.extend" rExtend := by
 intro pins s Z H x vs v us Q I rx rv h
 obtain ⟨l, b, xs, zs, rfl, rfl, hH, hB, hz, q⟩ := h
 cases rx
 obtain ⟨u, rfl, ru⟩ := rv.one
 cases ru
 obtain ⟨z, its, n, r, hl, e⟩ := I.lstM hH
 obtain ⟨z2, its2, n2, r2, hl2, e2⟩ := I.lstM hB
 have hsz : its.toArray.size + its2.toArray.size <= sizeLine := by rw [List.size_toArray, List.size_toArray]; omega
 have hlong : ¬ (!its.toArray.isEmpty && Builtin.List.listTooLong (its.toArray.size + its2.toArray.size)) = true := by
  rw [notLongL hsz, Bool.and_false]
  exact Bool.false_ne_true
 refine call_meets F.slot_list_extend ⟨_, e, rfl⟩ F.entry_list_extend (F.args_list_extend_2 _ _)
  (AutoSeq1.list_extend_list_list_0 l its.toArray n b its2.toArray n2 hlong (by rw [List.size_toArray]; omega) (by omega)) ⟨e, e2, ?_⟩
 refine ⟨.non, _, I.lset (its' := its ++ its2) hH e (by simp) (r.append r2) ?_, rfl, q⟩
 rw [List.length_append]
 omega
def rPop : V -> List V -> Hp -> VK -> Prop := fun x vs H Q => ∃ l xs y, x = .ref l /\ vs = [] /\ H l = some (.lst xs) /\ xs[xs.length - 1]? = some y /\ Q y (upd H l (.lst xs.dropLast))
theorem mt_pop : MtM X "list.pop" rPop := by
 intro pins s Z H x vs v us Q I rx rv h
 obtain ⟨l, xs, y, rfl, rfl, hH, hy, q⟩ := h
 cases rx
 have hus := rv.zero
 subst hus
 obtain ⟨z, its, n, r, hl, e⟩ := I.lstM hH
 obtain ⟨u, hu, ru⟩ := r.get hy
 have hy' : its.toArray[its.toArray.size - 1]? = some u := by
  show its.toArray[its.length - 1]? = some u
  rw [← Array.getElem?_toList, ← hl]
  exact hu
 refine call_meets F.slot_list_pop ⟨_, e, rfl⟩ F.entry_list_pop (F.args_list_pop_1 _) (MeetsSeq.list_pop_last l its.toArray n u hy' (by rw [List.size_toArray]; omega)) ⟨e, ?_⟩
 refine ⟨y, _, I.lset (its' := its.dropLast) hH e ?_ r.dropLast ?_, ru, q⟩
 ·show its.toArray.eraseIdxIfInBounds (its.toArray.size - 1) = its.dropLast.toArray
  rw [List.size_toArray, List.eraseIdxIfInBounds_toArray, erase_last]
 ·rw [List.length_dropLast]
  omega
def rClear : V -> List V -> Hp -> VK -> Prop := fun x vs H Q => ∃ l xs, x = .ref l /\ vs = [] /\ H l = some (.lst xs) /\ Q .non (upd H l (.lst []))
theorem mt_clear : MtM X "list.clear" rClear := by
 intro pins s Z H x vs v us Q I rx rv h
 obtain ⟨l, xs, rfl, rfl, hH, q⟩ := h
 cases rx
 have hus := rv.zero
 subst hus
 obtain ⟨z, its, n, r, hl, e⟩ := I.lstM hH
 refine call_meets F.slot_list_clear ⟨_, e, rfl⟩ F.entry_list_clear (F.args_list_clear_1 _) (AutoSeq1.list_clear_list_0 l its.toArray n (by rw [List.size_toArray]; omega)) ⟨e, ?_⟩
 exact ⟨.non, _, I.lset (its' := []) (ys := []) hH e rfl .nil (Nat.zero_le _), rfl, q⟩
def rCat : R2 := fun x y H Q => ∃ l b xs zs, x = .ref l /\ y = .ref b /\ H l = some (.lst xs) /\ H b = some (.lst zs) /\ xs.length + zs.length <= sizeLine /\ ∀ p, H p = none -> Q (.ref p) (upd H p (.lst (xs ++ zs)))
theorem op_cat : OpR X (binaryOp .Add) rCat := by
 intro pins s Z H x y v u Q I rx ry h
 obtain ⟨l, b, xs, zs, rfl, rfl, hH, hB, hz, q⟩ := h
 cases rx
 cases ry
 obtain ⟨z, its, n, r, hl, e⟩ := I.lstM hH
 obtain ⟨z2, its2, n2, r2, hl2, e2⟩ := I.lstM hB
 refine PySem.P.add_list e e2 ?_ (by rw [List.size_toArray, List.size_toArray]; omega)
 have ea : its.toArray ++ its2.toArray = (its ++ its2).toArray := by simp
 rw [ea]
 exact ⟨.ref _, _, I.lnew (t' := s.toks) (r.append r2) (by rw [List.length_append]; omega), rfl, q _ I.fresh⟩
def rRep : R2 := fun x y H Q => ∃ l k xs, x = .ref l /\ y = .int k /\ H l = some (.lst xs) /\ -(2 ^ 63) <= k /\ k < 2 ^ 63 /\ xs.length * k.toNat <= sizeLine /\
 ∀ p, H p = none -> Q (.ref p) (upd H p (.lst (List.replicate k.toNat xs).flatten))
theorem len_rep {α : Type} (xs : List α) (k : Nat) : (List.replicate k xs).flatten.length = k * xs.length := by
 induction k with
 | zero => simp
 | succ k ih => rw [List.replicate_succ, List.flatten_cons, List.length_append, ih, Nat.succ_mul, Nat.add_comm]
theorem op_rep : OpR X (binaryOp .Mult) rRep := by
 intro pins s Z H x y v u Q I rx ry h
 obtain ⟨l, k, xs, rfl, rfl, hH, h1, h2, hz, q⟩ := h
 cases rx
 obtain ⟨t, rfl⟩ := ry
 obtain ⟨z, its, n, r, hl, e⟩ := I.lstM hH
 have hlen : its.toArray.size * k.toNat <= sizeLine := by rw [List.size_toArray, ← hl]; exact hz
 have hcap : ¬ its.toArray.size * k.toNat > (2 ^ 63 - 1) / 8 := by
  have : (sizeLine : Nat) <= (2 ^ 63 - 1) / 8 := by decide
  omega
 have hfit : ¬ (!Builtin.List.listFitsIndex k) = true := by
  rw [fitsIndex_both h1 h2]
  exact Bool.false_ne_true
 have hlong : ¬ Builtin.List.listTooLong (its.toArray.size * k.toNat) = true := by
  rw [notLongL hlen]
  exact Bool.false_ne_true
 have hnew : List.foldl (fun x1 x2 => x1 ++ x2) #[] (List.replicate (if its.toArray.isEmpty = true then 0 else k.toNat) its.toArray) = (List.replicate k.toNat its).flatten.toArray := by
  have f0 : ∀ m : Nat, List.foldl (fun x1 x2 => x1 ++ x2) #[] (List.replicate m its.toArray) = (List.replicate m its).flatten.toArray := fun m => by
   have := foldl_rep its m []
   rw [List.nil_append] at this
   exact this
  rw [f0]
  cases its with
  | nil => simp
  | cons a r' => rw [if_neg (by simp)]
 refine wpAny_binaryOp_repeat_ref (T := "list") (U := "int") (by decide) ⟨_, e, rfl⟩ (fun s' => typeIs_int s' k t) noFill_list_mul F.fills_int_mul F.slot_int_rmul repeat_list F.slot_int_index.lookup
  (call_meets F.slot_int_rmul (typeIs_int s k t) F.entry_int_rmul (F.args_int_rmul_2 _ _) (int___rmul___int_list k t l its.toArray n)
   ⟨e, rfl, ⟨_, e, rfl⟩, call_meets F.slot_list_mul ⟨_, e, rfl⟩ F.entry_list_mul (F.args_list_mul_2 _ _) (AutoListH.list___mul___list_int_3 l its.toArray n k t hfit hcap hlong) ⟨e, ?_⟩⟩)
 rw [hnew]
 exact ⟨.ref _, _, I.lnew (t' := s.toks) (r.rep k.toNat) (by rw [len_rep, Nat.mul_comm]; exact hz), rfl, q _ I.fresh⟩
end
section
variable {prog : Program} {w : World} {A : Around} {E : Value -> Shared -> Prop} {s : Shared}
set_option maxRecDepth 100000 in
end
section
variable {X : Cx}
end
end L2
namespace Att
open PySem PySem.W PySem.Calls PyProof.Rows
theorem ints_of_wellAll {P : Params} {h : Heap} : ∀ (ns : List Int) (vs : List Value), WellAll P h vs (ns.map WData.int) -> IntsAre vs ns := by
 intro ns
 induction ns with
 | nil =>
  intro vs w
  rw [List.map_nil] at w
  cases w
  exact .nil
 | cons n ns ih =>
  intro vs w
  rw [List.map_cons] at w
  cases w with
  | cons a b =>
   cases a
   exact .cons _ _ (ih _ b)
theorem script_of {l : OpenLaw} {n : Nat} (hn : l.most = some n) {P : Params} {h : Heap} {args : List WData} {vals : List Value}
  (hpre : l.row.toRowW.claim.pre args = true) (hwl : WellAll P h vals args) :
  ∃ a vs ns, vals = [Value.ref a] /\ args = [WData.list (ns.map WData.int)] /\ h.get? a = some { cls := .type "list", data := .seq vs.toArray } /\ IntsAre vs ns /\ ns.length <= n := by
 have hsh : WShape.hasAll [] args [.list .int] = true := (pre_splitW hpre).1
 have hc : l.pre.holds [] { args := args } = true := (pre_splitW hpre).2
 obtain ⟨d, r, rfl, h1, h2⟩ := hasAllW_cons hsh
 obtain rfl := hasAllW_nil h2
 obtain ⟨xs, rfl, h3⟩ := hasW_list h1
 obtain ⟨ns, rfl⟩ := items_int h3
 have hlen : ns.length <= n := by
  unfold OpenLaw.pre at hc
  have h4 : (WTm.not (.lt (.lit (.int (n : Int))) (.len (.arg 0)))).holds [] { args := [.list (ns.map .int)] } = true := by
   have h4 := (holds_andW hc).1
   rw [hn] at h4
   exact h4
  have h5 := condW_of h4 (w_not (w_lt w_lit (w_len_list (w_arg rfl))))
  rw [List.length_map] at h5
  refine Nat.le_of_not_lt fun q => ?_
  have q' : (n : Int) < ((ns.length : Nat) : Int) := by omega
  first
   | (rw [decide_eq_true q'] at h5; exact absurd h5 (by decide))
   | (simp at h5; omega)
 cases hwl with
 | cons w1 w2 =>
  cases w2
  cases w1 with
  | list ho hall => exact ⟨_, _, ns, rfl, rfl, ho, ints_of_wellAll ns _ hall, hlen⟩
theorem post_true (l : OpenLaw) (args : List WData) : l.row.toRowW.claim.post args (.bool true) args = true :=
 postW_of (r := l.row.toRowW) (X := (true == true))
  (show WShape.has [] (.bool true) .bool = true by first | rfl | decide | simp [WShape.has, WShape.arms, WShape.armsAll])
  (show (WTm.eq .res (.lit (.bool true))).value [] { args := args, res := some (.bool true), after := args } = some (.bool (true == true)) from w_eq_bool (w_res rfl) w_lit) rfl
theorem attach_call {l : OpenLaw} {n : Nat} {q : Program} {loose : List Str} {XP : (Str -> Option Value) -> Heap -> Prop} {YP : World -> Heap -> Prop} {d : DefRec}
  (hn : l.most = some n) (hdf : d.params.defaults = [])
  (call : ∀ (w : World) (s₀ s₁ : Shared) (mg mb : Str -> Option Value) (fa : Addr) (o : Obj) (pm cd doc : Value) (a : Addr) (vs : List Value) (ns : List Int),
   Ground q loose [] XP w s₀ mg mb s₁.heap -> YP w s₁.heap ->
   s₁.heap.get? fa = some o -> o.data = .func (docDef d.name d.params d.body d.scope pm cd doc) -> s₁.heap.CodeRec cd d.name -> mg d.name = some (.ref fa) ->
   s₁.heap.get? a = some { cls := .type "list", data := .seq vs.toArray } -> IntsAre vs ns -> ns.length <= n -> s₁.gens = #[] ->
   codeAny (model l.prog w) callerA (.call (.ref fa) ⟨[.ref a], []⟩) (fun r s' => r = .ok (.ret (.bool true)) /\ OldK s₁.heap s'.heap /\ s'.os = s₁.os /\ AllBare s'.gens) s₁) :
  WalkO q loose XP YP l.row.toRowW d [] (fun f vs => PySem.call f vs) := by
 intro w s₀ s₁ mg mb G Y fa o pm cd doc dV kV ho hd hcd hD hmg hg args vals as hpre hlay hrd hwl hlo
 obtain rfl : dV = .none := Dflts.none hD hdf
 obtain rfl : kV = .none := Dflts.noKw hD
 obtain ⟨a, vs, ns, rfl, rfl, hobj, hints, hlen⟩ := script_of hn hpre hwl
 refine enter_call (codeAny_mono (call w s₀ s₁ mg mb fa o pm cd doc a vs ns G Y ho (fd_plain hd) hcd hmg hobj hints hlen hg) fun r s' hq => ?_)
 obtain ⟨rfl, h2, h3, h4⟩ := hq
 exact ⟨.inl ⟨.bool true, .bool true, [], rfl, fun _ => rfl, .bool true, post_true l _, fun _ => ⟨List.Pairwise.nil, fun _ hm => (nomatch hm)⟩⟩, h2, h3, h4⟩
section
variable {prog : Program} {w : World} {A : Around} {E : Value -> Shared -> Prop} {s : Shared} {K : Frag}
end
end Att
namespace L2
open PySem PySem.Spec PyProof.Rows
theorem vals_ints : ∀ {vs : List Value} {ns : List Int}, IntsAre vs ns -> Vals (ns.map V.int) vs
 | _, _, .nil => .nil
 | _, _, .cons n t h => .cons ⟨t, rfl⟩ (vals_ints h)
def Only (H : Hp) : Prop := ∀ b, H b = none ∨ ∃ o xs, H b = some (.frz o (.lst xs))
theorem law_call {P : Program} {w : World} {K : PySem.W.Frag} {mg mb : Str -> Option Value} {CX : CXT} {k : Nat} {fa a : Addr} {fd : FuncData} {x : Str} {sp : Sp} {s₁ : Shared} {vs : List Value} {ns : List Int}
  (KX : K.In s₁.heap) (hns : s₁.heap.Ns mainGlobals mg) (hb : s₁.heap.Ns builtinsNs mb) (hbb : ∀ x : Str, x ≠ "__name__" -> mb x = bootBuiltins x) (hlim : s₁.heap.NoLimit) (hg : s₁.gens = #[])
  (ha : s₁.heap.get? a = some { cls := .type "list", data := .seq vs.toArray }) (hi : IntsAre vs ns) (hl : ns.length <= sizeLine) (hr : Room k callerA)
  (F : ∀ base : Heap, K.In base -> base.Ns mainGlobals mg -> FnOk P w K mg base CX k fa fd [x] sp) (hbind : ∀ (s : Shared) (u : Value), BindsTo s fd ⟨[u], []⟩ [(x, u)])
  (hsp : ∀ H : Hp, Only H -> SqL K H a (ns.map V.int) -> sp [.ref a] H (fun v _ => v = .bl true) fun _ _ _ => False)
  (hCX : ∀ H e s', CX [] H s₁ (fun _ _ _ => False) e s' -> False) :
  codeAny (model P w) callerA (.call (.ref fa) ⟨[.ref a], []⟩) (fun r s' => r = .ok (.ret (.bool true)) /\ OldK s₁.heap s'.heap /\ s'.os = s₁.os /\ AllBare s'.gens) s₁ := by
 have rv := vals_ints hi
 have lenV := hi.length
 have core : ∀ H : Hp, Only H -> SqL K H a (ns.map V.int) -> HOk P w H s₁.heap -> (∀ b, H b ≠ none -> b = a) -> (H a ≠ none -> K.lookup a = none) ->
   codeAny (model P w) callerA (.call (.ref fa) ⟨[.ref a], []⟩) (fun r s' => r = .ok (.ret (.bool true)) /\ OldK s₁.heap s'.heap /\ s'.os = s₁.os /\ AllBare s'.gens) s₁ := by
  intro H hO hS hok hA hK
  have base_of : ∀ {b : Addr} {o : Obj}, s₁.heap.get? b = some o -> H b = none -> (hidT s₁.heap H).get? b = some o := fun e n => hidT_get e n
  have noA : ∀ {b : Addr} {o : Obj} {es : Array DictEntry} {ep : Nat}, s₁.heap.get? b = some o -> o.data = .dict es ep -> H b = none := fun {b o es ep} e d => by
   cases q : H b with
   | none => rfl
   | some u =>
    have e' : b = a := hA b (by rw [q]; simp)
    subst e'
    rw [ha] at e; cases e
    have d' : Data.seq vs.toArray _ = Data.dict es ep := d
    cases d'
  have nsK : ∀ {b : Addr} {m : Str -> Option Value}, s₁.heap.Ns b m -> (hidT s₁.heap H).Ns b m := fun {b m} ⟨o, es, ep, e, d, r⟩ => ⟨o, es, ep, base_of e (noA e d), d, r⟩
  have hKb : K.In (hidT s₁.heap H) := fun b o e => base_of (KX b o e) (by
   cases q : H b with
   | none => rfl
   | some u =>
    have e' : b = a := hA b (by rw [q]; simp)
    subst e'
    rw [hK (by rw [q]; simp)] at e; cases e)
  have hM : Mod K mg (hidT s₁.heap H) := ⟨hKb, nsK hns, ⟨mb, nsK hb, hbb⟩, let ⟨mc, h1, h2⟩ := hlim; ⟨mc, nsK h1, h2⟩⟩
  have e0 : Env0 P w K mg (hidT s₁.heap H) callerA [] s₁ H := ⟨rfl, hM, fun b o e => of_hidT e, Nat.le_of_eq (hidT_size _ _), trivial, fun b hb => absurd (show b ∈ ([] : List Addr) from hb) (by simp), hok, .of_eq hg⟩
  refine codeAny_mono ((F _ hKb (nsK hns)).run callerA [] s₁ H ⟨[.ref a], []⟩ [.ref a] [.ref a] _ _ hr e0 (hbind s₁ (.ref a)) (.cons rfl .nil) (hsp H hO hS)) fun r s' h => ?_
  cases r with
  | error e => exact (hCX H e s' h).elim
  | ok fl =>
   cases fl with
   | next => exact False.elim h
   | brk => exact False.elim h
   | cont => exact False.elim h
   | ret u =>
    obtain ⟨v, H', os, bare, un, hok', r', q⟩ := h
    have q' : v = .bl true := q
    subst q'
    obtain rfl : u = Value.bool true := r'
    refine ⟨rfl, OldK.of_keep fun b o e => ?_, os, bare⟩
    cases q : H b with
    | none => exact un.keep b o e q (by intro z; exact absurd (show b ∈ ([] : List Addr) from z) (by simp)) (by simp)
    | some u =>
     rcases hO b with z | ⟨ob, xs, z⟩
     ·rw [q] at z; cases z
     ·have z2 := un.frzs b ob _ z
      obtain ⟨e1, _⟩ := hok b _ z
      obtain ⟨e2, _⟩ := hok' b _ z2
      rw [e] at e1; cases e1
      exact e2
 cases hk : K.lookup a with
 | some o =>
  have e := KX a o hk
  rw [ha] at e
  cases e
  refine core (fun _ => none) (fun _ => .inl rfl) (.inr ⟨_, vs.toArray, _, hk, rfl, rfl, rfl, by rw [List.size_toArray, lenV]; exact hl, by simpa using rv⟩) (fun b u z => by have z' : (none : Option HO) = some u := z; cases z') (fun b z => absurd rfl z) fun z => absurd rfl z
 | none =>
  refine core (fun b => if b = a then some (.frz { cls := .type "list", data := .seq vs.toArray } (.lst (ns.map V.int))) else none) (fun b => ?_) (.inl (.inr ⟨{ cls := .type "list", data := .seq vs.toArray }, if_pos rfl⟩)) (fun b u z => ?_) (fun b z => ?_) fun _ => hk
  ·by_cases hb : b = a
   ·exact .inr ⟨_, _, if_pos hb⟩
   ·exact .inl (if_neg hb)
  ·by_cases hb : b = a
   ·have z' := (if_pos hb).symm.trans z
    cases z'
    subst hb
    exact ⟨ha, by rw [List.length_map]; exact hl, vs, _, rv, ha⟩
   ·have z' := (if_neg hb).symm.trans z
    cases z'
  ·by_cases hb : b = a
   ·exact hb
   ·exact absurd (if_neg hb) z
end L2
namespace L2
open PySem PySem.Spec PyProof.Rows
theorem walk_of {l : PySem.W.OpenLaw} {n k : Nat} {q : Program} {loose : List Str} {XP : (Str -> Option Value) -> Heap -> Prop} {YP : World -> Heap -> Prop} {d : DefRec} {K : Params -> PySem.W.Frag} {CX : World -> CXT} {sp : World -> Sp} {x : Str}
  (hn : l.most = some n) (hn2 : n <= sizeLine) (hdf : d.params.defaults = []) (hr : Room k callerA)
  (hY : ∀ (w : World) (h : Heap), YP w h -> (K w.params).In h)
  (F : ∀ (w : World) (mg : Str -> Option Value) (fa : Addr) (h : Heap), (K w.params).In h -> h.Ns mainGlobals mg -> mg d.name = some (.ref fa) ->
   ∃ fd : FuncData, (∀ (s : Shared) (u : Value), BindsTo s fd ⟨[u], []⟩ [(x, u)]) /\
    ∀ base : Heap, (K w.params).In base -> base.Ns mainGlobals mg -> FnOk l.prog w (K w.params) mg base (CX w) k fa fd [x] (sp w))
  (hsp : ∀ (w : World) (H : Hp) (a : Addr) (ns : List Int), ns.length <= n -> Only H -> SqL (K w.params) H a (ns.map V.int) -> sp w [.ref a] H (fun v _ => v = .bl true) fun _ _ _ => False)
  (hCX : ∀ (w : World) (H : Hp) (s : Shared) (e : Value) (s' : Shared), CX w [] H s (fun _ _ _ => False) e s' -> False) :
  PySem.W.WalkO q loose XP YP l.row.toRowW d [] (fun f vs => PySem.call f vs) := by
 refine Att.attach_call hn hdf fun w s₀ s₁ mg mb fa o pm cd doc a vs ns G Y ho hd hcd hmg hobj hints hlen hg => ?_
 have KX := hY w _ Y
 obtain ⟨fd, hb, hF⟩ := F w mg fa _ KX G.T.g hmg
 exact law_call KX G.T.g G.T.b G.T.builtins G.T.nolimit hg hobj hints (Nat.le_trans hlen hn2) hr hF hb (fun H hO hS => hsp w H a ns hlen hO hS) fun H e s' => hCX w H s₁ e s'
end L2
namespace L2
open PySem PySem.Spec PyProof.Rows
def inClass (s : Stmt) (j : Nat) : Stmt := match s with
 | .ClassDef _ _ _ body _ _ _ _ _ _ _ => body.getD j (.Pass ⟨0, 0, 0, 0⟩)
 | _ => .Pass ⟨0, 0, 0, 0⟩
def defArgs (s : Stmt) : Arguments := match s with
 | .FunctionDef _ a _ _ _ _ _ _ _ _ => a
 | _ => { posonlyargs := [], args := [], vararg := none, kwonlyargs := [], kw_defaults := [], kwarg := none, defaults := [] }
def defBody (s : Stmt) : List Stmt := match s with
 | .FunctionDef _ _ b _ _ _ _ _ _ _ => b
 | _ => []
def defScope (s : Stmt) : Scope := match s with
 | .FunctionDef _ _ _ _ _ _ sc _ _ _ => sc
 | _ => { kind := .function, names := [], isGenerator := false, isCoroutine := false }
abbrev CX0 : CXT := fun _ _ _ _ _ _ => False
abbrev E0 : XK := fun _ _ _ => False
theorem pass0 {X : Cx} : Passes CX0 X E0 := fun _ _ _ _ _ _ _ h => h.elim
structure Fun (K : PySem.W.Frag) (x qual : Str) (st : Stmt) (f : Addr) (fd : FuncData) : Prop where
 ex : ∃ (oc : Value) (od : Option Addr) (kV doc pm : Value) (an : Option Addr) (cdv ct : Value) (osl : Array (Option Value)),
  fd = PySem.W.fnOf x qual (defArgs st) (defBody st) (defScope st) .none kV doc pm an cdv ct /\ K.lookup f = some ⟨oc, od, .func fd, osl⟩ /\ PySem.W.codeIn K cdv qual = true
 kp : PySem.W.keepIn K (.ref f) = true
section
variable {P : Program} {w : World} {K : PySem.W.Frag} {mg : Str -> Option Value} {base : Heap}
theorem Fun.ok {x qual : Str} {st : Stmt} {f : Addr} {fd : FuncData} {N ps : List Str} {k : Nat} {sp : Sp} (F : Fun K x qual st f fd) (S : FnScope N ps (defScope st)) (len : ∀ vs H Q E, sp vs H Q E -> vs.length = ps.length)
  (hbody : ∀ (cdv : Value) (A : Around) (outer : List Env) (s : Shared) (H : Hp) (vs : List V) (Q : VK) (E : XK), Room k (A.deeper (envOfC qual (defScope st) s.heap.objs.size f cdv)) -> sp vs H Q E ->
   ∃ t, PSs (cxOf CX0 P w K mg base N qual (defScope st) f cdv A outer s H E).nox (defBody st) t /\ t { nx := fun _ H' => Q .non H', rt := Q } (start N vs) H) : FnOk P w K mg base CX0 (k + 1) f fd ps sp := by
 obtain ⟨oc, od, kV, doc, pm, an, cdv, ct, osl, rfl, lk, hcd⟩ := F.ex
 refine fn_of lk hcd S len fun A outer s H vs Q E hr hsp => ?_
 obtain ⟨t, h, q⟩ := hbody cdv A outer s H vs Q E hr hsp
 exact ⟨t, h.nox, q⟩
theorem Fun.binds {x qual : Str} {st : Stmt} {f : Addr} {fd : FuncData} {ps : List Str} (F : Fun K x qual st f fd)
  (h : ∀ (kV doc pm : Value) (an : Option Addr) (cdv ct : Value) (us : List Value), us.length = ps.length -> bindArgs (PySem.W.fnOf x qual (defArgs st) (defBody st) (defScope st) .none kV doc pm an cdv ct) ⟨us, []⟩ = pure (ps.zip us)) : Binds K fd ps [] := by
 obtain ⟨oc, od, kV, doc, pm, an, cdv, ct, osl, rfl, lk, hcd⟩ := F.ex
 exact .all (h kV doc pm an cdv ct)
theorem fun_mk {x qual : Str} {st : Stmt} {f : Addr} {oc : Value} {od an : Option Addr} {osl : Array (Option Value)} {kV doc pm cdv ct : Value} (l : K.lookup f = some ⟨oc, od, .func (PySem.W.fnOf x qual (defArgs st) (defBody st) (defScope st) .none kV doc pm an cdv ct), osl⟩)
  (c : PySem.W.codeIn K cdv qual = true) (k : PySem.W.keepIn K (.ref f) = true) : Fun K x qual st f (PySem.W.fnOf x qual (defArgs st) (defBody st) (defScope st) .none kV doc pm an cdv ct) := ⟨⟨oc, od, kV, doc, pm, an, cdv, ct, osl, rfl, l, c⟩, k⟩
end
theorem hu_of {A : Around} {k : Nat} (hr : Room k A) : A.units + 1 < cLine := Nat.lt_of_le_of_lt (Nat.add_le_add_left (by decide : 1 <= 64) _) hr.units
section
variable {X : Cx}
theorem pv (i : Nat) {x : Str} {pos : Pos} (hN : X.N[i]? = some x := by rfl) (hv : Vis X.env.scope x := by first | exact Or.inl rfl | exact Or.inr (Or.inl rfl) | exact Or.inr (Or.inr rfl)) (hd : (x == ("__debug__" : Str)) = false := by decide)
  (hcd : (x == ("__classdict__" : Str)) = false := by decide) : PE X (.Name x pos) (tVar i) := pe_var hN hv hd hcd
end
theorem iteF {A B : Prop} (h : B) : if false = true then A else B := by
 rw [if_neg Bool.false_ne_true]
 exact h
theorem iteT {A B : Prop} (h : A) : if true = true then A else B := by
 rw [if_pos rfl]
 exact h
def Same (H H' : Hp) : Prop := ∀ b o, H b = some o -> H' b = some o
theorem Same.refl (H : Hp) : Same H H := fun _ _ h => h
theorem Same.trans {H H1 H2 : Hp} (a : Same H H1) (b : Same H1 H2) : Same H H2 := fun c o h => b c o (a c o h)
theorem Same.free {H H' : Hp} (e : Same H H') {l : Addr} (h : H' l = Option.none) : H l = Option.none := by
 cases q : H l with
 | none => rfl
 | some o =>
  rw [e l o q] at h
  cases h
theorem Same.seq {K : PySem.W.Frag} {H H' : Hp} {a : Addr} {xs : List V} (e : Same H H') (h : SqL K H a xs) : SqL K H' a xs := by
 rcases h with (h | ⟨o, h⟩) | h
 ·exact .inl (.inl (e _ _ h))
 ·exact .inl (.inr ⟨o, e _ _ h⟩)
 ·exact .inr h
end L2
set_option maxHeartbeats 4000000
namespace PySem.W.Fast
def tw13646167126607185852:=0
def tw8400416013897434086:=0
def tw11052817626943531180:=0
def tw1382724192728614389:=0
def tw2659102762882919763:=0
def tw11096951659169692980:=0
def tw6017153567026157775:=0
def tw17778797157499067339:=0
def tw15749980849519600977:=0
def tw16322003970159884696:=0
def tw11385712102079683370:=0
def tw14577635942795100589:=0
def tw5363704811682950002:=0
def tw4564374108720623144:=0
def tw3733097463143936525:=0
def tw8078234396719299624:=0
def tw15583290623158736331:=0
def tw12745044070196341888:=0
def tw10372157495299680947:=0
def tw17207977417385920763:=0
def tw14541813772473925847:=0
def tw12134212405527315134:=0
def tw14417743824027436943:=0
def tw80499947095223074:=0
def tw17200313355980430995:=0
def tw17975432912597476848:=0
def tw12329163366155083922:=0
def tw10194107232964633956:=0
def tw14518171925901163268:=0
def tw14341341627075127558:=0
def tw13956191410125189711:=0
def tw13757887759637199463:=0
def tw8897524903349050987:=0
def tw635646206091943604:=0
def tw4167047880859700893:=0
def tw17025895785952397503:=0
def tw9658004902015197483:=0
def tw3132160368114100358:=0
def tw11062288366870231267:=0
def tw8917449916614865975:=0
def tw9045035287814346013:=0
def tw5857813231359226625:=0
def tw11810499289564194276:=0
def tw7304663282548027919:=0
def tw13383904579748758881:=0
def tw6838675275368295606:=0
def tw6587942833944082777:=0
def tw4281912927063367806:=0
def tw18429134407434065453:=0
def tw16875477730968844936:=0
def tw6107658305889971574:=0
def tw8467269986915056943:=0
def tw9622819341670701554:=0
def tw17532673944945192902:=0
def tw12925901902287992587:=0
def tw16862778588710581109:=0
def tw16134373381833059987:=0
def tw8681796989035492403:=0
def tw6422217686681288497:=0
def tw9994346339213032260:=0
def tw11969534827493751511:=0
def tw11359187739281131583:=0
def tw4724135183818413055:=0
def tw3353633805913692021:=0
def tw10645192907319691231:=0
def tw11712902741462537073:=0
def tw109664514295095961:=0
def tw2228028853896640225:=0
def tw14334293291280610966:=0
def tw10008345420931698180:=0
def tw15356159091993540916:=0
def tw2498769102036942840:=0
def tw10637284493720723165:=0
def tw4820304278725775534:=0
def tw15334754124203258313:=0
def tw9652562444674850043:=0
def tw15462544473276684824:=0
def tw6048184145702224499:=0
def tw9979674412461034062:=0
def tw17674797635832387774:=0
def tw7102791221008164603:=0
def tw2886935261864451832:=0
def tw6488734259399803182:=0
def tw8448315119142353612:=0
def tw18241921607434486072:=0
def tw3861173455401985266:=0
def tw6436504219011258495:=0
def tw6633764252718884794:=0
def tw7347883900548806868:=0
def tw15315054442419283680:=0
def tw10646578366370967046:=0
def tw941376535795155234:=0
def tw13633907653967086808:=0
def tw10477730222789310260:=0
def tw14673565147148013960:=0
def tw3137979394997167718:=0
def tw11067185969772398861:=0
def tw3263165326398900477:=0
def tw11351029967039800593:=0
def tw12805548739569742519:=0
def tw14334298696652877431:=0
def tw896565804011401970:=0
def tw6608690703044158439:=0
def tw9605337562317861820:=0
def tw6744993145560617532:=0
def tw4091361650328754767:=0
def tw5651573457774630281:=0
def tw15003735075378183755:=0
def tw11660173669804138553:=0
def tw4685398969486508801:=0
def tw8045633108882653377:=0
def tw8082235008335255633:=0
def tw17371954084080974052:=0
def tw16836802913858748851:=0
def tw4566735652238881307:=0
def tw8041320274694598330:=0
def tw17367760998362744123:=0
def tw7839318557861851956:=0
def tw15185986329062235379:=0
def tw17129781168619097057:=0
def tw2576733471879785367:=0
def tw2128220032278582947:=0
def tw10956203565693700333:=0
def tw2326534287428248555:=0
def tw10724649680073447478:=0
def tw3431861902400340903:=0
def tw17911145958239383515:=0
def tw8488442352685889554:=0
def tw13230479818310160628:=0
def tw2345095627491592835:=0
def tw1529098996334511676:=0
def tw5569208975791635499:=0
def tw16245564608475886133:=0
def tw16370270880508704230:=0
def tw2605192099380103234:=0
def tw18052872155544177939:=0
def tw8395657437818009080:=0
def tw15800013696975214828:=0
def tw4519122800500582520:=0
def tw9672702277604235829:=0
def tw3194410261501744281:=0
def tw12015500762782785932:=0
def tw12576398058750890533:=0
def tw7374124526183976194:=0
def tw5023926459616902112:=0
def tw8110965965890279111:=0
def tw718637567030925444:=0
def tw7853650651414876315:=0
def tw6663247898217691021:=0
def tw3770851796419263297:=0
def tw2796124322016829043:=0
def tw8491698067677703944:=0
def tw3408772235405063806:=0
def tw17589215432367928533:=0
def tw16166219998677677606:=0
def tw9553105130794878513:=0
def tw15520138213616516141:=0
def tw3618920475643867724:=0
def tw11255379605508757381:=0
def tw16797027569808111496:=0
def tw14883426712547442238:=0
def tw2186057993509851645:=0
def tw11085531654051270159:=0
def tw15076569971971347873:=0
def tw1832004410528982829:=0
def tw9286679240652760094:=0
def tw8245835982121985943:=0
def tw9764969724708752301:=0
def tw15281002124833088832:=0
def tw703490305369367108:=0
def tw14675573239259664568:=0
def tw7782420149798179221:=0
def tw14959436985028137807:=0
def tw13700919765529339447:=0
def tw14676354171654606959:=0
def tw14103418342437220759:=0
def tw529149575434696814:=0
def tw5661334919472462107:=0
def tw12223907933736593350:=0
def tw17474908032772313904:=0
def tw2149629689170700355:=0
def tw7172749548917432209:=0
def tw1024709064411211511:=0
def tw3311866828369653233:=0
def tw14870210587331030213:=0
def tw146842270294288843:=0
def tw6519435545256022886:=0
def tw377115569463236635:=0
def tw10213374094588534722:=0
def tw9821552539065585818:=0
def tw15565427623093289071:=0
def tw17442447763756803290:=0
def tw4603112410292261444:=0
def tw17014014515702804339:=0
def tw9616301934164738192:=0
def tw9834344562142132428:=0
def tw3069087607328679277:=0
def tw12261534237682262737:=0
def tw12951228303312526807:=0
def tw729152460194405395:=0
def tw3909863540922005059:=0
def tw7694344774429203712:=0
def tw5256103652687664311:=0
def tw11973323059087828024:=0
def tw16231287782603534664:=0
def tw35090111945075814:=0
def tw5415836481686069240:=0
def tw16009157916927915041:=0
def tw12905568044532052046:=0
def tw144199314302241002:=0
def tw10485114834680794944:=0
def tw13805008691184417461:=0
def tw6418756199313035371:=0
def tw9965125584572437192:=0
def tw8716593397159249729:=0
def tw11420896600483020554:=0
def tw1424329545729827247:=0
def tw16457051329329785457:=0
def tw8024267958045418996:=0
def tw5405100868122538327:=0
def tw4711687439636740105:=0
def tw11450005354040440675:=0
def tw1032278699121292609:=0
def tw3573777197825442451:=0
def tw16115577563215220734:=0
def tw9312972801904743890:=0
def tw17713104648161268842:=0
def tw13655494449461600809:=0
def tw11346775129372858606:=0
def tw15899629115321633756:=0
def tw8463152933510630557:=0
def tw8395600017174696466:=0
def tw6905916789884466000:=0
def tw17889060376263750118:=0
def tw14215543098765367369:=0
def tw674683054337122501:=0
def tw7505047186826303136:=0
def tw9950114633453454837:=0
def tw10339877109918969578:=0
def tw3816695360686239749:=0
def tw723614723510117996:=0
def tw16924298163143827689:=0
def tw2484211736836355885:=0
def tw8797135686617947618:=0
def tw2953775888841642099:=0
def tw8012394902892949655:=0
def tw18182158694800327848:=0
def tw8855586217743387209:=0
def tw11254817459678258590:=0
def tw13544870565621196738:=0
def tw9217891783347750726:=0
def tw4793553114538758963:=0
def tw9010250064727697702:=0
def tw15104253451064129068:=0
def tw6746102792862982237:=0
def tw10294203770994823489:=0
def tw17357845283799531545:=0
def tw8796347968348016502:=0
def tw3232169389149387375:=0
def tw10361885775729552740:=0
def tw11529522703549625916:=0
def tw2911047842984005461:=0
def tw436247371105497921:=0
def tw1683035012720075933:=0
def tw6515832198050594582:=0
def tw11645034800506887888:=0
def tw7465284086010676108:=0
def tw11441382724169663688:=0
def tw8185067403294704138:=0
def tw4716654700129802223:=0
def tw14177263215908970909:=0
def tw17289706047247759221:=0
def tw4567731015404919160:=0
def tw1121808498313303660:=0
def tw9390978456099821576:=0
def tw5169484695355389535:=0
def tw12626887996708467773:=0
def tw14684798580687231873:=0
def tw4998445460989759950:=0
def tw6453906749128436691:=0
def tw2105179853606927597:=0
def tw13817586728225662439:=0
def tw8588672963558649179:=0
def tw5777132183041059057:=0
def tw6887356999014858425:=0
def tw18005135915353512151:=0
def tw4206549515302895623:=0
def tw8875860764305270370:=0
def tw1111679338187677511:=0
def tw2376926479259564528:=0
def tw10617634895211966959:=0
def tw12116820154447147451:=0
def tw9377852536094469255:=0
def tw14772793208051707562:=0
def tw8184583173923900429:=0
def tw11586945842720446265:=0
def tw3378167516797702644:=0
def tw2390921165259012246:=0
def tw8785052337505394027:=0
def tw8693990197525112382:=0
def tw6879911170393116077:=0
def tw4404871435817489488:=0
def tw15857049666753801887:=0
def tw13692882782772650797:=0
def tw6188713922402493306:=0
def tw139790309909337543:=0
def tw16021823329652410809:=0
def tw16240828375031267673:=0
def tw4350641537741481710:=0
def tw9340437396429747504:=0
def tw4391082386736596216:=0
def tw11870763245472511407:=0
def tw6578460774508664870:=0
def tw9209045995252023633:=0
def tw17987946626376728924:=0
def tw8725961558582237226:=0
def tw11135051114604369804:=0
def tw697492623850880584:=0
def tw1453748299025550061:=0
def tw13925450149172188297:=0
def tw6900428645855639517:=0
def tw2103067831011637068:=0
def tw2771789848037705054:=0
def tw5924135024220099183:=0
def tw3107590908681203975:=0
def tw15785184707523560271:=0
def tw7227193706550977756:=0
def tw743034726336226003:=0
def tw3500252444670697688:=0
def tw14807301197813027964:=0
def tw3575415920078658251:=0
def tw10792507400485590926:=0
def tw3427875090632586583:=0
def tw16788864750991650972:=0
def tw11903157154914606621:=0
def tw723811458851013189:=0
def tw11455219852173960462:=0
def tw5441047054898668745:=0
def tw3924145262752762750:=0
def tw12587039721959851049:=0
def tw3809414649112585368:=0
def tw11772112273814286577:=0
def tw14310278800635776326:=0
def tw16576494921424650030:=0
def tw3980533710867430288:=0
def tw15438674341081298535:=0
def tw5802247988522312696:=0
def tw11306107736948225134:=0
def tw11292008632316034762:=0
def tw2055194863220942156:=0
def tw8047062289772244011:=0
def tw9029284104519632819:=0
def tw868621213535870241:=0
def tw5820771197038080473:=0
def tw13333385018888428806:=0
def tw11214528790238485574:=0
def tw17868319735159609381:=0
def tw17438812390388649463:=0
def tw7221194632320418129:=0
def tw14550093160355734003:=0
def tw14416630051992121423:=0
def tw15398134293118188747:=0
def tw16377256939779186549:=0
def tw2752628765483125537:=0
def tw17300604038554892812:=0
def tw1514360956224785386:=0
def tw14448832492164077429:=0
def tw16696451955772126081:=0
def tw17281229512606627798:=0
def tw13400834053493460836:=0
def tw2541486825763545287:=0
def tw15002353453346790046:=0
def tw3928017604576090178:=0
def tw284198978997687749:=0
def tw2104125313944196255:=0
def tw2170547761482604046:=0
def tw11639339131534349715:=0
def tw1630948829810461037:=0
def tw9738715909154150487:=0
def tw4514249193779859838:=0
def tw1132372187301652520:=0
def tw17540851913102195382:=0
def tw6535550441113548851:=0
def tw9978262304332722175:=0
def tw13650091581695100434:=0
def tw8468658108129266354:=0
def tw3170435470566056600:=0
def tw2577708737016097472:=0
def tw2683681315549444314:=0
def tw17901638715648112529:=0
def tw8351630521067455051:=0
def tw14247557402853701683:=0
def tw4172520328253565906:=0
def tw11300455986676162934:=0
def tw12604672283569591874:=0
def tw8861722231012025041:=0
def tw3149922172513661721:=0
def tw17056969196760608058:=0
def tw877225611109487724:=0
def tw9622776099240667098:=0
def tw10519328560220242584:=0
def tw2809881149923281876:=0
def tw11613644925435238729:=0
def tw10858738036400919734:=0
def tw11795431490604229779:=0
def tw17388154419500378828:=0
def tw6266330389897551880:=0
def tw10533561616508122209:=0
def tw11045740704257127447:=0
def tw8993294148445779216:=0
def tw10451926233621067914:=0
def tw11052333642751916299:=0
def tw7061201756792703272:=0
def tw10676517537207650082:=0
def tw10606703326742475033:=0
def tw18291711125989184756:=0
def tw2550745116129220548:=0
def tw7188045752069962765:=0
def tw4467819351523593739:=0
def tw7650971702226030847:=0
def tw6072174457566802288:=0
def tw11157248232725991397:=0
def tw15417452116475670347:=0
def tw9758212754412953630:=0
def tw9518971009545506251:=0
def tw566892565377993613:=0
def tw9732165052987391962:=0
def tw11189966854528254767:=0
def tw16173913798272769766:=0
def tw17911597791383953339:=0
def tw1370490249132591632:=0
def tw17496904580119723484:=0
def tw4389223827464326648:=0
def tw9487392183039962029:=0
def tw5770970924934880725:=0
def tw18300382908809873460:=0
def tw14734808556976706595:=0
def tw6800620424993489491:=0
def tw15465617003742470968:=0
def tw16351314995101584582:=0
def tw5956375330610752837:=0
def tw18319968672034537043:=0
def tw17428296635030371975:=0
def tw15297063726824411130:=0
def tw8202816435303513154:=0
def tw16984959204321246775:=0
def tw17163323508709517675:=0
def tw464646172317582773:=0
def tw5315903929722176333:=0
def tw586911422436165804:=0
def tw15909153494414970942:=0
def tw16949984539963910554:=0
def tw9369875725405513595:=0
def tw589508982924448245:=0
def tw7954780376288860615:=0
def tw11056510465971212483:=0
def tw2927193710285599992:=0
def tw2075497632250297346:=0
def tw2417761777415662051:=0
def tw4639603331532777664:=0
def tw16299885453754628575:=0
def tw2160864534951777220:=0
def tw1301348200643143553:=0
def tw8855419703661318711:=0
def tw5223399815071790873:=0
def tw908630026309628042:=0
def tw4343000866939843821:=0
def tw13576351656666988481:=0
def tw4487895640354530591:=0
def tw16703204677788693367:=0
def tw13076699923994229690:=0
def tw15080375425148114735:=0
def tw7460185123407794235:=0
def tw54009236507138050:=0
def tw12834228452373302859:=0
def tw12799326459730179477:=0
def tw6769064285027933980:=0
def tw15817146497791155228:=0
def tw16931582444746906584:=0
def tw17921432676005157548:=0
def tw13987473359572729000:=0
def tw16493144637763108601:=0
def tw12616243670221244780:=0
def tw13855644228086101441:=0
def tw15036024907782544376:=0
def tw9108603117465165782:=0
def tw12071975713433834860:=0
def tw9875904609918354734:=0
def tw13072656410987239136:=0
def tw11907736225135431572:=0
def tw11106273817708737095:=0
def tw8798720138958744178:=0
def tw2917279803025980187:=0
def tw12248192158946459824:=0
def tw6183431549609872271:=0
def tw13578506324506171981:=0
def tw8421506614870318686:=0
def tw16140641600523455296:=0
def tw14103465733761484038:=0
def tw15588655188635574113:=0
def tw17530844372671116498:=0
def tw15804617870285721393:=0
def tw8445523265836887590:=0
def tw18339314972422074228:=0
def tw2784446881202615927:=0
def tw211388956804753376:=0
def tw17949306216672992749:=0
def tw13177235086676434316:=0
def tw13940066716346805553:=0
def tw8566659983615548190:=0
def tw16260574323350765993:=0
def tw10663642667332822792:=0
def tw1714762911256345534:=0
def tw13863809865390081555:=0
def tw12401802282064014495:=0
def tw11071119163743947938:=0
def tw10467152631183533888:=0
def tw14742468102063912612:=0
def tw4086476126780813985:=0
def tw15169895482720468723:=0
def tw10451595174226806316:=0
def tw12375601798028229697:=0
def tw9963515433220876807:=0
def tw6253203744054071630:=0
def tw204606068837517765:=0
def tw602071510110173328:=0
def tw12380117946770381159:=0
def tw17732187794396619527:=0
def tw9279408023939269449:=0
def tw9768280685457879280:=0
def tw6913171816659051530:=0
def tw15073434748134745137:=0
def tw13971916336179112463:=0
def tw6986907657754677754:=0
def tw11092283599882892401:=0
def tw8364755570384960193:=0
def tw1698651935626104032:=0
def tw18020625517757150145:=0
def tw15386532001995001483:=0
def tw2872606134417435662:=0
def tw10589865790737334111:=0
def tw7932936001695927365:=0
def tw9526300594122844762:=0
def tw17739634396801809486:=0
def tw16280636384678400029:=0
def tw9618832964299811262:=0
def tw6658136016692925258:=0
def tw7614786275589794352:=0
def tw6195148612671032632:=0
def tw16484900497737300751:=0
def tw4128571061093399443:=0
def tw9918614447289827265:=0
end PySem.W.Fast
namespace L2
open PySem PySem.Spec PyProof.Rows
structure CompOk (sc csc : Scope) (N : List Str) (x : Str) (caps : List (Str × Nat)) : Prop where
 cell : ∀ p ∈ csc.names, p.2 ≠ .cell
 kind : csc.kind = .function
 loc : ∀ p ∈ csc.names, p.2 = .local -> csc.names.lookup p.1 = some .local
 tg : csc.names.lookup x = some .local
 free : ∀ p ∈ csc.names, p.2 = .free -> sc.names.lookup p.1 = some .cell
 cap : ∀ p ∈ caps, N[p.2]? = some p.1 /\ csc.names.lookup p.1 = some .free
 nd : (caps.map (·.1) ++ [x]).Nodup
def clFold (env : Env) : List (Str × NameKind) -> List (Str × Addr) -> List (Str × Addr)
 | [], cs => cs
 | (n, k) :: r, cs => clFold env r (if k == .free then (n, (env.cells.lookup n).getD 0) :: cs else cs)
theorem closureFor_eq {env : Env} {sc : Scope} (h : ∀ p ∈ sc.names, p.2 = .free -> ∃ c, env.cells.lookup p.1 = some c) : closureFor sc env = pure (clFold env sc.names []) := by
 obtain ⟨kind, names, g, c⟩ := sc
 simp only [closureFor]
 have aux : ∀ (l : List (Str × NameKind)) (cs : List (Str × Addr)), (∀ p ∈ l, p.2 = .free -> ∃ c, env.cells.lookup p.1 = some c) ->
   (forIn l cs (fun (x : Str × NameKind) (r : List (Str × Addr)) => if (x.2 == NameKind.free) = true then (do let a ← cellOf env x.1; pure (ForInStep.yield ((x.1, a) :: r))) else pure (ForInStep.yield r)) : Sem (List (Str × Addr))) = pure (clFold env l cs) := by
  intro l
  induction l with
  | nil => intro cs _; rfl
  | cons p r ih =>
   intro cs hp
   obtain ⟨n, k⟩ := p
   rw [List.forIn_cons]
   have ih' := fun cs => ih cs (fun q hq => hp q (List.mem_cons_of_mem _ hq))
   by_cases hk : (k == NameKind.free) = true
   ·obtain ⟨c, e⟩ := hp (n, k) List.mem_cons_self (by simpa using hk)
    simp only [hk, if_true, cellOf, e, clFold, pure_bind, Option.getD_some]
    exact ih' _
   ·have hk' : (k == NameKind.free) = false := by simpa using hk
    simp only [hk', if_false, clFold, pure_bind, Bool.false_eq_true]
    exact ih' _
 have := aux names [] h
 first
  | (rw [this]; rfl)
  | (simp only [bind_pure]; exact this)
  | (refine Eq.trans (bind_pure _) this)
theorem clFold_in {env : Env} : ∀ (l : List (Str × NameKind)) (cs : List (Str × Addr)), (∀ p ∈ l, p.2 = .free -> ∃ c, env.cells.lookup p.1 = some c) -> (∀ y c, cs.lookup y = some c -> env.cells.lookup y = some c) ->
  ∀ y c, (clFold env l cs).lookup y = some c -> env.cells.lookup y = some c
 | [], _, _, h2 => h2
 | (n, k) :: r, cs, h1, h2 => by
  unfold clFold
  refine clFold_in r _ (fun q hq => h1 q (List.mem_cons_of_mem _ hq)) ?_
  by_cases hk : (k == NameKind.free) = true
  ·obtain ⟨c, e⟩ := h1 (n, k) List.mem_cons_self (by simpa using hk)
   rw [if_pos hk]
   intro y c' h
   rw [e] at h
   rw [List.lookup_cons] at h
   cases hy : y == n with
   | true => rw [hy] at h; simp at h; rw [eq_of_beq hy, ← h]; exact e
   | false => rw [hy] at h; exact h2 y c' h
  ·rw [if_neg hk]; exact h2
theorem clFold_has {env : Env} : ∀ (l : List (Str × NameKind)) (cs : List (Str × Addr)) (y : Str), ((y, NameKind.free) ∈ l ∨ ∃ c, cs.lookup y = some c) -> ∃ c, (clFold env l cs).lookup y = some c
 | [], _, _, h => by
  rcases h with h | h
  ·cases h
  ·exact h
 | (n, k) :: r, cs, y, h => by
  unfold clFold
  refine clFold_has r _ y ?_
  by_cases hk : (k == NameKind.free) = true
  ·rw [if_pos hk]
   by_cases hy : (y == n) = true
   ·exact .inr ⟨_, by rw [List.lookup_cons, hy]⟩
   ·have hy' : (y == n) = false := by simpa using hy
    rcases h with h | ⟨c, h⟩
    ·rcases List.mem_cons.mp h with z | z
     ·cases z; simp at hy
     ·exact .inl z
    ·exact .inr ⟨c, by rw [List.lookup_cons, hy']; exact h⟩
  ·rw [if_neg hk]
   rcases h with h | h
   ·rcases List.mem_cons.mp h with z | z
    ·cases z; simp at hk
    ·exact .inl z
   ·exact .inr h
abbrev compCx (X : Cx) (N' : List Str) (csc : Scope) (C : Addr) (s2 : Shared) (H2 : Hp) (fp : List Addr) : Cx :=
 { X with N := N', s₀ := s2, H₀ := H2, env := compEnvC csc (clFold X.env csc.names []) C X.env, outer := X.stack, ex := fp, fn := fun _ => false, pn := [], xe := fun _ _ => False }
def capV (caps : List (Str × Nat)) (Z : St) : St := caps.map fun p => (Z[p.2]?).join
def CompW (J : It) (caps : List (Str × Nat)) (te : TE) (Z : St) (H1 : Hp) (Q : VK) : Prop := ∃ W : Nat -> Nat -> List V -> Hp -> Prop, (∃ m, W 0 m [] H1) /\ ∀ i m ys H, W i m ys H ->
 (J.stop i H /\ ∀ D, H D = none -> Q (.ref D) (upd H D (.lst ys))) ∨ (J.go i H /\ ys.length < sizeLine /\ ∀ x H', J.yld i H x H' -> te (capV caps Z ++ [some x]) H' fun y H2 => ∃ m', m' < m /\ W (i + 1) m' (ys ++ [y]) H2)
def tComp (caps : List (Str × Nat)) (wi : TI) (te : TE) : TE := fun Z H Q => wi Z H fun J H1 => CompW J caps te Z H1 Q
theorem lookup_relabel {env : Env} (hk : env.scope.kind = .function) : ∀ {names : List (Str × NameKind)} {x : Str}, (∀ p ∈ names, p.2 = .free -> env.kindOf p.1 = some .cell) -> names.lookup x = some .free ->
  (names.map fun (n, k) => if (k == NameKind.free && env.scope.kind == .function && env.kindOf n == some .cell) then (n, NameKind.cell) else (n, k)).lookup x = some .cell
 | [], _, _, h => by simp at h
 | (n, k) :: r, x, hf, h => by
  have ih := @lookup_relabel env hk r x (fun p hp => hf p (List.mem_cons_of_mem _ hp))
  show List.lookup x ((if (k == NameKind.free && env.scope.kind == .function && env.kindOf n == some .cell) = true then (n, NameKind.cell) else (n, k)) :: _) = _
  cases hx : x == n with
  | true =>
   simp only [List.lookup_cons, hx] at h
   cases h
   have := hf (n, .free) List.mem_cons_self rfl
   have hk' : (env.scope.kind == ScopeKind.function) = true := by rw [hk]; rfl
   simp [List.lookup_cons, hx, this, hk']
  | false =>
   simp only [List.lookup_cons, hx] at h
   by_cases hc : (k == NameKind.free && env.scope.kind == .function && env.kindOf n == some .cell) = true
   ·rw [if_pos hc]; simp only [List.lookup_cons, hx]; exact ih h
   ·rw [if_neg hc]; simp only [List.lookup_cons, hx]; exact ih h
theorem lookup_relabel_inv {env : Env} : ∀ {names : List (Str × NameKind)} {x : Str} {k' : NameKind},
  (names.map fun (n, k) => if (k == NameKind.free && env.scope.kind == .function && env.kindOf n == some .cell) then (n, NameKind.cell) else (n, k)).lookup x = some k' -> (k' = .cell ∨ k' = .free) -> (∀ p ∈ names, p.2 ≠ .cell) -> (x, NameKind.free) ∈ names
 | [], _, _, h, _, _ => by simp at h
 | (n, k) :: r, x, k', h, hk, hn => by
  have ih := @lookup_relabel_inv env r x k'
  have h : List.lookup x ((if (k == NameKind.free && env.scope.kind == .function && env.kindOf n == some .cell) = true then (n, NameKind.cell) else (n, k)) :: (r.map fun (n, k) => if (k == NameKind.free && env.scope.kind == .function && env.kindOf n == some .cell) then (n, NameKind.cell) else (n, k))) = some k' := h
  cases hx : x == n with
  | true =>
   have e : x = n := eq_of_beq hx
   subst e
   by_cases hc : (k == NameKind.free && env.scope.kind == .function && env.kindOf x == some .cell) = true
   ·have : k = .free := by
     simp only [Bool.and_eq_true] at hc
     simpa using hc.1.1
    subst this
    exact List.mem_cons_self
   ·rw [if_neg hc] at h
    simp only [List.lookup_cons, hx] at h
    cases h
    rcases hk with z | z
    ·exact absurd z (hn _ List.mem_cons_self)
    ·subst z; exact List.mem_cons_self
  | false =>
   refine List.mem_cons_of_mem _ (ih ?_ hk fun p hp => hn p (List.mem_cons_of_mem _ hp))
   by_cases hc : (k == NameKind.free && env.scope.kind == .function && env.kindOf n == some .cell) = true
   ·rw [if_pos hc] at h; simp only [List.lookup_cons, hx] at h; exact h
   ·rw [if_neg hc] at h; simp only [List.lookup_cons, hx] at h; exact h
section
variable {X : Cx} {pins : List (Addr × Obj)} {Z : St} {H : Hp} {s : Shared}
theorem capV_len (caps : List (Str × Nat)) (Z : St) : (capV caps Z).length = caps.length := by simp [capV]
theorem comp_start {csc : Scope} {x : Str} {caps : List (Str × Nat)} {fp : List Addr} {h4 : Heap} {t4 : Nat} {C : Addr} {m0 : Str -> Option Value} (I : Inv X pins Z H s) (ck : CompOk X.env.scope csc X.N x caps) (hf : ∀ b ∈ fp, FpOk X pins H b)
  (hfs : ∀ b ∈ fp, b < s.heap.objs.size) (hC : s.heap.objs.size <= C) (hk : ∀ b o, s.heap.get? b = some o -> h4.get? b = some o) (hn : h4.Ns C m0) :
  Inv (compCx X (caps.map (·.1) ++ [x]) csc C s H fp) [] (capV caps Z ++ [none]) H { s with heap := h4, toks := t4 } := by
 have cellsOk : ∀ p ∈ csc.names, p.2 = .free -> ∃ c, X.env.cells.lookup p.1 = some c := fun p hp e => I.ok.has p.1 (.inl (ck.free p hp e))
 have inX : ∀ y c, (clFold X.env csc.names []).lookup y = some c -> X.env.cells.lookup y = some c := clFold_in _ _ cellsOk (fun y c h => by simp at h)
 have kf : ∀ p ∈ csc.names, p.2 = .free -> X.env.kindOf p.1 = some .cell := ck.free
 refine ⟨⟨I.ok.mod, ck.kind, I.ok.glob, I.ok.blt, hC, fun y z c h1 h2 => I.ok.inj y z c (inX y c h1) (inX z c h2), fun y hy => ?_, fun y c h => (nomatch h), I.ok.hd, I.ok.frames, .inl rfl, fun b hb => ⟨?_, fun y c h => ?_⟩, ?_, ?_, ?_, ?_, I.stack, I.stkFree⟩, rfl, I.bare, Un.kept hk, ⟨m0, hn, fun i y v h1 h2 h3 => ?_⟩, fun y c h => ?_, I.hok.fresh hC, fun y c h => I.freeC y c (inX y c h), fun p hp => absurd hp (by simp), I.hok.kept hk, ?_⟩
 ·have hy' : (csc.names.map fun (n, k) => if (k == NameKind.free && X.env.scope.kind == .function && X.env.kindOf n == some .cell) then (n, NameKind.cell) else (n, k)).lookup y = some .cell ∨ (csc.names.map fun (n, k) => if (k == NameKind.free && X.env.scope.kind == .function && X.env.kindOf n == some .cell) then (n, NameKind.cell) else (n, k)).lookup y = some .free := hy
  refine clFold_has _ _ y (.inl ?_)
  rcases hy' with z | z
  ·exact lookup_relabel_inv z (.inl rfl) ck.cell
  ·exact lookup_relabel_inv z (.inr rfl) ck.cell
 ·exact Nat.ne_of_lt (Nat.lt_of_lt_of_le (hfs b hb) hC)
 ·exact (hf b hb).2.2.2.2.1 y c (inX y c h)
 ·exact fun b o e => I.bs b o e
 ·exact Nat.le_trans I.ok.bsz I.sz
 ·intro b o e hb
  rcases (hf b hb).2.2.2.1 with z | z
  ·exact I.ok.noex b o e z
  ·exact absurd (Nat.lt_of_lt_of_le (Heap.lt_size (I.ok.bs b o e).1) z) (Nat.lt_irrefl _)
 ·intro b hb z
  rcases List.mem_cons.mp (I.stkSub b z) with e | e
  ·exact (hf b hb).2.1 e
  ·exact (hf b hb).2.2.1 e
 ·have hi : i < caps.length := by
   by_cases hi : i < caps.length
   ·exact hi
   ·rw [List.getElem?_append_right (by rw [capV_len]; omega), capV_len] at h2
    cases q : i - caps.length with
    | zero => rw [q] at h2; simp at h2
    | succ k => rw [q] at h2; simp at h2
  rw [List.getElem?_append_left (by rw [List.length_map]; exact hi), List.getElem?_map] at h1
  rw [List.getElem?_append_left (by rw [capV_len]; exact hi)] at h2
  unfold capV at h2
  rw [List.getElem?_map] at h2
  cases e : caps[i]? with
  | none => rw [e] at h1; cases h1
  | some p =>
   rw [e] at h1 h2
   simp only [Option.map_some, Option.some.injEq] at h1 h2
   subst h1
   obtain ⟨hN, hfr⟩ := ck.cap p (List.mem_of_getElem? e)
   have h2' : Z[p.2]? = some (some v) := by
    cases q : Z[p.2]? with
    | none => rw [q] at h2; cases h2
    | some w => rw [q] at h2; simp at h2; rw [h2]
   have hcX : X.env.scope.names.lookup p.1 = some .cell := ck.free (p.1, .free) (PySem.mem_of_lookup hfr) rfl
   obtain ⟨m, _, hl⟩ := I.loc
   obtain ⟨u, r, l⟩ := hl p.2 p.1 v hN h2' (.inr (.inl hcX))
   refine ⟨u, r, ?_⟩
   rcases l with ⟨k, _⟩ | ⟨_, c, hc, z⟩
   ·have k' : X.env.scope.names.lookup p.1 = some .local := k
    rw [hcX] at k'; cases k'
   ·obtain ⟨c', hc'⟩ := clFold_has (env := X.env) csc.names [] p.1 (.inl (PySem.mem_of_lookup hfr))
    have : c' = c := by
     have := inX p.1 c' hc'
     rw [hc] at this
     exact (Option.some.inj this).symm
    subst this
    refine .inr ⟨.inl (lookup_relabel I.ok.kind kf hfr), c', hc', ?_⟩
    obtain ⟨o, ho, hd⟩ := z
    exact ⟨o, hk _ _ ho, hd⟩
 ·obtain ⟨v, o, ho, hd⟩ := I.cell y c (inX y c h)
  exact ⟨v, o, hk _ _ ho, hd⟩
 ·rw [List.length_append, capV_len, List.length_append, List.length_map]; rfl
end
end L2
namespace L2
open PySem PySem.Spec PyProof.Rows
theorem compLoop_go {prog : Program} {w : World} {A : Around} {R : Result -> Shared -> Prop} {s : Shared} {elt target iter : Expr} {scope : Scope} {pos : Pos} {it acc : Value} {env : Env} (J : Nat -> Shared -> Prop)
  (turn : ∀ n s, J n s -> wpAny (model prog w) A (pyNext it) (fun r s₁ => match r with
   | none => R (.ok .next) s₁
   | some v => wpAny (model prog w) A (letOwnedTupleGo target it v) (fun _ s₁ => wpAny (model prog w) A (assign target env v) (fun _ s₂ => wpAny (model prog w) A (eval elt env) (fun x s₃ =>
     wpAny (model prog w) A (call (.builtin "list.append") [acc, x]) (fun _ s₄ => ∃ m, m < n /\ J m s₄) (fun _ _ => False) s₃)
     (fun _ _ => False) s₂) (fun _ _ => False) s₁) (fun _ _ => False) s₁) (fun _ _ => False) s)
  (n : Nat) (h : J n s) :
  codeAny (model prog w) A (.compLoop (.ListComp elt [⟨target, iter, [], 0⟩] scope pos) 0 it acc env) R s := by
 refine codeAny_loop rfl J (fun n s hI => ?_) n h
 show wpAny _ _ ((compTurn (.ListComp elt [⟨target, iter, [], 0⟩] scope pos) 0 it acc env).onRaise (fun x => do noteFrame x env; theTreesLotGoes x)) _ _ s
 refine wpAny_noted ?_
 rw [compTurn_list1]
 refine wpAny_bind (wpAny_standAt (wpAny_bind (wpAny_mono (turn n s hI) (fun r s₁ h₁ => ?_) fun _ _ h' => h'.elim)))
 cases r with
 | none => exact wpAny_pure h₁
 | some v =>
  refine wpAny_bind (wpAny_mono h₁ (fun _ s₁' h₁ => ?_) fun _ _ h' => h'.elim)
  exact wpAny_bind (wpAny_mono h₁ (fun _ s₂ h₂ => wpAny_bind (wpAny_bind (wpAny_mono h₂ (fun x s₃ h₃ => wpAny_bind (wpAny_mono h₃
   (fun _ s₄ h₄ => wpAny_pure (wpAny_pure ⟨rfl, h₄⟩)) fun _ _ h' => h'.elim)) fun _ _ h' => h'.elim))) fun _ _ h' => h'.elim)
theorem nlt {a b : Nat} (h : a < b) : a ≠ b := Nat.ne_of_lt h
theorem nlt1 {a b : Nat} (h : a < b) : a ≠ b + 1 := Nat.ne_of_lt (Nat.lt_succ_of_lt h)
theorem ns1 {a : Nat} : a ≠ a + 1 := Nat.ne_of_lt (Nat.lt_succ_self a)
section
variable {X : Cx}
theorem comp_done {csc : Scope} {N' : List Str} {fp : List Addr} {C D : Addr} {pins pl : List (Addr × Obj)} {Z Z' : St} {H H' : Hp} {s s' : Shared} {h' : Heap} {ys : List V} {its : List Value} {n : Nat} (I : Inv X pins Z H s)
  (J : Inv (compCx X N' csc C s H fp) pl Z' H' s') (hf : ∀ b ∈ fp, FpOk X pins H b) (hC : s.heap.objs.size <= C) (hD : s.heap.objs.size <= D) (hDC : D ≠ C) (hs : Heap.SameBut C s'.heap h') (hv : Vals ys its) (hz : ys.length <= sizeLine)
  (hd : s'.heap.get? D = some { cls := .type "list", data := .seq its.toArray n }) (hDn : H' D = none) : Inv X pins Z (upd H' D (.lst ys)) { s' with heap := h' } := by
 have ne : ∀ b o, s.heap.get? b = some o -> b ≠ C /\ b ≠ D := fun b o e => ⟨Nat.ne_of_lt (Nat.lt_of_lt_of_le (Heap.lt_size e) hC), Nat.ne_of_lt (Nat.lt_of_lt_of_le (Heap.lt_size e) hD)⟩
 have u : Un (frs X.stack) fp H H' s.heap s'.heap := J.base
 have nDt : ∀ b o, H' b = some o -> b ≠ D := fun b o e => ne_of_none e hDn
 refine I.call' (s' := { s' with heap := h' }) (ch := fp) J.os ?_ ?_ J.bare fun b hb => ⟨(hf b hb).2.2.2.1, (hf b hb).2.1, (hf b hb).2.2.2.2.1, (hf b hb).2.2.2.2.2⟩
 ·refine ⟨fun b o q n hb he => ?_, fun b o q n hb he => ?_, fun b o q n he => ?_, fun b o q he => ?_, fun b xs q => ?_, fun b o xs q => ?_, fun b ps q => ?_⟩
  ·exact (hs.2 b (ne b o q).1).trans (u.keep b o q n hb he)
  ·obtain ⟨sl, e⟩ := u.slot b o q n hb he
   exact ⟨sl, (hs.2 b (ne b o q).1).trans e⟩
  ·rw [upd_ne (ne b o q).2]; exact u.free b o q n he
  ·obtain ⟨o', e⟩ := u.there b o q he
   exact ⟨o', (hs.2 b (ne b o q).1).trans e⟩
  ·have := u.tups b xs q
   rw [upd_ne (nDt b _ this)]; exact this
  ·have := u.frzs b o xs q
   rw [upd_ne (nDt b _ this)]; exact this
  ·obtain ⟨more, this⟩ := u.tbls b ps q
   exact ⟨more, by rw [upd_ne (nDt b _ this)]; exact this⟩
 ·intro b o e
  by_cases hb : b = D
  ·subst hb
   rw [upd_same] at e; cases e
   exact ⟨hz, its, n, hv, (hs.2 b hDC).trans hd⟩
  ·rw [upd_ne hb] at e
   refine (J.hok b o e).stay (fun c v hc q => (hs.2 c ?_).trans q) (fun c q => by rw [upd_ne (nDt c _ q)]; exact q) fun c xs q => by rw [upd_ne (nDt c _ q)]; exact q
   have hfree : H' C = none := J.free
   rcases hc with z | z
   ·rw [z]; exact ne_of_none e hfree
   ·exact ne_of_none z hfree
theorem pe_comp {sc csc : Scope} {N : List Str} {elt iter : Expr} {x : Str} {px pos : Pos} {caps : List (Str × Nat)} {wi : TI} {te : TE} (ck : CompOk sc csc N x caps) (hi : PI X (.Name x px) iter wi)
  (he : ∀ C s2 H2 fp, PE (compCx X (caps.map (·.1) ++ [x]) csc C s2 H2 fp) elt te) (hc : X.calm = true := by rfl) (hsc : X.env.scope = sc := by rfl) (hXN : X.N = N := by rfl) (hs : ∀ x, foldedSetIterable iter X.env x = pure x := by intro _; rfl) :
  PE X (.ListComp elt [⟨.Name x px, iter, [], 0⟩] csc pos) (tComp caps wi te) := by
 subst hsc hXN
 intro pins s Z H Q I h
 rw [eval_ListComp]
 have cellsOk : ∀ p ∈ csc.names, p.2 = .free -> ∃ c, X.env.cells.lookup p.1 = some c := fun p hp e => I.ok.has p.1 (.inl (ck.free p hp e))
 refine wpAny_comprehension_free (use := none) rfl hs (closureFor_eq cellsOk) ck.kind ck.loc (thn (hi pins s Z H _ I h) fun v s1 h1 => thn h1 fun itv s2 h2 => ?_)
 obtain ⟨it, fp, tn, J, H2, e, I2, T, st2, f2, W, ⟨m0, w0⟩, turn⟩ := h2
 subst e
 refine wpAny_newObj_type (wpAny_newFunctionEnv ck.cell (by intro y hy; simp at hy) (fun h4 hns4 hsb4 => ?_) ck.kind)
 dsimp only at hns4 hsb4 ⊢
 generalize hD : s2.heap.objs.size = D at hns4 hsb4 ⊢
 generalize hH2 : s2.heap.push { cls := .type "list", dict := none, data := .seq ([] : List Value).toArray } = G at hns4 hsb4 ⊢
 have hGs : G.objs.size = D + 1 := by rw [← hH2, Heap.size_push, hD]
 rw [hGs] at hns4 hsb4 ⊢
 have lt2 : ∀ b o, s2.heap.get? b = some o -> b < D := fun b o e => hD ▸ Heap.lt_size e
 have old : ∀ b o, s2.heap.get? b = some o -> b ≠ D + 1 /\ b ≠ D := fun b o e => ⟨nlt1 (lt2 b o e), nlt (lt2 b o e)⟩
 have leD : s2.heap.objs.size <= D := Nat.le_of_eq hD
 have leD1 : s2.heap.objs.size <= D + 1 := Nat.le_succ_of_le leD
 have keep4 : ∀ b o, s2.heap.get? b = some o -> h4.get? b = some o := fun b o e => hsb4.extBut b o (old b o e).1 (Heap.get?_push_of_some _ (hH2 ▸ Heap.get?_push_of_some _ e))
 have hDo : h4.get? D = some { cls := .type "list", data := .seq ([] : List Value).toArray 0 } := by
  refine hsb4.extBut D _ ns1 (Heap.get?_push_of_some _ ?_)
  rw [← hH2, ← hD]
  exact Heap.get?_push_size _ rfl
 have fps : ∀ b ∈ fp, b < s2.heap.objs.size := fun b hb => by
  obtain ⟨o, e, _⟩ := T.obj _ _ st2 b hb
  exact Heap.lt_size e
 have I4 : ∀ t4, Inv (compCx X (caps.map (·.1) ++ [x]) csc (D + 1) s2 H2 fp) [] (capV caps Z ++ [none]) H2 { s2 with heap := h4, toks := t4 } := fun t4 => comp_start (m0 := fun x => [].reverse.lookup x) I2 ck f2 fps leD1 keep4 hns4
 have cellsLt : ∀ y c, (clFold X.env csc.names []).lookup y = some c -> c < D := fun y c e => by
  obtain ⟨v, o, ho, _⟩ := I2.cell y c (clFold_in _ _ cellsOk (fun y c h => by simp at h) y c e)
  exact lt2 c o ho
 have fsLt : ∀ b ∈ frs X.stack, b < D := fun b hb => by
  obtain ⟨_, o, ho, _⟩ := I2.stack.mem hb
  exact lt2 b o ho
 have fpC : ∀ {pl : List (Addr × Obj)} {H' : Hp}, (∀ p ∈ pl, p.1 = D) -> (∀ b ∈ fp, H' b = none) -> ∀ b ∈ fp, FpOk (compCx X (caps.map (·.1) ++ [x]) csc (D + 1) s2 H2 fp) pl H' b := fun {pl H'} hpl hn b hb => by
  have hb' : b < D := hD ▸ fps b hb
  refine ⟨hn b hb, nlt1 hb', ?_, .inl hb, fun y c e => ?_, fun p hp => ?_⟩
  ·intro z
   rcases List.mem_cons.mp (I2.stkSub b z) with e | e
   ·exact (f2 b hb).2.1 e
   ·exact (f2 b hb).2.2.1 e
  ·exact (f2 b hb).2.2.2.2.1 y c (clFold_in _ _ cellsOk (fun y c h => by simp at h) y c e)
  ·have : p.1 = D := hpl p (by simpa using hp)
   rw [this]; exact fun z => nlt hb' z.symm
 have loop : ∀ t4, codeAny (model X.prog X.w) X.A (.compLoop (.ListComp elt [⟨.Name x px, iter, [], 0⟩] csc pos) 0 (.ref it) (.ref D) (compEnvC csc (clFold X.env csc.names []) (D + 1) X.env))
   (compPost (model X.prog X.w) X.A X.xe none (EP X pins Z Q) (.ref D) (D + 1)) { s2 with heap := h4, toks := t4 } := by
  intro t4
  refine compLoop_go (fun n s' => ∃ (i : Nat) (ys : List V) (its : List Value) (k : Nat) (Z' : St) (H' : Hp), Inv (compCx X (caps.map (·.1) ++ [x]) csc (D + 1) s2 H2 fp) [(D, { cls := .type "list", data := .seq its.toArray k })] Z' H' s' /\ tn i s'.heap /\ (∀ b ∈ fp, H' b = none) /\ Vals ys its /\ ys.length <= sizeLine /\ W i n ys H' /\ (∃ z, Z' = capV caps Z ++ [z])) ?_ m0 ?_
  ·rintro n s3 ⟨i, ys, its, k, Z3, H3, I3, st3, fr3, hv, hz, w3, z3, rfl⟩
   have pl1 : ∀ p ∈ [((D, { cls := .type "list", data := .seq its.toArray k }) : Addr × Obj)], p.1 = D := fun p hp => by rw [List.mem_singleton.mp hp]
   rcases turn i n ys H3 w3 with ⟨stop, qn⟩ | ⟨go, hlt, step⟩
   ·refine wpAny_mono (T.done (compCx X (caps.map (·.1) ++ [x]) csc (D + 1) s2 H2 fp) rfl rfl rfl hc i _ s3 _ H3 (fun _ _ => False) I3 (fpC pl1 fr3) st3 stop) (fun r s4 ⟨hr, I4'⟩ => ?_) fun _ _ f => f.elim
    subst hr
    obtain ⟨m, hn, _⟩ := id I4'.loc
    have pD := I4'.pin (D, { cls := .type "list", data := .seq its.toArray k }) (by simp)
    refine ⟨m, hn, fun h' hs' => ⟨.ref D, _, comp_done I2 I4' f2 leD1 leD ns1 hs' hv hz pD.1 pD.2.1, rfl, qn D pD.2.1⟩⟩
   ·refine wpAny_mono (T.item (compCx X (caps.map (·.1) ++ [x]) csc (D + 1) s2 H2 fp) rfl rfl rfl hc i _ s3 _ H3 (fun _ _ => False) I3 (fpC pl1 fr3) st3 go) (fun r s4 ⟨u, hr, h4'⟩ => ?_) fun _ _ f => f.elim
    subst hr
    refine wpAny_mono h4' (fun _ s4 ⟨xv, H5, I5, r5, y5, st5, fr5⟩ => ?_) fun _ _ f => f.elim
    have I5' := I5.pinned (fpC pl1 fr5) (T.obj _ _ st5)
    have hiN : (caps.map (·.1) ++ [x])[caps.length]? = some x := by rw [List.getElem?_append_right (by simp)]; simp
    refine wpAny_mono (pg_name (X := compCx X (caps.map (·.1) ++ [x]) csc (D + 1) s2 H2 fp) (i := caps.length) ck.nd hiN (.inl (lookup_relabel_local ck.tg)) (.inr (lookup_relabel_local ck.tg)) _ s4 _ H5 xv u _ I5' r5 (show gName caps.length xv _ H5 (fun Z6 H6 => Z6 = capV caps Z ++ [some xv] /\ H6 = H5) from ⟨?_, rfl⟩)) (fun _ s6 ⟨Z6, H6, I6, hZ, hH⟩ => ?_) fun _ _ f => f.elim
    ·rw [List.set_append_right _ _ (by rw [capV_len]; exact Nat.le_refl _), capV_len, Nat.sub_self]; rfl
    subst hZ hH
    refine wpAny_mono (he (D + 1) s2 H2 fp _ s6 _ H6 _ I6 (step xv H6 y5)) (fun w7 s7 ⟨y, H7, I7, r7, m', hm, w8⟩ => ?_) fun _ _ f => f.elim
    have pD := I7.pin (D, { cls := .type "list", data := .seq its.toArray k }) (by simp)
    have hll := hv.length
    refine call_meets F.slot_list_append ⟨_, pD.1, rfl⟩ F.entry_list_append (F.args_list_append_2 _ _) (PySem.list_append D its.toArray k w7 (by rw [List.size_toArray]; omega)) ⟨pD.1, ?_⟩
    have q := PySem.IsL.update pD.1 (·.push w7)
    have hpush : its.toArray.push w7 = (its ++ [w7]).toArray := by simp
    rw [hpush] at q
    obtain ⟨k', q⟩ : ∃ k', (s7.heap.update D (Obj.mapSeq (·.push w7))).get? D = some { cls := .type "list", data := .seq (its ++ [w7]).toArray k' } := ⟨_, q⟩
    have I7u : Inv (compCx X (caps.map (·.1) ++ [x]) csc (D + 1) s2 H2 fp) (pinsAt fp s4.heap) _ H7 s7 := I7.pins_of fun p hp => I7.pin p (List.mem_append_right _ (List.mem_append_right _ hp))
    have pfp : ∀ p ∈ pinsAt fp s4.heap, p.1 < D := fun p hp => hD ▸ fps p.1 (of_pinsAt hp).1
    have I8 := I7u.turned (h' := s7.heap.update D (Obj.mapSeq (·.push w7))) (t' := s7.toks) (it := D) (fun b o hb e => (Heap.get?_update_other s7.heap _ (Ne.symm hb)).trans e) pD.2.1 ns1 (.inr leD) (fun y c e => nlt (cellsLt y c e)) (fun p hp => nlt (pfp p (by simpa using hp)))
    refine ⟨m', hm, i + 1, ys ++ [y], its ++ [w7], k', _, H7, I8.pins_of fun p hp => ?_, T.keep _ _ _ st5 fun b hb o e => (I8.pin (b, o) (List.mem_append_right _ (mem_pinsAt hb e))).1, fun b hb => ?_, hv.append (.cons r7 .nil), ?_, w8, _, rfl⟩
    ·rw [List.mem_singleton.mp hp]
     exact ⟨q, pD.2.1, pD.2.2.1, pD.2.2.2.1, fun v => by simp⟩
    ·obtain ⟨o, e, d⟩ := T.obj _ _ st5 b hb
     exact (I8.pin (b, o) (List.mem_append_right _ (mem_pinsAt hb e))).2.1
    ·rw [List.length_append, List.length_singleton]; omega
  ·refine ⟨0, [], [], 0, _, H2, (I4 t4).pins_of fun p hp => ?_, T.keep _ _ _ st2 fun b hb o e => keep4 b o e, fun b hb => (f2 b hb).1, .nil, Nat.zero_le _, w0, _, rfl⟩
   rw [List.mem_singleton.mp hp]
   refine ⟨hDo, I2.hok.fresh leD, ns1, fun z => absurd (fsLt D z) (Nat.lt_irrefl _), fun v => by simp⟩
 exact codeAny_compStart_list (loop _) (T.self _ 0 _ _ _ (T.keep _ _ _ st2 fun b hb o e => keep4 b o e) (loop _))
end
end L2
namespace L2
open PySem PySem.Spec PyProof.Rows
section
variable {X : Cx}
theorem strsAre_of {ys : List Str} : ∀ {us : List Value}, Vals (ys.map V.str) us -> StrsAre us ys := by
 induction ys with
 | nil => intro us r; cases r; exact .nil
 | cons y r ih =>
  intro us h
  cases h with
  | cons h t =>
   obtain ⟨k, rfl⟩ := h
   exact .cons _ _ (ih t)
def rJoin (K : PySem.W.Frag) : V -> List V -> Hp -> VK -> Prop := fun x vs H Q => ∃ z p ys, x = .str z /\ vs = [.ref p] /\ SqL K H p (ys.map V.str) /\ (ys.map (·.length)).sum + ys.length * z.length <= 16777216 /\ Q (.str (Txt.join z ys)) H
theorem mt_join : MtR X "str.join" (rJoin X.K) := by
 intro pins s Z H x vs v us Q I rx rv h
 obtain ⟨z, p, ys, rfl, rfl, hq, hz, q⟩ := h
 obtain ⟨t, rfl⟩ := rx
 obtain ⟨u, rfl, ru⟩ := rv.one
 cases ru
 obtain ⟨its, r, pl, _⟩ := I.list hq
 exact PyProof.Rows.join_list pl.isList (by simpa using strsAre_of r) hz fun t' k => ⟨.str _, H, I.tok _, ⟨_, rfl⟩, q⟩
def rStarts3 : V -> List V -> Hp -> VK -> Prop := fun x vs H Q => ∃ a b i, x = .str a /\ vs = [.str b, .int i] /\ Q (.bl (fromIndex a.length i + b.length <= a.length && Builtin.Str.subAt a b (fromIndex a.length i))) H
theorem mt_starts3 : MtR X "str.startswith" rStarts3 := by
 intro pins s Z H x vs v us Q I rx rv h
 obtain ⟨a, b, i, rfl, rfl, q⟩ := h
 obtain ⟨t, rfl⟩ := rx
 obtain ⟨u, w', rfl, ru, rw'⟩ := rv.two
 obtain ⟨t1, rfl⟩ := ru
 obtain ⟨t2, rfl⟩ := rw'
 exact call_gives F.slot_str_startswith (typeIs_str _ _ _) F.entry_str_startswith (F.args_str_startswith_3 _ _ _) (gives_str_startswith_from a b i t t1 t2) ⟨.bl _, H, I, rfl, q⟩
def rStarts2 : V -> List V -> Hp -> VK -> Prop := fun x vs H Q => ∃ a b, x = .str a /\ vs = [.str b] /\ Q (.bl (0 + b.length <= a.length && Builtin.Str.subAt a b 0)) H
theorem mt_starts2 : MtR X "str.startswith" rStarts2 := by
 intro pins s Z H x vs v us Q I rx rv h
 obtain ⟨a, b, rfl, rfl, q⟩ := h
 obtain ⟨t, rfl⟩ := rx
 obtain ⟨u, rfl, ru⟩ := rv.one
 obtain ⟨t1, rfl⟩ := ru
 exact call_gives F.slot_str_startswith (typeIs_str _ _ _) F.entry_str_startswith (F.args_str_startswith_2 _ _) (gives_str_startswith a b t t1) ⟨.bl _, H, I, rfl, q⟩
def signsV (z : Str) : List V := z.cps.toList.map fun c => V.str ⟨#[c]⟩
theorem vals_signs {z : Str} {acc : Array Value} (h : ItemsOf (SignAt z) acc z.cps.size) : Vals (signsV z) acc.toList := by
 obtain ⟨hs, hi⟩ := h
 have aux : ∀ (cs : List Nat) (us : List Value), us.length = cs.length -> (∀ (i : Nat) (v : Value), us[i]? = some v -> ∃ c u, cs[i]? = some c /\ v = Value.str ⟨#[c]⟩ u) -> Vals (cs.map fun c => V.str ⟨#[c]⟩) us := by
  intro cs
  induction cs with
  | nil => intro us hl _; cases us with
   | nil => exact .nil
   | cons _ _ => cases hl
  | cons c r ih =>
   intro us hl h
   cases us with
   | nil => cases hl
   | cons u r' =>
    refine .cons ?_ (ih r' (by simpa using hl) fun i v e => h (i + 1) v (by simpa using e))
    obtain ⟨c', t, e, z⟩ := h 0 u rfl
    simp at e
    subst e
    exact ⟨t, z⟩
 refine aux _ _ (by simp [hs]) fun i v e => ?_
 obtain ⟨c, u, e1, e2⟩ := hi i v (by simpa using e)
 exact ⟨c, u, by simpa using e1, e2⟩
theorem call_listS (hc : X.calm = true) : CallR X (.type "list") (fun xs H Q => ∃ z : Str, xs = [.str z] /\ z.length <= sizeLine /\ ∀ l, H l = none -> Q (.ref l) (upd H l (.lst (signsV z)))) := by
 intro pins s Z H xs us Q I r h
 obtain ⟨z, rfl, hz, q⟩ := h
 obtain ⟨u, rfl, rx⟩ := vals1 r
 obtain ⟨t, rfl⟩ := rx
 refine PySem.call_list_str (I.ok.hd hc) z t (fun h' tk acc' c' kp e hi => ?_) hz
 have hv := vals_signs hi
 exact ⟨.ref s.heap.objs.size, _, I.laid (t' := tk) kp (Nat.le_refl _) (show ObjOk X.prog X.w _ h' _ (.lst (signsV z)) from ⟨by simp only [signsV, List.length_map, Array.length_toList]; exact hz, acc'.toList, c', hv, by simpa using e⟩), rfl, q _ (I.hok.fresh (Nat.le_refl _))⟩
theorem call_isi : CallR X (.builtin "isinstance") (fun xs H Q => ∃ x c cv t b, xs = [x, c] /\ (c = V.ty cv ∨ False) /\ TyOf X.K H x t /\ PySem.W.kitOne X.K t (.type cv) = some b /\ Q (.bl b) H) := by
 intro pins s Z H xs us Q I r h
 obtain ⟨x, c, cv, t, b, rfl, hc, ty, e, q⟩ := h
 obtain ⟨u, w', rfl, ru, rw'⟩ := vals2 r
 rcases hc with rfl | hc
 ·cases rw'
  exact isinst_ok I ru ty e fun tk => ⟨.bl b, H, I.tok _, rfl, q⟩
 ·exact hc.elim
end
end L2
namespace L2
open PySem PySem.Spec PyProof.Rows
def At (X : Cx) (D : Ends) (sts : List Stmt) (Z : St) (H : Hp) : Prop := ∀ (pins : List (Addr × Obj)) (s : Shared), Inv X pins Z H s -> wpAny (model X.prog X.w) X.A (execs sts X.env) (SP X pins D) X.xe s
section
variable {X : Cx} {D : Ends} {st : Stmt} {rest sts : List Stmt} {t : TS} {Z : St} {H : Hp}
theorem pss_at : PSs X sts (fun D Z H => At X D sts Z H) := fun pins s Z H D I h => h pins s I
theorem at_nil (h : D.nx Z H) : At X D [] Z H := fun _ _ I => wpAny_execs_nil ⟨Z, H, I, h⟩
theorem at_cons (h : PS X st t) (q : t { D with nx := fun Z H => At X D rest Z H } Z H) : At X D (st :: rest) Z H := fun pins s I =>
 (pss_cons h pss_at) pins s Z H D I q
theorem at_one (h : PS X st t) (q : t D Z H) : At X D [st] Z H := fun pins s I => (pss_one h) pins s Z H D I q
theorem at_body (h : At X D sts Z H) : ∃ t, PSs X sts t /\ t D Z H := ⟨fun D' Z' H' => D' = D /\ Z' = Z /\ H' = H, fun pins s Z' H' D' I ⟨e1, e2, e3⟩ => by subst e1 e2 e3; exact h pins s I, rfl, rfl, rfl⟩
end
theorem ifd {c : Prop} [Decidable c] {A B : Prop} (h1 : c -> A) (h2 : ¬ c -> B) : if decide c = true then A else B := by
 by_cases h : c
 ·rw [decide_eq_true h]; exact h1 h
 ·rw [decide_eq_false h]; exact h2 h
theorem ifnd {c : Prop} [Decidable c] {A B : Prop} (h1 : ¬ c -> A) (h2 : c -> B) : if (!decide c) = true then A else B := by
 by_cases h : c
 ·rw [decide_eq_true h]; exact h2 h
 ·rw [decide_eq_false h]; exact h1 h
theorem ifb {c : Bool} {A B : Prop} (h1 : c = true -> A) (h2 : c = false -> B) : if c = true then A else B := by
 cases c
 ·exact h2 rfl
 ·exact h1 rfl
theorem ifnb {c : Bool} {A B : Prop} (h1 : c = false -> A) (h2 : c = true -> B) : if (!c) = true then A else B := by
 cases c
 ·exact h1 rfl
 ·exact h2 rfl
theorem Same.upd {H : Hp} {p : Addr} {o : HO} (h : H p = none) : Same H (upd H p o) := fun b u e => by rw [upd_ne (ne_of_none e h)]; exact e
theorem Same.to {H H1 : Hp} {p : Addr} {o : HO} (s : Same H H1) (h : H1 p = none) : Same H (L2.upd H1 p o) := s.trans (Same.upd h)
theorem SqL.same {K : PySem.W.Frag} {H H' : Hp} {a : Addr} {xs : List V} (h : SqL K H a xs) (e : Same H H') : SqL K H' a xs := e.seq h
section
variable {X : Cx} {C : Addr} {x : Str} {p pos : Pos}
def tMakeO (C : Addr) : TE := fun _ H Q => ∀ x dx, H x = none -> H dx = none -> dx ≠ x -> Q (.ref x) (upd (upd H dx (.own x)) x (.ins C dx []))
end
end L2
namespace L2
open PySem PySem.Spec PyProof.Rows
section
variable {X : Cx} {C : Addr} {x : Str} {p pos : Pos}
structure MkO (K : PySem.W.Frag) (C : Addr) : Prop where
 makes : PySem.W.makesIn K C = true
 init : PySem.W.findIn K (.ref C) "__init__" = some (some (.builtin "object.__init__"))
 kp : PySem.W.keepIn K (.ref C) = true
theorem pe_makeO (M : MkO X.K C) (hg : Gl X x) (hm : X.mg x = some (.ref C)) (hdb : (x == ("__debug__" : Str)) = false := by decide) : PE X (.Call (.Name x p) [] [] pos) (tMakeO C) := by
 intro pins s Z H Q I h
 refine wpAny_Call_Name_kw (ld_glob I hg hm ?_ hdb)
 refine PySem.W.callWith_K0 I.kIn M.kp (wpAny_call ?_)
 have hq := h (s.heap.objs.size + 1) s.heap.objs.size (I.hok.fresh (Nat.le_succ _)) (I.hok.fresh (Nat.le_refl _)) (Nat.ne_of_lt (Nat.lt_succ_self _))
 have I2 := Inv.made (C := C) I
 have Y := PySem.W.makes_of (M := model X.prog X.w) I.kIn M.makes
 refine make_map0 I.kIn M.makes M.init (fun self => PySem.W.Looks.of_pure (PySem.W.oi_bind self)) ?_
 obtain ⟨hh, g, d, t, os⟩ := s
 have e2 : ((hh.push PySem.W.emptyDict).push (PySem.W.instObj C hh.objs.size)).get? (hh.objs.size + 1) = some (PySem.W.instObj C hh.objs.size) := by
  have := Heap.get?_push_size (hh.push PySem.W.emptyDict) (o := PySem.W.instObj C hh.objs.size) rfl
  rwa [Heap.size_push] at this
 have t1 : PySem.W.Looks (model X.prog X.w) ((hh.push PySem.W.emptyDict).push (PySem.W.instObj C hh.objs.size)) (typeOf (.ref (hh.objs.size + 1))) (.ref C) := (PySem.W.Looks.ld e2).andThen .now
 have t2 : PySem.W.Looks (model X.prog X.w) ((hh.push PySem.W.emptyDict).push (PySem.W.instObj C hh.objs.size)) (isInstance (.ref (hh.objs.size + 1)) (.type "object")) true := t1.andThen (Y.top.keeps fun b o e => Heap.get?_push_of_some _ (Heap.get?_push_of_some _ e))
 refine codeAny_call_builtin PySem.W.oi_plain PySem.W.entry_oi (@PySem.W.check_slot (model X.prog X.w) _ _ _ "object.__init__" "object" "__init__" (.ref (hh.objs.size + 1)) [] [] _ PySem.W.oi_kind PySem.W.oi_split t2 (PySem.W.oi_args (.ref (hh.objs.size + 1))) ?_)
 rw [PySem.W.oi_run]
 exact wpAny_pure ⟨rfl, ⟨V.ref (hh.objs.size + 1), _, I2, rfl, hq⟩⟩
end
end L2
namespace L2
open PySem PySem.Spec PyProof.Rows
section
variable {X : Cx}
def rSlS : V -> Option Int -> Option Int -> Hp -> VK -> Prop := fun x lo hi H Q => ∃ z, x = .str z /\ z.length <= sizeLine /\ Q (.str (Txt.slice z lo hi)) H
theorem part_of {v : Value} {o : Option Int} (h : IsPart v o) : ∃ l : Option (Int × Tok), v = partValue l /\ l.map (·.1) = o := by
 cases h with
 | none => exact ⟨none, rfl, rfl⟩
 | int i t => exact ⟨some (i, t), rfl, rfl⟩
theorem sl_str : SlR X rSlS := by
 intro pins s Z H x v vl vu lo hi sl Q I rx hs pl pu h
 obtain ⟨z, rfl, hz, q⟩ := h
 obtain ⟨t, rfl⟩ := rx
 obtain ⟨l, rfl, rfl⟩ := part_of pl
 obtain ⟨u, rfl, rfl⟩ := part_of pu
 refine ⟨"str", _, F.slot_str_getitem.lookup, typeIs_str _ _ _, wpAny_getItem_str_slice (l := l) (u := u) (st := none) (by obtain ⟨o, e, c, d⟩ := hs; exact ⟨o, e, c, d⟩) rfl ?_⟩
 exact post_val_or_str ⟨Nat.le_trans (Txt.slice_le z _ _) hz, fun t' k => ⟨.str _, H, I.tok _, ⟨t', rfl⟩, q⟩⟩
end
end L2
namespace L2
open PySem PySem.Spec PyProof.Rows
section
variable {X : Cx} {D : Ends} {st : Stmt} {rest sts : List Stmt} {t : TS} {Z : St} {H : Hp}
theorem at_consR (R : St -> Hp -> Prop) (h : PS X st t) (q : t { D with nx := R } Z H) (r : ∀ Z H, R Z H -> At X D rest Z H) : At X D (st :: rest) Z H := fun pins s I =>
 (pss_cons h (u := fun D' Z H => D' = D /\ R Z H) (fun pins s Z H D' I ⟨e, z⟩ => by subst e; exact r Z H z pins s I)) pins s Z H D I (by
  have e : (fun Z H => D = D /\ R Z H) = R := by funext Z H; simp
  show t { D with nx := fun Z H => D = D /\ R Z H } Z H
  rw [e]; exact q)
theorem cxOf_K {CX : CXT} {P : Program} {w : World} {K : PySem.W.Frag} {mg : Str -> Option Value} {base : Heap} {N : List Str} {qual : Str} {scope : Scope} {f : Addr} {cd : Value} {A : Around} {outer : List Env} {s : Shared} {H : Hp} {E : XK} :
  (cxOf CX P w K mg base N qual scope f cd A outer s H E).K = K := rfl
end
end L2
namespace L2
open PySem PySem.Spec PyProof.Rows
theorem comp_range {caps : List (Str × Nat)} {lo : Int} {n : Nat} {te : TE} {Z : St} {H : Hp} {Q : VK} (Pv : Nat -> List V -> Hp -> Prop) (h0 : Pv 0 [] H) (hn : n < sizeLine)
  (hs : ∀ i ys H, i < n -> ys.length = i -> Pv i ys H -> te (capV caps Z ++ [some (.int (lo + i))]) H fun y H2 => ∃ m', m' < n - i /\ m' = n - (i + 1) /\ i + 1 <= n /\ (ys ++ [y]).length = i + 1 /\ Pv (i + 1) (ys ++ [y]) H2) (hd : ∀ ys H, ys.length = n -> Pv n ys H -> ∀ D, H D = none -> Q (.ref D) (upd H D (.lst ys))) :
  CompW (Itr lo n) caps te Z H Q := by
 refine ⟨fun i m ys H => m = n - i /\ i <= n /\ ys.length = i /\ Pv i ys H, ⟨n, by simp, Nat.zero_le _, rfl, h0⟩, ?_⟩
 rintro i m ys H ⟨rfl, hi, hl, p⟩
 by_cases hlt : i < n
 ·refine .inr ⟨hlt, by omega, fun x H' y => ?_⟩
  obtain ⟨e, y⟩ := y
  subst e y
  exact hs i ys _ hlt hl p
 ·have e : i = n := by omega
  subst e
  exact .inl ⟨Nat.le_refl _, hd ys H hl p⟩
theorem comp_list {K : PySem.W.Frag} {a : Addr} {xs : List V} {caps : List (Str × Nat)} {te : TE} {Z : St} {H : Hp} {Q : VK} (Pv : Nat -> List V -> Hp -> Prop) (h0 : Pv 0 [] H) (hn : xs.length < sizeLine)
  (hq : ∀ i ys H, i <= xs.length -> Pv i ys H -> SqL K H a xs)
  (hs : ∀ i x ys H, xs[i]? = some x -> ys.length = i -> Pv i ys H -> te (capV caps Z ++ [some x]) H fun y H2 => ∃ m', m' < xs.length - i /\ m' = xs.length - (i + 1) /\ i + 1 <= xs.length /\ (ys ++ [y]).length = i + 1 /\ Pv (i + 1) (ys ++ [y]) H2) (hd : ∀ ys H, ys.length = xs.length -> Pv xs.length ys H -> ∀ D, H D = none -> Q (.ref D) (upd H D (.lst ys))) :
  CompW (Itl K a) caps te Z H Q := by
 refine ⟨fun i m ys H => m = xs.length - i /\ i <= xs.length /\ ys.length = i /\ Pv i ys H, ⟨xs.length, by simp, Nat.zero_le _, rfl, h0⟩, ?_⟩
 rintro i m ys H ⟨rfl, hi, hl, p⟩
 have q := hq i ys H hi p
 by_cases hlt : i < xs.length
 ·refine .inr ⟨⟨xs, xs[i], q, by simp [hlt]⟩, by omega, fun x H' y => ?_⟩
  obtain ⟨e, y⟩ := y
  subst e
  exact hs i x ys _ (y xs q) hl p
 ·have e : i = xs.length := by omega
  subst e
  exact .inl ⟨⟨xs, q, Nat.le_refl _⟩, hd ys H hl p⟩
theorem comp_turn {n i : Nat} {ys : List V} {y : V} {R : Prop} (hi : i < n) (hl : ys.length = i) (r : R) : ∃ m', m' < n - i /\ m' = n - (i + 1) /\ i + 1 <= n /\ (ys ++ [y]).length = i + 1 /\ R :=
 ⟨n - (i + 1), by omega, rfl, hi, by simp [hl], r⟩
theorem atI_in {α : Type} (xs : List α) {i : Int} (h0 : 0 <= i) (h1 : i < xs.length) : ∃ v, xs[i.toNat]? = some v /\ atI xs i = some v := by
 have h3 : i.toNat < xs.length := by omega
 refine ⟨xs[i.toNat], List.getElem?_eq_getElem h3, ?_⟩
 have q := atI_nat (xs := xs) (List.getElem?_eq_getElem h3)
 rw [Int.toNat_of_nonneg h0] at q
 exact q
theorem emod_rng (a : Int) {m : Int} (h : 0 < m) : 0 <= a % m /\ a % m < m := ⟨Int.emod_nonneg _ (by omega), Int.emod_lt_of_pos _ h⟩
theorem sl_le {n : Nat} (h : n <= 1000000) : n <= sizeLine := Nat.le_trans h (by decide)
theorem sl_lt {n : Nat} (h : n <= 1000000) : n < sizeLine := Nat.lt_of_le_of_lt h (by decide)
theorem fldv {K : PySem.W.Frag} {i : Nat} {f : Str} {Z : St} {H : Hp} {Q : VK} {a C dx : Addr} {fs : List (Str × V)} {v : V} (e : Z[i]? = some (some (.ref a))) (h : H a = some (.ins C dx fs)) (c : Cls K C) (n : NoAttr K C f) (l : fs.lookup f = some v) (q : Q v H) : tFld K (tVar i) f Z H Q :=
 ⟨_, e, a, C, dx, fs, v, rfl, h, c, n, l, q⟩
def ForW (J : It) (g : TG) (tb : TS) (D : Ends) (Z : St) (H1 : Hp) : Prop := ∃ W : Nat -> Nat -> St -> Hp -> Prop, (∃ m, W 0 m Z H1) /\ ∀ i m Z H, W i m Z H ->
 (J.stop i H /\ D.nx Z H) ∨ (J.go i H /\ ∃ N : St -> Hp -> Prop, (∀ Z' H', N Z' H' -> ∃ m', m' < m /\ W (i + 1) m' Z' H') /\ ∀ x H', J.yld i H x H' -> g x Z H' fun Z2 H2 => tb { D with nx := N, ct := N, bk := D.nx } Z2 H2)
def tForA (wi : TI) (g : TG) (tb : TS) : TS := fun D Z H => wi Z H fun J H1 => ForW J g tb D Z H1
theorem ps_forA {X : Cx} {tg iter : Expr} {body : List Stmt} {wi : TI} {g : TG} {tb : TS} {pos : Pos} (hp : PassesOwn (model X.prog X.w) X.A X.env X.xe) (hc : X.calm = true) (hi : PI X tg iter wi) (hg : PG X tg g) (hb : PSs X body tb)
  (hs : ∀ x, foldedSetIterable iter X.env x = pure x := by intro _; rfl) : PS X (.For tg iter body [] pos) (tForA wi g tb) := ps_for hp hc hi hg hb hs
theorem forW_range {lo : Int} {n : Nat} {g : TG} {tb : TS} {D : Ends} {Z : St} {H : Hp} (Pv : Nat -> St -> Hp -> Prop) (h0 : Pv 0 Z H)
  (hs : ∀ i Z H, i < n -> Pv i Z H -> g (.int (lo + i)) Z H fun Z2 H2 => tb { D with nx := Pv (i + 1), ct := Pv (i + 1), bk := D.nx } Z2 H2) (hd : ∀ Z H, Pv n Z H -> D.nx Z H) : ForW (Itr lo n) g tb D Z H := for_range Pv h0 hs hd
theorem forW_list {K : PySem.W.Frag} {a : Addr} {xs : List V} {g : TG} {tb : TS} {D : Ends} {Z : St} {H : Hp} (Pv : Nat -> St -> Hp -> Prop) (h0 : Pv 0 Z H) (hl : ∀ i Z H, i <= xs.length -> Pv i Z H -> SqL K H a xs)
  (hs : ∀ i x Z H, xs[i]? = some x -> Pv i Z H -> g x Z H fun Z2 H2 => tb { D with nx := Pv (i + 1), ct := Pv (i + 1), bk := D.nx } Z2 H2) (hd : ∀ Z H, Pv xs.length Z H -> D.nx Z H) : ForW (Itl K a) g tb D Z H := for_list Pv h0 hl hs hd
end L2
namespace L2
open PySem PySem.Spec PyProof.Rows
section
variable {κ : Type} [DecidableEq κ]
def valV (kvs : List (κ × V)) (k : κ) : Option V := (kvs.find? fun kv => decide (kv.1 = k)).map (·.2)
def putK (kvs : List (κ × V)) (k : κ) (v : V) : List (κ × V) :=
 if (kvs.any fun kv => decide (kv.1 = k)) = true then kvs.map (fun kv => if kv.1 = k then (kv.1, v) else kv) else kvs ++ [(k, v)]
theorem valV_pos {p : κ × V} {r : List (κ × V)} {k : κ} (e : p.1 = k) : valV (p :: r) k = some p.2 := by simp [valV, List.find?_cons, e]
theorem valV_neg {p : κ × V} {r : List (κ × V)} {k : κ} (e : ¬ p.1 = k) : valV (p :: r) k = valV r k := by simp [valV, List.find?_cons, e]
theorem valV_any (k : κ) : ∀ kvs : List (κ × V), (kvs.any fun kv => decide (kv.1 = k)) = (valV kvs k).isSome
 | [] => rfl
 | p :: r => by
  rw [List.any_cons]
  by_cases e : p.1 = k
  ·simp only [valV_pos e, decide_eq_true e, Bool.true_or, Option.isSome_some]
  ·rw [valV_neg e, decide_eq_false e, Bool.false_or]; exact valV_any k r
theorem valV_map (k j : κ) (y : V) : ∀ kvs : List (κ × V), valV (kvs.map fun kv => if kv.1 = k then (kv.1, y) else kv) j = (valV kvs j).map fun x => if j = k then y else x
 | [] => rfl
 | p :: r => by
  have ih := valV_map k j y r
  rw [List.map_cons]
  by_cases h : p.1 = k
  ·rw [if_pos h]
   by_cases e : p.1 = j
   ·rw [valV_pos (p := (p.1, y)) e, valV_pos e, Option.map_some, if_pos (e.symm.trans h)]
   ·rw [valV_neg (p := (p.1, y)) e, valV_neg e, ih]
  ·rw [if_neg h]
   by_cases e : p.1 = j
   ·rw [valV_pos (p := p) e, valV_pos e, Option.map_some, if_neg (fun z => h (e.trans z))]
   ·rw [valV_neg (p := p) e, valV_neg e, ih]
theorem valV_snoc (k j : κ) (y : V) : ∀ kvs : List (κ × V), valV kvs k = none -> valV (kvs ++ [(k, y)]) j = if j = k then some y else valV kvs j
 | [], _ => by
  by_cases e : k = j
  ·rw [if_pos e.symm]; exact valV_pos (p := (k, y)) e
  ·rw [if_neg (fun z => e z.symm)]; exact valV_neg (p := (k, y)) e
 | p :: r, hn => by
  rw [List.cons_append]
  have hk : ¬ p.1 = k := fun z => by rw [valV_pos z] at hn; cases hn
  rw [valV_neg hk] at hn
  have ih := valV_snoc k j y r hn
  by_cases e : p.1 = j
  ·rw [valV_pos e, valV_pos e, if_neg (fun z => hk (e.trans z))]
  ·rw [valV_neg e, valV_neg e, ih]
theorem valV_put (kvs : List (κ × V)) (k j : κ) (y : V) : valV (putK kvs k y) j = if j = k then some y else valV kvs j := by
 unfold putK
 by_cases a : (kvs.any fun kv => decide (kv.1 = k)) = true
 ·rw [if_pos a, valV_map]
  rw [valV_any] at a
  by_cases e : j = k
  ·obtain ⟨x, hx⟩ := Option.isSome_iff_exists.mp a
   rw [if_pos e, e, hx, Option.map_some, if_pos rfl]
  ·rw [if_neg e]
   cases valV kvs j with
   | none => rfl
   | some x => rw [Option.map_some, if_neg e]
 ·rw [if_neg a]
  refine valV_snoc k j y kvs ?_
  rw [valV_any] at a
  cases q : valV kvs k with
  | none => rfl
  | some x => rw [q] at a; exact (a rfl).elim
theorem length_putK (kvs : List (κ × V)) (k : κ) (v : V) : (putK kvs k v).length <= kvs.length + 1 := by
 unfold putK
 split
 ·rw [List.length_map]; omega
 ·rw [List.length_append, List.length_cons, List.length_nil]; omega
theorem RelO.isSome_eq {o : Option V} {u : Option Value} (r : RelO o u) : o.isSome = u.isSome := by
 cases o with
 | none => cases u with
  | none => rfl
  | some _ => exact (show False from r).elim
 | some _ => cases u with
  | none => exact (show False from r).elim
  | some _ => rfl
theorem RelO.getD {o : Option V} {u : Option Value} {d : V} {d' : Value} (r : RelO o u) (rd : RelV d d') : RelV (o.getD d) (u.getD d') := by
 cases o with
 | none => cases u with
  | none => exact rd
  | some _ => exact (show False from r).elim
 | some _ => cases u with
  | none => exact (show False from r).elim
  | some _ => exact r
theorem KV.val {kvs : List (κ × V)} {vs : List (κ × Value)} (r : KV kvs vs) (k : κ) : RelO (valV kvs k) (valueAt vs k) := by
 unfold KV at r
 induction r with
 | nil => exact True.intro
 | @cons p q ps qs h t ih =>
  obtain ⟨h1, h2⟩ := h
  by_cases e : p.1 = k
  ·have e' : q.1 = k := h1.symm.trans e
   have b : valueAt (q :: qs) k = some q.2 := by simp [valueAt, List.find?_cons, e']
   rw [valV_pos e, b]; exact h2
  ·have e' : ¬ q.1 = k := fun z => e (h1.trans z)
   have b : valueAt (q :: qs) k = valueAt qs k := by simp [valueAt, List.find?_cons, e']
   rw [valV_neg e, b]; exact ih
theorem KV.any {kvs : List (κ × V)} {vs : List (κ × Value)} (r : KV kvs vs) (k : κ) : (kvs.any fun kv => decide (kv.1 = k)) = vs.any fun kv => decide (kv.1 = k) := by
 unfold KV at r
 induction r with
 | nil => rfl
 | cons h t ih => rw [List.any_cons, List.any_cons, ih, h.1]
theorem KV.repl {kvs : List (κ × V)} {vs : List (κ × Value)} (r : KV kvs vs) (k : κ) {y : V} {u : Value} (ry : RelV y u) :
  KV (kvs.map fun kv => if kv.1 = k then (kv.1, y) else kv) (vs.map fun kv => if kv.1 = k then (kv.1, u) else kv) := by
 unfold KV at r ⊢
 induction r with
 | nil => exact .nil
 | @cons p q ps qs h t ih =>
  rw [List.map_cons, List.map_cons]
  refine .cons ?_ ih
  obtain ⟨h1, h2⟩ := h
  by_cases e : p.1 = k
  ·rw [if_pos e, if_pos (h1.symm.trans e)]; exact ⟨h1, ry⟩
  ·rw [if_neg e, if_neg (fun z => e (h1.trans z))]; exact ⟨h1, h2⟩
theorem KV.put {kvs : List (κ × V)} {vs : List (κ × Value)} (r : KV kvs vs) (k : κ) {y : V} {u : Value} (ry : RelV y u) : KV (putK kvs k y) (stored vs k u) := by
 unfold putK stored
 rw [r.any k]
 by_cases e : (vs.any fun kv => decide (kv.1 = k)) = true
 ·rw [if_pos e, if_pos e]; exact r.repl k ry
 ·rw [if_neg e, if_neg e]; exact Paired.snoc r ⟨rfl, ry⟩
theorem KV.length {kvs : List (κ × V)} {vs : List (κ × Value)} (r : KV kvs vs) : kvs.length = vs.length := Paired.length r
end
theorem kV_is {P : Program} {w : World} {k : Key} {u : Value} (r : RelV (kV k) u) : (mixKind P w).is k u = true := by
 cases k with
 | inl i => obtain ⟨t, e⟩ := (show ∃ t, u = Value.int i t from r); subst e; exact mixKind_int P w i t
 | inr x => obtain ⟨t, e⟩ := (show ∃ t, u = Value.str x t from r); subst e; exact mixKind_str P w x t
theorem items_are {P : Program} {w : World} : ∀ {ks : List Key} {us : List Value}, Vals (ks.map kV) us -> ItemsAre (mixKind P w) ks us
 | [], _, r => by rw [List.map_nil] at r; cases r; exact .nil
 | k :: ks, _, r => by
  rw [List.map_cons] at r
  cases r with
  | cons h t => exact .cons (kV_is h) (items_are t)
abbrev KT (H : Hp) : List (List Key × V) -> List (List Key × Addr × Value) -> Prop := Paired fun p q => p.1 = q.1 /\ H q.2.1 = some (.tup (p.1.map kV)) /\ RelV p.2 q.2.2
theorem KT.val {H : Hp} {kvs : List (List Key × V)} {xs : List (List Key × Addr × Value)} (r : KT H kvs xs) (k : List Key) : RelO (valV kvs k) ((atKey xs k).map (·.2)) := by
 induction r with
 | nil => exact True.intro
 | @cons p q ps qs h t ih =>
  obtain ⟨h1, _, h2⟩ := h
  by_cases e : p.1 = k
  ·have e' : q.1 = k := h1.symm.trans e
   have b : atKey (q :: qs) k = some q.2 := by simp [atKey, List.find?_cons, e']
   rw [valV_pos e, b]; exact h2
  ·have e' : ¬ q.1 = k := fun z => e (h1.trans z)
   have b : atKey (q :: qs) k = atKey qs k := by simp [atKey, List.find?_cons, e']
   rw [valV_neg e, b]; exact ih
theorem KT.repl {H : Hp} {kvs : List (List Key × V)} {xs : List (List Key × Addr × Value)} (r : KT H kvs xs) (k : List Key) {y : V} {u : Value} (ry : RelV y u) :
  KT H (kvs.map fun kv => if kv.1 = k then (kv.1, y) else kv) (xs.map (putAt k u)) := by
 induction r with
 | nil => exact .nil
 | @cons p q ps qs h t ih =>
  rw [List.map_cons, List.map_cons]
  refine .cons ?_ ih
  obtain ⟨h1, h2, h3⟩ := h
  unfold putAt
  by_cases e : p.1 = k
  ·rw [if_pos e, if_pos (h1.symm.trans e)]; exact ⟨h1, h2, ry⟩
  ·rw [if_neg e, if_neg (fun z => e (h1.trans z))]; exact ⟨h1, h2, h3⟩
theorem KT.put {H : Hp} {kvs : List (List Key × V)} {xs : List (List Key × Addr × Value)} (r : KT H kvs xs) (k : List Key) {b : Addr} {y : V} {u : Value} (hb : H b = some (.tup (k.map kV))) (ry : RelV y u) :
  KT H (putK kvs k y) (storedH xs k b u) := by
 have e : (kvs.any fun kv => decide (kv.1 = k)) = (atKey xs k).isSome := by
  rw [valV_any, (r.val k).isSome_eq, Option.isSome_map]
 unfold putK storedH
 rw [e]
 by_cases q : (atKey xs k).isSome = true
 ·rw [if_pos q, if_pos q]; exact r.repl k ry
 ·rw [if_neg q, if_neg q]; exact Paired.snoc r ⟨rfl, hb, ry⟩
theorem KT.keeps {H H' : Hp} {kvs : List (List Key × V)} {xs : List (List Key × Addr × Value)} (r : KT H kvs xs) (ht : ∀ b ys, H b = some (.tup ys) -> H' b = some (.tup ys)) : KT H' kvs xs :=
 Paired.mapP r fun _ _ z => ⟨z.1, ht _ _ z.2.1, z.2.2⟩
section
variable {P : Program} {w : World} {H : Hp} {h : Heap} {a : Addr}
theorem rd_of {u : HO} (ok : HOk P w H h) (e : Rd H a u) : ObjOk P w H h a u := e.ok ok
theorem dk_rd {kvs : List (Key × V)} (ok : HOk P w H h) (e : Rd H a (.dK kvs)) : kvs.length <= sizeLine /\ (a == sysModules) = false /\ ∃ vs, KV kvs vs /\ h.DictOf (mixKind P w) a vs :=
 show ObjOk P w H h a (.dK kvs) from rd_of ok e
theorem dk_of {kvs : List (Key × V)} (ok : HOk P w H h) (e : H a = some (.dK kvs)) : kvs.length <= sizeLine /\ (a == sysModules) = false /\ ∃ vs, KV kvs vs /\ h.DictOf (mixKind P w) a vs := dk_rd ok (.inl e)
theorem key_of {ks : List Key} (ok : HOk P w H h) (e : H a = some (.tup (ks.map kV))) : (tupleKind (mixKind P w)).is h ks a := by
 obtain ⟨_, its, r, o, h1, h2, n, h3⟩ := (show ObjOk P w H h a (.tup (ks.map kV)) from ok a _ e)
 exact ⟨o, its.toArray, n, h1, h2, h3, by simpa using items_are r⟩
theorem dt_rd {kvs : List (List Key × V)} (ok : HOk P w H h) (e : Rd H a (.dT kvs)) : kvs.length <= sizeLine /\ (a == sysModules) = false /\
  ∃ xs, KT H kvs xs /\ h.DictOfH (tupleKind (mixKind P w)) a xs := by
 obtain ⟨z, y, xs, r, o, es, ep, h1, h2, h3, h4, h5⟩ := (show ObjOk P w H h a (.dT kvs) from rd_of ok e)
 refine ⟨z, y, xs, r, o, es, ep, h1, h2, h3, h4, fun x hx => ?_, h5⟩
 have all : ∀ {l : List (List Key × V)} {m : List (List Key × Addr × Value)}, KT H l m -> ∀ x ∈ m, (tupleKind (mixKind P w)).is h x.1 x.2.1 := by
  intro l m q
  induction q with
  | nil => intro x hx; exact nomatch hx
  | @cons p q ps qs hq t ih =>
   intro x hx
   rcases List.mem_cons.mp hx with e | hx
   ·subst e
    exact key_of ok (by rw [← hq.1]; exact hq.2.1)
   ·exact ih x hx
 exact all r x hx
theorem dt_of {kvs : List (List Key × V)} (ok : HOk P w H h) (e : H a = some (.dT kvs)) : kvs.length <= sizeLine /\ (a == sysModules) = false /\
  ∃ xs, KT H kvs xs /\ h.DictOfH (tupleKind (mixKind P w)) a xs := dt_rd ok (.inl e)
end
def DGet (H : Hp) (a : Addr) (y : V) (r : Option V) : Prop :=
 (∃ kvs k, Rd H a (.dK kvs) /\ y = kV k /\ r = valV kvs k) ∨ ∃ kvs k b, Rd H a (.dT kvs) /\ y = .ref b /\ H b = some (.tup (k.map kV)) /\ r = valV kvs k
def DPut (H : Hp) (a : Addr) (y v : V) (H' : Hp) : Prop :=
 (∃ kvs k, H a = some (.dK kvs) /\ y = kV k /\ kvs.length < sizeLine /\ H' = upd H a (.dK (putK kvs k v))) ∨
 ∃ kvs k b, H a = some (.dT kvs) /\ y = .ref b /\ H b = some (.tup (k.map kV)) /\ kvs.length < sizeLine /\ H' = upd H a (.dT (putK kvs k v))
theorem DGet.k {H : Hp} {a : Addr} {kvs : List (Key × V)} {k : Key} (e : H a = some (.dK kvs)) : DGet H a (kV k) (valV kvs k) := .inl ⟨kvs, k, .inl e, rfl, rfl⟩
theorem DPut.k {H : Hp} {a : Addr} {kvs : List (Key × V)} {k : Key} {v : V} (e : H a = some (.dK kvs)) (hl : kvs.length < sizeLine) : DPut H a (kV k) v (upd H a (.dK (putK kvs k v))) := .inl ⟨kvs, k, e, rfl, hl, rfl⟩
section
variable {X : Cx} {pins : List (Addr × Obj)} {Z : St} {H : Hp} {s : Shared} {a : Addr} {y v : V} {u r : Value} {o : Option V} {A : Around} {E : Value -> Shared -> Prop}
theorem Inv.big (I : Inv X pins Z H s) : sysModules < s.heap.objs.size := by
 have h : mainGlobals < s.heap.objs.size := (I.mod.glob.keeps I.bk).lt
 exact Nat.lt_trans (by decide) h
theorem d_notIn {Q : Value -> Shared -> Prop} (hu : A.units + 1 < cLine) (I : Inv X pins Z H s) (g : DGet H a y o) (ry : RelV y u) (h : ∀ s', Inv X pins Z H s' -> Q (.bool (!o.isSome)) s') :
  wpAny (model X.prog X.w) A (compareOp .NotIn u (.ref a)) Q E s := by
 rcases g with ⟨kvs, k, e, ey, l⟩ | ⟨kvs, k, b, e, ey, eb, l⟩
 ·subst ey
  obtain ⟨z, hd, vs, rel, dd⟩ := dk_rd I.hok e
  refine wpAny_notIn_of (kV_is ry) hd dd.mapOf ?_
  rw [← (rel.val k).isSome_eq, ← l]
  exact h _ (I.tok _)
 ·subst ey
  cases (show u = Value.ref b from ry)
  obtain ⟨z, hd, xs, rel, dd⟩ := dt_rd I.hok e
  refine wpAny_notIn_heap (tupleKind_room_in1 hu) (key_of I.hok eb) hd dd ?_
  have q := (rel.val k).isSome_eq
  rw [Option.isSome_map] at q
  rw [← q, ← l]
  exact h _ (I.tok _)
theorem d_write {h' : Heap} {t' : Nat} {ob : HO} (I : Inv X pins Z H s) (mu : Mut (H a)) (hs : Heap.SameBut a s.heap h') (he : ∃ q, h'.get? a = some q) (new : ObjOk X.prog X.w (upd H a ob) h' a ob) :
  Inv X pins Z (upd H a ob) { s with heap := h', toks := t' } :=
 I.write (x := a) (e := a) mu (.inl rfl) (fun b q hb z => (hs.2 b hb).trans z) he new
theorem dk_new {P : Program} {w : World} {H' : Hp} {h' : Heap} {kvs : List (Key × V)} {vs : List (Key × Value)} (z : kvs.length <= sizeLine) (hd : (a == sysModules) = false) (rel : KV kvs vs) (dd : h'.DictOf (mixKind P w) a vs) :
  ObjOk P w H' h' a (.dK kvs) := ⟨z, hd, vs, rel, dd⟩
theorem d_setItem {H' : Hp} {Q : Unit -> Shared -> Prop} (hu : A.units + 1 < cLine) (I : Inv X pins Z H s) (g : DPut H a y v H') (ry : RelV y u) (rv : RelV v r) (h : ∀ s', Inv X pins Z H' s' -> Q () s') :
  wpAny (model X.prog X.w) A (setItem (.ref a) u r) Q E s := by
 rcases g with ⟨kvs, k, e, ey, l, eH⟩ | ⟨kvs, k, b, e, ey, eb, l, eH⟩
 ·subst ey eH
  obtain ⟨z, hd, vs, rel, dd⟩ := dk_of I.hok e
  have hz : vs.length <= sizeLine := by rw [← rel.length]; exact z
  have hl : (putK kvs k v).length <= sizeLine := by have := length_putK kvs k v; omega
  refine wpAny_setItem_pairs (hsz := hz) (kV_is ry) dd fun h' dd' hs => h _ ?_
  have he : ∃ q, h'.get? a = some q := let ⟨q, _, _, hq, _⟩ := dd'; ⟨q, hq⟩
  exact d_write I (by rw [e]; exact True.intro) hs he (dk_new hl hd (rel.put k rv) dd')
 ·subst ey eH
  cases (show u = Value.ref b from ry)
  obtain ⟨z, hd, xs, rel, dd⟩ := dt_of I.hok e
  have hz : xs.length <= sizeLine := by rw [← Paired.length rel]; exact z
  have hl : (putK kvs k v).length <= sizeLine := by have := length_putK kvs k v; omega
  refine wpAny_setItem_heap (hsz := hz) (tupleKind_room_in1 hu) (key_of I.hok eb) dd fun h' dd' hs => h _ ?_
  obtain ⟨q, es, ep, hq, h2, h3, h4, _, h5⟩ := dd'
  refine d_write I (by rw [e]; exact True.intro) hs ⟨q, hq⟩ ⟨hl, hd, _, (rel.put k eb rv).keeps fun c ys ec => ?_, q, es, ep, hq, h2, h3, h4, h5⟩
  rw [upd_ne (ne_of ec e (fun z => nomatch z))]
  exact ec
end
section
variable {X : Cx} {pins : List (Addr × Obj)} {Z : St} {H : Hp} {s : Shared} {a : Addr} {kvs : List (Key × V)} {k : Key} {u : Value} {A : Around} {E : Value -> Shared -> Prop}
theorem d_len {Q : Value -> Shared -> Prop} (I : Inv X pins Z H s) (e : Rd H a (.dK kvs)) (h : ∀ t s', Inv X pins Z H s' -> Q (.int kvs.length t) s') : wpAny (model X.prog X.w) A (call (.builtin "len") [.ref a]) Q E s := by
 obtain ⟨z, hd, vs, rel, dd⟩ := dk_rd I.hok e
 refine call_len_dict hd dd (by rw [← rel.length]; rw [sizeLine_eq] at z; omega) ?_
 rw [← rel.length]
 exact h _ _ (I.tok _)
end
def tDNotIn (ty td : TE) : TE := fun Z H Q => ty Z H fun y H1 => td Z H1 fun x H2 => ∃ a o, x = .ref a /\ DGet H2 a y o /\ Q (.bl (!o.isSome)) H2
def sDPut (td ty tv : TE) : TS := fun D Z H => tv Z H fun v H1 => td Z H1 fun x H2 => ty Z H2 fun y H3 => ∃ a H4, x = .ref a /\ DPut H3 a y v H4 /\ D.nx Z H4
section
variable {X : Cx} {o i e value : Expr} {pos pos' tpos : Pos} {td ty tv : TE}
theorem pc_dnotin (hu : X.A.units + 1 < cLine) (hi : PE X i ty) (ho : PE X o td) : PC X .NotIn i o (tDNotIn ty td) := by
 intro pins s Z H Q I h
 refine thn (hi pins s Z H _ I h) fun iv s1 ⟨y, H1, I1, ry, q1⟩ => thn (ho pins s1 Z H1 _ I1 q1) fun u s2 ⟨x, H2, I2, rx, a, ov, ex, g, q2⟩ => ?_
 subst ex
 obtain rfl : u = Value.ref a := rx
 exact d_notIn hu I2 g ry fun s3 I3 => ⟨.bl (!ov.isSome), H2, I3, rfl, q2⟩
theorem ps_dput (hu : X.A.units + 1 < cLine) (ho : PE X o td) (hi : PE X i ty) (hv : PE X value tv) (hs : swapsWith value (some (.Subscript o i pos')) pos.line X.env = pure false) :
  PS X (.Assign [.Subscript o i pos'] value pos) (sDPut td ty tv) := by
 intro pins s Z H D I h
 refine wpAny_Assign_Subscript (thn (hv pins s Z H _ I h) fun r s1 ⟨v, H1, I1, rv, q1⟩ => thn (ho pins s1 Z H1 _ I1 q1) fun u s2 ⟨x, H2, I2, rx, q2⟩ => thn (hi pins s2 Z H2 _ I2 q2) fun iv s3 ⟨y, H3, I3, ry, a, H4, ex, g, q3⟩ => ?_) hs
 subst ex
 obtain rfl : u = Value.ref a := rx
 exact d_setItem hu I3 g ry rv fun s4 I4 => ⟨Z, H4, I4, q3⟩
end
theorem dk_empty {P : Program} {w : World} {H : Hp} (h : Heap) (hb : sysModules < h.objs.size) : ObjOk P w H (h.push { cls := .type "dict", data := .dict #[] }) h.objs.size (.dK []) :=
 ⟨Nat.zero_le _, beq_eq_false_iff_ne.mpr (Ne.symm (Nat.ne_of_lt hb)), [], .nil, Heap.DictOf.new h⟩
def tDNewK : TE := fun _ H Q => ∀ p, H p = none -> Q (.ref p) (upd H p (.dK []))
section
variable {X : Cx} {pos : Pos}
theorem pe_dnewK : PE X (.Dict [] [] pos) tDNewK := fun pins s Z H Q I h =>
 wpAny_Dict_empty ⟨.ref s.heap.objs.size, _, I.laid (a := s.heap.objs.size) (o := .dK []) (t' := s.toks) (fun _ _ q => Heap.get?_push_of_some _ q) (Nat.le_refl _) (dk_empty s.heap I.big), rfl, h _ (I.hok.fresh (Nat.le_refl _))⟩
end
structure M1 (X : Cx) (o : Expr) (m : Str) (apos : Pos) (e : Expr) (cpos : Pos) : Prop where
 base : attributeBase o m X.env (eval o X.env) = eval o X.env
 few : ((backTo cpos (starEach [e] X.env)).all (fun x => !x.1) && (backToKw cpos (keywordEach [] X.env)).all (fun x => x.1.isSome)
  && decide (([e] : List Expr).length + ([] : List Keyword).length + (if ([] : List Keyword).isEmpty then 0 else 1) < 30)) = true
 line : (apos.endLine == cpos.line) = true
 trees : backTo cpos (starEach [e] X.env) = [(false, eval e X.env)]
def IsD (H : Hp) (a : Addr) : Prop := (∃ kvs, Rd H a (.dK kvs)) ∨ ∃ kvs, Rd H a (.dT kvs)
theorem isD_at {X : Cx} {pins : List (Addr × Obj)} {Z : St} {H : Hp} {s : Shared} {a : Addr} (I : Inv X pins Z H s) (d : IsD H a) :
  s.TypeIs (.ref a) "dict" /\ (∀ b, Value.ref a = .ref b -> ∃ ob, s.heap.get? b = some ob /\ ob.dict = none) /\ (a == sysModules) = false := by
 rcases d with ⟨kvs, e⟩ | ⟨kvs, e⟩
 ·obtain ⟨_, hd, vs, _, dd⟩ := dk_rd I.hok e
  refine ⟨dd.typeIs, fun b q => ?_, hd⟩
  cases q
  obtain ⟨ob, _, _, h1, h2, _⟩ := dd
  exact ⟨ob, h1, h2.2.1⟩
 ·obtain ⟨_, hd, xs, _, dd⟩ := dt_rd I.hok e
  refine ⟨dd.typeIs, fun b q => ?_, hd⟩
  cases q
  obtain ⟨ob, _, _, h1, h2, _⟩ := dd
  exact ⟨ob, h1, h2.2.1⟩
section
variable {X : Cx} {pins : List (Addr × Obj)} {Z : St} {H : Hp} {s : Shared} {a : Addr} {y d : V} {u r : Value} {o : Option V} {A : Around} {E : Value -> Shared -> Prop}
theorem d_get1 {Q : Value -> Shared -> Prop} (hu : A.units + 1 < cLine) (I : Inv X pins Z H s) (g : DGet H a y o) (ry : RelV y u) (h : ∀ w' s', Inv X pins Z H s' -> RelV (o.getD .non) w' -> Q w' s') :
  wpAny (model X.prog X.w) A (call (.builtin "dict.get") [.ref a, u]) Q E s := by
 rcases g with ⟨kvs, k, e, ey, l⟩ | ⟨kvs, k, b, e, ey, eb, l⟩
 ·subst ey
  obtain ⟨z, hd, vs, rel, dd⟩ := dk_rd I.hok e
  refine call_meetsIn PySem.F.slot_dict_get dd.typeIs PySem.F.entry_dict_get (PySem.F.args_dict_get_2 _ _) (meets_dict_get (mixKind X.prog X.w) a (kV_is ry) hd) ⟨_, dd.mapOf, h _ _ (I.tok _) ?_⟩
  rw [l]
  exact (rel.val k).getD rfl
 ·subst ey
  cases (show u = Value.ref b from ry)
  obtain ⟨z, hd, xs, rel, dd⟩ := dt_rd I.hok e
  refine call_meetsIn PySem.F.slot_dict_get dd.typeIs PySem.F.entry_dict_get (PySem.F.args_dict_get_2 _ _) (meetsH_dict_get (tupleKind (mixKind X.prog X.w)) a b hd) ⟨tupleKind_room_in1 hu, k, xs, key_of I.hok eb, dd, h _ _ (I.tok _) ?_⟩
  rw [l]
  exact (rel.val k).getD rfl
end
def tDGet1 (td ty : TE) : TE := fun Z H Q => td Z H fun x H1 => ∃ a, x = .ref a /\ IsD H1 a /\ ty Z H1 fun y H2 => ∃ o, DGet H2 a y o /\ Q (o.getD .non) H2
section
variable {X : Cx} {o e f : Expr} {apos cpos : Pos} {td ty tx : TE}
theorem pe_dget1 (hu : X.A.units + 1 < cLine) (ho : PE X o td) (he : PE X e ty) (m : M1 X o "get" apos e cpos) : PE X (.Call (.Attribute o "get" apos) [e] [] cpos) (tDGet1 td ty) := by
 intro pins s Z H Q I h
 refine wpAny_Call_method m.base m.few m.line PySem.F.plainAttrs_dict PySem.F.slot_dict_get PySem.F.type_dict_get (thn (ho pins s Z H _ I h) fun u s1 ⟨x, H1, I1, rx, a, ex, d, q1⟩ => ?_)
 subst ex
 obtain rfl : u = Value.ref a := rx
 obtain ⟨t1, t2, _⟩ := isD_at I1 d
 refine ⟨t1, t2, ?_⟩
 rw [m.trees]
 refine Calls.callWith_builtin rfl (Calls.evalArgs_plain (Calls.spliced_cons (thn (he pins s1 Z H1 _ I1 q1) fun iv s2 ⟨y, H2, I2, ry, ov, g, q2⟩ => Calls.spliced_nil ?_)))
 exact d_get1 hu I2 g ry fun w' s3 I3 rw' => ⟨_, H2, I3, rw', q2⟩
end
section
variable {X : Cx} {pins : List (Addr × Obj)} {Z : St} {H : Hp} {s : Shared} {a : Addr} {kvs : List (Key × V)} {A : Around} {E : Value -> Shared -> Prop}
end
section
variable {X : Cx} {pins : List (Addr × Obj)} {Z : St} {H : Hp} {s : Shared} {a : Addr} {y : V} {u : Value} {A : Around} {E : Value -> Shared -> Prop}
end
section
variable {X : Cx}
theorem call_lenD : CallR X (.builtin "len") (fun xs H Q => ∃ a kvs, xs = [V.ref a] /\ H a = some (.dK kvs) /\ Q (.int kvs.length) H) := by
 intro pins s Z H xs us Q I r h
 obtain ⟨a, kvs, rfl, ha, q⟩ := h
 obtain ⟨u, rfl, ru⟩ := vals1 r
 cases ru
 exact d_len I (.inl ha) fun t s' I' => ⟨.int kvs.length, H, I', ⟨t, rfl⟩, q⟩
end
section
variable {κ : Type} [DecidableEq κ]
end
end L2
namespace L2
open PySem PySem.Spec PyProof.Rows
section
variable {X : Cx}
def rSplit : V -> List V -> Hp -> VK -> Prop := fun x vs H Q => ∃ a b : Str, x = .str a /\ vs = [.str b] /\ (b.length == 0) = false /\ a.length + 2 <= sizeLine /\ ∀ p, H p = none -> Q (.ref p) (upd H p (.lst ((PySem.Txt.split a b).map V.str)))
theorem vals_strs : ∀ (n : Nat) (ys : List Str), Vals (ys.map V.str) (strsFrom n ys) := by
 intro n ys
 rw [strsFrom_eq]
 have aux : ∀ (l : List (Str × Tok)), Vals ((l.map (·.1)).map V.str) (strValues l) := by
  intro l
  induction l with
  | nil => exact .nil
  | cons p r ih => exact .cons ⟨p.2, rfl⟩ ih
 have := aux (numbered n ys)
 rwa [numbered_texts] at this
theorem mt_split : MtR X "str.split" rSplit := by
 intro pins s Z H x vs v us Q I rx rv h
 obtain ⟨a, b, rfl, rfl, hb, hz, q⟩ := h
 obtain ⟨t, rfl⟩ := rx
 obtain ⟨u, rfl, ru⟩ := rv.one
 obtain ⟨t1, rfl⟩ := ru
 have q0 := q s.heap.objs.size (I.hok.fresh (Nat.le_refl _))
 have hle := PyProof.Rows.split_le a b
 cases h1 : (decide (a.length < b.length) || decide (Builtin.Str.strKind a < Builtin.Str.strKind b))
 ·cases hf : (Builtin.Str.occurrences a b 0 a.length (a.length + 1)).isEmpty
  ·have e : PySem.Txt.split a b = Builtin.Str.partsBetween a (Builtin.Str.occurrences a b 0 a.length (a.length + 1)) b.length := by
    unfold PySem.Txt.split
    rw [if_neg (ne_true_of_eq_false h1), if_neg (ne_true_of_eq_false hf)]
   rw [e] at q0 hle
   refine call_meets F.slot_str_split (typeIs_str _ _ _) F.entry_str_split (F.args_str_split_2 _ _) (meets_str_split_sep a b t t1 h1 hb hf (by omega) (by omega)) ?_
   exact ⟨.ref _, _, I.lnew (t' := _) (vals_strs s.toks _) (by rw [List.length_map]; omega), rfl, q0⟩
  ·have e : PySem.Txt.split a b = [a] := by
    unfold PySem.Txt.split
    rw [if_neg (ne_true_of_eq_false h1), if_pos hf]
   rw [e] at q0
   refine call_meets F.slot_str_split (typeIs_str _ _ _) F.entry_str_split (F.args_str_split_2 _ _) (meets_str_split_not_found a b t t1 h1 hb hf) ?_
   exact ⟨.ref _, _, I.lnew (ys := [.str a]) (t' := s.toks) (.cons ⟨t, rfl⟩ .nil) (by show 1 <= sizeLine; decide), rfl, q0⟩
 ·have e : PySem.Txt.split a b = [a] := by
   unfold PySem.Txt.split
   rw [if_pos h1]
  rw [e] at q0
  refine call_meets F.slot_str_split (typeIs_str _ _ _) F.entry_str_split (F.args_str_split_2 _ _) (meets_str_split_cannot_occur a b t t1 h1) ?_
  exact ⟨.ref _, _, I.lnew (ys := [.str a]) (t' := s.toks) (.cons ⟨t, rfl⟩ .nil) (by show 1 <= sizeLine; decide), rfl, q0⟩
theorem boolsAre_of {bs : List Bool} : ∀ {us : List Value}, Vals (bs.map V.bl) us -> LSm.BoolsAre us bs := by
 induction bs with
 | nil => intro us r; cases r; exact .nil
 | cons y r ih =>
  intro us h
  cases h with
  | cons h t =>
   cases h
   exact .cons _ (ih t)
theorem call_allL (hc : X.calm = true) : CallR X (.builtin "all") (fun xs H Q => ∃ (p : Addr) (bs : List Bool), xs = [.ref p] /\ SqL X.K H p (bs.map V.bl) /\ Q (.bl (bs.all id)) H) := by
 intro pins s Z H xs us Q I r h
 obtain ⟨p, bs, rfl, hq, q⟩ := h
 obtain ⟨u, rfl, rx⟩ := vals1 r
 cases rx
 obtain ⟨its, r', pl, hz⟩ := I.list hq
 have hb := boolsAre_of r'
 have hl := pl.isList
 have hlt : p < s.heap.objs.size := by obtain ⟨_, e, _⟩ := hl; exact Heap.lt_size e
 refine call_all_walk (wpAny_pyIter_list hl ?_)
 refine ⟨s.heap.objs.size, [s.heap.objs.size, p], [s.heap.objs.size], its.toArray.size, _, _, fun i => (bs[i]?).getD true, rfl, Walks.list (A := X.A.in1) (I.ok.hd hc) _ p (Nat.ne_of_lt hlt) its.toArray,
  ⟨⟨_, Heap.get?_push_size _ rfl, rfl, rfl⟩, hl.push _⟩, fun i v s' Q' E' hP hQ => ?_, fun h' tk hk => ?_⟩
 ·obtain ⟨b, e, rfl⟩ := hb.get i v (by simpa using hP)
  simp only [e, Option.getD_some] at hQ
  exact wpAny_truthy_bool hQ
 ·have e : ((List.range its.toArray.size).all fun i => (bs[i]?).getD true) = bs.all id := by
   rw [List.size_toArray, hb.length]; exact LSm.range_all bs
  rw [e]
  exact ⟨.bl _, H, I.kept (t' := tk) (LSm.kept_iter hk), rfl, q⟩
end
def Its (z : Str) : It := ⟨fun i _ => i < z.length, fun i H x H' => H' = H /\ ∃ c, z.cps.toList[i]? = some c /\ x = .str ⟨#[c]⟩, fun i _ => z.length <= i⟩
section
variable {X : Cx} {tg : Expr}
theorem turn_walk {P : Program} {w : World} {K : PySem.W.Frag} {x : Str} {px : Pos} (z : Str) (it : Addr) (St : Nat -> Heap -> Prop) (cl : ∀ i h, St i h -> ∃ o, h.get? it = some o /\ ∀ v, o.data ≠ .cell v)
  (fr : ∀ i h h', St i h -> (∀ o, h.get? it = some o -> h'.get? it = some o) -> St i h') (sf : ∀ (A : Around) (i : Nat) (s : Shared) (Q : Value -> Shared -> Prop) (E : Value -> Shared -> Prop), St i s.heap -> Q (.ref it) s -> wpAny (model P w) A (pyIter (.ref it)) Q E s)
  (W : ∀ A : Around, A.handled = none -> Walks P w A it [it] [it] z.cps.size (SignAt z) St) : Turn P w K (.Name x px) (Its z) [it] it (fun i h => St i h /\ i <= z.length) where
 mem := by simp
 obj := fun i h st b hb => by
  have e : b = it := by simpa using hb
  subst e
  exact cl i h st.1
 keep := fun i h h' st k => ⟨fr i h h' st.1 fun o e => k it (by simp) o e, st.2⟩
 item := by
  intro X hP hw hK hc i pins s Z H E I hf st hg
  subst hP hw hK
  obtain ⟨f0, f1, f2, f3, f4, f5⟩ := hf it (by simp)
  refine (W X.A (I.ok.hd hc)).item i s _ E hg st.1 fun v h' tk hP st' hk => ?_
  obtain ⟨c, u, e1, rfl⟩ := hP
  refine ⟨_, rfl, ?_⟩
  show wpAny _ _ (pure ()) _ _ _
  refine wpAny_pure ⟨.str ⟨#[c]⟩, H, I.turned (t' := tk) (fun b o hb e => hk b o (by simpa using hb) e) f0 f1 f3 f4 f5, ⟨u, rfl⟩, ⟨rfl, c, by simpa using e1, rfl⟩, ⟨st', hg⟩, fun b hb => (hf b hb).1⟩
 done := by
  intro X hP hw hK hc i pins s Z H E I hf st hg
  subst hP hw hK
  obtain ⟨f0, f1, f2, f3, f4, f5⟩ := hf it (by simp)
  have e : i = z.cps.size := Nat.le_antisymm st.2 hg
  subst e
  exact (W X.A (I.ok.hd hc)).done s _ E st.1 fun h' tk hk => ⟨rfl, I.turned (t' := tk) (fun b o hb e => hk b o (by simpa using hb) e) f0 f1 f3 f4 f5⟩
 self := fun A i s Q E st h => sf A i s Q E st.1 h
def iStr (te : TE) : TI := fun Z H R => te Z H fun x H1 => ∃ z : Str, x = .str z /\ R (Its z) H1
theorem pi_str {e : Expr} {te : TE} {x : Str} {px : Pos} (he : PE X e te) : PI X (.Name x px) e (iStr te) := by
 intro pins s Z H R I h
 refine thn (he pins s Z H _ I h) fun v s1 ⟨y, H1, I1, r1, q1⟩ => ?_
 obtain ⟨z, rfl, q⟩ := q1
 obtain ⟨t, rfl⟩ := r1
 have fin : ∀ (o : Obj) (St : Nat -> Heap -> Prop), Turn X.prog X.w X.K (.Name x px) (Its z) [s1.heap.objs.size] s1.heap.objs.size St -> St 0 (s1.heap.push o) -> PIE X pins Z (.Name x px) R (.ref s1.heap.objs.size) { s1 with heap := s1.heap.push o } := fun o St T st => by
  refine ⟨s1.heap.objs.size, [s1.heap.objs.size], _, _, H1, rfl, I1.kept (t' := s1.toks) fun b o e => Heap.get?_push_of_some _ e, T, st, fun b hb => ?_, q⟩
  have e : b = s1.heap.objs.size := by simpa using hb
  subst e
  exact I1.fpOk (Nat.le_refl _) (I1.hok.fresh (Nat.le_refl _))
 have cl : ∀ ty (i : Nat) (h : Heap), h.IsStrIter s1.heap.objs.size ty z t i -> ∃ o, h.get? s1.heap.objs.size = some o /\ ∀ v, o.data ≠ .cell v := fun ty i h st => by
  obtain ⟨o, e, c, d⟩ := st
  exact ⟨o, e, fun v q => by rw [d] at q; cases q⟩
 have fr : ∀ ty (i : Nat) (h h' : Heap), h.IsStrIter s1.heap.objs.size ty z t i -> (∀ o, h.get? s1.heap.objs.size = some o -> h'.get? s1.heap.objs.size = some o) -> h'.IsStrIter s1.heap.objs.size ty z t i := fun ty i h h' st k => by
  obtain ⟨o, e, r⟩ := st
  exact ⟨o, k o e, r⟩
 cases ha : z.cps.all (· < 128)
 ·exact wpAny_pyIter_wide ha (fin _ _ (turn_walk z _ _ (cl _) (fr _) (fun A i s Q E st h => wpAny_pyIter_striter_wide st h) (fun A hA => Walks.strWide hA _ z t)) ⟨⟨_, Heap.get?_push_size _ rfl, rfl, rfl⟩, Nat.zero_le _⟩)
 ·exact wpAny_pyIter_ascii ha (fin _ _ (turn_walk z _ _ (cl _) (fr _) (fun A i s Q E st h => wpAny_pyIter_striter_ascii st h) (fun A hA => Walks.strAscii hA _ z t)) ⟨⟨_, Heap.get?_push_size _ rfl, rfl, rfl⟩, Nat.zero_le _⟩)
def Ite (K : PySem.W.Frag) (a : Addr) : It :=
 ⟨fun i H => ∃ xs x, SqL K H a xs /\ xs[i]? = some x, fun i H x H' => ∃ p v, H p = none /\ x = .ref p /\ H' = upd H p (.tup [.int i, v]) /\ ∀ xs, SqL K H a xs -> xs[i]? = some v, fun i H => ∃ xs, SqL K H a xs /\ xs.length <= i⟩
theorem turn_enum {P : Program} {w : World} {K : PySem.W.Frag} {elts : List Expr} {x1} {pos : Pos} (a e it : Addr) (hne : e ≠ it) : Turn P w K (.Tuple elts x1 pos) (Ite K a) [e, it] e (fun i h => ∃ old, IsEnum h e it i old /\ h.IsListIter it a i) where
 mem := by simp
 obj := fun i h st b hb => by
  obtain ⟨old, st, si⟩ := st
  rcases List.mem_cons.mp hb with z | z
  ·subst z
   exact ⟨_, st, fun v q => by cases q⟩
  ·have e : b = it := by simpa using z
   subst e
   obtain ⟨o, e, c, d⟩ := si
   exact ⟨o, e, fun v q => by rw [d] at q; cases q⟩
 keep := fun i h h' st k => by
  obtain ⟨old, st, si⟩ := st
  exact ⟨old, k e (by simp) _ st, si.at fun o q => k it (by simp) o q⟩
 item := by
  intro X hP hw hK hc i pins s Z H E I hf st hg
  subst hP hw hK
  obtain ⟨old, st, si⟩ := st
  obtain ⟨xs, x, hq, hx⟩ := hg
  obtain ⟨its, rv, p, hz⟩ := I.list hq
  obtain ⟨u, hu, ru⟩ := rv.get hx
  have f := hf e (by simp)
  have g := hf it (by simp)
  refine wpAny_pyNext_enum_item st si p.isList (x := u) (by simpa using hu) hne fun h1 eo si1 ht hsz hk => ?_
  refine ⟨_, rfl, wpAny_letOwnedTupleGo_enum (s := { s with heap := h1, toks := s.toks + 1 }) eo fun h2 en sb => ?_⟩
  have hs1 : e ≠ s.heap.objs.size := Nat.ne_of_lt (Heap.lt_size st)
  have hs2 : it ≠ s.heap.objs.size := by obtain ⟨o, q, _⟩ := si; exact Nat.ne_of_lt (Heap.lt_size q)
  have k2 : ∀ b o, b ≠ e -> b ≠ it -> s.heap.get? b = some o -> h2.get? b = some o := fun b o n1 n2 q => (sb.2 b n1).trans (hk b o n1 n2 q)
  have fresh := I.hok.fresh (Nat.le_refl s.heap.objs.size)
  have I1 : Inv X pins Z (upd H s.heap.objs.size (.tup [.int i, x])) { s with heap := h2, toks := s.toks + 1 } := by
   refine I.step (g' := s.gens) (d' := s.drawn) (ch := [e, it]) (fun b hb => ?_) (fun b o _ _ hc q _ => ?_) (fun b o _ _ hc q _ => ?_) (fun b o hc q n => ?_) (fun b o hc q => ?_) (fun b ys q => ?_) (fun b o ys q => ?_) (fun b ps q => ?_) (fun m hm => ?_) (fun b u' q => ?_) I.bare
   ·rcases List.mem_cons.mp hb with z | z
    ·rw [z]; exact ⟨f.2.2.2.1, f.2.1, f.2.2.2.2.1, f.2.2.2.2.2⟩
    ·have z : b = it := by simpa using z
     rw [z]; exact ⟨g.2.2.2.1, g.2.1, g.2.2.2.2.1, g.2.2.2.2.2⟩
   ·exact k2 b o (fun z => hc (by simp [z])) (fun z => hc (by simp [z])) q
   ·exact ⟨o.slots, k2 b o (fun z => hc (by simp [z])) (fun z => hc (by simp [z])) q⟩
   ·rw [upd_ne (Nat.ne_of_lt (Heap.lt_size q))]; exact n
   ·exact ⟨o, k2 b o (fun z => hc (by simp [z])) (fun z => hc (by simp [z])) q⟩
   ·rw [upd_ne (ne_of_none q fresh)]; exact q
   ·rw [upd_ne (ne_of_none q fresh)]; exact q
   ·exact ⟨#[], by rw [upd_ne (ne_of_none q fresh), q]; simp⟩
   ·obtain ⟨o, es, ep, ho, r⟩ := hm
    exact ⟨o, es, ep, k2 _ o (Ne.symm f.2.1) (Ne.symm g.2.1) ho, r⟩
   ·by_cases hb : b = s.heap.objs.size
    ·subst hb
     rw [upd_same] at q; cases q
     refine ⟨by show 2 <= sizeLine; decide, [_, u], .cons ⟨_, rfl⟩ (.cons ru .nil), ⟨_, (sb.2 _ (Ne.symm hs1)).trans ht, rfl, _, rfl⟩⟩
    ·rw [upd_ne hb] at q
     refine (I.hok b u' q).stay (fun c v hc' r => k2 c v ?_ ?_ r) (fun c r => by rw [upd_ne (ne_of_none r fresh)]; exact r) fun c ys r => by rw [upd_ne (ne_of_none r fresh)]; exact r
     ·rcases hc' with z | z
      ·rw [z]; exact ne_of_none q f.1
      ·exact ne_of_none z f.1
     ·rcases hc' with z | z
      ·rw [z]; exact ne_of_none q g.1
      ·exact ne_of_none z g.1
  refine ⟨.ref s.heap.objs.size, _, I1, rfl, ⟨_, x, fresh, rfl, rfl, fun ys hy => by rw [I.list_inj hy hq]; exact hx⟩, ⟨_, en, ?_⟩, fun b hb => ?_⟩
  ·obtain ⟨o, q, r⟩ := si1
   exact ⟨o, (sb.2 it (Ne.symm hne)).trans q, r⟩
  ·have hb' := (hf b hb).1
   rcases List.mem_cons.mp hb with z | z
   ·rw [upd_ne (by rw [z]; exact hs1)]; exact hb'
   ·have z : b = it := by simpa using z
    rw [upd_ne (by rw [z]; exact hs2)]; exact hb'
 done := by
  intro X hP hw hK hc i pins s Z H E I hf st hg
  subst hP hw hK
  obtain ⟨old, st, si⟩ := st
  obtain ⟨xs, hq, hx⟩ := hg
  obtain ⟨its, rv, p, hz⟩ := I.list hq
  obtain ⟨f0, f1, f2, f3, f4, f5⟩ := hf it (by simp)
  have hl := rv.length
  exact wpAny_pyNext_enum_end (I.ok.hd hc) st si p.isList (by simp; omega) fun h' eb => ⟨rfl, I.turned (t' := s.toks) (fun b o hb e => eb b o hb e) f0 f1 f3 f4 f5⟩
 self := fun _ _ _ _ _ st h => by
  obtain ⟨old, st, si⟩ := st
  exact wpAny_pyIter_enum st h
def iEnum (K : PySem.W.Frag) (ta : TA) : TI := fun Z H R => ta Z H fun vs H1 => ∃ a xs, vs = [.ref a] /\ SqL K H1 a xs /\ R (Ite K a) H1
theorem pi_enum {a : Expr} {ta : TA} {p pos tp : Pos} {elts : List Expr} {x1} (hg : Gl X "enumerate") (hm : X.mg "enumerate" = none) (ha : PA X [a] ta) (hs : starEach [a] X.env = [(false, eval a X.env)] := by rfl) :
  PI X (.Tuple elts x1 tp) (.Call (.Name "enumerate" p) [a] [] pos) (iEnum X.K ta) := by
 intro pins s Z H R I h
 refine Call_ (ld_blt I hg hm (show bootBuiltins "enumerate" = some (.type "enumerate") by decide +kernel) (PyProof.Rows.callWith_type1 (thn (ha pos pins s Z H _ I h) fun us s1 ⟨vs, H1, I1, r1, q1⟩ => ?_) hs rfl))
 obtain ⟨l, xs, rfl, hq, q⟩ := q1
 obtain ⟨u, rfl, ru⟩ := r1.one
 cases ru
 obtain ⟨its, rv, pl, hz⟩ := I1.list hq
 refine call_enumerate_list pl.isList fun h' he hi hsz hk => ?_
 refine wpAny_pyIter_enum (s := { s1 with heap := h' }) he ?_
 refine ⟨s1.heap.objs.size + 1, [s1.heap.objs.size + 1, s1.heap.objs.size], _, _, H1, rfl, I1.kept (t' := s1.toks) hk, turn_enum l _ _ (Nat.succ_ne_self _), ⟨_, he, hi⟩, fun b hb => ?_, q⟩
 have hb' : s1.heap.objs.size <= b := by
  rcases List.mem_cons.mp hb with z | z
  ·rw [z]; exact Nat.le_succ _
  ·have z : b = s1.heap.objs.size := by simpa using z
   rw [z]; exact Nat.le_refl _
 exact I1.fpOk hb' (I1.hok.fresh hb')
end
end L2
namespace L2
open PySem PySem.Spec PyProof.Rows
theorem str_ext {x y : Str} (h : x.cps.toList = y.cps.toList) : x = y := by
 obtain ⟨a⟩ := x
 obtain ⟨b⟩ := y
 have : a = b := Array.toList_inj.mp h
 rw [this]
theorem cps_app (x y : Str) : (x ++ y).cps.toList = x.cps.toList ++ y.cps.toList := by
 show (x.cps ++ y.cps).toList = _
 simp
def joinL (c : Nat) : List (List Nat) -> List Nat
 | [] => []
 | [x] => x
 | x :: y :: r => x ++ c :: joinL c (y :: r)
theorem join_cps (c : Nat) : ∀ ps : List Str, (Str.join ⟨#[c]⟩ ps).cps.toList = joinL c (ps.map fun p => p.cps.toList)
 | [] => rfl
 | [x] => rfl
 | x :: y :: r => by
  show (x ++ ⟨#[c]⟩ ++ Str.join ⟨#[c]⟩ (y :: r)).cps.toList = x.cps.toList ++ c :: joinL c ((y :: r).map fun p => p.cps.toList)
  rw [cps_app, cps_app, join_cps c (y :: r)]
  simp
theorem app_inj {c : Nat} : ∀ {a b r s : List Nat}, c ∉ a -> c ∉ b -> a ++ c :: r = b ++ c :: s -> a = b /\ r = s
 | [], [], r, s, _, _, h => ⟨rfl, by simpa using h⟩
 | [], y :: b, r, s, _, hb, h => by
  simp at h
  exact absurd (by simp [h.1]) hb
 | x :: a, [], r, s, ha, _, h => by
  simp at h
  exact absurd (by simp [h.1]) ha
 | x :: a, y :: b, r, s, ha, hb, h => by
  simp only [List.cons_append, List.cons.injEq] at h
  obtain ⟨e1, e2⟩ := app_inj (fun z => ha (List.mem_cons_of_mem _ z)) (fun z => hb (List.mem_cons_of_mem _ z)) h.2
  exact ⟨by rw [h.1, e1], e2⟩
theorem joinL_inj {c : Nat} : ∀ {ps qs : List (List Nat)}, ps ≠ [] -> qs ≠ [] -> (∀ p ∈ ps, c ∉ p) -> (∀ q ∈ qs, c ∉ q) -> joinL c ps = joinL c qs -> ps = qs
 | [], _, h, _, _, _, _ => absurd rfl h
 | _ :: _, [], _, h, _, _, _ => absurd rfl h
 | [x], [y], _, _, _, _, h => by simp only [joinL] at h; rw [h]
 | [x], y :: z :: r, _, _, hx, _, h => by
  simp only [joinL] at h
  exact absurd (by rw [h]; simp) (hx x (by simp))
 | x :: z :: r, [y], _, _, _, hy, h => by
  simp only [joinL] at h
  exact absurd (by rw [← h]; simp) (hy y (by simp))
 | x :: x2 :: r, y :: y2 :: s, _, _, hx, hy, h => by
  simp only [joinL] at h
  obtain ⟨e1, e2⟩ := app_inj (hx x (by simp)) (hy y (by simp)) h
  have := joinL_inj (ps := x2 :: r) (qs := y2 :: s) (by simp) (by simp) (fun p hp => hx p (List.mem_cons_of_mem _ hp)) (fun q hq => hy q (List.mem_cons_of_mem _ hq)) e2
  rw [e1, this]
theorem split_join {c : Nat} {ps : List Str} (hn : ps ≠ []) (hf : ∀ p ∈ ps, c ∉ p.cps.toList) : PySem.Txt.split (Str.join ⟨#[c]⟩ ps) ⟨#[c]⟩ = ps := by
 have h1 := PySem.StrLaws.join_split (Str.join ⟨#[c]⟩ ps) ⟨#[c]⟩
 have h2 := PySem.StrLaws.split_free (Str.join ⟨#[c]⟩ ps) c
 have h3 := PyProof.Rows.split_pos (Str.join ⟨#[c]⟩ ps) ⟨#[c]⟩
 generalize PySem.Txt.split (Str.join ⟨#[c]⟩ ps) ⟨#[c]⟩ = qs at h1 h2 h3
 have h4 := congrArg (fun x : Str => x.cps.toList) h1
 simp only [join_cps] at h4
 have inj : ∀ {a b : List Str}, (a.map fun p => p.cps.toList) = (b.map fun p => p.cps.toList) -> a = b := by
  intro a
  induction a with
  | nil => intro b h; cases b with
   | nil => rfl
   | cons _ _ => cases h
  | cons x r ih =>
   intro b h
   cases b with
   | nil => cases h
   | cons y s =>
    simp only [List.map_cons, List.cons.injEq] at h
    rw [str_ext h.1, ih h.2]
 refine inj (joinL_inj (c := c) ?_ ?_ ?_ ?_ h4)
 ·intro z
  have := congrArg List.length z
  simp at this
  rw [this] at h3
  simp at h3
 ·intro z
  have := congrArg List.length z
  simp at this
  exact hn this
 ·intro p hp
  obtain ⟨q, hq, rfl⟩ := List.mem_map.mp hp
  exact h2 q hq
 ·intro p hp
  obtain ⟨q, hq, rfl⟩ := List.mem_map.mp hp
  exact hf q hq
def subL (c d : Nat) (l : List Nat) : List Nat := l.map fun x => if x = c then d else x
theorem subL_free {c d : Nat} : ∀ {l : List Nat}, c ∉ l -> subL c d l = l
 | [], _ => rfl
 | x :: r, h => by
  unfold subL
  rw [List.map_cons, if_neg (fun z => h (by simp [z]))]
  congr 1
  exact subL_free fun z => h (List.mem_cons_of_mem _ z)
theorem subL_join {c d : Nat} : ∀ {ps : List (List Nat)}, (∀ p ∈ ps, c ∉ p) -> subL c d (joinL c ps) = joinL d ps
 | [], _ => rfl
 | [x], h => subL_free (h x (by simp))
 | x :: y :: r, h => by
  simp only [joinL]
  have e1 : subL c d (x ++ c :: joinL c (y :: r)) = subL c d x ++ d :: subL c d (joinL c (y :: r)) := by simp [subL]
  rw [e1, subL_free (h x (by simp)), subL_join (ps := y :: r) fun p hp => h p (List.mem_cons_of_mem _ hp)]
theorem replace_cps (x : Str) (c d : Nat) : (PySem.Txt.replace x ⟨#[c]⟩ ⟨#[d]⟩).cps.toList = subL c d x.cps.toList := by
 rw [PySem.StrLaws.replace_one, join_cps]
 have h1 := congrArg (fun x : Str => x.cps.toList) (PySem.StrLaws.join_split x ⟨#[c]⟩)
 simp only [join_cps] at h1
 conv => rhs; rw [← h1]
 rw [subL_join]
 intro p hp
 obtain ⟨q, hq, rfl⟩ := List.mem_map.mp hp
 exact PySem.StrLaws.split_free x c q hq
theorem subL_back {c d : Nat} {l : List Nat} (h : d ∉ l) : subL d c (subL c d l) = l := by
 induction l with
 | nil => rfl
 | cons x r ih =>
  have hx : x ≠ d := fun z => h (by simp [z])
  have ih' := ih fun z => h (List.mem_cons_of_mem _ z)
  unfold subL at *
  simp only [List.map_cons]
  rw [ih']
  by_cases e : x = c
  ·subst e; simp
  ·rw [if_neg e, if_neg hx]
end L2
namespace L2
open PySem PySem.Spec PyProof.Rows
theorem thnE {α : Type} {t : Sem α} {Q Q' : α -> Shared -> Prop} {M : Model} {A : Around} {E E' : Value -> Shared -> Prop} {s : Shared} (h : wpAny M A t Q E s) (hQ : ∀ a s, Q a s -> Q' a s) (hE : ∀ a s, E a s -> E' a s) : wpAny M A t Q' E' s := wpAny_mono h hQ hE
section
variable {X : Cx} {o e : Expr} {to te : TE} {apos cpos pos p1 p2 p3 p4 p5 : Pos} {j1 j2 j3 : Nat}
def rRepl (y z : Str) : V -> Hp -> VK -> Prop := fun x H Q => ∃ a : Str, x = .str a /\ a.length + (a.length + 1) * z.length <= 16777216 /\ Q (.str (PySem.Txt.replace a y z)) H
theorem repl_core {y z : Str} (hyz : (y == z) = false) {pins : List (Addr × Obj)} {s : Shared} {Z : St} {H : Hp} {Q : VK} (I : Inv X pins Z H s)
  (ho : wpAny (model X.prog X.w) X.A (eval o X.env) (fun u s' => 1 <= s'.toks /\ EP X pins Z (fun x H1 => rRepl y z x H1 Q) u s') X.xe s)
  (hbase : attributeBase o "replace" X.env (eval o X.env) = eval o X.env := by rfl) (hline : (apos.endLine == cpos.line) = true := by rfl) :
  wpAny (model X.prog X.w) X.A (eval (.Call (.Attribute o "replace" apos) [.Constant (.str y) j1 p1, .Constant (.str z) j2 p2] [] cpos) X.env) (EP X pins Z Q) X.xe s := by
 refine wpAny_Call_method_late hbase rfl hline rfl (thn ho fun v s1 ⟨hk, x, H1, I1, r1, q1⟩ => ?_)
 obtain ⟨a, rfl, hz, q⟩ := q1
 obtain ⟨t, rfl⟩ := r1
 refine ⟨"str", "str.replace", F.plainAttrs_str, F.slot_str_replace, F.type_str_replace, typeIs_str _ _ _, (fun _ e => nomatch e), ?_⟩
 refine Calls.callWith_builtin rfl (Calls.evalArgs_plain ?_)
 refine Calls.spliced_cons (Calls.Constant_str (k := j1) (pos := p1) (Calls.spliced_cons (Calls.Constant_str (k := j2) (pos := p2) (Calls.spliced_nil ?_))))
 exact SC.replace (u := s1.toks) (v := s1.toks + 1) (Nat.ne_of_gt hk) (Nat.succ_ne_zero _) ns1 hyz hz fun t' k => ⟨.str _, H1, I1.tok _, ⟨t', rfl⟩, q⟩
theorem pe_repl_sl {y z : Str} {k : Int} (hyz : (y == z) = false) (he : PE X e te)
  (hbase : attributeBase (.Subscript e (.Slice (some (.Constant (.int k) j3 p4)) none none p3) p5) "replace" X.env (eval (.Subscript e (.Slice (some (.Constant (.int k) j3 p4)) none none p3) p5) X.env) = eval (.Subscript e (.Slice (some (.Constant (.int k) j3 p4)) none none p3) p5) X.env := by rfl)
  (hline : (apos.endLine == cpos.line) = true := by rfl) :
  PE X (.Call (.Attribute (.Subscript e (.Slice (some (.Constant (.int k) j3 p4)) none none p3) p5) "replace" apos) [.Constant (.str y) j1 p1, .Constant (.str z) j2 p2] [] cpos) (fun Z H Q => te Z H fun x H1 => ∃ w : Str, x = .str w /\ w.length <= sizeLine /\ rRepl y z (.str (PySem.Txt.slice w (some k) none)) H1 Q) := by
 intro pins s Z H Q I h
 refine repl_core hyz I ?_ hbase hline
 refine Subscript_ (thn (he pins s Z H _ I h) fun v s1 ⟨x, H1, I1, r1, w, hx, hw, q1⟩ => ?_)
 subst hx
 obtain ⟨t, rfl⟩ := r1
 refine wpAny_Slice ?_
 rw [evalPart_some]
 refine wpAny_Constant_int ?_
 rw [evalPart_none]
 refine wpAny_pure ?_
 refine wpAny_pure ?_
 have I2 : Inv X pins Z H1 { s1 with toks := s1.toks + 1 } := I1.tok _
 have I4 : Inv X pins Z H1 { s1 with toks := s1.toks + 1, heap := s1.heap.push { cls := .type "slice", data := .fields #[.int k s1.toks, .none, .none] } } := I2.kept (t' := s1.toks + 1) fun b ob q => Heap.get?_push_of_some _ q
 obtain ⟨T, id, hT, ht, hg⟩ := sl_str (X := X) pins { s1 with toks := s1.toks + 1, heap := s1.heap.push { cls := .type "slice", data := .fields #[.int k s1.toks, .none, .none] } } Z H1 (.str w) (.str w t) (.int k s1.toks) .none (some k) none s1.heap.objs.size (fun x H1 => rRepl y z x H1 Q) I4 ⟨t, rfl⟩ (Heap.IsSliceOf.new ..) (.int k _) .none ⟨w, rfl, hw, q1⟩
 have fin := tail_any (value := e) (slice := .Slice (some (.Constant (.int k) j3 p4)) none none p3) (ops := [.ref s1.heap.objs.size, .str w t]) ht hT hg (by with_unfolding_all rfl)
 exact thnE (wpAny_toks_of (n := 1) (show 1 <= s1.toks + 1 by omega) fin) (fun _ _ q => q) fun _ _ q => q.2
theorem pe_add_repl {q y z : Str} (hyz : (y == z) = false) (ho : PE X o to) (hbase : attributeBase o "replace" X.env (eval o X.env) = eval o X.env := by rfl) (hline : (apos.endLine == cpos.line) = true := by rfl) :
  PE X (.BinOp (.Constant (.str q) j3 p3) .Add (.Call (.Attribute o "replace" apos) [.Constant (.str y) j1 p1, .Constant (.str z) j2 p2] [] cpos) pos)
   (fun Z H Q => to Z H fun x H1 => rRepl y z x H1 fun v H2 => ∃ b : Str, v = .str b /\ q.length + b.length <= sizeLine /\ Q (.str (q ++ b)) H2) := by
 intro pins s Z H Q I h
 refine wpAny_BinOp (Calls.Constant_str ?_)
 have I2 : Inv X pins Z H { s with toks := s.toks + 1 } := I.tok _
 refine thn (repl_core (j1 := j1) (j2 := j2) (p1 := p1) (p2 := p2) (apos := apos) (cpos := cpos) hyz I2 (Q := fun v H2 => ∃ b : Str, v = .str b /\ q.length + b.length <= sizeLine /\ Q (.str (q ++ b)) H2)
  (thnE (wpAny_toks_of (n := 1) (show 1 <= s.toks + 1 by omega) (ho pins _ Z H _ I2 h)) (fun _ _ q => q) fun _ _ q => q.2) hbase hline) fun u s2 ⟨x, H2, I3, r, b, hx, hz, q2⟩ => ?_
 subst hx
 obtain ⟨t, rfl⟩ := r
 exact add_str (fun t' tk => ⟨.str (q ++ b), H2, I3.tok _, ⟨_, rfl⟩, q2⟩) hz
end
end L2
namespace L2
open PySem PySem.Spec PyProof.Rows
section
variable {X : Cx}
theorem pe_globE {x : Str} {v : V} {pos : Pos} (hg : Gl X x) (h : ∃ u, X.mg x = some u /\ RelV v u) (hd : (x == ("__debug__" : Str)) = false := by decide) : PE X (.Name x pos) (tC v) := by
 obtain ⟨u, e, r⟩ := h
 exact pe_glob hg e r hd
theorem eqV_refl : ∀ {x : V}, flatV x = true -> eqV x x = true
 | .non, _ => rfl
 | .bl b, _ => by simp [eqV]
 | .int b, _ => by simp [eqV]
 | .str b, _ => by simp [eqV]
theorem comp_str {caps : List (Str × Nat)} {z : Str} {te : TE} {Z : St} {H : Hp} {Q : VK} (Pv : Nat -> List V -> Hp -> Prop) (h0 : Pv 0 [] H) (hn : z.length < sizeLine)
  (hs : ∀ i c ys H, z.cps.toList[i]? = some c -> ys.length = i -> Pv i ys H -> te (capV caps Z ++ [some (.str ⟨#[c]⟩)]) H fun y H2 => ∃ m', m' < z.length - i /\ m' = z.length - (i + 1) /\ i + 1 <= z.length /\ (ys ++ [y]).length = i + 1 /\ Pv (i + 1) (ys ++ [y]) H2) (hd : ∀ ys H, ys.length = z.length -> Pv z.length ys H -> ∀ D, H D = none -> Q (.ref D) (upd H D (.lst ys))) :
  CompW (Its z) caps te Z H Q := by
 refine ⟨fun i m ys H => m = z.length - i /\ i <= z.length /\ ys.length = i /\ Pv i ys H, ⟨z.length, by simp, Nat.zero_le _, rfl, h0⟩, ?_⟩
 rintro i m ys H ⟨rfl, hi, hl, p⟩
 by_cases hlt : i < z.length
 ·refine .inr ⟨hlt, by omega, fun x H' y => ?_⟩
  obtain ⟨e, c, e1, rfl⟩ := y
  subst e
  exact hs i c ys _ e1 hl p
 ·have e : i = z.length := by omega
  subst e
  exact .inl ⟨Nat.le_refl _, hd ys H hl p⟩
theorem forW_enum {K : PySem.W.Frag} {a : Addr} {xs : List V} {g : TG} {tb : TS} {D : Ends} {Z : St} {H : Hp} (Pv : Nat -> St -> Hp -> Prop) (h0 : Pv 0 Z H) (hl : ∀ i Z H, i <= xs.length -> Pv i Z H -> SqL K H a xs)
  (hs : ∀ i x p Z H, xs[i]? = some x -> H p = none -> Pv i Z H -> g (.ref p) Z (upd H p (.tup [.int i, x])) fun Z2 H2 => tb { D with nx := Pv (i + 1), ct := Pv (i + 1), bk := D.nx } Z2 H2) (hd : ∀ Z H, Pv xs.length Z H -> D.nx Z H) : ForW (Ite K a) g tb D Z H := by
 refine ⟨fun i m Z H => m = xs.length - i /\ i <= xs.length /\ Pv i Z H, ⟨xs.length, by simp, Nat.zero_le _, h0⟩, ?_⟩
 rintro i m Z H ⟨rfl, hi, p⟩
 have q := hl i Z H hi p
 by_cases hlt : i < xs.length
 ·refine .inr ⟨⟨xs, xs[i], q, by simp [hlt]⟩, Pv (i + 1), fun Z' H' p' => ⟨xs.length - (i + 1), by omega, rfl, hlt, p'⟩, fun x H' y => ?_⟩
  obtain ⟨pp, v, h1, rfl, rfl, h2⟩ := y
  exact hs i v pp Z H (h2 xs q) h1 p
 ·have e : i = xs.length := by omega
  subst e
  exact .inl ⟨⟨xs, q, Nat.le_refl _⟩, hd Z H p⟩
end
def Adv (H H' : Hp) (p : Addr) : Prop := ∀ b o, H b = some o -> b ≠ p -> H' b = some o
theorem Adv.refl (H : Hp) (p : Addr) : Adv H H p := fun _ _ h _ => h
theorem Adv.trans {H H1 H2 : Hp} {p : Addr} (a : Adv H H1 p) (b : Adv H1 H2 p) : Adv H H2 p := fun c o h n => b c o (a c o h n) n
theorem Adv.same {H H1 H2 : Hp} {p : Addr} (a : Adv H H1 p) (b : Same H1 H2) : Adv H H2 p := fun c o h n => b c o (a c o h n)
theorem Same.adv {H H1 H2 : Hp} {p : Addr} (a : Same H H1) (b : Adv H1 H2 p) : Adv H H2 p := fun c o h n => b c o (a c o h) n
theorem Adv.upd {H : Hp} {p : Addr} {o : HO} : Adv H (L2.upd H p o) p := fun b u h n => by rw [upd_ne n]; exact h
end L2
namespace L2
open PySem PySem.Spec PyProof.Rows
section
variable {X : Cx}
theorem comp_gen {sc csc : Scope} {N : List Str} {elt iter : Expr} {x : Str} {px pos ppos : Pos} {caps : List (Str × Nat)} {wi : TI} {te : TE} (ck : CompOk sc csc N x caps) (hi : PI X (.Name x px) iter wi)
  (he : ∀ C s2 H2 fp, PE (compCx X (caps.map (·.1) ++ [x]) csc C s2 H2 fp) elt te) (hc : X.calm = true) (hsc : X.env.scope = sc) (hXN : X.N = N) (hs : ∀ x, foldedSetIterable iter X.env x = pure x)
  {pins : List (Addr × Obj)} {s : Shared} {Z : St} {H : Hp} {Q : VK} (I : Inv X pins Z H s) (h : tComp caps wi te Z H Q) (use : Option (Value -> Sem Unit)) (QQ : Value -> Shared -> Prop)
  (fin : ∀ (s2 : Shared) (H2 : Hp) (D C : Addr) (ys : List V) (H' : Hp) (s4 : Shared) (m : Str -> Option Value), Inv X pins Z H2 s2 -> s2.heap.objs.size <= C -> s2.heap.objs.size <= D -> D ≠ C -> s4.heap.Ns C m ->
   (∀ h', Heap.SameBut C s4.heap h' -> Inv X pins Z (upd H' D (.lst ys)) { s4 with heap := h' }) -> H' C = none -> Q (.ref D) (upd H' D (.lst ys)) ->
   compPost (model X.prog X.w) X.A X.xe use QQ (.ref D) C (.ok .next) s4) :
  wpAny (model X.prog X.w) X.A (comprehension (.ListComp elt [⟨.Name x px, iter, [], 0⟩] csc pos) csc X.env ppos (newList []) false (eval iter X.env) use) QQ X.xe s := by
 subst hsc hXN
 have cellsOk : ∀ p ∈ csc.names, p.2 = .free -> ∃ c, X.env.cells.lookup p.1 = some c := fun p hp e => I.ok.has p.1 (.inl (ck.free p hp e))
 refine wpAny_comprehension_free (use := use) rfl hs (closureFor_eq cellsOk) ck.kind ck.loc (thn (hi pins s Z H _ I h) fun v s1 h1 => thn h1 fun itv s2 h2 => ?_)
 obtain ⟨it, fp, tn, J, H2, e, I2, T, st2, f2, W, ⟨m0, w0⟩, turn⟩ := h2
 subst e
 refine wpAny_newObj_type (wpAny_newFunctionEnv ck.cell (by intro y hy; simp at hy) (fun h4 hns4 hsb4 => ?_) ck.kind)
 dsimp only at hns4 hsb4 ⊢
 generalize hD : s2.heap.objs.size = D at hns4 hsb4 ⊢
 generalize hH2 : s2.heap.push { cls := .type "list", dict := none, data := .seq ([] : List Value).toArray } = G at hns4 hsb4 ⊢
 have hGs : G.objs.size = D + 1 := by rw [← hH2, Heap.size_push, hD]
 rw [hGs] at hns4 hsb4 ⊢
 have lt2 : ∀ b o, s2.heap.get? b = some o -> b < D := fun b o e => hD ▸ Heap.lt_size e
 have old : ∀ b o, s2.heap.get? b = some o -> b ≠ D + 1 /\ b ≠ D := fun b o e => ⟨nlt1 (lt2 b o e), nlt (lt2 b o e)⟩
 have leD : s2.heap.objs.size <= D := Nat.le_of_eq hD
 have leD1 : s2.heap.objs.size <= D + 1 := Nat.le_succ_of_le leD
 have keep4 : ∀ b o, s2.heap.get? b = some o -> h4.get? b = some o := fun b o e => hsb4.extBut b o (old b o e).1 (Heap.get?_push_of_some _ (hH2 ▸ Heap.get?_push_of_some _ e))
 have hDo : h4.get? D = some { cls := .type "list", data := .seq ([] : List Value).toArray 0 } := by
  refine hsb4.extBut D _ ns1 (Heap.get?_push_of_some _ ?_)
  rw [← hH2, ← hD]
  exact Heap.get?_push_size _ rfl
 have fps : ∀ b ∈ fp, b < s2.heap.objs.size := fun b hb => by
  obtain ⟨o, e, _⟩ := T.obj _ _ st2 b hb
  exact Heap.lt_size e
 have I4 : ∀ t4, Inv (compCx X (caps.map (·.1) ++ [x]) csc (D + 1) s2 H2 fp) [] (capV caps Z ++ [none]) H2 { s2 with heap := h4, toks := t4 } := fun t4 => comp_start (m0 := fun x => [].reverse.lookup x) I2 ck f2 fps leD1 keep4 hns4
 have cellsLt : ∀ y c, (clFold X.env csc.names []).lookup y = some c -> c < D := fun y c e => by
  obtain ⟨v, o, ho, _⟩ := I2.cell y c (clFold_in _ _ cellsOk (fun y c h => by simp at h) y c e)
  exact lt2 c o ho
 have fsLt : ∀ b ∈ frs X.stack, b < D := fun b hb => by
  obtain ⟨_, o, ho, _⟩ := I2.stack.mem hb
  exact lt2 b o ho
 have fpC : ∀ {pl : List (Addr × Obj)} {H' : Hp}, (∀ p ∈ pl, p.1 = D) -> (∀ b ∈ fp, H' b = none) -> ∀ b ∈ fp, FpOk (compCx X (caps.map (·.1) ++ [x]) csc (D + 1) s2 H2 fp) pl H' b := fun {pl H'} hpl hn b hb => by
  have hb' : b < D := hD ▸ fps b hb
  refine ⟨hn b hb, nlt1 hb', ?_, .inl hb, fun y c e => ?_, fun p hp => ?_⟩
  ·intro z
   rcases List.mem_cons.mp (I2.stkSub b z) with e | e
   ·exact (f2 b hb).2.1 e
   ·exact (f2 b hb).2.2.1 e
  ·exact (f2 b hb).2.2.2.2.1 y c (clFold_in _ _ cellsOk (fun y c h => by simp at h) y c e)
  ·have : p.1 = D := hpl p (by simpa using hp)
   rw [this]; exact fun z => nlt hb' z.symm
 have loop : ∀ t4, codeAny (model X.prog X.w) X.A (.compLoop (.ListComp elt [⟨.Name x px, iter, [], 0⟩] csc pos) 0 (.ref it) (.ref D) (compEnvC csc (clFold X.env csc.names []) (D + 1) X.env))
   (compPost (model X.prog X.w) X.A X.xe use QQ (.ref D) (D + 1)) { s2 with heap := h4, toks := t4 } := by
  intro t4
  refine compLoop_go (fun n s' => ∃ (i : Nat) (ys : List V) (its : List Value) (k : Nat) (Z' : St) (H' : Hp), Inv (compCx X (caps.map (·.1) ++ [x]) csc (D + 1) s2 H2 fp) [(D, { cls := .type "list", data := .seq its.toArray k })] Z' H' s' /\ tn i s'.heap /\ (∀ b ∈ fp, H' b = none) /\ Vals ys its /\ ys.length <= sizeLine /\ W i n ys H' /\ (∃ z, Z' = capV caps Z ++ [z])) ?_ m0 ?_
  ·rintro n s3 ⟨i, ys, its, k, Z3, H3, I3, st3, fr3, hv, hz, w3, z3, rfl⟩
   have pl1 : ∀ p ∈ [((D, { cls := .type "list", data := .seq its.toArray k }) : Addr × Obj)], p.1 = D := fun p hp => by rw [List.mem_singleton.mp hp]
   rcases turn i n ys H3 w3 with ⟨stop, qn⟩ | ⟨go, hlt, step⟩
   ·refine wpAny_mono (T.done (compCx X (caps.map (·.1) ++ [x]) csc (D + 1) s2 H2 fp) rfl rfl rfl hc i _ s3 _ H3 (fun _ _ => False) I3 (fpC pl1 fr3) st3 stop) (fun r s4 ⟨hr, I4'⟩ => ?_) fun _ _ f => f.elim
    subst hr
    obtain ⟨m, hn, _⟩ := id I4'.loc
    have pD := I4'.pin (D, { cls := .type "list", data := .seq its.toArray k }) (by simp)
    exact fin s2 H2 D (D + 1) ys H3 s4 m I2 leD1 leD ns1 hn (fun h' hs' => comp_done I2 I4' f2 leD1 leD ns1 hs' hv hz pD.1 pD.2.1) I4'.free (qn D pD.2.1)
   ·refine wpAny_mono (T.item (compCx X (caps.map (·.1) ++ [x]) csc (D + 1) s2 H2 fp) rfl rfl rfl hc i _ s3 _ H3 (fun _ _ => False) I3 (fpC pl1 fr3) st3 go) (fun r s4 ⟨u, hr, h4'⟩ => ?_) fun _ _ f => f.elim
    subst hr
    refine wpAny_mono h4' (fun _ s4 ⟨xv, H5, I5, r5, y5, st5, fr5⟩ => ?_) fun _ _ f => f.elim
    have I5' := I5.pinned (fpC pl1 fr5) (T.obj _ _ st5)
    have hiN : (caps.map (·.1) ++ [x])[caps.length]? = some x := by rw [List.getElem?_append_right (by simp)]; simp
    refine wpAny_mono (pg_name (X := compCx X (caps.map (·.1) ++ [x]) csc (D + 1) s2 H2 fp) (i := caps.length) ck.nd hiN (.inl (lookup_relabel_local ck.tg)) (.inr (lookup_relabel_local ck.tg)) _ s4 _ H5 xv u _ I5' r5 (show gName caps.length xv _ H5 (fun Z6 H6 => Z6 = capV caps Z ++ [some xv] /\ H6 = H5) from ⟨?_, rfl⟩)) (fun _ s6 ⟨Z6, H6, I6, hZ, hH⟩ => ?_) fun _ _ f => f.elim
    ·rw [List.set_append_right _ _ (by rw [capV_len]; exact Nat.le_refl _), capV_len, Nat.sub_self]; rfl
    subst hZ hH
    refine wpAny_mono (he (D + 1) s2 H2 fp _ s6 _ H6 _ I6 (step xv H6 y5)) (fun w7 s7 ⟨y, H7, I7, r7, m', hm, w8⟩ => ?_) fun _ _ f => f.elim
    have pD := I7.pin (D, { cls := .type "list", data := .seq its.toArray k }) (by simp)
    have hll := hv.length
    refine call_meets F.slot_list_append ⟨_, pD.1, rfl⟩ F.entry_list_append (F.args_list_append_2 _ _) (PySem.list_append D its.toArray k w7 (by rw [List.size_toArray]; omega)) ⟨pD.1, ?_⟩
    have q := PySem.IsL.update pD.1 (·.push w7)
    have hpush : its.toArray.push w7 = (its ++ [w7]).toArray := by simp
    rw [hpush] at q
    obtain ⟨k', q⟩ : ∃ k', (s7.heap.update D (Obj.mapSeq (·.push w7))).get? D = some { cls := .type "list", data := .seq (its ++ [w7]).toArray k' } := ⟨_, q⟩
    have I7u : Inv (compCx X (caps.map (·.1) ++ [x]) csc (D + 1) s2 H2 fp) (pinsAt fp s4.heap) _ H7 s7 := I7.pins_of fun p hp => I7.pin p (List.mem_append_right _ (List.mem_append_right _ hp))
    have pfp : ∀ p ∈ pinsAt fp s4.heap, p.1 < D := fun p hp => hD ▸ fps p.1 (of_pinsAt hp).1
    have I8 := I7u.turned (h' := s7.heap.update D (Obj.mapSeq (·.push w7))) (t' := s7.toks) (it := D) (fun b o hb e => (Heap.get?_update_other s7.heap _ (Ne.symm hb)).trans e) pD.2.1 ns1 (.inr leD) (fun y c e => nlt (cellsLt y c e)) (fun p hp => nlt (pfp p (by simpa using hp)))
    refine ⟨m', hm, i + 1, ys ++ [y], its ++ [w7], k', _, H7, I8.pins_of fun p hp => ?_, T.keep _ _ _ st5 fun b hb o e => (I8.pin (b, o) (List.mem_append_right _ (mem_pinsAt hb e))).1, fun b hb => ?_, hv.append (.cons r7 .nil), ?_, w8, _, rfl⟩
    ·rw [List.mem_singleton.mp hp]
     exact ⟨q, pD.2.1, pD.2.2.1, pD.2.2.2.1, fun v => by simp⟩
    ·obtain ⟨o, e, d⟩ := T.obj _ _ st5 b hb
     exact (I8.pin (b, o) (List.mem_append_right _ (mem_pinsAt hb e))).2.1
    ·rw [List.length_append, List.length_singleton]; omega
  ·refine ⟨0, [], [], 0, _, H2, (I4 t4).pins_of fun p hp => ?_, T.keep _ _ _ st2 fun b hb o e => keep4 b o e, fun b hb => (f2 b hb).1, .nil, Nat.zero_le _, w0, _, rfl⟩
   rw [List.mem_singleton.mp hp]
   refine ⟨hDo, I2.hok.fresh leD, ns1, fun z => absurd (fsLt D z) (Nat.lt_irrefl _), fun v => by simp⟩
 exact codeAny_compStart_list (loop _) (T.self _ 0 _ _ _ (T.keep _ _ _ st2 fun b hb o e => keep4 b o e) (loop _))
theorem ps_setC {i : Nat} {y : Str} {sc csc : Scope} {N : List Str} {elt iter : Expr} {x : Str} {px pos pos' spos : Pos} {caps : List (Str × Nat)} {wi : TI} {te : TE} (hN : X.N.Nodup) (hiy : X.N[i]? = some y) (hy : Loc X.env.scope y) (ck : CompOk sc csc N x caps) (hi : PI X (.Name x px) iter wi)
  (he : ∀ C s2 H2 fp, PE (compCx X (caps.map (·.1) ++ [x]) csc C s2 H2 fp) elt te) (hc : X.calm = true := by rfl) (hsc : X.env.scope = sc := by rfl) (hXN : X.N = N := by rfl) (hs : ∀ x, foldedSetIterable iter X.env x = pure x := by intro _; rfl)
  (hsw : swapsWith (.ListComp elt [⟨.Name x px, iter, [], 0⟩] csc pos) (some (.Name y pos')) spos.line X.env = pure true := by rfl) (hf : X.fn y = true ∨ X.env.scope.names.lookup y = some .local := by first | exact .inl rfl | exact .inr rfl | assumption) :
  PS X (.Assign [.Name y pos'] (.ListComp elt [⟨.Name x px, iter, [], 0⟩] csc pos) spos) (tAsg (tComp caps wi te) (gName i)) := by
 intro pins s Z H D I h
 rw [exec_Assign_Name_used _ _ _ _ hsw]
 refine wpAny_bind (wpAny_standAt (wpAny_bind ?_))
 show wpAny _ X.A (do let _ ← comprehension (.ListComp elt [⟨.Name x px, iter, [], 0⟩] csc pos) csc X.env _ (newList []) false (eval iter X.env) (some (assign (.Name y pos') X.env))) _ _ s
 refine wpAny_bind (wpAny_mono (comp_gen ck hi he hc hsc hXN hs I h (some (assign (.Name y pos') X.env)) (fun _ s' => SP X pins D .next s') ?_) (fun _ s' hq => wpAny_pure (wpAny_pure hq)) fun _ _ e => e)
 intro s2 H2 Dl C ys H' s4 m I2 leC leD nDC hns hI hfC q
 have I0 : Inv X pins Z (upd H' Dl (.lst ys)) s4 := hI s4.heap (Heap.SameBut.refl _ _)
 have hCD : C ≠ Dl := Ne.symm nDC
 have hHC : upd H' Dl (.lst ys) C = none := by rw [upd_ne hCD]; exact hfC
 have hCL : C ≠ X.env.locals := fun z => by have := I2.lt; rw [← z] at this; exact absurd this (Nat.not_lt.mpr leC)
 have hCfs : C ∉ X.fs := I2.nofs leC
 have pinlt : ∀ p ∈ X.pn ++ pins, p.1 ≠ C := fun p hp z => by
  have := (I2.pin p hp).1
  have := Heap.lt_size this
  rw [z] at this
  exact absurd this (Nat.not_lt.mpr leC)
 have celllt : ∀ z c, X.env.cells.lookup z = some c -> c ≠ C := fun z c e w => by
  obtain ⟨v, o, ho, _⟩ := I2.cell z c e
  have := Heap.lt_size ho
  rw [w] at this
  exact absurd this (Nat.not_lt.mpr leC)
 obtain ⟨oC, es, ep, eC, dC, rC⟩ := id hns
 have I1 : Inv X (pins ++ [(C, oC)]) Z (upd H' Dl (.lst ys)) s4 := I0.pins_of fun p hp => by
  rcases List.mem_append.mp hp with hp | hp
  ·exact I0.pin p (List.mem_append_right _ hp)
  ·rw [List.mem_singleton.mp hp]
   exact ⟨eC, hHC, hCL, hCfs, fun v z => by rw [dC] at z; cases z⟩
 refine thn (pg_name (i := i) (pos := pos') hN hiy hy hf (pins ++ [(C, oC)]) s4 Z _ (.ref Dl) (.ref Dl) D.nx I1 rfl q) fun _ s5 ⟨Z5, H5, I5, q5⟩ => ?_
 have pC := I5.pin (C, oC) (by simp)
 refine ⟨m, ⟨oC, es, ep, pC.1, dC, rC⟩, fun h' hs' => ?_⟩
 have I6 : Inv X pins Z5 H5 s5 := I5.pins_of fun p hp => I5.pin p (List.mem_append_right _ (List.mem_append_left _ hp))
 exact ⟨Z5, H5, I6.turned (h' := h') (t' := s5.toks) (it := C) (fun b o hb e => (hs'.2 b hb).trans e) pC.2.1 hCL (.inr (Nat.le_trans I2.sz leC)) celllt pinlt, q5⟩
theorem pe_fldK {K : PySem.W.Frag} {e : Expr} {ta : TE} {f : Str} {pos : Pos} (he : PE X e ta) (hb : attributeBase e f X.env (eval e X.env) = eval e X.env) (hK : X.K = K := by rfl) : PE X (.Attribute e f pos) (tFld K ta f) := by
 subst hK; exact pe_fld he hb
theorem ix_listK {K : PySem.W.Frag} (hK : X.K = K) : IxR X (rIxL K) := by subst hK; exact ix_list
theorem ix_tupK {K : PySem.W.Frag} (hK : X.K = K) : IxR X (rIxT K) := by subst hK; exact ix_tup
end
end L2
namespace L2
open PySem PySem.Spec PyProof.Rows
section
variable {X : Cx}
def strsOf : List Expr -> Option (List Str)
 | [] => some []
 | e :: r => match e with
  | .Constant (.str x) _ _ => (strsOf r).map (x :: ·)
  | _ => none
theorem pa_strs : ∀ {es : List Expr} {xs : List Str}, strsOf es = some xs -> PA X es (fun _ H Q => Q (xs.map V.str) H)
 | [], xs, h => by
  have e : xs = [] := (Option.some.inj h).symm
  subst e
  exact pa_nil
 | e :: r, xs, h => by
  unfold strsOf at h
  split at h
  ·rename_i x j p
   obtain ⟨ys, h1, h2⟩ := Option.map_eq_some_iff.mp h
   subst h2
   exact pa_cons (te := tC (.str x)) (t := fun _ H Q => Q (ys.map V.str) H) pe_str (pa_strs h1) rfl
  ·cases h
end
end L2
namespace L2
open PySem PySem.Spec PyProof.Rows
section
variable {X : Cx} {pins : List (Addr × Obj)} {Z : St} {H : Hp} {s : Shared}
end
end L2
namespace L2
open PySem PySem.Spec PyProof.Rows
section
variable {X : Cx} {pins : List (Addr × Obj)} {Z : St} {H : Hp} {s : Shared}
def PlainV (xs ys : List V) : Prop := ∀ x ∈ xs, ∀ y ∈ ys, flatV x = true /\ flatV y = true /\ eqV x y = decide (x = y)
theorem plain_items {xs ys : List V} {is js : List Value} {A : Around} (p : PlainV xs ys) (r1 : Vals xs is) (r2 : Vals ys js) :
  ∀ j (h1 : j < is.toArray.size) (h2 : j < js.toArray.size), SeqAt.EqAt A s is.toArray[j] js.toArray[j] ((fun j => decide (xs[j]? = ys[j]?)) j) := by
 intro j h1 h2
 have l1 := r1.length
 have l2 := r2.length
 have j1 : j < xs.length := by simpa [l1] using h1
 have j2 : j < ys.length := by simpa [l2] using h2
 have e1 := List.getElem?_eq_getElem j1
 have e2 := List.getElem?_eq_getElem j2
 obtain ⟨u1, g1, q1⟩ := r1.get e1
 obtain ⟨u2, g2, q2⟩ := r2.get e2
 have g1' : is.toArray[j] = u1 := by simpa [List.getElem?_eq_some_iff] using (List.getElem?_eq_some_iff.mp g1).2
 have g2' : js.toArray[j] = u2 := by simpa [List.getElem?_eq_some_iff] using (List.getElem?_eq_some_iff.mp g2).2
 rw [g1', g2']
 obtain ⟨f1, f2, f3⟩ := p _ (List.getElem_mem j1) _ (List.getElem_mem j2)
 have := eqAt_V (A := A) (s := s) q1 q2 f1 f2
 rw [f3] at this
 have e : decide (xs[j]? = ys[j]?) = decide (xs[j] = ys[j]) := by rw [e1, e2]; simp
 show SeqAt.EqAt A s u1 u2 (decide (xs[j]? = ys[j]?))
 rw [e]
 exact this
theorem all_same {xs ys : List V} (h : xs.length = ys.length) : ((List.range xs.length).all fun j => decide (xs[j]? = ys[j]?)) = decide (xs = ys) := by
 rw [Bool.eq_iff_iff, List.all_eq_true, decide_eq_true_eq]
 constructor
 ·intro z
  refine List.ext_getElem? fun j => ?_
  by_cases hj : j < xs.length
  ·simpa using z j (List.mem_range.mpr hj)
  ·rw [List.getElem?_eq_none (by omega), List.getElem?_eq_none (by omega)]
 ·intro z j _
  rw [z]; simp
def rNeLs (K : PySem.W.Frag) : R2 := fun x y H Q => ∃ a b xs ys, x = .ref a /\ y = .ref b /\ SqL K H a xs /\ SqL K H b ys /\ PlainV xs ys /\ Q (.bl (!decide (xs = ys))) H
theorem op_neLs (hu : X.A.units < cLine) : OpR X (compareOp .NotEq) (rNeLs X.K) := by
 intro pins s Z H x y v u Q I rx ry h
 obtain ⟨a, b, xs, ys, rfl, rfl, ha, hb, hp, q⟩ := h
 cases rx
 cases ry
 obtain ⟨is, r1, p1, _⟩ := I.list ha
 obtain ⟨js, r2, p2, _⟩ := I.list hb
 obtain ⟨o1, n1, e1, c1, _, d1⟩ := p1
 obtain ⟨o2, n2, e2, c2, _, d2⟩ := p2
 have l1 := r1.length
 have l2 := r2.length
 by_cases hl : xs.length = ys.length
 ·refine PySem.SeqAt.RcNeAt.lists (e := fun j => decide (xs[j]? = ys[j]?)) ⟨o1, e1, c1, n1, d1⟩ ⟨o2, e2, c2, n2, d2⟩ (by simp [← l1, ← l2, hl]) hu (plain_items hp r1 r2) _ _ _ _ ?_
  have z : is.toArray.size = xs.length := by simp [← l1]
  rw [z, all_same hl]
  exact ⟨.bl _, H, I, rfl, q⟩
 ·refine PySem.SeqAt.RcNeAt.lists_lengths ⟨o1, e1, c1, n1, d1⟩ ⟨o2, e2, c2, n2, d2⟩ (by simpa [← l1, ← l2] using hl) hu _ _ _ _ ?_
  rw [decide_eq_false (fun z => hl (by rw [z]))] at q
  exact ⟨.bl true, H, I, rfl, q⟩
theorem plain_ints {α β : Type} (f : α -> Int) (g : β -> Int) (xs : List α) (ys : List β) : PlainV (xs.map fun x => V.int (f x)) (ys.map fun y => V.int (g y)) := by
 intro x hx y hy
 obtain ⟨a, _, rfl⟩ := List.mem_map.mp hx
 obtain ⟨b, _, rfl⟩ := List.mem_map.mp hy
 refine ⟨rfl, rfl, ?_⟩
 show (f a == g b) = _
 rw [Bool.eq_iff_iff]
 simp
theorem plain_strs (xs ys : List Str) : PlainV (xs.map V.str) (ys.map V.str) := by
 intro x hx y hy
 obtain ⟨a, _, rfl⟩ := List.mem_map.mp hx
 obtain ⟨b, _, rfl⟩ := List.mem_map.mp hy
 refine ⟨rfl, rfl, ?_⟩
 show (a == b) = _
 rw [Bool.eq_iff_iff]
 simp
end
end L2
namespace L2
open PySem PySem.Spec PyProof.Rows
section
variable {X : Cx} {pins : List (Addr × Obj)} {Z : St} {H : Hp} {s : Shared}
end
end L2
namespace L2
open PySem PySem.Spec PyProof.Rows
def AlikeR (K : PySem.W.Frag) (H : Hp) : Nat -> V -> V -> Prop
 | 0, x, y => x = y /\ (flatV x = true ∨ ∃ a, x = .ref a)
 | n + 1, x, y => (x = y /\ (flatV x = true ∨ ∃ a, x = .ref a)) ∨ ∃ a b xs ys, x = .ref a /\ y = .ref b /\ ((SqL K H a xs /\ SqL K H b ys) ∨ (SqT K H a xs /\ SqT K H b ys)) /\ xs.length = ys.length /\ ∀ (j : Nat) (x y : V), xs[j]? = some x -> ys[j]? = some y -> AlikeR K H n x y
section
variable {X : Cx} {pins : List (Addr × Obj)} {Z : St} {H : Hp} {s : Shared}
theorem alikeR_items {n : Nat} {xs ys : List V} {is js : List Value} {A : Around} (ih : ∀ (x y : V) (u v : Value), RelV x u -> RelV y v -> AlikeR X.K H n x y -> SeqAt.EqAt A s u v true) (r1 : Vals xs is) (r2 : Vals ys js) (h : ∀ (j : Nat) (x y : V), xs[j]? = some x -> ys[j]? = some y -> AlikeR X.K H n x y) :
  ∀ j (h1 : j < is.toArray.size) (h2 : j < js.toArray.size), SeqAt.EqAt A s is.toArray[j] js.toArray[j] ((fun _ => true) j) := by
 intro j h1 h2
 have l1 := r1.length
 have l2 := r2.length
 have j1 : j < xs.length := by simpa [l1] using h1
 have j2 : j < ys.length := by simpa [l2] using h2
 obtain ⟨u1, g1, q1⟩ := r1.get (List.getElem?_eq_getElem j1)
 obtain ⟨u2, g2, q2⟩ := r2.get (List.getElem?_eq_getElem j2)
 have g1' : is.toArray[j] = u1 := by simpa [List.getElem?_eq_some_iff] using (List.getElem?_eq_some_iff.mp g1).2
 have g2' : js.toArray[j] = u2 := by simpa [List.getElem?_eq_some_iff] using (List.getElem?_eq_some_iff.mp g2).2
 rw [g1', g2']
 exact ih _ _ _ _ q1 q2 (h j _ _ (List.getElem?_eq_getElem j1) (List.getElem?_eq_getElem j2))
theorem same_eq {A : Around} {x : V} {u v : Value} (rx : RelV x u) (ry : RelV x v) (h : flatV x = true ∨ ∃ a, x = .ref a) : SeqAt.EqAt A s u v true := by
 rcases h with f | ⟨a, rfl⟩
 ·have := eqAt_V (A := A) (s := s) rx ry f f
  rwa [eqV_refl f] at this
 ·cases rx
  cases ry
  exact SeqAt.EqAt.same _
theorem alikeR_eq (I : Inv X pins Z H s) : ∀ (n : Nat) (A : Around) (x y : V) (u v : Value), A.units + n < cLine -> RelV x u -> RelV y v -> AlikeR X.K H n x y -> SeqAt.EqAt A s u v true
 | 0, A, x, y, u, v, _, rx, ry, ⟨e, f⟩ => by
  subst e
  exact same_eq rx ry f
 | n + 1, A, x, y, u, v, hu, rx, ry, h => by
  rcases h with ⟨e, f⟩ | ⟨a, b, xs, ys, rfl, rfl, hs, hl, hj⟩
  ·subst e
   exact same_eq rx ry f
  ·cases rx
   cases ry
   by_cases ne : a = b
   ·subst ne; exact SeqAt.EqAt.same _
   have ih := fun x y u v => alikeR_eq I n A.in1 x y u v (by show A.units + 1 + n < cLine; omega)
   rcases hs with ⟨h1, h2⟩ | ⟨h1, h2⟩
   ·obtain ⟨is, r1, p1, _⟩ := I.list h1
    obtain ⟨js, r2, p2, _⟩ := I.list h2
    obtain ⟨o1, n1, e1, c1, _, d1⟩ := p1
    obtain ⟨o2, n2, e2, c2, _, d2⟩ := p2
    have sz : is.toArray.size = js.toArray.size := by simp [← r1.length, ← r2.length, hl]
    have := SeqAt.EqAt.of_refs ne (SeqAt.RcAt.lists ⟨o1, e1, c1, n1, d1⟩ ⟨o2, e2, c2, n2, d2⟩ sz (by omega) (alikeR_items ih r1 r2 hj))
    have z : ((List.range is.toArray.size).all fun _ => true) = true := List.all_eq_true.mpr fun _ _ => rfl
    rwa [z] at this
   ·obtain ⟨is, r1, p1, _⟩ := I.tuple h1
    obtain ⟨js, r2, p2, _⟩ := I.tuple h2
    obtain ⟨o1, e1, c1, n1, d1⟩ := p1
    obtain ⟨o2, e2, c2, n2, d2⟩ := p2
    have := SeqAt.EqAt.of_refs ne (SeqAt.RcAt.tuples ⟨o1, e1, c1, n1, d1⟩ ⟨o2, e2, c2, n2, d2⟩ (by omega) (alikeR_items ih r1 r2 hj))
    have z : (((List.range (min is.toArray.size js.toArray.size)).all fun _ => true) && is.toArray.size == js.toArray.size) = true := by simp [← r1.length, ← r2.length, hl]
    rwa [z] at this
def rNeR (K : PySem.W.Frag) (n : Nat) : R2 := fun x y H Q => ∃ a b xs ys, x = .ref a /\ y = .ref b /\ ((SqL K H a xs /\ SqL K H b ys) ∨ (SqT K H a xs /\ SqT K H b ys)) /\ xs.length = ys.length /\ (∀ (j : Nat) (x y : V), xs[j]? = some x -> ys[j]? = some y -> AlikeR K H n x y) /\ Q (.bl false) H
theorem op_neR (n : Nat) (hu : X.A.units + (n + 1) < cLine) : OpR X (compareOp .NotEq) (rNeR X.K n) := by
 intro pins s Z H x y v u Q I rx ry h
 obtain ⟨a, b, xs, ys, rfl, rfl, hs, hl, hj, q⟩ := h
 cases rx
 cases ry
 have ih := fun x y u v => alikeR_eq I n X.A.in1 x y u v (by show X.A.units + 1 + n < cLine; omega)
 rcases hs with ⟨ha, hb⟩ | ⟨ha, hb⟩
 ·obtain ⟨is, r1, p1, _⟩ := I.list ha
  obtain ⟨js, r2, p2, _⟩ := I.list hb
  obtain ⟨o1, n1, e1, c1, _, d1⟩ := p1
  obtain ⟨o2, n2, e2, c2, _, d2⟩ := p2
  refine PySem.SeqAt.RcNeAt.lists (e := fun _ => true) ⟨o1, e1, c1, n1, d1⟩ ⟨o2, e2, c2, n2, d2⟩ (by simp [← r1.length, ← r2.length, hl]) (by omega) (alikeR_items ih r1 r2 hj) _ _ _ _ ?_
  have z : ((List.range is.toArray.size).all fun _ => true) = true := List.all_eq_true.mpr fun _ _ => rfl
  rw [z]
  exact ⟨.bl false, H, I, rfl, q⟩
 ·obtain ⟨is, r1, p1, _⟩ := I.tuple ha
  obtain ⟨js, r2, p2, _⟩ := I.tuple hb
  obtain ⟨o1, e1, c1, n1, d1⟩ := p1
  obtain ⟨o2, e2, c2, n2, d2⟩ := p2
  refine PySem.SeqAt.RcNeAt.tuples (e := fun _ => true) ⟨o1, e1, c1, n1, d1⟩ ⟨o2, e2, c2, n2, d2⟩ (by omega) (alikeR_items ih r1 r2 hj) _ _ _ _ ?_
  have z : (((List.range (min is.toArray.size js.toArray.size)).all fun _ => true) && is.toArray.size == js.toArray.size) = true := by simp [← r1.length, ← r2.length, hl]
  rw [z]
  exact ⟨.bl false, H, I, rfl, q⟩
end
end L2
namespace PySem
namespace F
theorem nolen_lri : typeLookup (.type "list_reverseiterator") "__len__" = pure none := by rw [typeLookup_type, builtinLookup_eq_fast]; kernel_rfl
theorem hint_lri : typeLookup (.type "list_reverseiterator") "__length_hint__" = pure (some (.builtin "list_reverseiterator.__length_hint__")) := by rw [typeLookup_type, builtinLookup_eq_fast]; kernel_rfl
end F
section
variable {prog : Program} {w : World} {A : Around} {s : Shared} {R : Result -> Shared -> Prop}
variable {I : Addr} {fp wr : List Addr} {G : Array GenState -> Array GenState -> Prop} {n : Nat} {P : Nat -> Value -> Prop} {St : Nat -> Shared -> Prop}
theorem extend_lri (W : WalksS prog w A.in1 I fp wr G n P St) (hT : ∀ i s, St i s -> s.TypeIs (.ref I) "list_reverseiterator") (S : Addr) (res : Value) (c₀ : Nat) (hst : St 0 s) (hSf : S ∉ fp) (hI : I ∈ fp)
  (hS : s.heap.get? S = some { cls := .type "list", data := .seq #[] c₀ })
  (hR : ∀ s' acc' c', Moved (S :: wr) G s s' -> s'.heap.get? S = some { cls := .type "list", dict := none, data := .seq acc' c', slots := #[] } -> ItemsOf P acc' n -> R (.ok (.ret res)) s') (hn : n <= sizeLine) :
  wpAny (model prog w) A.in1 (Builtin.List.listExtendWith (.ref S) (.ref I) res)
   (fun fin s' => match fin with | .done f => R (.ok f) s' | .again c' => c'.quiet = true /\ codeAny (model prog w) A c' R s') (fun e s' => R (.error e) s') s := by
 have hSI : S ≠ I := fun e => hSf (e ▸ hI)
 unfold Builtin.List.listExtendWith
 refine wpAny_bind (wpAny_typeOf (hT 0 _ hst) ?_)
 have h1 : Builtin.List.listSameRef (.ref S) (.ref I) = false := by simp [Builtin.List.listSameRef, hSI]
 rw [if_neg (by rw [h1]; decide)]
 refine wpAny_bind (W.self 0 _ _ _ hst ?_)
 refine wpAny_bind (wpAny_holding ?_)
 unfold Builtin.List.listLengthHint
 refine wpAny_bind (wpAny_specialOf (hT 0 _ hst) F.nolen_lri ?_)
 show wpAny _ A.in1 (specialOf (Value.ref I) (Str.ofString "__length_hint__") >>= _) _ _ _
 refine wpAny_bind (wpAny_specialOf (hT 0 _ hst) F.hint_lri ?_)
 (generalize hid : ("list_reverseiterator.__length_hint__" : String) = id0; (fail_if_success (clear hid id0)); wp_delta; rw [show splitId id0 = some ("list_reverseiterator", "__length_hint__") from by subst hid; decide +kernel]; subst hid)
 refine wpAny_bind (wpAny_isInstance (b := true) (hT 0 _ hst) (by rw [isSubtype_type]; kernel_rfl) ?_)
 refine wpAny_pure ?_
 rw [if_neg (by decide)]
 refine wpAny_pure ⟨plainId_quiet F.plain_extend_loop _, codeAny_extend_loopS W hn _ hSf _ n 0 _ _ _ rfl (Nat.zero_le _) hst hS (ItemsOf.nil P) fun s' acc' c' hm hS' hacc => ?_⟩
 exact hR s' acc' c' hm hS' hacc
theorem init_lri (W : WalksS prog w A.in1 I fp wr G n P St) (hT : ∀ i s, St i s -> s.TypeIs (.ref I) "list_reverseiterator") (S : Addr) (hst : St 0 s) (hSf : S ∉ fp) (hI : I ∈ fp)
  (hS : s.heap.get? S = some { cls := .type "list", data := .seq #[] })
  (hR : ∀ s' acc' c', Moved (S :: wr) G s s' -> s'.heap.get? S = some { cls := .type "list", dict := none, data := .seq acc' c', slots := #[] } -> ItemsOf P acc' n -> R (.ok (.ret .none)) s') (hn : n <= sizeLine) :
  wpAny (model prog w) A.in1 (Builtin.«list.__init__» ⟨[.ref S, .ref I], []⟩)
   (fun fin s' => match fin with | .done f => R (.ok f) s' | .again c' => c'.quiet = true /\ codeAny (model prog w) A c' R s') (fun e s' => R (.error e) s') s := by
 show wpAny _ A.in1 (Builtin.List.listItems (.ref S) >>= fun old => Builtin.List.listUpdate (.ref S) (fun _ => #[]) >>= fun _ => letGo old.toList.reverse >>= fun _ => Builtin.List.listExtendWith (.ref S) (.ref I) .none) _ _ s
 refine wpAny_bind ?_
 unfold Builtin.List.listItems
 refine wpAny_bind (wpAny_seqItems hS rfl (wpAny_pure ?_))
 show wpAny _ A.in1 (updateSeq S (fun _ => #[]) >>= fun _ => letGo (#[] : Array Value).toList.reverse >>= fun _ => Builtin.List.listExtendWith (.ref S) (.ref I) .none) _ _ s
 refine wpAny_bind (wpAny_updateSeq hS rfl ?_)
 have hS₂ := Heap.get?_update_self (Obj.mapSeq (fun _ => (#[] : Array Value))) hS rfl
 have oth : ∀ b o, b ≠ S -> s.heap.get? b = some o -> (s.heap.update S (Obj.mapSeq (fun _ => (#[] : Array Value)))).get? b = some o :=
  fun b o hb e => (Heap.get?_update_other _ _ (Ne.symm hb)).trans e
 refine wpAny_bind (wpAny_letGo ?_)
 refine extend_lri (hn := hn) W hT S .none _ (W.frame 0 s _ s.toks hst (Nat.le_refl _) fun b hb o e => oth b o (fun h => hSf (h ▸ hb)) e) hSf hI hS₂ fun s' acc' c' hm hS' hacc => ?_
 exact hR s' acc' c' (Moved.trans W.gtrans ((Moved.refl W.grefl).then_heap (Nat.le_refl _) fun b o hb e => oth b o (fun h => hb (h ▸ List.mem_cons_self)) e) hm) hS' hacc
end
section
variable {prog : Program} {w : World} {A : Around} {E : Value -> Shared -> Prop} {s : Shared}
theorem call_list_lri {I l : Addr} {items : Array Value} {Q : Value -> Shared -> Prop} (hh : A.handled = none) (hne : l ≠ I) (hi : s.heap.IsRevIter I l ((items.size : Int) - 1)) (hl : s.heap.IsList l items) (hn : items.size <= sizeLine)
  (hQ : ∀ h' tk acc' c', (∀ b o, b ≠ I -> s.heap.get? b = some o -> h'.get? b = some o) -> h'.get? s.heap.objs.size = some { cls := .type "list", dict := none, data := .seq acc' c', slots := #[] } ->
   ItemsOf (fun i v => items[items.size - 1 - i]? = some v) acc' items.size -> Q (.ref s.heap.objs.size) { s with heap := h', toks := tk }) :
  wpAny (model prog w) A (call (.type "list") [.ref I]) Q E s := by
 have W := (Walks.listRev (prog := prog) (w := w) (A := A.in1.in1) hh I l hne items).toS
 have lI : I < s.heap.objs.size := by obtain ⟨_, e, _⟩ := hi; exact Heap.lt_size e
 have ll : l < s.heap.objs.size := by obtain ⟨_, e, _⟩ := hl; exact Heap.lt_size e
 have hSf : s.heap.objs.size ∉ [I, l] := fun z => by
  rcases List.mem_cons.mp z with e | e
  ·exact Nat.ne_of_gt lI e
  ·exact Nat.ne_of_gt ll (List.mem_singleton.mp e)
 have hst : (0 : Nat) <= items.size /\ s.heap.IsRevIter I l ((items.size : Int) - 1 - ((0 : Nat) : Int)) /\ s.heap.IsList l items := ⟨Nat.zero_le _, by simpa using hi, hl⟩
 refine callType_codes (Q₁ := fun obj s₁ => obj = .ref s.heap.objs.size /\ s₁ = { s with heap := s.heap.push { cls := .type "list", data := .seq #[] } }) F.called_list (F.typeCall_list_1 _) F.entry_list_init
  (code_list_new _ ⟨rfl, rfl⟩) fun obj s₁ h₁ => ?_
 obtain ⟨rfl, rfl⟩ := h₁
 have hS : (s.heap.push { cls := .type "list", data := .seq #[] }).get? s.heap.objs.size = some { cls := .type "list", data := .seq #[] } := Heap.get?_push_size _ rfl
 refine ⟨⟨_, hS, rfl⟩, F.args_list_init_2 _ _, init_lri (A := A.in1) (hn := hn) W (fun i s st => st.2.1.typeIs) _ (W.frame 0 s _ s.toks hst (Nat.le_refl _) fun b _ o e => Heap.get?_push_of_some _ e) hSf (by simp) hS fun s' acc' c' hm hS' hacc => ?_⟩
 rw [Moved.eq_with hm]
 refine ⟨rfl, hQ s'.heap s'.toks acc' c' (fun b o hb e => ?_) hS' hacc⟩
 refine hm.heap b o (fun hmem => ?_) (Heap.get?_push_of_some _ e)
 rcases List.mem_cons.mp hmem with z | z
 ·exact absurd (Heap.lt_size e) (by rw [z]; exact Nat.lt_irrefl _)
 ·exact hb (List.mem_singleton.mp z)
end
end PySem
namespace L2
open PySem PySem.Spec PyProof.Rows
theorem Inv.turnedL {X : Cx} {pins : List (Addr × Obj)} {Z : St} {H : Hp} {s : Shared} {h' : Heap} {t' : Nat} {ch : List Addr} (I : Inv X pins Z H s) (k : ∀ b o, b ∉ ch -> s.heap.get? b = some o -> h'.get? b = some o) (hn : ∀ b ∈ ch, H b = none)
  (hL : ∀ b ∈ ch, b ≠ X.env.locals) (h1 : ∀ b ∈ ch, b ∈ X.ex ∨ X.s₀.heap.objs.size <= b) (h2 : ∀ b ∈ ch, ∀ x c, X.env.cells.lookup x = some c -> c ≠ b) (h3 : ∀ b ∈ ch, ∀ p ∈ X.pn ++ pins, p.1 ≠ b) :
  Inv X pins Z H { s with heap := h', toks := t' } := by
 have nit : ∀ b u, H b = some u -> b ∉ ch := fun b u e z => by rw [hn b z] at e; cases e
 refine I.step (g' := s.gens) (d' := s.drawn) (ch := ch) (fun b hb => ⟨h1 b hb, hL b hb, h2 b hb, h3 b hb⟩) (fun b o _ _ hc e _ => k b o hc e) (fun b o _ _ hc e _ => ⟨o.slots, k b o hc e⟩) (fun _ _ _ _ n => n)
  (fun b o hc e => ⟨o, k b o hc e⟩) (fun _ _ e => e) (fun _ _ _ e => e) (fun b ps e => ⟨#[], by rw [e]; simp⟩) (fun m hm => ?_) (fun b u e => ?_) I.bare
 ·obtain ⟨o, es, ep, ho, r⟩ := hm
  exact ⟨o, es, ep, k _ o (fun z => hL _ z rfl) ho, r⟩
 ·refine (I.hok b u e).stay (fun c v hc q => k c v ?_ q) (fun _ q => q) fun _ _ q => q
  rcases hc with z | z
  ·rw [z]; exact nit b u e
  ·exact nit c _ z
def Itz (K : PySem.W.Frag) (a b : Addr) : It :=
 ⟨fun i H => ∃ xs ys x y, SqL K H a xs /\ SqL K H b ys /\ xs[i]? = some x /\ ys[i]? = some y,
  fun i H x H' => ∃ p v u, H p = none /\ x = .ref p /\ H' = upd H p (.tup [v, u]) /\ (∀ xs, SqL K H a xs -> xs[i]? = some v) /\ ∀ ys, SqL K H b ys -> ys[i]? = some u,
  fun i H => ∃ xs ys, SqL K H a xs /\ SqL K H b ys /\ (xs.length <= i ∨ ys.length <= i)⟩
theorem turn_zip {P : Program} {w : World} {K : PySem.W.Frag} {elts : List Expr} {x1} {pos : Pos} (a b z TI TO i1 i2 : Addr) (D : ZipApart z TI TO i1 i2 a b) :
  Turn P w K (.Tuple elts x1 pos) (Itz K a b) [z, TI, TO, i1, i2] z (fun i h => ∃ v u, IsZip h z TI TO .none /\ IsPair h TI (.ref i1) (.ref i2) /\ IsPair h TO v u /\ h.IsListIter i1 a i /\ h.IsListIter i2 b i) where
 mem := by simp
 obj := fun i h st c hc => by
  obtain ⟨v, u, hz, hI, hO, h1, h2⟩ := st
  simp only [List.mem_cons, List.not_mem_nil, or_false] at hc
  rcases hc with e | e | e | e | e
  ·subst e; exact ⟨_, hz, fun v q => by cases q⟩
  ·subst e; exact ⟨_, hI, fun v q => by cases q⟩
  ·subst e; exact ⟨_, hO, fun v q => by cases q⟩
  ·subst e; obtain ⟨o, e, c, d⟩ := h1; exact ⟨o, e, fun v q => by rw [d] at q; cases q⟩
  ·subst e; obtain ⟨o, e, c, d⟩ := h2; exact ⟨o, e, fun v q => by rw [d] at q; cases q⟩
 keep := fun i h h' st k => by
  obtain ⟨v, u, hz, hI, hO, h1, h2⟩ := st
  exact ⟨v, u, k z (by simp) _ hz, k TI (by simp) _ hI, k TO (by simp) _ hO, h1.at fun o q => k i1 (by simp) o q, h2.at fun o q => k i2 (by simp) o q⟩
 item := by
  intro X hP hw hK hc i pins s Z H E I hf st hg
  subst hP hw hK
  obtain ⟨v0, u0, hz, hI, hO, h1, h2⟩ := st
  obtain ⟨xs, ys, x, y, hq1, hq2, hx, hy⟩ := hg
  obtain ⟨is, r1, p1, z1⟩ := I.list hq1
  obtain ⟨js, r2, p2, z2⟩ := I.list hq2
  obtain ⟨u, hu, ru⟩ := r1.get hx
  obtain ⟨v, hv, rv⟩ := r2.get hy
  have fz := hf z (by simp)
  have fI := hf TI (by simp)
  have fO := hf TO (by simp)
  have f1 := hf i1 (by simp)
  have f2 := hf i2 (by simp)
  refine wpAny_pyNext_zip_item D hz hI hO h1 h2 p1.isList p2.isList (x := u) (y := v) (by simpa using hu) (by simpa using hv) fun g1 gz gO ga gb gT hsz hk => ?_
  refine ⟨_, rfl, wpAny_letOwnedTupleGo_zip (s := { s with heap := g1 }) gz fun g2 en sb => ?_⟩
  have lz : z ≠ s.heap.objs.size := Nat.ne_of_lt (Heap.lt_size hz)
  have lI : TI ≠ s.heap.objs.size := Nat.ne_of_lt (Heap.lt_size hI)
  have lO : TO ≠ s.heap.objs.size := Nat.ne_of_lt (Heap.lt_size hO)
  have l1 : i1 ≠ s.heap.objs.size := by obtain ⟨o, q, _⟩ := h1; exact Nat.ne_of_lt (Heap.lt_size q)
  have l2 : i2 ≠ s.heap.objs.size := by obtain ⟨o, q, _⟩ := h2; exact Nat.ne_of_lt (Heap.lt_size q)
  have k2 : ∀ c o, c ∉ [z, TI, TO, i1, i2] -> s.heap.get? c = some o -> g2.get? c = some o := fun c o n q => by
   simp only [List.mem_cons, List.not_mem_nil, or_false, not_or] at n
   exact (sb.2 c n.1).trans (hk c o n.1 n.2.2.1 n.2.2.2.1 n.2.2.2.2 q)
  have fresh := I.hok.fresh (Nat.le_refl s.heap.objs.size)
  have I1 : Inv X pins Z (upd H s.heap.objs.size (.tup [x, y])) { s with heap := g2 } := by
   refine I.step (g' := s.gens) (d' := s.drawn) (t' := s.toks) (ch := [z, TI, TO, i1, i2]) (fun b hb => ?_) (fun b o _ _ hc q _ => ?_) (fun b o _ _ hc q _ => ?_) (fun b o hc q n => ?_) (fun b o hc q => ?_) (fun b ys q => ?_) (fun b o ys q => ?_) (fun b ps q => ?_) (fun m hm => ?_) (fun b u' q => ?_) I.bare
   ·have f := hf b hb
    exact ⟨f.2.2.2.1, f.2.1, f.2.2.2.2.1, f.2.2.2.2.2⟩
   ·exact k2 b o hc q
   ·exact ⟨o.slots, k2 b o hc q⟩
   ·rw [upd_ne (Nat.ne_of_lt (Heap.lt_size q))]; exact n
   ·exact ⟨o, k2 b o hc q⟩
   ·rw [upd_ne (ne_of_none q fresh)]; exact q
   ·rw [upd_ne (ne_of_none q fresh)]; exact q
   ·exact ⟨#[], by rw [upd_ne (ne_of_none q fresh), q]; simp⟩
   ·obtain ⟨o, es, ep, ho, r⟩ := hm
    refine ⟨o, es, ep, k2 _ o (fun n => ?_) ho, r⟩
    exact (hf _ n).2.1 rfl
   ·by_cases hb : b = s.heap.objs.size
    ·subst hb
     rw [upd_same] at q; cases q
     refine ⟨by show 2 <= sizeLine; decide, [u, v], .cons ru (.cons rv .nil), ⟨_, (sb.2 _ (Ne.symm lz)).trans gT, rfl, _, rfl⟩⟩
    ·rw [upd_ne hb] at q
     refine (I.hok b u' q).stay (fun c v hc' r => k2 c v (fun n => ?_) r) (fun c r => by rw [upd_ne (ne_of_none r fresh)]; exact r) fun c ys r => by rw [upd_ne (ne_of_none r fresh)]; exact r
     have n0 := (hf c n).1
     rcases hc' with e | e
     ·rw [e] at n0; rw [n0] at q; cases q
     ·rw [n0] at e; cases e
  refine ⟨.ref s.heap.objs.size, _, I1, rfl, ⟨_, x, y, fresh, rfl, rfl, fun zs hs => by rw [I.list_inj hs hq1]; exact hx, fun zs hs => by rw [I.list_inj hs hq2]; exact hy⟩, ⟨u, v, en, ?_, ?_, ?_, ?_⟩, fun c hc => ?_⟩
  ·exact (sb.2 TI D.TIz).trans (hk _ _ D.TIz D.TITO D.TIi1 D.TIi2 hI)
  ·exact (sb.2 TO D.TOz).trans gO
  ·obtain ⟨o, q, r⟩ := ga
   exact ⟨o, (sb.2 i1 D.i1z).trans q, r⟩
  ·obtain ⟨o, q, r⟩ := gb
   exact ⟨o, (sb.2 i2 D.i2z).trans q, r⟩
  ·have hb' := (hf c hc).1
   simp only [List.mem_cons, List.not_mem_nil, or_false] at hc
   rw [upd_ne]
   ·exact hb'
   ·rcases hc with e | e | e | e | e <;> rw [e] <;> assumption
 done := by
  intro X hP hw hK hc i pins s Z H E I hf st hg
  subst hP hw hK
  obtain ⟨v0, u0, hz, hI, hO, h1, h2⟩ := st
  obtain ⟨xs, ys, hq1, hq2, hx⟩ := hg
  obtain ⟨is, r1, p1, z1⟩ := I.list hq1
  obtain ⟨js, r2, p2, z2⟩ := I.list hq2
  have e1 := r1.length
  have e2 := r2.length
  refine wpAny_pyNext_zip_end (I.ok.hd hc) D hz hI hO h1 h2 p1.isList p2.isList (by rcases hx with h | h; · left; simp; omega
                                                                                    ·right; simp; omega) fun h' eb => ⟨rfl, ?_⟩
  refine I.turnedL (t' := s.toks) (ch := [z, TI, TO, i1, i2]) (fun b o hb e => ?_) (fun b hb => (hf b hb).1) (fun b hb => (hf b hb).2.1) (fun b hb => (hf b hb).2.2.2.1) (fun b hb => (hf b hb).2.2.2.2.1) fun b hb => (hf b hb).2.2.2.2.2
  simp only [List.mem_cons, List.not_mem_nil, or_false, not_or] at hb
  exact eb b o hb.1 hb.2.2.1 hb.2.2.2.1 hb.2.2.2.2 e
 self := fun _ _ _ _ _ st h => by
  obtain ⟨v, u, hz, hI, hO, h1, h2⟩ := st
  exact wpAny_pyIter_zip hz h
theorem zip_apart {n l m : Nat} (h : l < n) (h' : m < n) : ZipApart (n + 4) (n + 2) (n + 3) n (n + 1) l m := by
 constructor <;> (intro e; have e : (_ : Nat) = _ := e; omega)
section
variable {X : Cx}
def iZip (K : PySem.W.Frag) (ta : TA) : TI := fun Z H R => ta Z H fun vs H1 => ∃ a b xs ys, vs = [.ref a, .ref b] /\ SqL K H1 a xs /\ SqL K H1 b ys /\ R (Itz K a b) H1
theorem pi_zip {a b : Expr} {ta : TA} {p pos tp : Pos} {elts : List Expr} {x1} (hg : Gl X "zip") (hm : X.mg "zip" = none) (ha : PA X [a, b] ta) (hs : starEach [a, b] X.env = (false, eval a X.env) :: starEach [b] X.env := by rfl) (hs2 : (backTo pos (starEach [b] X.env)).any (·.1) = false := by rfl) :
  PI X (.Tuple elts x1 tp) (.Call (.Name "zip" p) [a, b] [] pos) (iZip X.K ta) := by
 intro pins s Z H R I h
 refine Call_ (ld_blt I hg hm (show bootBuiltins "zip" = some (.type "zip") by decide +kernel) (PyProof.Rows.callWith_type1 (thn (ha pos pins s Z H _ I h) fun us s1 ⟨vs, H1, I1, r1, q1⟩ => ?_) hs hs2))
 obtain ⟨l, m, xs, ys, rfl, hq1, hq2, q⟩ := q1
 obtain ⟨u, v, rfl, ru, rv⟩ := r1.two
 cases ru
 cases rv
 obtain ⟨is, _, p1, _⟩ := I1.list hq1
 obtain ⟨js, _, p2, _⟩ := I1.list hq2
 refine call_zip_2 p1.isList p2.isList fun h' hz hI hO h1 h2 hsz hk => ?_
 refine wpAny_pyIter_zip (s := { s1 with heap := h' }) hz ?_
 have ll : l < s1.heap.objs.size := by obtain ⟨_, e, _⟩ := p1.isList; exact Heap.lt_size e
 have lm : m < s1.heap.objs.size := by obtain ⟨_, e, _⟩ := p2.isList; exact Heap.lt_size e
 refine ⟨s1.heap.objs.size + 4, [s1.heap.objs.size + 4, s1.heap.objs.size + 2, s1.heap.objs.size + 3, s1.heap.objs.size, s1.heap.objs.size + 1], _, _, H1, rfl, I1.kept (t' := s1.toks) hk, turn_zip l m _ _ _ _ _ (zip_apart ll lm), ⟨_, _, hz, hI, hO, h1, h2⟩, fun b hb => ?_, q⟩
 have hb' : s1.heap.objs.size <= b := by
  simp only [List.mem_cons, List.not_mem_nil, or_false] at hb
  rcases hb with e | e | e | e | e <;> rw [e]
  ·exact Nat.le_add_right _ _
  ·exact Nat.le_add_right _ _
  ·exact Nat.le_add_right _ _
  ·exact Nat.le_refl _
  ·exact Nat.le_add_right _ _
 exact I1.fpOk hb' (I1.hok.fresh hb')
theorem forW_zip {K : PySem.W.Frag} {a b : Addr} {xs ys : List V} {g : TG} {tb : TS} {D : Ends} {Z : St} {H : Hp} (Pv : Nat -> St -> Hp -> Prop) (h0 : Pv 0 Z H) (hl : ∀ i Z H, i <= xs.length -> i <= ys.length -> Pv i Z H -> SqL K H a xs /\ SqL K H b ys)
  (hs : ∀ i x y p Z H, xs[i]? = some x -> ys[i]? = some y -> H p = none -> Pv i Z H -> g (.ref p) Z (upd H p (.tup [x, y])) fun Z2 H2 => tb { D with nx := Pv (i + 1), ct := Pv (i + 1), bk := D.nx } Z2 H2)
  (hd : ∀ i Z H, (i = xs.length ∨ i = ys.length) -> i <= xs.length -> i <= ys.length -> Pv i Z H -> D.nx Z H) : ForW (Itz K a b) g tb D Z H := by
 refine ⟨fun i m Z H => m = xs.length - i /\ i <= xs.length /\ i <= ys.length /\ Pv i Z H, ⟨xs.length, by simp, Nat.zero_le _, Nat.zero_le _, h0⟩, ?_⟩
 rintro i m Z H ⟨rfl, hi, hj, p⟩
 obtain ⟨q1, q2⟩ := hl i Z H hi hj p
 by_cases h1 : i < xs.length
 ·by_cases h2 : i < ys.length
  ·refine .inr ⟨⟨xs, ys, xs[i], ys[i], q1, q2, by simp [h1], by simp [h2]⟩, Pv (i + 1), fun Z' H' p' => ⟨xs.length - (i + 1), by omega, rfl, h1, h2, p'⟩, fun x H' y => ?_⟩
   obtain ⟨pp, v, u, e1, rfl, rfl, e2, e3⟩ := y
   exact hs i v u pp Z H (e2 xs q1) (e3 ys q2) e1 p
  ·exact .inl ⟨⟨xs, ys, q1, q2, .inr (by omega)⟩, hd i Z H (.inr (by omega)) hi hj p⟩
 ·exact .inl ⟨⟨xs, ys, q1, q2, .inl (by omega)⟩, hd i Z H (.inl (by omega)) hi hj p⟩
theorem vals_rev {xs : List V} {is : List Value} {acc : Array Value} (r : Vals xs is) (hi : ItemsOf (fun i v => is.toArray[is.toArray.size - 1 - i]? = some v) acc is.toArray.size) : Vals xs.reverse acc.toList := by
 have e : acc.toList = is.reverse := by
  apply List.ext_getElem?
  intro i
  have hz : acc.size = is.length := by have := hi.1; simpa using this
  by_cases hlt : i < is.length
  ·have hi' : i < acc.size := by rw [hz]; exact hlt
   have h2 := hi.2 i acc[i] (by simp [hi'])
   rw [List.getElem?_reverse hlt]
   have h2 : is[is.length - 1 - i]? = some acc[i] := by simpa using h2
   rw [h2]
   simp [hi']
  ·rw [List.getElem?_eq_none (by simp; omega), List.getElem?_eq_none (by simp; omega)]
 rw [e]
 clear e hi
 induction r with
 | nil => exact .nil
 | cons h t ih =>
  rw [List.reverse_cons, List.reverse_cons]
  exact ih.append (.cons h .nil)
def tListRev (K : PySem.W.Frag) (ta : TA) : TE := fun Z H Q => ta Z H fun vs H1 => ∃ l xs, vs = [.ref l] /\ SqL K H1 l xs /\ ∀ r, H1 r = none -> Q (.ref r) (upd H1 r (.lst xs.reverse))
theorem pe_listRev {a : Expr} {ta : TA} {p pos p2 pos2 : Pos} (hc : X.calm = true) (hg : Gl X "list") (hm : X.mg "list" = none) (hg2 : Gl X "reversed") (hm2 : X.mg "reversed" = none) (ha : PA X [a] ta)
  (hs : starEach [.Call (.Name "reversed" p2) [a] [] pos2] X.env = [(false, eval (.Call (.Name "reversed" p2) [a] [] pos2) X.env)] := by rfl) (hs2 : starEach [a] X.env = [(false, eval a X.env)] := by rfl) :
  PE X (.Call (.Name "list" p) [.Call (.Name "reversed" p2) [a] [] pos2] [] pos) (tListRev X.K ta) := by
 intro pins s Z H Q I h
 refine Call_ (ld_blt I hg hm (show bootBuiltins "list" = some (.type "list") by decide +kernel) (PyProof.Rows.callWith_type1 ?_ hs rfl))
 rw [hs]
 show wpAny _ _ (spliced [(false, eval (.Call (.Name "reversed" p2) [a] [] pos2) X.env)]) _ _ s
 refine Calls.spliced_cons ?_
 refine Call_ (ld_blt I hg2 hm2 (show bootBuiltins "reversed" = some (.type "reversed") by decide +kernel) (PyProof.Rows.callWith_type1 (thn (ha pos2 pins s Z H _ I h) fun us s1 ⟨vs, H1, I1, r1, q1⟩ => ?_) hs2 rfl))
 obtain ⟨l, xs, rfl, hq, q⟩ := q1
 obtain ⟨u, rfl, ru⟩ := r1.one
 cases ru
 obtain ⟨is, rv, pl, hz⟩ := I1.list hq
 refine call_reversed_list pl.isList (Calls.spliced_nil ?_)
 have ll : l < s1.heap.objs.size := by obtain ⟨_, e, _⟩ := pl.isList; exact Heap.lt_size e
 refine call_list_lri (I.ok.hd hc) (Nat.ne_of_lt ll) ⟨_, Heap.get?_push_size _ rfl, rfl, rfl⟩ (pl.isList.push _) (by have := rv.length; simp; omega) fun h' tk acc c kp e hi => ?_
 have sz : (s1.heap.push (revObj l ((is.toArray.size : Int) - 1))).objs.size = s1.heap.objs.size + 1 := Heap.size_push ..
 have hlen : xs.length <= sizeLine := hz
 have k2 : ∀ b u, s1.heap.get? b = some u -> h'.get? b = some u := fun b u eb => kp b u (Nat.ne_of_lt (Heap.lt_size eb)) (Heap.get?_push_of_some _ eb)
 have hp : s1.heap.objs.size <= (s1.heap.push (revObj l ((is.toArray.size : Int) - 1))).objs.size := by rw [sz]; exact Nat.le_add_right _ _
 refine ⟨.ref _, _, I1.laid (t' := tk) (o := .lst xs.reverse) k2 hp (show ObjOk X.prog X.w _ h' _ (.lst xs.reverse) from ⟨by rw [List.length_reverse]; exact hlen, acc.toList, c, vals_rev rv hi, by simpa using e⟩), rfl, q _ (I1.hok.fresh hp)⟩
end
end L2
namespace K32
open PySem L2
set_option hygiene false
local macro_rules | `(tactic| walk_at "i") => `(tactic| (intro vs H Q E h; repeat (first | (obtain ⟨rfl, _⟩ := h; exact rfl) | (obtain ⟨_, h⟩ := h))); (intro cdv A outer s H vs Q E hr h; refine at_body ?_))
local macro_rules | `(tactic| walk_at "0") => `(tactic| (intro _ _ _ _ _ _ us hl; obtain rfl := ls0 hl; rfl))
local macro_rules | `(tactic| walk_at "1") => `(tactic| (intro _ _ _ _ _ _ us hl; obtain ⟨_, rfl⟩ := ls1 hl; rfl))
local macro_rules | `(tactic| walk_at "2") => `(tactic| (intro _ _ _ _ _ _ us hl; obtain ⟨_, _, rfl⟩ := ls2 hl; rfl))
local macro_rules | `(tactic| walk_at "3") => `(tactic| (intro _ _ _ _ _ _ us hl; obtain ⟨_, _, _, rfl⟩ := ls3 hl; rfl))
local macro_rules | `(tactic| walk_at "4") => `(tactic| (intro _ _ _ _ _ _ us hl; obtain ⟨_, _, _, _, rfl⟩ := ls4 hl; rfl))
local macro_rules | `(tactic| walk_at "5") => `(tactic| (intro _ _ _ _ _ _ us hl; obtain ⟨_, _, _, _, _, rfl⟩ := ls5 hl; rfl))
local macro_rules | `(tactic| walk_at "6") => `(tactic| (intro _ _ _ _ _ _ us hl; obtain ⟨_, _, _, _, _, _, rfl⟩ := ls6 hl; rfl))
local macro_rules | `(tactic| left) => `(tactic| walk_at "u")
local macro_rules | `(tactic| walk_at "sc") => `(tactic| exact ⟨rfl, rfl, rfl, by decide +kernel, rfl, by decide +kernel, by decide +kernel⟩)
def top (i : Nat) : Stmt := PySem.Challenge.pw_tintrow_k32_whole_changed_rows.main.body.getD i (.Pass ⟨0, 0, 0, 0⟩)
abbrev s_q20 : Stmt := inClass (top 7) 0
theorem sc_q20 : FnScope ["self", "row", "at"] ["self", "row", "at"] (defScope s_q20) := by walk_at "sc"
abbrev s_q21 : Stmt := inClass (top 7) 1
theorem sc_q21 : FnScope ["self"] ["self"] (defScope s_q21) := by walk_at "sc"
abbrev s_q46 : Stmt := inClass (top 8) 0
theorem sc_q46 : FnScope ["self", "text"] ["self", "text"] (defScope s_q46) := by walk_at "sc"
abbrev s_q47 : Stmt := inClass (top 8) 1
theorem sc_q47 : FnScope ["self", "row", "at"] ["self", "row", "at"] (defScope s_q47) := by walk_at "sc"
abbrev s_q48 : Stmt := inClass (top 8) 2
theorem sc_q48 : FnScope ["self"] ["self"] (defScope s_q48) := by walk_at "sc"
abbrev s_q17 : Stmt := inClass (top 9) 0
theorem sc_q17 : FnScope ["self", "signs"] ["self", "signs"] (defScope s_q17) := by walk_at "sc"
abbrev s_q18 : Stmt := inClass (top 9) 1
theorem sc_q18 : FnScope ["self", "row", "at"] ["self", "row", "at"] (defScope s_q18) := by walk_at "sc"
abbrev s_q19 : Stmt := inClass (top 9) 2
theorem sc_q19 : FnScope ["self"] ["self"] (defScope s_q19) := by walk_at "sc"
abbrev s_q43 : Stmt := inClass (top 10) 0
theorem sc_q43 : FnScope ["self", "signs"] ["self", "signs"] (defScope s_q43) := by walk_at "sc"
abbrev s_q44 : Stmt := inClass (top 10) 1
theorem sc_q44 : FnScope ["self", "row", "at"] ["self", "row", "at"] (defScope s_q44) := by walk_at "sc"
abbrev s_q45 : Stmt := inClass (top 10) 2
theorem sc_q45 : FnScope ["self"] ["self"] (defScope s_q45) := by walk_at "sc"
abbrev s_q12 : Stmt := inClass (top 11) 0
theorem sc_q12 : FnScope ["self", "signs"] ["self", "signs"] (defScope s_q12) := by walk_at "sc"
abbrev s_q13 : Stmt := inClass (top 11) 1
theorem sc_q13 : FnScope ["self", "row", "at", "end"] ["self", "row", "at"] (defScope s_q13) := by walk_at "sc"
abbrev s_q14 : Stmt := inClass (top 11) 2
theorem sc_q14 : FnScope ["self"] ["self"] (defScope s_q14) := by walk_at "sc"
abbrev s_q0 : Stmt := inClass (top 12) 0
theorem sc_q0 : FnScope ["self", "row", "at"] ["self", "row", "at"] (defScope s_q0) := by walk_at "sc"
abbrev s_q1 : Stmt := inClass (top 12) 1
theorem sc_q1 : FnScope ["self"] ["self"] (defScope s_q1) := by walk_at "sc"
abbrev s_q25 : Stmt := inClass (top 13) 0
theorem sc_q25 : FnScope ["self", "row", "at"] ["self", "row", "at"] (defScope s_q25) := by walk_at "sc"
abbrev s_q10 : Stmt := inClass (top 14) 0
theorem sc_q10 : FnScope ["self", "row", "at"] ["self", "row", "at"] (defScope s_q10) := by walk_at "sc"
abbrev s_q73 : Stmt := top 19
theorem sc_q73 : FnScope ["word"] ["word"] (defScope s_q73) := by walk_at "sc"
abbrev s_q23 : Stmt := inClass (top 20) 0
theorem sc_q23 : FnScope ["self", "pattern", "colour", "deed", "goal", "fold"] ["self", "pattern", "colour", "deed", "goal", "fold"] (defScope s_q23) := by walk_at "sc"
abbrev s_q15 : Stmt := inClass (top 21) 0
theorem sc_q15 : FnScope ["self", "name", "colour", "rules"] ["self", "name", "colour", "rules"] (defScope s_q15) := by walk_at "sc"
abbrev s_q24 : Stmt := inClass (top 22) 0
theorem sc_q24 : FnScope ["self", "modes"] ["self", "modes"] (defScope s_q24) := by walk_at "sc"
abbrev s_q68 : Stmt := top 23
theorem sc_q68 : FnScope ["rules"] ["rules"] (defScope s_q68) := by walk_at "sc"
abbrev s_q66 : Stmt := top 24
theorem sc_q66 : FnScope ["mode"] ["mode"] (defScope s_q66) := by walk_at "sc"
abbrev s_q67 : Stmt := top 25
theorem sc_q67 : FnScope ["rule"] ["rule"] (defScope s_q67) := by walk_at "sc"
abbrev s_q70 : Stmt := top 28
theorem sc_q70 : FnScope ["rules", "mode", "row", "at", "number", "rule"] ["rules", "mode", "row", "at"] (defScope s_q70) := by walk_at "sc"
abbrev s_q69 : Stmt := top 29
theorem sc_q69 : FnScope ["modes", "rule"] ["modes", "rule"] (defScope s_q69) := by walk_at "sc"
abbrev s_q65 : Stmt := top 30
theorem sc_q65 : FnScope ["rules", "found"] ["rules"] (defScope s_q65) := by walk_at "sc"
abbrev s_q81 : Stmt := top 31
theorem sc_q81 : FnScope ["rules", "row", "first", "ring"] ["rules"] (defScope s_q81) := by walk_at "sc"
abbrev s_q84 : Stmt := top 32
theorem sc_q84 : FnScope [] [] (defScope s_q84) := by walk_at "sc"
abbrev s_q80 : Stmt := top 33
theorem sc_q80 : FnScope ["rules", "first", "row", "ring", "modes", "rule"] ["rules", "first", "row"] (defScope s_q80) := by walk_at "sc"
abbrev s_q72 : Stmt := top 34
theorem sc_q72 : FnScope ["rules", "mode", "row", "number", "rule"] ["rules", "mode", "row"] (defScope s_q72) := by walk_at "sc"
abbrev s_q71 : Stmt := top 36
theorem sc_q71 : FnScope ["rules", "modes", "row", "on", "tints", "marks", "at", "mode", "number", "rule"] ["rules", "modes", "row"] (defScope s_q71) := by walk_at "sc"
abbrev s_q11 : Stmt := inClass (top 38) 0
theorem sc_q11 : FnScope ["self", "rules", "modes", "row", "told"] ["self", "rules", "modes", "row"] (defScope s_q11) := by walk_at "sc"
abbrev s_q26 : Stmt := inClass (top 39) 0
theorem sc_q26 : FnScope ["self", "rules", "rows"] ["self", "rules", "rows"] (defScope s_q26) := by walk_at "sc"
abbrev s_q42 : Stmt := inClass (top 39) 1
theorem sc_q42 : FnScope ["self"] ["self"] (defScope s_q42) := by walk_at "sc"
abbrev s_q31 : Stmt := inClass (top 39) 2
theorem sc_q31 : FnScope ["self", "row"] ["self", "row"] (defScope s_q31) := by walk_at "sc"
abbrev s_q33 : Stmt := inClass (top 39) 3
theorem sc_q33 : FnScope ["self", "row"] ["self", "row"] (defScope s_q33) := by walk_at "sc"
abbrev s_q38 : Stmt := inClass (top 39) 4
theorem sc_q38 : FnScope ["self", "row"] ["self", "row"] (defScope s_q38) := by walk_at "sc"
abbrev s_q32 : Stmt := inClass (top 39) 5
theorem sc_q32 : FnScope ["self", "row", "many", "rows", "taken", "ahead", "back", "first", "changed"] ["self", "row", "many", "rows"] (defScope s_q32) := by walk_at "sc"
abbrev s_q36 : Stmt := inClass (top 39) 9
theorem sc_q36 : FnScope ["self", "modes", "rows", "gone_rows", "row", "gone"] ["self", "modes", "rows"] (defScope s_q36) := by walk_at "sc"
abbrev s_q35 : Stmt := inClass (top 39) 10
theorem sc_q35 : FnScope ["self", "row", "at"] ["self", "row"] (defScope s_q35) := by walk_at "sc"
abbrev s_q39 : Stmt := inClass (top 39) 11
theorem sc_q39 : FnScope ["self", "row"] ["self", "row"] (defScope s_q39) := by walk_at "sc"
abbrev s_q37 : Stmt := inClass (top 39) 12
theorem sc_q37 : FnScope ["self", "row"] ["self", "row"] (defScope s_q37) := by walk_at "sc"
abbrev s_q29 : Stmt := inClass (top 39) 13
theorem sc_q29 : FnScope ["self", "row"] ["self", "row"] (defScope s_q29) := by walk_at "sc"
abbrev s_q30 : Stmt := inClass (top 39) 16
theorem sc_q30 : FnScope ["self", "row", "many"] ["self", "row", "many"] (defScope s_q30) := by walk_at "sc"
abbrev s_q82 : Stmt := top 40
theorem sc_q82 : FnScope ["some", "others", "many", "one", "other"] ["some", "others"] (defScope s_q82) := by walk_at "sc"
abbrev s_q83 : Stmt := top 41
theorem sc_q83 : FnScope ["some", "others"] ["some", "others"] (defScope s_q83) := by walk_at "sc"
abbrev s_q2 : Stmt := inClass (top 49) 0
theorem sc_q2 : FnScope ["self", "row", "text"] ["self", "row", "text"] (defScope s_q2) := by walk_at "sc"
abbrev s_q4 : Stmt := inClass (top 49) 1
theorem sc_q4 : FnScope ["self"] ["self"] (defScope s_q4) := by walk_at "sc"
abbrev s_q5 : Stmt := inClass (top 49) 2
theorem sc_q5 : FnScope ["self"] ["self"] (defScope s_q5) := by walk_at "sc"
abbrev s_q3 : Stmt := inClass (top 49) 3
theorem sc_q3 : FnScope ["self", "good"] ["self", "good"] (defScope s_q3) := by walk_at "sc"
abbrev s_q6 : Stmt := inClass (top 49) 4
theorem sc_q6 : FnScope ["self", "good", "word"] ["self", "good"] (defScope s_q6) := by walk_at "sc"
abbrev s_q7 : Stmt := inClass (top 49) 5
theorem sc_q7 : FnScope ["self", "words"] ["self", "words"] (defScope s_q7) := by walk_at "sc"
abbrev s_q8 : Stmt := inClass (top 49) 6
theorem sc_q8 : FnScope ["self"] ["self"] (defScope s_q8) := by walk_at "sc"
abbrev s_q9 : Stmt := inClass (top 49) 7
theorem sc_q9 : FnScope ["self", "word"] ["self"] (defScope s_q9) := by walk_at "sc"
abbrev s_q79 : Stmt := top 50
theorem sc_q79 : FnScope ["text", "rows", "numbers", "modes", "nowhere", "number", "row", "cursor", "rules"] ["text"] (defScope s_q79) := by walk_at "sc"
abbrev s_q74 : Stmt := top 51
theorem sc_q74 : FnScope ["rows", "numbers", "row", "words"] ["rows"] (defScope s_q74) := by walk_at "sc"
abbrev s_q76 : Stmt := top 52
theorem sc_q76 : FnScope ["cursor", "modes", "name", "colour"] ["cursor", "modes"] (defScope s_q76) := by walk_at "sc"
abbrev s_q78 : Stmt := top 53
theorem sc_q78 : FnScope ["cursor", "numbers", "nowhere", "pattern", "colour", "deed", "goal", "fold"] ["cursor", "numbers", "nowhere"] (defScope s_q78) := by walk_at "sc"
abbrev s_q77 : Stmt := top 54
theorem sc_q77 : FnScope ["cursor", "kind", "signs"] ["cursor"] (defScope s_q77) := by walk_at "sc"
abbrev s_q75 : Stmt := top 55
theorem sc_q75 : FnScope ["cursor", "numbers", "nowhere", "place", "name"] ["cursor", "numbers", "nowhere"] (defScope s_q75) := by walk_at "sc"
abbrev s_q51 : Stmt := top 57
theorem sc_q51 : FnScope ["_law_script", "_law_k", "_law_many", "_law_cell", "_law_digits", "_law_j", "_law_seed"] ["_law_script", "_law_k", "_law_many"] (defScope s_q51) := by walk_at "sc"
abbrev s_q61 : Stmt := top 58
theorem sc_q61 : FnScope ["_law_script", "_law_base", "_law_size"] ["_law_script", "_law_base"] (defScope s_q61) := by walk_at "sc"
abbrev s_q59 : Stmt := top 59
theorem sc_q59 : FnScope ["_law_script", "_law_base", "_law_number", "_law_many", "_law_calm", "_law_sort", "_law_deed_here", "_law_goal", "_law_colour", "_law_fold"] ["_law_script", "_law_base", "_law_number", "_law_many", "_law_calm"] (defScope s_q59) := by walk_at "sc"
abbrev s_q57 : Stmt := top 60
theorem sc_q57 : FnScope ["_law_script", "_law_base", "_law_calm", "_law_names", "_law_many", "_law_modes_here", "_law_k", "_law_rules", "_law_j"] ["_law_script", "_law_base", "_law_calm"] (defScope s_q57) := by walk_at "sc"
abbrev s_q62 : Stmt := top 61
theorem sc_q62 : FnScope ["_law_modes_here", "_law_rows", "_law_name", "_law_colour", "_law_rules", "_law_sort", "_law_signs_here", "_law_shade", "_law_deed_here", "_law_goal", "_law_fold", "_law_words"] ["_law_modes_here"] (defScope s_q62) := by walk_at "sc"
abbrev s_q56 : Stmt := top 62
theorem sc_q56 : FnScope ["_law_script", "_law_base", "_law_modes_here"] ["_law_script", "_law_base"] (defScope s_q56) := by walk_at "sc"
abbrev s_q52 : Stmt := top 63
theorem sc_q52 : FnScope ["_law_rule_here", "_law_row_here", "_law_at", "_law_many"] ["_law_rule_here", "_law_row_here", "_law_at"] (defScope s_q52) := by walk_at "sc"
abbrev s_q53 : Stmt := top 64
theorem sc_q53 : FnScope ["_law_modes_here", "_law_top", "_law_row_here", "_law_at", "_law_rule_here"] ["_law_modes_here", "_law_top", "_law_row_here", "_law_at"] (defScope s_q53) := by walk_at "sc"
abbrev s_q50 : Stmt := top 65
theorem sc_q50 : FnScope ["_law_rule_here", "_law_on"] ["_law_rule_here", "_law_on"] (defScope s_q50) := by walk_at "sc"
abbrev s_q55 : Stmt := top 66
theorem sc_q55 : FnScope ["_law_modes_here", "_law_on", "_law_row_here", "_law_shades", "_law_marked", "_law_at", "_law_left", "_law_rule_here", "_law_many"] ["_law_modes_here", "_law_on", "_law_row_here"] (defScope s_q55) := by walk_at "sc"
abbrev s_q58 : Stmt := top 67
theorem sc_q58 : FnScope ["_law_script", "_law_base", "_law_most", "_law_size"] ["_law_script", "_law_base", "_law_most"] (defScope s_q58) := by walk_at "sc"
abbrev s_q63 : Stmt := top 68
theorem sc_q63 : FnScope ["_law_modes_here", "_law_rows", "_law_on", "_law_found", "_law_row_here", "_law_gone_here"] ["_law_modes_here", "_law_rows"] (defScope s_q63) := by walk_at "sc"
abbrev s_q60 : Stmt := top 69
theorem sc_q60 : FnScope ["_law_text_here", "_law_kept", "_law_k"] ["_law_text_here", "_law_kept"] (defScope s_q60) := by walk_at "sc"
abbrev s_q49 : Stmt := top 70
theorem sc_q49 : FnScope ["_law_former", "_law_kept", "_law_row_here", "_law_many", "_law_fresh_here", "_law_first_here", "_law_last", "_law_count_here", "_law_old", "_law_new"] ["_law_former", "_law_kept", "_law_row_here", "_law_many", "_law_fresh_here"] (defScope s_q49) := by walk_at "sc"
abbrev s_q54 : Stmt := top 71
theorem sc_q54 : FnScope ["_law_script", "_law_base", "_law_rows", "_law_row_here", "_law_many", "_law_fresh_here", "_law_keep"] ["_law_script", "_law_base", "_law_rows", "_law_row_here", "_law_many"] (defScope s_q54) := by walk_at "sc"
abbrev s_law : Stmt := top 72
theorem sc_law : FnScope ["_law_script", "_law_modes_here", "_law_rules", "_law_size", "_law_rows", "_law_text_here", "_law_kept", "_law_k", "_law_row_here", "_law_many", "_law_fresh_here", "_law_handed", "_law_count_here", "_law_former"] ["_law_script"] (defScope s_law) := by walk_at "sc"
set_option genInjectivity false in
structure Adr where
 c_TintError : Addr
 c_NoRules : Addr
 c_Rings : Addr
 c_NoPlace : Addr
 c_Pattern : Addr
 c_Word : Addr
 c_One : Addr
 c_Without : Addr
 c_Many : Addr
 c_Any : Addr
 c_Still : Addr
 c_End : Addr
 c_Rule : Addr
 c_Mode : Addr
 c_Rules : Addr
 c_GoneRow : Addr
 c_Tinted : Addr
 c_Cursor : Addr
 f_q20 : Addr
 d_q20 : FuncData
 f_q21 : Addr
 d_q21 : FuncData
 f_q46 : Addr
 d_q46 : FuncData
 f_q47 : Addr
 d_q47 : FuncData
 f_q48 : Addr
 d_q48 : FuncData
 f_q17 : Addr
 d_q17 : FuncData
 f_q18 : Addr
 d_q18 : FuncData
 f_q19 : Addr
 d_q19 : FuncData
 f_q43 : Addr
 d_q43 : FuncData
 f_q44 : Addr
 d_q44 : FuncData
 f_q45 : Addr
 d_q45 : FuncData
 f_q12 : Addr
 d_q12 : FuncData
 f_q13 : Addr
 d_q13 : FuncData
 f_q14 : Addr
 d_q14 : FuncData
 f_q0 : Addr
 d_q0 : FuncData
 f_q1 : Addr
 d_q1 : FuncData
 f_q25 : Addr
 d_q25 : FuncData
 f_q10 : Addr
 d_q10 : FuncData
 f_q73 : Addr
 d_q73 : FuncData
 f_q23 : Addr
 d_q23 : FuncData
 f_q15 : Addr
 d_q15 : FuncData
 f_q24 : Addr
 d_q24 : FuncData
 f_q68 : Addr
 d_q68 : FuncData
 f_q66 : Addr
 d_q66 : FuncData
 f_q67 : Addr
 d_q67 : FuncData
 f_q70 : Addr
 d_q70 : FuncData
 f_q69 : Addr
 d_q69 : FuncData
 f_q65 : Addr
 d_q65 : FuncData
 f_q81 : Addr
 d_q81 : FuncData
 f_q84 : Addr
 d_q84 : FuncData
 f_q80 : Addr
 d_q80 : FuncData
 f_q72 : Addr
 d_q72 : FuncData
 f_q71 : Addr
 d_q71 : FuncData
 f_q11 : Addr
 d_q11 : FuncData
 f_q26 : Addr
 d_q26 : FuncData
 f_q42 : Addr
 d_q42 : FuncData
 f_q31 : Addr
 d_q31 : FuncData
 f_q33 : Addr
 d_q33 : FuncData
 f_q38 : Addr
 d_q38 : FuncData
 f_q32 : Addr
 d_q32 : FuncData
 f_q36 : Addr
 d_q36 : FuncData
 f_q35 : Addr
 d_q35 : FuncData
 f_q39 : Addr
 d_q39 : FuncData
 f_q37 : Addr
 d_q37 : FuncData
 f_q29 : Addr
 d_q29 : FuncData
 f_q30 : Addr
 d_q30 : FuncData
 f_q82 : Addr
 d_q82 : FuncData
 f_q83 : Addr
 d_q83 : FuncData
 f_q2 : Addr
 d_q2 : FuncData
 f_q4 : Addr
 d_q4 : FuncData
 f_q5 : Addr
 d_q5 : FuncData
 f_q3 : Addr
 d_q3 : FuncData
 f_q6 : Addr
 d_q6 : FuncData
 f_q7 : Addr
 d_q7 : FuncData
 f_q8 : Addr
 d_q8 : FuncData
 f_q9 : Addr
 d_q9 : FuncData
 f_q79 : Addr
 d_q79 : FuncData
 f_q74 : Addr
 d_q74 : FuncData
 f_q76 : Addr
 d_q76 : FuncData
 f_q78 : Addr
 d_q78 : FuncData
 f_q77 : Addr
 d_q77 : FuncData
 f_q75 : Addr
 d_q75 : FuncData
 f_q51 : Addr
 d_q51 : FuncData
 f_q61 : Addr
 d_q61 : FuncData
 f_q59 : Addr
 d_q59 : FuncData
 f_q57 : Addr
 d_q57 : FuncData
 f_q62 : Addr
 d_q62 : FuncData
 f_q56 : Addr
 d_q56 : FuncData
 f_q52 : Addr
 d_q52 : FuncData
 f_q53 : Addr
 d_q53 : FuncData
 f_q50 : Addr
 d_q50 : FuncData
 f_q55 : Addr
 d_q55 : FuncData
 f_q58 : Addr
 d_q58 : FuncData
 f_q63 : Addr
 d_q63 : FuncData
 f_q60 : Addr
 d_q60 : FuncData
 f_q49 : Addr
 d_q49 : FuncData
 f_q54 : Addr
 d_q54 : FuncData
 g_PATTERNS : Addr
 g_DEEDS : Addr
 g_GOING : Addr
 g_FOLDS : Addr
structure Txt (K : W.Frag) (mg : Str -> Option Value) (t : Adr) : Prop where
 mgc_TintError : mg "TintError" = some (.ref t.c_TintError)
 mgc_NoRules : mg "NoRules" = some (.ref t.c_NoRules)
 mgc_Rings : mg "Rings" = some (.ref t.c_Rings)
 mgc_NoPlace : mg "NoPlace" = some (.ref t.c_NoPlace)
 mgc_Pattern : mg "Pattern" = some (.ref t.c_Pattern)
 mgc_Word : mg "Word" = some (.ref t.c_Word)
 mgc_One : mg "One" = some (.ref t.c_One)
 mgc_Without : mg "Without" = some (.ref t.c_Without)
 mgc_Many : mg "Many" = some (.ref t.c_Many)
 mgc_Any : mg "Any" = some (.ref t.c_Any)
 mgc_Still : mg "Still" = some (.ref t.c_Still)
 mgc_End : mg "End" = some (.ref t.c_End)
 mgc_Rule : mg "Rule" = some (.ref t.c_Rule)
 mgc_Mode : mg "Mode" = some (.ref t.c_Mode)
 mgc_Rules : mg "Rules" = some (.ref t.c_Rules)
 mgc_GoneRow : mg "GoneRow" = some (.ref t.c_GoneRow)
 mgc_Tinted : mg "Tinted" = some (.ref t.c_Tinted)
 mgc_Cursor : mg "Cursor" = some (.ref t.c_Cursor)
 F_q20 : Fun K "eaten" "Pattern.eaten" s_q20 t.f_q20 t.d_q20
 F_q21 : Fun K "eats" "Pattern.eats" s_q21 t.f_q21 t.d_q21
 F_q46 : Fun K "__init__" "Word.__init__" s_q46 t.f_q46 t.d_q46
 F_q47 : Fun K "eaten" "Word.eaten" s_q47 t.f_q47 t.d_q47
 F_q48 : Fun K "eats" "Word.eats" s_q48 t.f_q48 t.d_q48
 F_q17 : Fun K "__init__" "One.__init__" s_q17 t.f_q17 t.d_q17
 F_q18 : Fun K "eaten" "One.eaten" s_q18 t.f_q18 t.d_q18
 F_q19 : Fun K "eats" "One.eats" s_q19 t.f_q19 t.d_q19
 F_q43 : Fun K "__init__" "Without.__init__" s_q43 t.f_q43 t.d_q43
 F_q44 : Fun K "eaten" "Without.eaten" s_q44 t.f_q44 t.d_q44
 F_q45 : Fun K "eats" "Without.eats" s_q45 t.f_q45 t.d_q45
 F_q12 : Fun K "__init__" "Many.__init__" s_q12 t.f_q12 t.d_q12
 F_q13 : Fun K "eaten" "Many.eaten" s_q13 t.f_q13 t.d_q13
 F_q14 : Fun K "eats" "Many.eats" s_q14 t.f_q14 t.d_q14
 F_q0 : Fun K "eaten" "Any.eaten" s_q0 t.f_q0 t.d_q0
 F_q1 : Fun K "eats" "Any.eats" s_q1 t.f_q1 t.d_q1
 F_q25 : Fun K "eaten" "Still.eaten" s_q25 t.f_q25 t.d_q25
 F_q10 : Fun K "eaten" "End.eaten" s_q10 t.f_q10 t.d_q10
 F_q23 : Fun K "__init__" "Rule.__init__" s_q23 t.f_q23 t.d_q23
 F_q15 : Fun K "__init__" "Mode.__init__" s_q15 t.f_q15 t.d_q15
 F_q24 : Fun K "__init__" "Rules.__init__" s_q24 t.f_q24 t.d_q24
 F_q11 : Fun K "__init__" "GoneRow.__init__" s_q11 t.f_q11 t.d_q11
 F_q26 : Fun K "__init__" "Tinted.__init__" s_q26 t.f_q26 t.d_q26
 F_q42 : Fun K "rows" "Tinted.rows" s_q42 t.f_q42 t.d_q42
 F_q31 : Fun K "begin" "Tinted.begin" s_q31 t.f_q31 t.d_q31
 F_q33 : Fun K "colours" "Tinted.colours" s_q33 t.f_q33 t.d_q33
 F_q38 : Fun K "marks" "Tinted.marks" s_q38 t.f_q38 t.d_q38
 F_q32 : Fun K "change" "Tinted.change" s_q32 t.f_q32 t.d_q32
 F_q36 : Fun K "go_over" "Tinted.go_over" s_q36 t.f_q36 t.d_q36
 F_q35 : Fun K "go_on" "Tinted.go_on" s_q35 t.f_q35 t.d_q35
 F_q39 : Fun K "modes_ahead" "Tinted.modes_ahead" s_q39 t.f_q39 t.d_q39
 F_q37 : Fun K "gone_row" "Tinted.gone_row" s_q37 t.f_q37 t.d_q37
 F_q29 : Fun K "ask_row" "Tinted.ask_row" s_q29 t.f_q29 t.d_q29
 F_q30 : Fun K "ask_taken" "Tinted.ask_taken" s_q30 t.f_q30 t.d_q30
 F_q2 : Fun K "__init__" "Cursor.__init__" s_q2 t.f_q2 t.d_q2
 F_q4 : Fun K "more" "Cursor.more" s_q4 t.f_q4 t.d_q4
 F_q5 : Fun K "peek" "Cursor.peek" s_q5 t.f_q5 t.d_q5
 F_q3 : Fun K "ask" "Cursor.ask" s_q3 t.f_q3 t.d_q3
 F_q6 : Fun K "take" "Cursor.take" s_q6 t.f_q6 t.d_q6
 F_q7 : Fun K "take_choice" "Cursor.take_choice" s_q7 t.f_q7 t.d_q7
 F_q8 : Fun K "take_name" "Cursor.take_name" s_q8 t.f_q8 t.d_q8
 F_q9 : Fun K "take_signs" "Cursor.take_signs" s_q9 t.f_q9 t.d_q9
 F_q73 : Fun K "is_name" "is_name" s_q73 t.f_q73 t.d_q73
 mg_q73 : mg "is_name" = some (.ref t.f_q73)
 F_q68 : Fun K "copied_rules" "copied_rules" s_q68 t.f_q68 t.d_q68
 mg_q68 : mg "copied_rules" = some (.ref t.f_q68)
 F_q66 : Fun K "copied_mode" "copied_mode" s_q66 t.f_q66 t.d_q66
 mg_q66 : mg "copied_mode" = some (.ref t.f_q66)
 F_q67 : Fun K "copied_rule" "copied_rule" s_q67 t.f_q67 t.d_q67
 mg_q67 : mg "copied_rule" = some (.ref t.f_q67)
 F_q70 : Fun K "first_rule" "first_rule" s_q70 t.f_q70 t.d_q70
 mg_q70 : mg "first_rule" = some (.ref t.f_q70)
 F_q69 : Fun K "do_deed" "do_deed" s_q69 t.f_q69 t.d_q69
 mg_q69 : mg "do_deed" = some (.ref t.f_q69)
 F_q65 : Fun K "ask_rings" "ask_rings" s_q65 t.f_q65 t.d_q65
 mg_q65 : mg "ask_rings" = some (.ref t.f_q65)
 F_q81 : Fun K "ring_of" "ring_of" s_q81 t.f_q81 t.d_q81
 mg_q81 : mg "ring_of" = some (.ref t.f_q81)
 F_q84 : Fun K "short_rows" "short_rows" s_q84 t.f_q84 t.d_q84
 mg_q84 : mg "short_rows" = some (.ref t.f_q84)
 F_q80 : Fun K "ring_from" "ring_from" s_q80 t.f_q80 t.d_q80
 mg_q80 : mg "ring_from" = some (.ref t.f_q80)
 F_q72 : Fun K "idle_rule" "idle_rule" s_q72 t.f_q72 t.d_q72
 mg_q72 : mg "idle_rule" = some (.ref t.f_q72)
 F_q71 : Fun K "gone_over" "gone_over" s_q71 t.f_q71 t.d_q71
 mg_q71 : mg "gone_over" = some (.ref t.f_q71)
 F_q82 : Fun K "same_ahead" "same_ahead" s_q82 t.f_q82 t.d_q82
 mg_q82 : mg "same_ahead" = some (.ref t.f_q82)
 F_q83 : Fun K "same_back" "same_back" s_q83 t.f_q83 t.d_q83
 mg_q83 : mg "same_back" = some (.ref t.f_q83)
 F_q79 : Fun K "read_rules" "read_rules" s_q79 t.f_q79 t.d_q79
 mg_q79 : mg "read_rules" = some (.ref t.f_q79)
 F_q74 : Fun K "mode_numbers" "mode_numbers" s_q74 t.f_q74 t.d_q74
 mg_q74 : mg "mode_numbers" = some (.ref t.f_q74)
 F_q76 : Fun K "read_mode" "read_mode" s_q76 t.f_q76 t.d_q76
 mg_q76 : mg "read_mode" = some (.ref t.f_q76)
 F_q78 : Fun K "read_rule" "read_rule" s_q78 t.f_q78 t.d_q78
 mg_q78 : mg "read_rule" = some (.ref t.f_q78)
 F_q77 : Fun K "read_pattern" "read_pattern" s_q77 t.f_q77 t.d_q77
 mg_q77 : mg "read_pattern" = some (.ref t.f_q77)
 F_q75 : Fun K "read_goal" "read_goal" s_q75 t.f_q75 t.d_q75
 mg_q75 : mg "read_goal" = some (.ref t.f_q75)
 F_q51 : Fun K "_law_draw" "_law_draw" s_q51 t.f_q51 t.d_q51
 mg_q51 : mg "_law_draw" = some (.ref t.f_q51)
 F_q61 : Fun K "_law_signs" "_law_signs" s_q61 t.f_q61 t.d_q61
 mg_q61 : mg "_law_signs" = some (.ref t.f_q61)
 F_q59 : Fun K "_law_rule" "_law_rule" s_q59 t.f_q59 t.d_q59
 mg_q59 : mg "_law_rule" = some (.ref t.f_q59)
 F_q57 : Fun K "_law_modes" "_law_modes" s_q57 t.f_q57 t.d_q57
 mg_q57 : mg "_law_modes" = some (.ref t.f_q57)
 F_q62 : Fun K "_law_text" "_law_text" s_q62 t.f_q62 t.d_q62
 mg_q62 : mg "_law_text" = some (.ref t.f_q62)
 F_q56 : Fun K "_law_let_by" "_law_let_by" s_q56 t.f_q56 t.d_q56
 mg_q56 : mg "_law_let_by" = some (.ref t.f_q56)
 F_q52 : Fun K "_law_eaten" "_law_eaten" s_q52 t.f_q52 t.d_q52
 mg_q52 : mg "_law_eaten" = some (.ref t.f_q52)
 F_q53 : Fun K "_law_first" "_law_first" s_q53 t.f_q53 t.d_q53
 mg_q53 : mg "_law_first" = some (.ref t.f_q53)
 F_q50 : Fun K "_law_deed" "_law_deed" s_q50 t.f_q50 t.d_q50
 mg_q50 : mg "_law_deed" = some (.ref t.f_q50)
 F_q55 : Fun K "_law_gone" "_law_gone" s_q55 t.f_q55 t.d_q55
 mg_q55 : mg "_law_gone" = some (.ref t.f_q55)
 F_q58 : Fun K "_law_row" "_law_row" s_q58 t.f_q58 t.d_q58
 mg_q58 : mg "_law_row" = some (.ref t.f_q58)
 F_q63 : Fun K "_law_whole" "_law_whole" s_q63 t.f_q63 t.d_q63
 mg_q63 : mg "_law_whole" = some (.ref t.f_q63)
 F_q60 : Fun K "_law_shows" "_law_shows" s_q60 t.f_q60 t.d_q60
 mg_q60 : mg "_law_shows" = some (.ref t.f_q60)
 F_q49 : Fun K "_law_count" "_law_count" s_q49 t.f_q49 t.d_q49
 mg_q49 : mg "_law_count" = some (.ref t.f_q49)
 F_q54 : Fun K "_law_fresh" "_law_fresh" s_q54 t.f_q54 t.d_q54
 mg_q54 : mg "_law_fresh" = some (.ref t.f_q54)
 cl_Word : Cls K t.c_Word
 mk_Word : Mk K t.c_Word t.f_q46
 n_Word_wanted : NoAttr K t.c_Word "wanted"
 m_q47 : Meth K t.c_Word "eaten" t.f_q47
 m_q48 : Meth K t.c_Word "eats" t.f_q48
 cl_One : Cls K t.c_One
 mk_One : Mk K t.c_One t.f_q17
 n_One_signs : NoAttr K t.c_One "signs"
 m_q18 : Meth K t.c_One "eaten" t.f_q18
 m_q19 : Meth K t.c_One "eats" t.f_q19
 cl_Without : Cls K t.c_Without
 mk_Without : Mk K t.c_Without t.f_q43
 n_Without_signs : NoAttr K t.c_Without "signs"
 m_q44 : Meth K t.c_Without "eaten" t.f_q44
 m_q45 : Meth K t.c_Without "eats" t.f_q45
 cl_Many : Cls K t.c_Many
 mk_Many : Mk K t.c_Many t.f_q12
 n_Many_signs : NoAttr K t.c_Many "signs"
 m_q13 : Meth K t.c_Many "eaten" t.f_q13
 m_q14 : Meth K t.c_Many "eats" t.f_q14
 cl_Any : Cls K t.c_Any
 mk_Any : MkO K t.c_Any
 m_q0 : Meth K t.c_Any "eaten" t.f_q0
 m_q1 : Meth K t.c_Any "eats" t.f_q1
 cl_Still : Cls K t.c_Still
 mk_Still : MkO K t.c_Still
 m_q25 : Meth K t.c_Still "eaten" t.f_q25
 m_Still_eats : Meth K t.c_Still "eats" t.f_q21
 cl_End : Cls K t.c_End
 mk_End : MkO K t.c_End
 m_q10 : Meth K t.c_End "eaten" t.f_q10
 m_End_eats : Meth K t.c_End "eats" t.f_q21
 cl_Rule : Cls K t.c_Rule
 mk_Rule : Mk K t.c_Rule t.f_q23
 n_Rule_pattern : NoAttr K t.c_Rule "pattern"
 n_Rule_colour : NoAttr K t.c_Rule "colour"
 n_Rule_deed : NoAttr K t.c_Rule "deed"
 n_Rule_goal : NoAttr K t.c_Rule "goal"
 n_Rule_fold : NoAttr K t.c_Rule "fold"
 cl_Mode : Cls K t.c_Mode
 mk_Mode : Mk K t.c_Mode t.f_q15
 n_Mode_name : NoAttr K t.c_Mode "name"
 n_Mode_colour : NoAttr K t.c_Mode "colour"
 n_Mode_rules : NoAttr K t.c_Mode "rules"
 cl_Rules : Cls K t.c_Rules
 mk_Rules : Mk K t.c_Rules t.f_q24
 n_Rules_modes : NoAttr K t.c_Rules "modes"
 cl_Cursor : Cls K t.c_Cursor
 mk_Cursor : Mk K t.c_Cursor t.f_q2
 n_Cursor_row : NoAttr K t.c_Cursor "row"
 n_Cursor_words : NoAttr K t.c_Cursor "words"
 n_Cursor_at : NoAttr K t.c_Cursor "at"
 m_q4 : Meth K t.c_Cursor "more" t.f_q4
 m_q5 : Meth K t.c_Cursor "peek" t.f_q5
 m_q3 : Meth K t.c_Cursor "ask" t.f_q3
 m_q6 : Meth K t.c_Cursor "take" t.f_q6
 m_q7 : Meth K t.c_Cursor "take_choice" t.f_q7
 m_q8 : Meth K t.c_Cursor "take_name" t.f_q8
 m_q9 : Meth K t.c_Cursor "take_signs" t.f_q9
 cl_GoneRow : Cls K t.c_GoneRow
 mk_GoneRow : Mk K t.c_GoneRow t.f_q11
 n_GoneRow_signs : NoAttr K t.c_GoneRow "signs"
 n_GoneRow_before : NoAttr K t.c_GoneRow "before"
 n_GoneRow_tints : NoAttr K t.c_GoneRow "tints"
 n_GoneRow_behind : NoAttr K t.c_GoneRow "behind"
 n_GoneRow_folded : NoAttr K t.c_GoneRow "folded"
 cl_Tinted : Cls K t.c_Tinted
 mk_Tinted : Mk K t.c_Tinted t.f_q26
 n_Tinted_rules : NoAttr K t.c_Tinted "rules"
 n_Tinted_gone_rows : NoAttr K t.c_Tinted "gone_rows"
 m_q42 : Meth K t.c_Tinted "rows" t.f_q42
 m_q31 : Meth K t.c_Tinted "begin" t.f_q31
 m_q33 : Meth K t.c_Tinted "colours" t.f_q33
 m_q38 : Meth K t.c_Tinted "marks" t.f_q38
 m_q32 : Meth K t.c_Tinted "change" t.f_q32
 m_q36 : Meth K t.c_Tinted "go_over" t.f_q36
 m_q35 : Meth K t.c_Tinted "go_on" t.f_q35
 m_q39 : Meth K t.c_Tinted "modes_ahead" t.f_q39
 m_q37 : Meth K t.c_Tinted "gone_row" t.f_q37
 m_q29 : Meth K t.c_Tinted "ask_row" t.f_q29
 m_q30 : Meth K t.c_Tinted "ask_taken" t.f_q30
 cg : W.specialIn K (.builtin "object.__class__") "__get__" = some (some (.builtin "getset_descriptor.__get__"))
 ct : W.takesIn K (.builtin "object.__class__") = some true
 ty_Word : W.findIn K (.ref t.c_Word) "__class__" = some (some (.builtin "object.__class__"))
 mr_Word : W.mroIn K t.c_Word (.type "object") = some true
 ty_One : W.findIn K (.ref t.c_One) "__class__" = some (some (.builtin "object.__class__"))
 mr_One : W.mroIn K t.c_One (.type "object") = some true
 ty_Without : W.findIn K (.ref t.c_Without) "__class__" = some (some (.builtin "object.__class__"))
 mr_Without : W.mroIn K t.c_Without (.type "object") = some true
 ty_Many : W.findIn K (.ref t.c_Many) "__class__" = some (some (.builtin "object.__class__"))
 mr_Many : W.mroIn K t.c_Many (.type "object") = some true
 ty_Any : W.findIn K (.ref t.c_Any) "__class__" = some (some (.builtin "object.__class__"))
 mr_Any : W.mroIn K t.c_Any (.type "object") = some true
 ty_Still : W.findIn K (.ref t.c_Still) "__class__" = some (some (.builtin "object.__class__"))
 mr_Still : W.mroIn K t.c_Still (.type "object") = some true
 ty_End : W.findIn K (.ref t.c_End) "__class__" = some (some (.builtin "object.__class__"))
 mr_End : W.mroIn K t.c_End (.type "object") = some true
 kit_Word_Word : W.kitOne K (.ref t.c_Word) (.ref t.c_Word) = some true
 kit_One_One : W.kitOne K (.ref t.c_One) (.ref t.c_One) = some true
 kit_Without_Without : W.kitOne K (.ref t.c_Without) (.ref t.c_Without) = some true
 kit_Many_Many : W.kitOne K (.ref t.c_Many) (.ref t.c_Many) = some true
 kit_Any_Any : W.kitOne K (.ref t.c_Any) (.ref t.c_Any) = some true
 kit_Still_Still : W.kitOne K (.ref t.c_Still) (.ref t.c_Still) = some true
 kit_End_End : W.kitOne K (.ref t.c_End) (.ref t.c_End) = some true
 kb_int_int : W.kitOne K (.type "int") (.type "int") = some true
 kb_int_bool : W.kitOne K (.type "int") (.type "bool") = some false
 mgv_LETTERS : ∃ u, mg "LETTERS" = some u /\ RelV (.str "abcdefghijklmnopqrstuvwxyz") u
 mgv_LONGEST_NAME : ∃ u, mg "LONGEST_NAME" = some u /\ RelV (.int 8) u
 mgv_START : ∃ u, mg "START" = some u /\ RelV (.int 0) u
 mgv_SIGNS : ∃ u, mg "SIGNS" = some u /\ RelV (.str " !\"#$&'()*+,-./0123456789:;<=>?@ABCDEFGHIJKLMNOPQRSTUVWXYZ[\\]^_`abcdefghijklmnopqrstuvwxyz{|}~") u
 mgv_MOST_MODES : ∃ u, mg "MOST_MODES" = some u /\ RelV (.int 12) u
 mgv_MOST_RULES : ∃ u, mg "MOST_RULES" = some u /\ RelV (.int 12) u
 mgv_PATTERNS : mg "PATTERNS" = some (.ref t.g_PATTERNS)
 tv_PATTERNS : ∀ H, SqT K H t.g_PATTERNS [.str "word", .str "one", .str "none", .str "many", .str "any", .str "still", .str "end"]
 mgv_DEEDS : mg "DEEDS" = some (.ref t.g_DEEDS)
 tv_DEEDS : ∀ H, SqT K H t.g_DEEDS [.str "stay", .str "push", .str "pop", .str "into"]
 mgv_GOING : mg "GOING" = some (.ref t.g_GOING)
 tv_GOING : ∀ H, SqT K H t.g_GOING [.str "push", .str "into"]
 mgv_FOLDS : mg "FOLDS" = some (.ref t.g_FOLDS)
 tv_FOLDS : ∀ H, SqT K H t.g_FOLDS [.str "open", .str "close"]
 z_all : mg "all" = none
 z_bool : mg "bool" = none
 z_enumerate : mg "enumerate" = none
 z_int : mg "int" = none
 z_isinstance : mg "isinstance" = none
 z_len : mg "len" = none
 z_list : mg "list" = none
 z_min : mg "min" = none
 z_range : mg "range" = none
 z_reversed : mg "reversed" = none
 z_tuple : mg "tuple" = none
 z_zip : mg "zip" = none
theorem ls0 : ∀ {us : List Value}, us.length = 0 -> us = []
 | [], _ => rfl
theorem ls1 : ∀ {us : List Value}, us.length = 1 -> ∃ a0, us = [a0]
 | [a0], _ => ⟨a0, rfl⟩
theorem ls2 : ∀ {us : List Value}, us.length = 2 -> ∃ a0 a1, us = [a0, a1]
 | [a0, a1], _ => ⟨a0, a1, rfl⟩
theorem ls3 : ∀ {us : List Value}, us.length = 3 -> ∃ a0 a1 a2, us = [a0, a1, a2]
 | [a0, a1, a2], _ => ⟨a0, a1, a2, rfl⟩
theorem ls4 : ∀ {us : List Value}, us.length = 4 -> ∃ a0 a1 a2 a3, us = [a0, a1, a2, a3]
 | [a0, a1, a2, a3], _ => ⟨a0, a1, a2, a3, rfl⟩
theorem ls5 : ∀ {us : List Value}, us.length = 5 -> ∃ a0 a1 a2 a3 a4, us = [a0, a1, a2, a3, a4]
 | [a0, a1, a2, a3, a4], _ => ⟨a0, a1, a2, a3, a4, rfl⟩
theorem ls6 : ∀ {us : List Value}, us.length = 6 -> ∃ a0 a1 a2 a3 a4 a5, us = [a0, a1, a2, a3, a4, a5]
 | [a0, a1, a2, a3, a4, a5], _ => ⟨a0, a1, a2, a3, a4, a5, rfl⟩
section
variable {P : Program} {w : World} {K : W.Frag} {mg : Str -> Option Value} {base : Heap} {t : Adr}
end
local macro_rules | `(tactic| walk_at "rd") => `(tactic| simp only [tSeq, tAsg, tIf, tTest, tB, tOp, tCB, tCons, tNil, tVar, tC, L2.start, rI, rI0, gName, tIfS, tAnd, tOr, tNot, tTup, tLst, tUn, rU, rEq, rNe, rIn, tRet, tNext, rIxL, rIxT, rIxS, tCall, tMeth, tMake, tMakeO, tDrop, tBM, tBM0, tAug, ipI, tAndV, tOrV, tNotV, tSl, rSlS, tPart, tNoPart, rJoin, rStarts3, rStarts2, rSplit, cxOf_K, capV, Option.join_some, Option.join_none, if_true, if_false, Bool.false_eq_true, List.map_cons, List.map_nil, List.length_cons, List.length_nil, List.replicate, List.cons_append, List.nil_append, List.append_nil, List.getElem?_cons_zero, List.getElem?_cons_succ, List.set_cons_zero, List.set_cons_succ, Option.some.injEq, exists_eq_left', exists_eq_left, V.int.injEq, V.str.injEq, V.ref.injEq, V.bl.injEq, List.cons.injEq, and_true, true_and, and_assoc, exists_and_left, exists_eq, exists_const])
local macro_rules | `(tactic| walk_at "ck") => `(tactic| exact ⟨by decide +kernel, rfl, by decide +kernel, by decide +kernel, by decide +kernel, by decide +kernel, by decide +kernel⟩)
section
variable {P : Program} {w : World} {K : PySem.W.Frag} {mg : Str -> Option Value} {base : Heap} {t : Adr}
def isName (z : Str) : Bool := decide (1 <= z.length) && decide (z.length <= 8) && z.cps.toList.all fun c => decide (c ∈ (Str.ofString "abcdefghijklmnopqrstuvwxyz").cps.toList)
def spIsName : Sp := fun vs H Q _ => ∃ z : Str, vs = [.str z] /\ z.length <= 100000 /\ ∀ H', Same H H' -> Q (.bl (isName z)) H'
theorem ok_q73 (T : Txt K mg t) : FnOk P w K mg base CX0 1 t.f_q73 t.d_q73 ["word"] spIsName := by
 refine T.F_q73.ok sc_q73 ?_ ?_
 walk_at "i"
 ·obtain ⟨z, rfl, hz, q⟩ := h
  refine at_consR (fun Z' H' => Z' = [some (.str z)] /\ H' = H /\ 1 <= z.length /\ z.length <= 8) (ps_if (PW.pt (pw_or (pt_cmpR op_lt (pe_callB call_len_str (by rfl) T.z_len (by decide +kernel) (pa_cons (pv 0) pa_nil)) pe_int (nomark _)) (pw_or1 (pt_cmpR op_gt (pe_callB call_len_str (by rfl) T.z_len (by decide +kernel) (pa_cons (pv 0) pa_nil)) (pe_globE rfl T.mgv_LONGEST_NAME) (nomark _))))) pss_at pss_at) ?_ ?_
  ·walk_at "rd"
   refine ⟨sl_le (by omega), ifd (fun h => ?_) (fun h => ?_)⟩
   ·refine at_one (ps_ret pe_bl) ?_
    have := q H (Same.refl H)
    rw [isName, decide_eq_false (by omega)] at this
    exact this
   ·refine ⟨sl_le (by omega), ifd (fun h => ?_) (fun h => at_nil ⟨rfl, rfl, by omega, by omega⟩)⟩
    refine at_one (ps_ret pe_bl) ?_
    have := q H (Same.refl H)
    rw [isName, decide_eq_false (p := z.length <= 8) (by omega), Bool.and_false] at this
    exact this
  rintro Z' H' ⟨rfl, e, h1, h2⟩
  rw [e]
  clear e H'
  refine at_one (ps_ret (pe_callB (call_allL rfl) (by rfl) T.z_all (by decide +kernel) (pa_cons (pe_comp (sc := defScope s_q73) (N := ["word"]) (x := "sign") (caps := []) (by walk_at "ck") (pi_str (pv 0)) (fun _ _ _ _ => (pe_cmpR op_in_str (pv 0) (pe_globE rfl T.mgv_LETTERS) rfl))) pa_nil))) ?_
  refine ⟨_, rfl, z, rfl, comp_str (fun i ys H2 => H2 = H /\ ys = (z.cps.toList.take i).map fun c => V.bl (decide (c ∈ (Str.ofString "abcdefghijklmnopqrstuvwxyz").cps.toList))) ⟨rfl, rfl⟩ (sl_lt (by omega)) ?_ ?_⟩
  ·rintro i c ys H2 hc hl ⟨rfl, rfl⟩
   have hi : i < z.length := by
    have := (List.getElem?_eq_some_iff.mp hc).1
    simpa [Str.length] using this
   refine ⟨_, rfl, _, _, rfl, rfl, ?_⟩
   rw [PySem.StrLaws.found_one]
   refine comp_turn hi hl ⟨rfl, ?_⟩
   rw [List.take_succ, hc, List.map_append]
   rfl
  ·rintro ys H2 hl ⟨rfl, rfl⟩ D hD
   refine ⟨D, (z.cps.toList.map fun c => decide (c ∈ (Str.ofString "abcdefghijklmnopqrstuvwxyz").cps.toList)), rfl, SqL.of (by rw [upd_same, List.take_of_length_le (by simp [Str.length]), List.map_map]; rfl), ?_⟩
   have := q _ (Same.upd (o := .lst (((z.cps.toList.take z.length)).map fun c => V.bl (decide (c ∈ (Str.ofString "abcdefghijklmnopqrstuvwxyz").cps.toList)))) hD)
   rw [isName, decide_eq_true h1, decide_eq_true h2] at this
   rw [List.all_map]
   exact this
def cf (row : Int) (lw : Addr) (i : Nat) : List (Str × V) := [("row", .int row), ("words", .ref lw), ("at", .int i)]
structure Cur (t : Adr) (H : Hp) (p dx lw : Addr) (row : Int) (ws : List Str) (i : Nat) : Prop where
 ob : H p = some (.ins t.c_Cursor dx (cf row lw i))
 ls : H lw = some (.lst (ws.map V.str))
 sz : ws.length <= 1000 /\ ∀ w ∈ ws, w.length <= 100000
theorem Cur.ne {H : Hp} {p dx lw : Addr} {row : Int} {ws : List Str} {i : Nat} (c : Cur t H p dx lw row ws i) : p ≠ lw := ne_of c.ob c.ls (by intro z; cases z)
theorem Cur.same {H H' : Hp} {p dx lw : Addr} {row : Int} {ws : List Str} {i : Nat} (c : Cur t H p dx lw row ws i) (s : Same H H') : Cur t H' p dx lw row ws i := ⟨s _ _ c.ob, s _ _ c.ls, c.sz⟩
def pk (ws : List Str) (i : Nat) : Str := ws.getD i ""
theorem pk_lt {ws : List Str} {i : Nat} (h : i < ws.length) : pk ws i = ws[i] := by simp [pk, h]
theorem pk_ge {ws : List Str} {i : Nat} (h : ws.length <= i) : pk ws i = "" := by
 unfold pk
 rw [List.getD_eq_getElem?_getD, List.getElem?_eq_none h]
 rfl
theorem Cur.pkl {H : Hp} {p dx lw : Addr} {row : Int} {ws : List Str} {i : Nat} (c : Cur t H p dx lw row ws i) : (pk ws i).length <= 100000 := by
 by_cases h : i < ws.length
 ·rw [pk_lt h]; exact c.sz.2 _ (List.getElem_mem h)
 ·rw [pk_ge (by omega)]; decide
def spCInit (t : Adr) : Sp := fun vs H Q _ => ∃ (p dx : Addr) (row : Int) (text : Str), vs = [.ref p, .int row, .str text] /\ H p = some (.ins t.c_Cursor dx []) /\ text.length <= 100000 /\ (PySem.Txt.split text ⟨#[32]⟩).length <= 1000 /\
 ∀ lw H', H lw = none -> Cur t H' p dx lw row (PySem.Txt.split text ⟨#[32]⟩) 0 -> Adv H H' p -> Q .non H'
theorem ok_q2 (T : Txt K mg t) : FnOk P w K mg base CX0 1 t.f_q2 t.d_q2 ["self", "row", "text"] (spCInit t) := by
 refine T.F_q2.ok sc_q2 ?_ ?_
 walk_at "i"
 ·obtain ⟨p, dx, row, text, rfl, hp, hz, hn, q⟩ := h
  refine at_cons (ps_fld (pv 0) (pv 1) rfl) ⟨_, rfl, _, rfl, p, _, dx, [], rfl, hp, T.cl_Cursor, T.n_Cursor_row, by decide, ?_⟩
  refine at_cons (ps_fld (pv 0) (pe_bm F.plainAttrs_str F.slot_str_split F.type_str_split mt_split (pv 2) (pa_cons pe_str pa_nil)) rfl) ?_
  refine ⟨_, rfl, rfl, _, _, rfl, rfl, by decide, sl_le (by omega), fun lw hl => ⟨_, rfl, p, _, dx, [("row", .int row)], rfl, ?_, T.cl_Cursor, T.n_Cursor_words, by show 1 < 1000; decide, ?_⟩⟩
  ·rw [upd_ne (ne_of_none upd_same hl)]; exact upd_same
  have npl : p ≠ lw := ne_of_none upd_same hl
  refine at_one (ps_fld (pv 0) pe_int rfl) ⟨_, rfl, p, _, dx, [("row", .int row), ("words", .ref lw)], rfl, upd_same, T.cl_Cursor, T.n_Cursor_at, by show 2 < 1000; decide, ?_⟩
  have hl0 : H lw = none := by rw [upd_ne (Ne.symm npl)] at hl; exact hl
  refine q lw _ hl0 ⟨upd_same, ?_, hn, fun w hw => Nat.le_trans (PyProof.Rows.part_short hw) hz⟩ fun b o hb nb => ?_
  ·rw [upd_ne (Ne.symm npl), upd_ne (Ne.symm npl), upd_same]; rfl
  ·rw [upd_ne nb, upd_ne nb, upd_ne (ne_of_none hb hl0), upd_ne nb]; exact hb
def spMore (t : Adr) : Sp := fun vs H Q _ => ∃ (p dx lw : Addr) (row : Int) (ws : List Str) (i : Nat), vs = [.ref p] /\ Cur t H p dx lw row ws i /\ Q (.bl (decide (i < ws.length))) H
theorem ok_q4 (T : Txt K mg t) : FnOk P w K mg base CX0 1 t.f_q4 t.d_q4 ["self"] (spMore t) := by
 refine T.F_q4.ok sc_q4 ?_ ?_
 walk_at "i"
 ·obtain ⟨p, dx, lw, row, ws, i, rfl, C, q⟩ := h
  refine at_one (ps_ret (pe_cmpR op_lt (pe_fld (pv 0) rfl) (pe_callB call_len_seq (by rfl) T.z_len (by decide +kernel) (pa_cons (pe_fld (pv 0) rfl) pa_nil)) (nomark _))) ?_
  simp only [tRet, tOp, tCB, tCons, tNil]
  refine fldv rfl C.ob T.cl_Cursor T.n_Cursor_at rfl ?_
  refine fldv rfl C.ob T.cl_Cursor T.n_Cursor_words rfl ?_
  refine ⟨_, _, rfl, .inl (SqL.of C.ls), _, _, rfl, rfl, ?_⟩
  rw [List.length_map]
  have e : decide ((i : Int) < (ws.length : Int)) = decide (i < ws.length) := by simp
  show Q (.bl (decide ((i : Int) < (ws.length : Int)))) H
  rw [e]
  exact q
def spPeek (t : Adr) : Sp := fun vs H Q _ => ∃ (p dx lw : Addr) (row : Int) (ws : List Str) (i : Nat), vs = [.ref p] /\ Cur t H p dx lw row ws i /\ Q (.str (pk ws i)) H
theorem ok_q5 (T : Txt K mg t) : FnOk P w K mg base CX0 2 t.f_q5 t.d_q5 ["self"] (spPeek t) := by
 refine T.F_q5.ok sc_q5 ?_ ?_
 walk_at "i"
 ·obtain ⟨p, dx, lw, row, ws, i, rfl, C, q⟩ := h
  refine at_one (ps_ret (pe_ifExp (pt_val (pe_meth0 (pv 0) T.cl_Cursor T.m_q4 (ok_q4 T) (hr.mono (by decide)) (T.F_q4.binds (by walk_at "1")) .nil pass0)) (pe_ix ix_list (pe_fld (pv 0) rfl) (pe_fld (pv 0) rfl) (fun _ _ => rfl)) pe_str)) ?_
  refine ⟨_, rfl, p, dx, _, rfl, C.ob, rfl, p, dx, lw, row, ws, i, rfl, C, _, rfl, ifd (fun h => ?_) (fun h => ?_)⟩
  ·refine fldv rfl C.ob T.cl_Cursor T.n_Cursor_words rfl ?_
   refine fldv rfl C.ob T.cl_Cursor T.n_Cursor_at rfl ?_
   refine ⟨_, _, _, .str (pk ws i), rfl, rfl, SqL.of C.ls, atI_nat ?_, q⟩
   rw [List.getElem?_map, List.getElem?_eq_getElem h, pk_lt h]
   rfl
  ·rw [pk_ge (by omega)] at q
   exact q
def spAsk : Sp := fun vs H Q _ => ∃ p : V, vs = [p, .bl true] /\ Q .non H
theorem ok_q3 (T : Txt K mg t) : FnOk P w K mg base CX0 1 t.f_q3 t.d_q3 ["self", "good"] spAsk := by
 refine T.F_q3.ok sc_q3 ?_ ?_
 walk_at "i"
 ·obtain ⟨p, rfl, q⟩ := h
  refine at_one (ps_if (pt_not (pt_val (pv 1))) pss_at pss_at) ⟨_, rfl, true, rfl, iteF (at_nil q)⟩
def spTake (t : Adr) : Sp := fun vs H Q _ => ∃ (p dx lw : Addr) (row : Int) (ws : List Str) (i : Nat), vs = [.ref p, .bl true] /\ Cur t H p dx lw row ws i /\ ∀ H', Cur t H' p dx lw row ws (i + 1) -> Adv H H' p -> Q (.str (pk ws i)) H'
theorem ok_q6 (T : Txt K mg t) : FnOk P w K mg base CX0 3 t.f_q6 t.d_q6 ["self", "good"] (spTake t) := by
 refine T.F_q6.ok sc_q6 ?_ ?_
 walk_at "i"
 ·obtain ⟨p, dx, lw, row, ws, i, rfl, C, q⟩ := h
  refine at_cons (ps_expr (pe_meth (pv 0) T.cl_Cursor T.m_q3 (ok_q3 T) (hr.mono (by decide)) (T.F_q3.binds (by walk_at "2")) .nil pass0 (pa_cons (pv 1) pa_nil))) ⟨_, rfl, p, dx, _, rfl, C.ob, rfl, _, rfl, _, rfl, ?_⟩
  refine at_cons (ps_set (i := 2) sc_q6.nd rfl (Or.inl rfl) (pe_meth0 (pv 0) T.cl_Cursor T.m_q5 (ok_q5 T) (hr.mono (by decide)) (T.F_q5.binds (by walk_at "1")) .nil pass0)) ⟨_, rfl, p, dx, _, rfl, C.ob, rfl, p, dx, lw, row, ws, i, rfl, C, ?_⟩
  refine at_cons (ps_fldaug (pv 0) pe_int in_add) ⟨_, rfl, p, _, dx, _, _, rfl, C.ob, T.cl_Cursor, T.n_Cursor_at, rfl, ?_⟩
  refine ⟨_, _, rfl, rfl, dx, _, C.ob, by show 3 < 1000; decide, ?_⟩
  refine at_one (ps_ret (pv 2)) ⟨_, rfl, ?_⟩
  have C' : Cur t (upd H p (.ins t.c_Cursor dx (cf row lw (i + 1)))) p dx lw row ws (i + 1) := ⟨upd_same, by rw [upd_ne (Ne.symm C.ne)]; exact C.ls, C.sz⟩
  exact q _ C' Adv.upd
def spChoice (K : PySem.W.Frag) (t : Adr) : Sp := fun vs H Q _ => ∃ (p dx lw c : Addr) (cs : List Str) (row : Int) (ws : List Str) (i : Nat), vs = [.ref p, .ref c] /\ Cur t H p dx lw row ws i /\ SqT K H c (cs.map V.str) /\ pk ws i ∈ cs /\ ∀ H', Cur t H' p dx lw row ws (i + 1) -> Adv H H' p -> Q (.str (pk ws i)) H'
theorem inV_strs {x : Str} {cs : List Str} : inV (.str x) (cs.map V.str) = decide (x ∈ cs) := by
 unfold inV
 rw [List.any_map, Bool.eq_iff_iff, List.any_eq_true, decide_eq_true_eq]
 constructor
 ·rintro ⟨y, hy, e⟩
  have : (y == x) = true := e
  rw [← eq_of_beq this]; exact hy
 ·intro h
  exact ⟨x, h, by show (x == x) = true; simp⟩
theorem flat_strs {cs : List Str} : (cs.map V.str).all flatV = true := by
 rw [List.all_map, List.all_eq_true]
 intro _ _
 rfl
theorem ok_q7 (T : Txt K mg t) : FnOk P w K mg base CX0 4 t.f_q7 t.d_q7 ["self", "words"] (spChoice K t) := by
 refine T.F_q7.ok sc_q7 ?_ ?_
 walk_at "i"
 ·obtain ⟨p, dx, lw, c, cs, row, ws, i, rfl, C, hc, hin, q⟩ := h
  refine at_one (ps_ret (pe_meth (pv 0) T.cl_Cursor T.m_q6 (ok_q6 T) (hr.mono (by decide)) (T.F_q6.binds (by walk_at "2")) .nil pass0 (pa_cons (pe_cmpR op_in_seq (pe_meth0 (pv 0) T.cl_Cursor T.m_q5 (ok_q5 T) (hr.mono (by decide)) (T.F_q5.binds (by walk_at "1")) .nil pass0) (pv 1) rfl) pa_nil))) ?_
  refine ⟨_, rfl, p, dx, _, rfl, C.ob, rfl, ?_⟩
  refine ⟨_, rfl, p, dx, _, rfl, C.ob, rfl, p, dx, lw, row, ws, i, rfl, C, _, rfl, _, _, rfl, .inr hc, rfl, flat_strs, ?_⟩
  rw [inV_strs, decide_eq_true hin]
  exact ⟨p, dx, lw, row, ws, i, rfl, C, q⟩
def spName (t : Adr) : Sp := fun vs H Q _ => ∃ (p dx lw : Addr) (row : Int) (ws : List Str) (i : Nat), vs = [.ref p] /\ Cur t H p dx lw row ws i /\ isName (pk ws i) = true /\ ∀ H', Cur t H' p dx lw row ws (i + 1) -> Adv H H' p -> Q (.str (pk ws i)) H'
theorem ok_q8 (T : Txt K mg t) : FnOk P w K mg base CX0 4 t.f_q8 t.d_q8 ["self"] (spName t) := by
 refine T.F_q8.ok sc_q8 ?_ ?_
 walk_at "i"
 ·obtain ⟨p, dx, lw, row, ws, i, rfl, C, hin, q⟩ := h
  refine at_one (ps_ret (pe_meth (pv 0) T.cl_Cursor T.m_q6 (ok_q6 T) (hr.mono (by decide)) (T.F_q6.binds (by walk_at "2")) .nil pass0 (pa_cons (pe_call (ok_q73 T) (hr.mono (by decide)) rfl T.mg_q73 T.F_q73.kp (T.F_q73.binds (by walk_at "1")) .nil pass0 (pa_cons (pe_meth0 (pv 0) T.cl_Cursor T.m_q5 (ok_q5 T) (hr.mono (by decide)) (T.F_q5.binds (by walk_at "1")) .nil pass0) pa_nil)) pa_nil))) ?_
  refine ⟨_, rfl, p, dx, _, rfl, C.ob, rfl, ?_⟩
  refine ⟨_, rfl, p, dx, _, rfl, C.ob, rfl, p, dx, lw, row, ws, i, rfl, C, pk ws i, rfl, C.pkl, fun H1 s1 => ?_⟩
  rw [hin]
  exact ⟨p, dx, lw, row, ws, i, rfl, C.same s1, fun H2 C2 a2 => q H2 C2 (s1.adv a2)⟩
def wSigns (z : Str) : Str := "'" ++ PySem.Txt.replace z " " "_"
theorem wSigns_cps (z : Str) : (wSigns z).cps.toList = 39 :: subL 32 95 z.cps.toList := by
 unfold wSigns
 rw [cps_app, show ((" " : Str)) = ⟨#[32]⟩ from by decide +kernel, show (("_" : Str)) = ⟨#[95]⟩ from by decide +kernel, replace_cps]
 rfl
def spSigns (t : Adr) : Sp := fun vs H Q _ => ∃ (p dx lw : Addr) (row : Int) (ws : List Str) (i : Nat) (z : Str), vs = [.ref p] /\ Cur t H p dx lw row ws i /\ pk ws i = wSigns z /\ 1 <= z.length /\ z.length <= 1000 /\ 95 ∉ z.cps.toList /\ ∀ H', Cur t H' p dx lw row ws (i + 1) -> Adv H H' p -> Q (.str z) H'
theorem slice1 {w : Str} (h : 1 <= w.length) : (PySem.Txt.slice w (some 1) none).cps.toList = w.cps.toList.drop 1 := by
 rw [PyProof.Rows.slice_from_eq (b := (w.length : Int)) (by decide) (by omega) rfl]
 show (w.cps.toList.drop 1).take _ = _
 refine List.take_of_length_le ?_
 rw [List.length_drop, Array.length_toList]
 show w.length - 1 <= _
 omega
theorem ok_q9 (T : Txt K mg t) : FnOk P w K mg base CX0 4 t.f_q9 t.d_q9 ["self"] (spSigns t) := by
 refine T.F_q9.ok sc_q9 ?_ ?_
 walk_at "i"
 ·obtain ⟨p, dx, lw, row, ws, i, z, rfl, C, hw, hz1, hz2, hz3, q⟩ := h
  have hlen : (wSigns z).length = z.length + 1 := by
   have := congrArg List.length (wSigns_cps z)
   simpa [Str.length, subL] using this
  refine at_cons (ps_set (i := 1) sc_q9.nd rfl (Or.inl rfl) (pe_meth0 (pv 0) T.cl_Cursor T.m_q5 (ok_q5 T) (hr.mono (by decide)) (T.F_q5.binds (by walk_at "1")) .nil pass0)) ⟨_, rfl, p, dx, _, rfl, C.ob, rfl, p, dx, lw, row, ws, i, rfl, C, ?_⟩
  rw [hw]
  refine at_cons (ps_expr (pe_meth (pv 0) T.cl_Cursor T.m_q6 (ok_q6 T) (hr.mono (by decide)) (T.F_q6.binds (by walk_at "2")) .nil pass0 (pa_cons (pe_and (pe_cmpR op_gt (pe_callB call_len_str (by rfl) T.z_len (by decide +kernel) (pa_cons (pv 1) pa_nil)) pe_int (nomark _)) (pe_one (pe_bm F.plainAttrs_str F.slot_str_startswith F.type_str_startswith mt_starts2 (pv 1) (pa_cons pe_str pa_nil)))) pa_nil))) ?_
  refine ⟨_, rfl, p, dx, _, rfl, C.ob, rfl, ?_⟩
  refine ⟨_, rfl, _, rfl, sl_le (by omega), _, _, rfl, rfl, _, rfl, ?_⟩
  rw [decide_eq_true (by omega), if_pos rfl]
  refine ⟨_, rfl, rfl, _, _, rfl, rfl, ?_⟩
  have hst : (decide (0 + ("'" : Str).length <= (wSigns z).length) && Builtin.Str.subAt (wSigns z) "'" 0) = true := by
   have e1 : ("'" : Str).length = 1 := by decide +kernel
   rw [Bool.and_eq_true, decide_eq_true_eq, e1]
   refine ⟨by omega, ?_⟩
   unfold Builtin.Str.subAt
   rw [beq_iff_eq, ← Array.toList_inj, e1]
   have e2 := wSigns_cps z
   simp only [Array.toList_extract, List.extract_eq_take_drop, e2]
   rfl
  rw [hst]
  refine ⟨p, dx, lw, row, ws, i, rfl, C, fun H1 C1 a1 => ?_⟩
  refine at_one (ps_ret (pe_repl_sl (by decide +kernel) (pv 1))) ⟨_, rfl, _, rfl, sl_le (by omega), _, rfl, ?_, ?_⟩
  ·have h1 : (PySem.Txt.slice (wSigns z) (some 1) none).length <= 1001 := Nat.le_trans (PySem.Txt.slice_le _ _ _) (by omega)
   have h2 : (" " : Str).length = 1 := by decide +kernel
   rw [h2]
   omega
  ·have e : PySem.Txt.replace (PySem.Txt.slice (wSigns z) (some 1) none) "_" " " = z := by
    refine str_ext ?_
    rw [show ((" " : Str)) = ⟨#[32]⟩ from by decide +kernel, show (("_" : Str)) = ⟨#[95]⟩ from by decide +kernel, replace_cps, slice1 (by omega), wSigns_cps]
    exact subL_back hz3
   rw [e]
   exact q H1 C1 a1
end
local macro_rules | `(tactic| walk_at "u") => `(tactic| first | rfl | decide | exact Or.inl rfl | exact Or.inr rfl | exact Or.inr (Or.inl rfl) | exact Or.inr (Or.inr rfl) | assumption | (intro _; rfl) | exact nobehind _ (by decide) (by decide))
section
variable {P : Program} {w : World} {K : PySem.W.Frag} {mg : Str -> Option Value} {base : Heap} {t : Adr}
def runL (sg : List Nat) : List Nat -> Nat
 | [] => 0
 | c :: r => if c ∈ sg then 1 + runL sg r else 0
def dueV (sort signs row : Str) (i : Nat) : V :=
 if sort = "end" then (if i = row.length then .int 0 else .non)
 else if sort = "word" then (if (row.cps.toList.drop i).take signs.length = signs.cps.toList then .int signs.length else .non)
 else match row.cps.toList[i]? with
  | none => .non
  | some c =>
   if sort = "any" ∨ sort = "still" then .int (if sort = "any" then 1 else 0)
   else if sort = "none" then (if c ∈ signs.cps.toList then .non else .int 1)
   else if c ∈ signs.cps.toList then .int (if sort = "many" then 1 + runL signs.cps.toList (row.cps.toList.drop (i + 1)) else 1) else .non
theorem getL {row : Str} {i : Nat} : row.cps.toList.length = row.length := by simp [Str.length]
theorem strAt {row : Str} {i : Int} (h0 : 0 <= i) (h1 : i < row.length) : ∃ c, row.cps.toList[i.toNat]? = some c /\ atI row.cps.toList i = some c := atI_in _ h0 (by rw [getL (i := 0)]; exact h1)
def spEat (C : Addr) (fl : Str -> List (Str × V)) (sort : Str) : Sp := fun vs H Q _ => ∃ (p dx : Addr) (signs row : Str) (i : Nat), vs = [.ref p, .str row, .int i] /\ H p = some (.ins C dx (fl signs)) /\ signs.length <= 1000 /\ row.length <= 1000 /\ i <= row.length /\ Q (dueV sort signs row i) H
def spEats (b : Bool) : Sp := fun vs H Q _ => ∃ p : V, vs = [p] /\ Q (.bl b) H
def spInit (C : Addr) (f : Str) : Sp := fun vs H Q _ => ∃ (p dx : Addr) (z : Str), vs = [.ref p, .str z] /\ H p = some (.ins C dx []) /\ Q .non (upd H p (.ins C dx [(f, .str z)]))
theorem ok_q46 (T : Txt K mg t) : FnOk P w K mg base CX0 1 t.f_q46 t.d_q46 ["self", "text"] (spInit t.c_Word "wanted") := by
 refine T.F_q46.ok sc_q46 ?_ ?_
 walk_at "i"
 ·obtain ⟨p, dx, z, rfl, hp, q⟩ := h
  refine @at_one _ _ _ _ _ _ (ps_fld (pv 0) (pv 1) rfl) ?_
  exact ⟨_, rfl, _, rfl, p, _, dx, [], rfl, hp, T.cl_Word, T.n_Word_wanted, by decide, q⟩
theorem ok_q17 (T : Txt K mg t) : FnOk P w K mg base CX0 1 t.f_q17 t.d_q17 ["self", "signs"] (spInit t.c_One "signs") := by
 refine T.F_q17.ok sc_q17 ?_ ?_
 walk_at "i"
 ·obtain ⟨p, dx, z, rfl, hp, q⟩ := h
  refine @at_one _ _ _ _ _ _ (ps_fld (pv 0) (pv 1) rfl) ?_
  exact ⟨_, rfl, _, rfl, p, _, dx, [], rfl, hp, T.cl_One, T.n_One_signs, by decide, q⟩
theorem ok_q43 (T : Txt K mg t) : FnOk P w K mg base CX0 1 t.f_q43 t.d_q43 ["self", "signs"] (spInit t.c_Without "signs") := by
 refine T.F_q43.ok sc_q43 ?_ ?_
 walk_at "i"
 ·obtain ⟨p, dx, z, rfl, hp, q⟩ := h
  refine @at_one _ _ _ _ _ _ (ps_fld (pv 0) (pv 1) rfl) ?_
  exact ⟨_, rfl, _, rfl, p, _, dx, [], rfl, hp, T.cl_Without, T.n_Without_signs, by decide, q⟩
theorem ok_q12 (T : Txt K mg t) : FnOk P w K mg base CX0 1 t.f_q12 t.d_q12 ["self", "signs"] (spInit t.c_Many "signs") := by
 refine T.F_q12.ok sc_q12 ?_ ?_
 walk_at "i"
 ·obtain ⟨p, dx, z, rfl, hp, q⟩ := h
  refine @at_one _ _ _ _ _ _ (ps_fld (pv 0) (pv 1) rfl) ?_
  exact ⟨_, rfl, _, rfl, p, _, dx, [], rfl, hp, T.cl_Many, T.n_Many_signs, by decide, q⟩
theorem ok_q21 (T : Txt K mg t) : FnOk P w K mg base CX0 1 t.f_q21 t.d_q21 ["self"] (spEats false) := by
 refine T.F_q21.ok sc_q21 ?_ ?_
 walk_at "i"
 ·obtain ⟨p, rfl, q⟩ := h
  exact @at_one _ _ _ _ _ _ (ps_ret pe_bl) q
theorem ok_q48 (T : Txt K mg t) : FnOk P w K mg base CX0 1 t.f_q48 t.d_q48 ["self"] (spEats true) := by
 refine T.F_q48.ok sc_q48 ?_ ?_
 walk_at "i"
 ·obtain ⟨p, rfl, q⟩ := h
  exact @at_one _ _ _ _ _ _ (ps_ret pe_bl) q
theorem ok_q19 (T : Txt K mg t) : FnOk P w K mg base CX0 1 t.f_q19 t.d_q19 ["self"] (spEats true) := by
 refine T.F_q19.ok sc_q19 ?_ ?_
 walk_at "i"
 ·obtain ⟨p, rfl, q⟩ := h
  exact @at_one _ _ _ _ _ _ (ps_ret pe_bl) q
theorem ok_q45 (T : Txt K mg t) : FnOk P w K mg base CX0 1 t.f_q45 t.d_q45 ["self"] (spEats true) := by
 refine T.F_q45.ok sc_q45 ?_ ?_
 walk_at "i"
 ·obtain ⟨p, rfl, q⟩ := h
  exact @at_one _ _ _ _ _ _ (ps_ret pe_bl) q
theorem ok_q14 (T : Txt K mg t) : FnOk P w K mg base CX0 1 t.f_q14 t.d_q14 ["self"] (spEats true) := by
 refine T.F_q14.ok sc_q14 ?_ ?_
 walk_at "i"
 ·obtain ⟨p, rfl, q⟩ := h
  exact @at_one _ _ _ _ _ _ (ps_ret pe_bl) q
theorem ok_q1 (T : Txt K mg t) : FnOk P w K mg base CX0 1 t.f_q1 t.d_q1 ["self"] (spEats true) := by
 refine T.F_q1.ok sc_q1 ?_ ?_
 walk_at "i"
 ·obtain ⟨p, rfl, q⟩ := h
  exact @at_one _ _ _ _ _ _ (ps_ret pe_bl) q
theorem subAt_iff {row sg : Str} {i : Nat} (hi : i <= row.length) : (decide (fromIndex row.length (i : Int) + sg.length <= row.length) && Builtin.Str.subAt row sg (fromIndex row.length (i : Int))) = decide ((row.cps.toList.drop i).take sg.length = sg.cps.toList) := by
 have e : fromIndex row.length (i : Int) = i := by unfold fromIndex; rw [if_neg (by omega)]; omega
 rw [e]
 have e2 : Builtin.Str.subAt row sg i = decide ((row.cps.toList.drop i).take sg.length = sg.cps.toList) := by
  unfold Builtin.Str.subAt
  rw [Bool.eq_iff_iff, beq_iff_eq, decide_eq_true_eq]
  rw [← Array.toList_inj]
  simp [Array.toList_extract, List.extract_eq_take_drop]
 rw [e2, Bool.eq_iff_iff, Bool.and_eq_true, decide_eq_true_eq, decide_eq_true_eq]
 refine ⟨fun z => z.2, fun z => ⟨?_, z⟩⟩
 have := congrArg List.length z
 rw [List.length_take, List.length_drop, getL (i := 0), getL (i := 0)] at this
 omega
theorem ok_q47 (T : Txt K mg t) : FnOk P w K mg base CX0 1 t.f_q47 t.d_q47 ["self", "row", "at"] (spEat t.c_Word (fun z => [("wanted", .str z)]) "word") := by
 refine T.F_q47.ok sc_q47 ?_ ?_
 walk_at "i"
 ·obtain ⟨p, dx, sg, row, i, rfl, hp, hs, hw, hi, q⟩ := h
  refine @at_one _ _ _ _ _ _ (ps_ret (pe_ifExp (pt_val (pe_bm F.plainAttrs_str F.slot_str_startswith F.type_str_startswith mt_starts3 (pv 1) (pa_cons (pe_fld (pv 0) rfl) (pa_cons (pv 2) pa_nil)))) (pe_callB call_len_str (by rfl) T.z_len (by decide +kernel) (pa_cons (pe_fld (pv 0) rfl) pa_nil)) pe_non)) ?_
  rw [dueV, if_neg (by decide), if_pos rfl] at q
  refine ⟨_, rfl, rfl, _, rfl, p, _, dx, _, _, rfl, hp, T.cl_Word, T.n_Word_wanted, rfl, _, rfl, _, _, _, rfl, rfl, _, rfl, ?_⟩
  rw [subAt_iff hi]
  refine ifd (fun h => ?_) (fun h => ?_)
  ·rw [if_pos h] at q
   exact ⟨_, rfl, p, _, dx, _, _, rfl, hp, T.cl_Word, T.n_Word_wanted, rfl, _, rfl, sl_le (by omega), q⟩
  ·rw [if_neg h] at q
   exact q
theorem dueV_at {sort sg row : Str} {i c : Nat} (h1 : sort ≠ "end") (h2 : sort ≠ "word") (e : row.cps.toList[i]? = some c) : dueV sort sg row i = if sort = "any" ∨ sort = "still" then .int (if sort = "any" then 1 else 0)
   else if sort = "none" then (if c ∈ sg.cps.toList then .non else .int 1)
   else if c ∈ sg.cps.toList then .int (if sort = "many" then 1 + runL sg.cps.toList (row.cps.toList.drop (i + 1)) else 1) else .non := by
 rw [dueV, if_neg h1, if_neg h2, e]
theorem dueV_out {sort sg row : Str} {i : Nat} (h1 : sort ≠ "end") (h2 : sort ≠ "word") (h : row.length <= i) : dueV sort sg row i = .non := by
 rw [dueV, if_neg h1, if_neg h2, List.getElem?_eq_none (by rw [getL (i := 0)]; exact h)]
theorem ok_q18 (T : Txt K mg t) : FnOk P w K mg base CX0 1 t.f_q18 t.d_q18 ["self", "row", "at"] (spEat t.c_One (fun z => [("signs", .str z)]) "one") := by
 refine T.F_q18.ok sc_q18 ?_ ?_
 walk_at "i"
 ·obtain ⟨p, dx, sg, row, i, rfl, hp, hs, hw, hi, q⟩ := h
  refine @at_one _ _ _ _ _ _ (ps_ret (pe_ifExp (PW.pt (pw_and (pt_cmpR op_lt (pv 2) (pe_callB call_len_str (by rfl) T.z_len (by decide +kernel) (pa_cons (pv 1) pa_nil)) (nomark _)) (pw_and1 (pt_cmpR op_in_str (pe_ix ix_str (pv 1) (pv 2) (fun _ _ => rfl)) (pe_fld (pv 0) rfl) rfl)))) pe_int pe_non)) ?_
  walk_at "rd"
  refine ⟨sl_le (by omega), ifd (fun h => ?_) (fun h => ?_)⟩
  ·obtain ⟨c, e1, e2⟩ := strAt (row := row) (i := (i : Int)) (by omega) h
   rw [Int.toNat_natCast] at e1
   refine ⟨sl_le (by omega), c, e2, ⟨_, rfl, _, _, _, _, _, rfl, hp, T.cl_One, T.n_One_signs, rfl, ⟨sg, rfl, ?_⟩⟩⟩
   rw [PySem.StrLaws.found_one]
   rw [dueV_at (by decide) (by decide) e1, if_neg (by decide), if_neg (by decide)] at q
   refine ifd (fun h => ?_) (fun h => ?_)
   ·rw [if_pos h, if_neg (by decide)] at q
    exact q
   ·rw [if_neg h] at q
    exact q
  ·rw [dueV_out (by decide) (by decide) (by omega)] at q
   exact q
theorem ok_q44 (T : Txt K mg t) : FnOk P w K mg base CX0 1 t.f_q44 t.d_q44 ["self", "row", "at"] (spEat t.c_Without (fun z => [("signs", .str z)]) "none") := by
 refine T.F_q44.ok sc_q44 ?_ ?_
 walk_at "i"
 ·obtain ⟨p, dx, sg, row, i, rfl, hp, hs, hw, hi, q⟩ := h
  refine @at_one _ _ _ _ _ _ (ps_ret (pe_ifExp (PW.pt (pw_and (pt_cmpR op_lt (pv 2) (pe_callB call_len_str (by rfl) T.z_len (by decide +kernel) (pa_cons (pv 1) pa_nil)) (nomark _)) (pw_and1 (pt_cmpR op_notin_str (pe_ix ix_str (pv 1) (pv 2) (fun _ _ => rfl)) (pe_fld (pv 0) rfl) rfl)))) pe_int pe_non)) ?_
  walk_at "rd"
  refine ⟨sl_le (by omega), ifd (fun h => ?_) (fun h => ?_)⟩
  ·obtain ⟨c, e1, e2⟩ := strAt (row := row) (i := (i : Int)) (by omega) h
   rw [Int.toNat_natCast] at e1
   refine ⟨sl_le (by omega), c, e2, ⟨_, rfl, _, _, _, _, _, rfl, hp, T.cl_Without, T.n_Without_signs, rfl, ⟨sg, rfl, ?_⟩⟩⟩
   rw [PySem.StrLaws.found_one]
   rw [dueV_at (by decide) (by decide) e1, if_neg (by decide), if_pos rfl] at q
   refine ifnd (fun h => ?_) (fun h => ?_)
   ·rw [if_neg h] at q
    exact q
   ·rw [if_pos h] at q
    exact q
  ·rw [dueV_out (by decide) (by decide) (by omega)] at q
   exact q
theorem ok_q0 (T : Txt K mg t) : FnOk P w K mg base CX0 1 t.f_q0 t.d_q0 ["self", "row", "at"] (spEat t.c_Any (fun z => []) "any") := by
 refine T.F_q0.ok sc_q0 ?_ ?_
 walk_at "i"
 ·obtain ⟨p, dx, sg, row, i, rfl, hp, hs, hw, hi, q⟩ := h
  refine @at_one _ _ _ _ _ _ (ps_ret (pe_ifExp (pt_cmpR op_lt (pv 2) (pe_callB call_len_str (by rfl) T.z_len (by decide +kernel) (pa_cons (pv 1) pa_nil)) (nomark _)) pe_int pe_non)) ?_
  walk_at "rd"
  refine ⟨sl_le (by omega), ifd (fun h => ?_) (fun h => ?_)⟩
  ·obtain ⟨c, e1, e2⟩ := strAt (row := row) (i := (i : Int)) (by omega) h
   rw [Int.toNat_natCast] at e1
   rw [dueV_at (by decide) (by decide) e1, if_pos (by decide), if_pos rfl] at q
   exact q
  ·rw [dueV_out (by decide) (by decide) (by omega)] at q
   exact q
theorem ok_q25 (T : Txt K mg t) : FnOk P w K mg base CX0 1 t.f_q25 t.d_q25 ["self", "row", "at"] (spEat t.c_Still (fun z => []) "still") := by
 refine T.F_q25.ok sc_q25 ?_ ?_
 walk_at "i"
 ·obtain ⟨p, dx, sg, row, i, rfl, hp, hs, hw, hi, q⟩ := h
  refine @at_one _ _ _ _ _ _ (ps_ret (pe_ifExp (pt_cmpR op_lt (pv 2) (pe_callB call_len_str (by rfl) T.z_len (by decide +kernel) (pa_cons (pv 1) pa_nil)) (nomark _)) pe_int pe_non)) ?_
  walk_at "rd"
  refine ⟨sl_le (by omega), ifd (fun h => ?_) (fun h => ?_)⟩
  ·obtain ⟨c, e1, e2⟩ := strAt (row := row) (i := (i : Int)) (by omega) h
   rw [Int.toNat_natCast] at e1
   rw [dueV_at (by decide) (by decide) e1, if_pos (by decide), if_neg (by decide)] at q
   exact q
  ·rw [dueV_out (by decide) (by decide) (by omega)] at q
   exact q
theorem ok_q10 (T : Txt K mg t) : FnOk P w K mg base CX0 1 t.f_q10 t.d_q10 ["self", "row", "at"] (spEat t.c_End (fun z => []) "end") := by
 refine T.F_q10.ok sc_q10 ?_ ?_
 walk_at "i"
 ·obtain ⟨p, dx, sg, row, i, rfl, hp, hs, hw, hi, q⟩ := h
  refine @at_one _ _ _ _ _ _ (ps_ret (pe_ifExp (pt_cmpR op_eq (pv 2) (pe_callB call_len_str (by rfl) T.z_len (by decide +kernel) (pa_cons (pv 1) pa_nil)) (nomark _)) pe_int pe_non)) ?_
  walk_at "rd"
  rw [dueV, if_pos rfl] at q
  refine ⟨sl_le (by omega), rfl, ifd (fun h => ?_) (fun h => ?_)⟩
  ·rw [if_pos (by omega)] at q
   exact q
  ·rw [if_neg (by omega)] at q
   exact q
theorem run_step {sg l : List Nat} {j c : Nat} (e : l[j]? = some c) : runL sg (l.drop j) = if c ∈ sg then 1 + runL sg (l.drop (j + 1)) else 0 := by
 have hdrop : l.drop j = c :: l.drop (j + 1) := by
  rw [List.drop_eq_getElem?_toList_append, e]; rfl
 rw [hdrop, runL]
theorem ok_q13 (T : Txt K mg t) : FnOk P w K mg base CX0 1 t.f_q13 t.d_q13 ["self", "row", "at"] (spEat t.c_Many (fun z => [("signs", .str z)]) "many") := by
 refine T.F_q13.ok sc_q13 ?_ ?_
 walk_at "i"
 ·obtain ⟨p, dx, sg, row, i, rfl, hp, hs, hw, hi, q⟩ := h
  have q' : Q (if 0 < runL sg.cps.toList (row.cps.toList.drop i) then .int (runL sg.cps.toList (row.cps.toList.drop i)) else .non) H := by
   by_cases h : i < row.length
   ·obtain ⟨c, e1, e2⟩ := strAt (row := row) (i := (i : Int)) (by omega) (by omega)
    rw [Int.toNat_natCast] at e1
    rw [dueV_at (by decide) (by decide) e1, if_neg (by decide), if_neg (by decide), if_pos rfl] at q
    rw [run_step e1]
    by_cases h2 : c ∈ sg.cps.toList
    ·rw [if_pos h2] at q ⊢
     rw [if_pos (by omega)]
     exact q
    ·rw [if_neg h2] at q ⊢
     exact q
   ·rw [dueV_out (by decide) (by decide) (by omega)] at q
    have : row.cps.toList.drop i = [] := List.drop_eq_nil_of_le (by rw [getL (i := 0)]; omega)
    rw [this]
    exact q
  refine @at_cons _ _ _ _ _ _ _ (ps_set (i := 3) sc_q13.nd rfl (Or.inl rfl) (pv 2)) ?_
  walk_at "rd"
  refine at_consR (fun Z' H' => H' = H /\ Z' = [some (.ref p), some (.str row), some (.int i), some (.int ((i : Int) + runL sg.cps.toList (row.cps.toList.drop i)))]) (ps_while PassesOwn.never (PW.pt (pw_and (pt_cmpR op_lt (pv 3) (pe_callB call_len_str (by rfl) T.z_len (by decide +kernel) (pa_cons (pv 1) pa_nil)) (nomark _)) (pw_and1 (pt_cmpR op_in_str (pe_ix ix_str (pv 1) (pv 3) (fun _ _ => rfl)) (pe_fld (pv 0) rfl) rfl)))) pss_at) ?_ ?_
  ·refine ⟨fun m Z' H' => ∃ j : Nat, Z' = [some (.ref p), some (.str row), some (.int i), some (.int (j : Int))] /\ H' = H /\ j <= row.length /\ m = row.length - j /\ i + runL sg.cps.toList (row.cps.toList.drop i) = j + runL sg.cps.toList (row.cps.toList.drop j), ⟨_, i, rfl, rfl, hi, rfl, rfl⟩, ?_⟩
   rintro m Z' H' ⟨j, rfl, e, hj, rfl, hr⟩
   rw [e]
   clear e H'
   walk_at "rd"
   refine ⟨sl_le (by omega), ifd (fun h => ?_) (fun h => ?_)⟩
   ·obtain ⟨c, e1, e2⟩ := strAt (row := row) (i := (j : Int)) (by omega) h
    rw [Int.toNat_natCast] at e1
    rw [run_step (j := j) e1] at hr
    refine ⟨sl_le (by omega), c, e2, ⟨_, rfl, _, _, _, _, _, rfl, hp, T.cl_Many, T.n_Many_signs, rfl, ⟨sg, rfl, ?_⟩⟩⟩
    rw [PySem.StrLaws.found_one]
    refine ifd (fun h2 => ?_) (fun h2 => ?_)
    ·rw [if_pos h2] at hr
     refine ⟨_, fun Z' H' z => z, @at_one _ _ _ _ _ _ (ps_aug (i := 3) sc_q13.nd rfl (Or.inl rfl) pe_int ip_add) ?_⟩
     walk_at "rd"
     exact ⟨row.length - (j + 1), by omega, j + 1, by simp, by omega, rfl, by omega⟩
    ·rw [if_neg h2] at hr
     refine ⟨rfl, ?_⟩
     rw [show (i : Int) + (runL sg.cps.toList (row.cps.toList.drop i) : Nat) = (j : Int) by omega]
   ·have : row.cps.toList.drop j = [] := List.drop_eq_nil_of_le (by rw [getL (i := 0)]; omega)
    rw [this, runL] at hr
    omega
  rintro Z' H' ⟨e, rfl⟩
  rw [e]
  clear e H'
  refine @at_one _ _ _ _ _ _ (ps_ret (pe_ifExp (pt_cmpR op_gt (pv 3) (pv 2) (nomark _)) (pe_op op_sub (pv 3) (pv 2)) pe_non)) ?_
  walk_at "rd"
  refine ifd (fun h => ?_) (fun h => ?_)
  ·rw [if_pos (by omega)] at q'
   rw [show (i : Int) + (runL sg.cps.toList (row.cps.toList.drop i) : Nat) - i = runL sg.cps.toList (row.cps.toList.drop i) by omega]
   exact q'
  ·rw [if_neg (by omega)] at q'
   exact q'
theorem dueV_cases (sort sg row : Str) (i : Nat) : (∃ n : Int, dueV sort sg row i = .int n) ∨ dueV sort sg row i = .non := by
 unfold dueV
 repeat' split
 all_goals first | exact .inl ⟨_, rfl⟩ | exact .inr rfl
def eatsB (sort : Str) : Bool := !decide (sort = "still" ∨ sort = "end")
structure PatK (P : Program) (w : World) (K : PySem.W.Frag) (mg : Str -> Option Value) (base : Heap) (C fe fs : Addr) (de ds : FuncData) (sort : Str) (fl : Str -> List (Str × V)) : Prop where
 cl : Cls K C
 me : Meth K C "eaten" fe
 ms : Meth K C "eats" fs
 ne : ∀ z, (fl z).lookup ("eaten" : Str) = none
 ns : ∀ z, (fl z).lookup ("eats" : Str) = none
 ge : FnOk P w K mg base CX0 1 fe de ["self", "row", "at"] (spEat C fl sort)
 be : Binds K de ["self", "row", "at"] []
 gs : FnOk P w K mg base CX0 1 fs ds ["self"] (spEats (eatsB sort))
 bs : Binds K ds ["self"] []
 ty : PySem.W.findIn K (.ref C) "__class__" = some (some (.builtin "object.__class__"))
 mr : PySem.W.mroIn K C (.type "object") = some true
theorem pk_Word (T : Txt K mg t) : PatK P w K mg base t.c_Word t.f_q47 t.f_q48 t.d_q47 t.d_q48 "word" (fun z => [("wanted", .str z)]) :=
 ⟨T.cl_Word, T.m_q47, T.m_q48, fun _ => by rfl, fun _ => by rfl, ok_q47 T, T.F_q47.binds (by walk_at "3"), by rw [show eatsB "word" = true by decide +kernel]; exact ok_q48 T, T.F_q48.binds (by walk_at "1"), T.ty_Word, T.mr_Word⟩
theorem pk_One (T : Txt K mg t) : PatK P w K mg base t.c_One t.f_q18 t.f_q19 t.d_q18 t.d_q19 "one" (fun z => [("signs", .str z)]) :=
 ⟨T.cl_One, T.m_q18, T.m_q19, fun _ => by rfl, fun _ => by rfl, ok_q18 T, T.F_q18.binds (by walk_at "3"), by rw [show eatsB "one" = true by decide +kernel]; exact ok_q19 T, T.F_q19.binds (by walk_at "1"), T.ty_One, T.mr_One⟩
theorem pk_Without (T : Txt K mg t) : PatK P w K mg base t.c_Without t.f_q44 t.f_q45 t.d_q44 t.d_q45 "none" (fun z => [("signs", .str z)]) :=
 ⟨T.cl_Without, T.m_q44, T.m_q45, fun _ => by rfl, fun _ => by rfl, ok_q44 T, T.F_q44.binds (by walk_at "3"), by rw [show eatsB "none" = true by decide +kernel]; exact ok_q45 T, T.F_q45.binds (by walk_at "1"), T.ty_Without, T.mr_Without⟩
theorem pk_Many (T : Txt K mg t) : PatK P w K mg base t.c_Many t.f_q13 t.f_q14 t.d_q13 t.d_q14 "many" (fun z => [("signs", .str z)]) :=
 ⟨T.cl_Many, T.m_q13, T.m_q14, fun _ => by rfl, fun _ => by rfl, ok_q13 T, T.F_q13.binds (by walk_at "3"), by rw [show eatsB "many" = true by decide +kernel]; exact ok_q14 T, T.F_q14.binds (by walk_at "1"), T.ty_Many, T.mr_Many⟩
theorem pk_Any (T : Txt K mg t) : PatK P w K mg base t.c_Any t.f_q0 t.f_q1 t.d_q0 t.d_q1 "any" (fun z => []) :=
 ⟨T.cl_Any, T.m_q0, T.m_q1, fun _ => by rfl, fun _ => by rfl, ok_q0 T, T.F_q0.binds (by walk_at "3"), by rw [show eatsB "any" = true by decide +kernel]; exact ok_q1 T, T.F_q1.binds (by walk_at "1"), T.ty_Any, T.mr_Any⟩
theorem pk_Still (T : Txt K mg t) : PatK P w K mg base t.c_Still t.f_q25 t.f_q21 t.d_q25 t.d_q21 "still" (fun z => []) :=
 ⟨T.cl_Still, T.m_q25, T.m_Still_eats, fun _ => by rfl, fun _ => by rfl, ok_q25 T, T.F_q25.binds (by walk_at "3"), by rw [show eatsB "still" = false by decide +kernel]; exact ok_q21 T, T.F_q21.binds (by walk_at "1"), T.ty_Still, T.mr_Still⟩
theorem pk_End (T : Txt K mg t) : PatK P w K mg base t.c_End t.f_q10 t.f_q21 t.d_q10 t.d_q21 "end" (fun z => []) :=
 ⟨T.cl_End, T.m_q10, T.m_End_eats, fun _ => by rfl, fun _ => by rfl, ok_q10 T, T.F_q10.binds (by walk_at "3"), by rw [show eatsB "end" = false by decide +kernel]; exact ok_q21 T, T.F_q21.binds (by walk_at "1"), T.ty_End, T.mr_End⟩
structure RuleM where
 sort : Str
 signs : Str
 colour : Str
 deed : Str
 goal : Option Nat
 fold : Str
structure ModeM where
 name : Str
 colour : Str
 rules : List RuleM
abbrev sorts : List Str := ["word", "one", "none", "many", "any", "still", "end"]
abbrev bare (s : Str) : Prop := s = "any" ∨ s = "still" ∨ s = "end"
def clsOf (t : Adr) (s : Str) : Addr := if s = "any" then t.c_Any else if s = "still" then t.c_Still else if s = "end" then t.c_End else if s = "word" then t.c_Word else if s = "one" then t.c_One else if s = "none" then t.c_Without else t.c_Many
def flOf (s z : Str) : List (Str × V) := if bare s then [] else if s = "word" then [("wanted", .str z)] else [("signs", .str z)]
theorem cls_any : clsOf t "any" = t.c_Any := by rw [clsOf, if_pos rfl]
theorem cls_still : clsOf t "still" = t.c_Still := by rw [clsOf, if_neg (by decide), if_pos rfl]
theorem cls_end : clsOf t "end" = t.c_End := by rw [clsOf, if_neg (by decide), if_neg (by decide), if_pos rfl]
theorem cls_word : clsOf t "word" = t.c_Word := by rw [clsOf, if_neg (by decide), if_neg (by decide), if_neg (by decide), if_pos rfl]
theorem cls_one : clsOf t "one" = t.c_One := by rw [clsOf, if_neg (by decide), if_neg (by decide), if_neg (by decide), if_neg (by decide), if_pos rfl]
theorem cls_none : clsOf t "none" = t.c_Without := by rw [clsOf, if_neg (by decide), if_neg (by decide), if_neg (by decide), if_neg (by decide), if_neg (by decide), if_pos rfl]
theorem cls_many : clsOf t "many" = t.c_Many := by rw [clsOf, if_neg (by decide), if_neg (by decide), if_neg (by decide), if_neg (by decide), if_neg (by decide), if_neg (by decide)]
theorem fl_any : flOf "any" = fun _ => [] := by funext z; rw [flOf, if_pos (by decide)]
theorem fl_still : flOf "still" = fun _ => [] := by funext z; rw [flOf, if_pos (by decide)]
theorem fl_end : flOf "end" = fun _ => [] := by funext z; rw [flOf, if_pos (by decide)]
theorem fl_word : flOf "word" = fun z => ([("wanted", .str z)] : List (Str × V)) := by funext z; rw [flOf, if_neg (by decide), if_pos rfl]
theorem fl_sg {s : Str} (h : ¬ bare s) (h2 : s ≠ "word") : flOf s = fun z => ([("signs", .str z)] : List (Str × V)) := by funext z; rw [flOf, if_neg h, if_neg h2]
theorem sorts_cases {s : Str} (h : s ∈ sorts) : s = "word" ∨ s = "one" ∨ s = "none" ∨ s = "many" ∨ s = "any" ∨ s = "still" ∨ s = "end" := by simpa using h
theorem patK (T : Txt K mg t) {s : Str} (h : s ∈ sorts) : ∃ fe fs de ds, PatK P w K mg base (clsOf t s) fe fs de ds s (flOf s) := by
 rcases sorts_cases h with rfl | rfl | rfl | rfl | rfl | rfl | rfl
 ·rw [cls_word, fl_word]; exact ⟨_, _, _, _, pk_Word T⟩
 ·rw [cls_one, fl_sg (by decide) (by decide)]; exact ⟨_, _, _, _, pk_One T⟩
 ·rw [cls_none, fl_sg (by decide) (by decide)]; exact ⟨_, _, _, _, pk_Without T⟩
 ·rw [cls_many, fl_sg (by decide) (by decide)]; exact ⟨_, _, _, _, pk_Many T⟩
 ·rw [cls_any, fl_any]; exact ⟨_, _, _, _, pk_Any T⟩
 ·rw [cls_still, fl_still]; exact ⟨_, _, _, _, pk_Still T⟩
 ·rw [cls_end, fl_end]; exact ⟨_, _, _, _, pk_End T⟩
def IsPat (t : Adr) (H : Hp) (p : Addr) (s z : Str) : Prop := ∃ dx, H p = some (.ins (clsOf t s) dx (flOf s z))
def goalV : Option Nat -> V
 | none => .non
 | some g => .int g
def rf (p : Addr) (R : RuleM) : List (Str × V) := [("pattern", .ref p), ("colour", .str R.colour), ("deed", .str R.deed), ("goal", goalV R.goal), ("fold", .str R.fold)]
def mf (M : ModeM) (l : Addr) : List (Str × V) := [("name", .str M.name), ("colour", .str M.colour), ("rules", .ref l)]
def IsRule (t : Adr) (H : Hp) (r : Addr) (R : RuleM) : Prop := ∃ dx p, H r = some (.ins t.c_Rule dx (rf p R)) /\ IsPat t H p R.sort R.signs
theorem IsPat.same {H H' : Hp} {p : Addr} {s z : Str} (h : IsPat t H p s z) (e : Same H H') : IsPat t H' p s z := let ⟨dx, x⟩ := h; ⟨dx, e _ _ x⟩
theorem IsRule.same {H H' : Hp} {r : Addr} {R : RuleM} (h : IsRule t H r R) (e : Same H H') : IsRule t H' r R := let ⟨dx, p, x, y⟩ := h; ⟨dx, p, e _ _ x, y.same e⟩
def All2 {α β : Type} (R : α -> β -> Prop) (as : List α) (bs : List β) : Prop := as.length = bs.length /\ ∀ (i : Nat) a b, as[i]? = some a -> bs[i]? = some b -> R a b
theorem All2.nil {α β : Type} {R : α -> β -> Prop} : All2 R [] [] := ⟨rfl, fun i a b h => by simp at h⟩
theorem All2.mono {α β : Type} {R S : α -> β -> Prop} {as : List α} {bs : List β} (h : All2 R as bs) (f : ∀ a b, R a b -> S a b) : All2 S as bs := ⟨h.1, fun i a b x y => f a b (h.2 i a b x y)⟩
theorem snoc_get {α : Type} {as : List α} {a x : α} {i : Nat} (h : (as ++ [a])[i]? = some x) : as[i]? = some x ∨ (i = as.length /\ x = a) := by
 by_cases hi : i < as.length
 ·rw [List.getElem?_append_left hi] at h; exact .inl h
 ·rw [List.getElem?_append_right (by omega)] at h
  have : i - as.length = 0 := by
   cases e : i - as.length with
   | zero => rfl
   | succ n => rw [e] at h; simp at h
  rw [this] at h
  simp at h
  exact .inr ⟨by omega, h.symm⟩
theorem All2.snoc {α β : Type} {R : α -> β -> Prop} {as : List α} {bs : List β} {a : α} {b : β} (h : All2 R as bs) (r : R a b) : All2 R (as ++ [a]) (bs ++ [b]) := by
 refine ⟨by simp [h.1], fun i x y hx hy => ?_⟩
 have hl := h.1
 rcases snoc_get hx with h1 | ⟨e1, rfl⟩
 ·rcases snoc_get hy with h2 | ⟨e2, rfl⟩
  ·exact h.2 i x y h1 h2
  ·have := (List.getElem?_eq_some_iff.mp h1).1; omega
 ·rcases snoc_get hy with h2 | ⟨e2, rfl⟩
  ·have := (List.getElem?_eq_some_iff.mp h2).1; omega
  ·exact r
theorem All2.at {α β : Type} {R : α -> β -> Prop} {as : List α} {bs : List β} (h : All2 R as bs) {i : Nat} {b : β} (e : bs[i]? = some b) : ∃ a, as[i]? = some a /\ R a b := by
 have hi := (List.getElem?_eq_some_iff.mp e).1
 have hi2 : i < as.length := by rw [h.1]; exact hi
 exact ⟨as[i], List.getElem?_eq_getElem hi2, h.2 i _ _ (List.getElem?_eq_getElem hi2) e⟩
structure ModesAt (t : Adr) (H : Hp) (as ls : List Addr) (ms : List ModeM) : Prop where
 la : as.length = ms.length
 ll : ls.length = ms.length
 nd : ls.Nodup
 ob : ∀ (i : Nat) a l m, as[i]? = some a -> ls[i]? = some l -> ms[i]? = some m -> ∃ dx rs, H a = some (.ins t.c_Mode dx (mf m l)) /\ H l = some (.lst (rs.map V.ref)) /\ All2 (IsRule t H) rs m.rules
theorem ModesAt.same {H H' : Hp} {as ls : List Addr} {ms : List ModeM} (h : ModesAt t H as ls ms) (e : Same H H') : ModesAt t H' as ls ms :=
 ⟨h.la, h.ll, h.nd, fun i a l m h1 h2 h3 => let ⟨dx, rs, x, y, z⟩ := h.ob i a l m h1 h2 h3; ⟨dx, rs, e _ _ x, e _ _ y, z.mono fun _ _ r => r.same e⟩⟩
def IsRules (t : Adr) (H : Hp) (a : Addr) (ms : List ModeM) : Prop := ∃ dx lm as ls, H a = some (.ins t.c_Rules dx [("modes", .ref lm)]) /\ H lm = some (.lst (as.map V.ref)) /\ ModesAt t H as ls ms
theorem IsRules.same {H H' : Hp} {a : Addr} {ms : List ModeM} (h : IsRules t H a ms) (e : Same H H') : IsRules t H' a ms := let ⟨dx, lm, as, ls, x, y, z⟩ := h; ⟨dx, lm, as, ls, e _ _ x, e _ _ y, z.same e⟩
theorem mk_same {H : Hp} {x dx : Addr} {o1 o2 o3 : HO} (h1 : H x = none) (h2 : H dx = none) : Same H (upd (upd (upd H dx o1) x o2) x o3) := fun b o e => by
 rw [upd_ne (ne_of_none e h1), upd_ne (ne_of_none e h1), upd_ne (ne_of_none e h2)]; exact e
theorem mk_same0 {H : Hp} {x dx : Addr} {o1 o2 : HO} (h1 : H x = none) (h2 : H dx = none) : Same H (upd (upd H dx o1) x o2) := fun b o e => by
 rw [upd_ne (ne_of_none e h1), upd_ne (ne_of_none e h2)]; exact e
def spRInit (t : Adr) : Sp := fun vs H Q _ => ∃ (x dx p : Addr) (R : RuleM), vs = [.ref x, .ref p, .str R.colour, .str R.deed, goalV R.goal, .str R.fold] /\ H x = some (.ins t.c_Rule dx []) /\ Q .non (upd H x (.ins t.c_Rule dx (rf p R)))
theorem ok_q23 (T : Txt K mg t) : FnOk P w K mg base CX0 1 t.f_q23 t.d_q23 ["self", "pattern", "colour", "deed", "goal", "fold"] (spRInit t) := by
 refine T.F_q23.ok sc_q23 ?_ ?_
 walk_at "i"
 ·obtain ⟨x, dx, p, R, rfl, hx, q⟩ := h
  refine @at_cons _ _ _ _ _ _ _ (ps_fld (pv 0) (pv 1) rfl) ⟨_, rfl, _, rfl, x, _, dx, [], rfl, hx, T.cl_Rule, T.n_Rule_pattern, by decide, ?_⟩
  refine @at_cons _ _ _ _ _ _ _ (ps_fld (pv 0) (pv 2) rfl) ⟨_, rfl, _, rfl, x, _, dx, [("pattern", .ref p)], rfl, upd_same, T.cl_Rule, T.n_Rule_colour, by show 1 < 1000; decide, ?_⟩
  refine @at_cons _ _ _ _ _ _ _ (ps_fld (pv 0) (pv 3) rfl) ⟨_, rfl, _, rfl, x, _, dx, [("pattern", .ref p), ("colour", .str R.colour)], rfl, upd_same, T.cl_Rule, T.n_Rule_deed, by show 2 < 1000; decide, ?_⟩
  refine @at_cons _ _ _ _ _ _ _ (ps_fld (pv 0) (pv 4) rfl) ⟨_, rfl, _, rfl, x, _, dx, [("pattern", .ref p), ("colour", .str R.colour), ("deed", .str R.deed)], rfl, upd_same, T.cl_Rule, T.n_Rule_goal, by show 3 < 1000; decide, ?_⟩
  refine @at_one _ _ _ _ _ _ (ps_fld (pv 0) (pv 5) rfl) ⟨_, rfl, _, rfl, x, _, dx, [("pattern", .ref p), ("colour", .str R.colour), ("deed", .str R.deed), ("goal", goalV R.goal)], rfl, upd_same, T.cl_Rule, T.n_Rule_fold, by show 4 < 1000; decide, ?_⟩
  rw [upd_upd, upd_upd, upd_upd, upd_upd]
  exact q
def spMInit (t : Adr) : Sp := fun vs H Q _ => ∃ (x dx l : Addr) (n c : Str) (rs : List V), vs = [.ref x, .str n, .str c, .ref l] /\ H x = some (.ins t.c_Mode dx []) /\ H l = some (.lst rs) /\
 ∀ l2 H', H l2 = none -> H' x = some (.ins t.c_Mode dx (mf ⟨n, c, []⟩ l2)) -> H' l2 = some (.lst rs) -> Adv H H' x -> Q .non H'
theorem ok_q15 (T : Txt K mg t) : FnOk P w K mg base CX0 1 t.f_q15 t.d_q15 ["self", "name", "colour", "rules"] (spMInit t) := by
 refine T.F_q15.ok sc_q15 ?_ ?_
 walk_at "i"
 ·obtain ⟨x, dx, l, n, c, rs, rfl, hx, hl, q⟩ := h
  have nlx : l ≠ x := ne_of hl hx (by intro z; cases z)
  refine @at_cons _ _ _ _ _ _ _ (ps_fld (pv 0) (pv 1) rfl) ⟨_, rfl, _, rfl, x, _, dx, [], rfl, hx, T.cl_Mode, T.n_Mode_name, by decide, ?_⟩
  refine @at_cons _ _ _ _ _ _ _ (ps_fld (pv 0) (pv 2) rfl) ⟨_, rfl, _, rfl, x, _, dx, [("name", .str n)], rfl, upd_same, T.cl_Mode, T.n_Mode_colour, by show 1 < 1000; decide, ?_⟩
  refine @at_one _ _ _ _ _ _ (ps_fld (pv 0) (pe_callTy call_list_of (by rfl) T.z_list (by decide +kernel) (pa_cons (pv 3) pa_nil)) rfl) ⟨_, rfl, l, rs, rfl, .inl (SqL.of (by rw [upd_ne nlx, upd_ne nlx]; exact hl)), fun l2 hl2 => ?_⟩
  have n2 : x ≠ l2 := ne_of_none upd_same hl2
  have hl0 : H l2 = none := by rw [upd_ne (Ne.symm n2), upd_ne (Ne.symm n2)] at hl2; exact hl2
  refine ⟨_, rfl, x, _, dx, [("name", .str n), ("colour", .str c)], rfl, by rw [upd_ne n2]; exact upd_same, T.cl_Mode, T.n_Mode_rules, by show 2 < 1000; decide, ?_⟩
  refine q l2 _ hl0 upd_same (by rw [upd_ne (Ne.symm n2)]; exact upd_same) fun b o hb nb => ?_
  rw [upd_ne nb, upd_ne (ne_of_none hb hl0), upd_ne nb, upd_ne nb]; exact hb
def spRsInit (t : Adr) : Sp := fun vs H Q _ => ∃ (x dx l : Addr) (rs : List V), vs = [.ref x, .ref l] /\ H x = some (.ins t.c_Rules dx []) /\ H l = some (.lst rs) /\
 ∀ l2 H', H l2 = none -> H' x = some (.ins t.c_Rules dx [("modes", .ref l2)]) -> H' l2 = some (.lst rs) -> Adv H H' x -> Q .non H'
theorem ok_q24 (T : Txt K mg t) : FnOk P w K mg base CX0 1 t.f_q24 t.d_q24 ["self", "modes"] (spRsInit t) := by
 refine T.F_q24.ok sc_q24 ?_ ?_
 walk_at "i"
 ·obtain ⟨x, dx, l, rs, rfl, hx, hl, q⟩ := h
  refine @at_one _ _ _ _ _ _ (ps_fld (pv 0) (pe_callTy call_list_of (by rfl) T.z_list (by decide +kernel) (pa_cons (pv 1) pa_nil)) rfl) ⟨_, rfl, l, rs, rfl, .inl (SqL.of hl), fun l2 hl2 => ?_⟩
  have n2 : x ≠ l2 := ne_of_none hx hl2
  refine ⟨_, rfl, x, _, dx, [], rfl, by rw [upd_ne n2]; exact hx, T.cl_Rules, T.n_Rules_modes, by decide, ?_⟩
  refine q l2 _ hl2 upd_same (by rw [upd_ne (Ne.symm n2)]; exact upd_same) fun b o hb nb => ?_
  rw [upd_ne nb, upd_ne (ne_of_none hb hl2)]; exact hb
abbrev patWords (s z : Str) : List Str := if bare s then [s] else [s, wSigns z]
structure GoodPat (s z : Str) : Prop where
 sort : s ∈ sorts
 nosg : bare s -> z = ""
 sg : ¬ bare s -> 1 <= z.length /\ z.length <= 200 /\ 95 ∉ z.cps.toList /\ 10 ∉ z.cps.toList
theorem drop_cons {α : Type} {ws : List α} {i : Nat} {x : α} {r : List α} (h : ws.drop i = x :: r) : ws[i]? = some x /\ ws.drop (i + 1) = r := by
 constructor
 ·have := congrArg (fun l => l[0]?) h
  simpa [List.getElem?_drop] using this
 ·rw [← List.drop_drop, h]; rfl
theorem pk_drop {ws : List Str} {i : Nat} {x : Str} {r : List Str} (h : ws.drop i = x :: r) : pk ws i = x := by
 unfold pk
 rw [List.getD_eq_getElem?_getD, (drop_cons h).1]
 rfl
theorem lt_drop {ws : List Str} {i : Nat} {x : Str} {r : List Str} (h : ws.drop i = x :: r) : i < ws.length := (List.getElem?_eq_some_iff.mp (drop_cons h).1).1
theorem nil_drop {ws : List Str} {i : Nat} (h : ws.drop i = []) : ws.length <= i := List.drop_eq_nil_iff.mp h
def spRdPat (t : Adr) : Sp := fun vs H Q _ => ∃ (p dx lw : Addr) (row : Int) (ws : List Str) (i : Nat) (s z : Str) (rest : List Str), vs = [.ref p] /\ Cur t H p dx lw row ws i /\ ws.drop i = patWords s z ++ rest /\ GoodPat s z /\
 ∀ a H' j, IsPat t H' a s z -> Cur t H' p dx lw row ws j -> ws.drop j = rest -> Adv H H' p -> Q (.ref a) H'
theorem ok_q77 (T : Txt K mg t) : FnOk P w K mg base CX0 5 t.f_q77 t.d_q77 ["cursor"] (spRdPat t) := by
 refine T.F_q77.ok sc_q77 ?_ ?_
 walk_at "i"
 ·obtain ⟨p, dx, lw, row, ws, i, s, z, rest, rfl, C, hd, G, q⟩ := h
  have hk : pk ws i = s := by
   by_cases hb : bare s
   ·rw [patWords, if_pos hb] at hd; exact pk_drop hd
   ·rw [patWords, if_neg hb] at hd; exact pk_drop hd
  refine @at_cons _ _ _ _ _ _ _ (ps_set (i := 1) sc_q77.nd rfl (Or.inl rfl) (pe_meth (pv 0) T.cl_Cursor T.m_q7 (ok_q7 T) (hr.mono (by decide)) (T.F_q7.binds (by walk_at "2")) .nil pass0 (pa_cons (pe_glob rfl T.mgv_PATTERNS (v := V.ref t.g_PATTERNS) rfl) pa_nil))) ⟨_, rfl, p, dx, _, rfl, C.ob, rfl, p, dx, lw, t.g_PATTERNS, sorts, row, ws, i, rfl, C, T.tv_PATTERNS _, by rw [hk]; exact G.sort, fun H1 C1 a1 => ?_⟩
  rw [hk]
  refine @at_cons _ _ _ _ _ _ _ (ps_if (pt_cmpR op_eq (pv 1) pe_str (nomark _)) pss_at pss_at) ⟨_, rfl, rfl, _, rfl, ifd (fun h => ?_) (fun h1 => at_nil ?_)⟩
  ·have h := V.str.inj h
   subst h
   refine @at_one _ _ _ _ _ _ (ps_ret (pe_makeO T.mk_Any rfl T.mgc_Any)) fun x dx' nx ndx ne => ?_
   rw [patWords, if_pos (by decide)] at hd
   exact q x _ (i + 1) ⟨dx', by rw [cls_any, fl_any]; exact upd_same⟩ (C1.same (mk_same0 nx ndx)) (drop_cons hd).2 (a1.same (mk_same0 nx ndx))
  refine @at_cons _ _ _ _ _ _ _ (ps_if (pt_cmpR op_eq (pv 1) pe_str (nomark _)) pss_at pss_at) ⟨_, rfl, rfl, _, rfl, ifd (fun h => ?_) (fun h2 => at_nil ?_)⟩
  ·have h := V.str.inj h
   subst h
   refine @at_one _ _ _ _ _ _ (ps_ret (pe_makeO T.mk_Still rfl T.mgc_Still)) fun x dx' nx ndx ne => ?_
   rw [patWords, if_pos (by decide)] at hd
   exact q x _ (i + 1) ⟨dx', by rw [cls_still, fl_still]; exact upd_same⟩ (C1.same (mk_same0 nx ndx)) (drop_cons hd).2 (a1.same (mk_same0 nx ndx))
  refine @at_cons _ _ _ _ _ _ _ (ps_if (pt_cmpR op_eq (pv 1) pe_str (nomark _)) pss_at pss_at) ⟨_, rfl, rfl, _, rfl, ifd (fun h => ?_) (fun h3 => at_nil ?_)⟩
  ·have h := V.str.inj h
   subst h
   refine @at_one _ _ _ _ _ _ (ps_ret (pe_makeO T.mk_End rfl T.mgc_End)) fun x dx' nx ndx ne => ?_
   rw [patWords, if_pos (by decide)] at hd
   exact q x _ (i + 1) ⟨dx', by rw [cls_end, fl_end]; exact upd_same⟩ (C1.same (mk_same0 nx ndx)) (drop_cons hd).2 (a1.same (mk_same0 nx ndx))
  have nb : ¬ bare s := by
   rintro (e | e | e)
   ·exact h1 (by rw [e])
   ·exact h2 (by rw [e])
   ·exact h3 (by rw [e])
  rw [patWords, if_neg nb] at hd
  have hd2 := (drop_cons hd).2
  obtain ⟨z1, z2, z3, z4⟩ := G.sg nb
  refine @at_cons _ _ _ _ _ _ _ (ps_set (i := 2) sc_q77.nd rfl (Or.inl rfl) (pe_meth0 (pv 0) T.cl_Cursor T.m_q9 (ok_q9 T) (hr.mono (by decide)) (T.F_q9.binds (by walk_at "1")) .nil pass0)) ⟨_, rfl, p, dx, _, rfl, C1.ob, rfl, p, dx, lw, row, ws, i + 1, z, rfl, C1, pk_drop hd2, z1, by omega, z3, fun H2 C2 a2 => ?_⟩
  have hd3 := (drop_cons hd2).2
  have a3 := a1.trans a2
  refine @at_cons _ _ _ _ _ _ _ (ps_if (pt_cmpR op_eq (pv 1) pe_str (nomark _)) pss_at pss_at) ⟨_, rfl, rfl, _, rfl, ifd (fun h => ?_) (fun h4 => at_nil ?_)⟩
  ·have h := V.str.inj h
   subst h
   refine @at_one _ _ _ _ _ _ (ps_ret (pe_make T.mk_Word (ok_q46 T) (hr.mono (by decide)) rfl T.mgc_Word (T.F_q46.binds (by walk_at "2")) .nil pass0 (pa_cons (pv 2) pa_nil))) ⟨_, rfl, fun x dx' nx ndx ne => ⟨x, dx', z, rfl, upd_same, rfl, ?_⟩⟩
   exact q x _ (i + 1 + 1) ⟨dx', by rw [cls_word, fl_word]; exact upd_same⟩ (C2.same (mk_same nx ndx)) hd3 (a3.same (mk_same nx ndx))
  refine @at_cons _ _ _ _ _ _ _ (ps_if (pt_cmpR op_eq (pv 1) pe_str (nomark _)) pss_at pss_at) ⟨_, rfl, rfl, _, rfl, ifd (fun h => ?_) (fun h5 => at_nil ?_)⟩
  ·have h := V.str.inj h
   subst h
   refine @at_one _ _ _ _ _ _ (ps_ret (pe_make T.mk_One (ok_q17 T) (hr.mono (by decide)) rfl T.mgc_One (T.F_q17.binds (by walk_at "2")) .nil pass0 (pa_cons (pv 2) pa_nil))) ⟨_, rfl, fun x dx' nx ndx ne => ⟨x, dx', z, rfl, upd_same, rfl, ?_⟩⟩
   exact q x _ (i + 1 + 1) ⟨dx', by rw [cls_one, fl_sg nb (by decide)]; exact upd_same⟩ (C2.same (mk_same nx ndx)) hd3 (a3.same (mk_same nx ndx))
  refine @at_cons _ _ _ _ _ _ _ (ps_if (pt_cmpR op_eq (pv 1) pe_str (nomark _)) pss_at pss_at) ⟨_, rfl, rfl, _, rfl, ifd (fun h => ?_) (fun h6 => at_nil ?_)⟩
  ·have h := V.str.inj h
   subst h
   refine @at_one _ _ _ _ _ _ (ps_ret (pe_make T.mk_Without (ok_q43 T) (hr.mono (by decide)) rfl T.mgc_Without (T.F_q43.binds (by walk_at "2")) .nil pass0 (pa_cons (pv 2) pa_nil))) ⟨_, rfl, fun x dx' nx ndx ne => ⟨x, dx', z, rfl, upd_same, rfl, ?_⟩⟩
   exact q x _ (i + 1 + 1) ⟨dx', by rw [cls_none, fl_sg nb (by decide)]; exact upd_same⟩ (C2.same (mk_same nx ndx)) hd3 (a3.same (mk_same nx ndx))
  have h : s = "many" := by
   rcases sorts_cases G.sort with e | e | e | e | e | e | e
   ·exact absurd (by rw [e]) h4
   ·exact absurd (by rw [e]) h5
   ·exact absurd (by rw [e]) h6
   ·exact e
   ·exact absurd (by rw [e]) h1
   ·exact absurd (by rw [e]) h2
   ·exact absurd (by rw [e]) h3
  subst h
  refine @at_one _ _ _ _ _ _ (ps_ret (pe_make T.mk_Many (ok_q12 T) (hr.mono (by decide)) rfl T.mgc_Many (T.F_q12.binds (by walk_at "2")) .nil pass0 (pa_cons (pv 2) pa_nil))) ⟨_, rfl, fun x dx' nx ndx ne => ⟨x, dx', z, rfl, upd_same, rfl, ?_⟩⟩
  exact q x _ (i + 1 + 1) ⟨dx', by rw [cls_many, fl_sg nb (by decide)]; exact upd_same⟩ (C2.same (mk_same nx ndx)) hd3 (a3.same (mk_same nx ndx))
def spRdGoal (t : Adr) : Sp := fun vs H Q _ => ∃ (p dx lw d : Addr) (nw : V) (row : Int) (ws : List Str) (i g : Nat) (kvs : List (Key × V)), vs = [.ref p, .ref d, nw] /\ Cur t H p dx lw row ws i /\ H d = some (.dK kvs) /\ isName (pk ws i) = true /\ valV kvs (.inr (pk ws i)) = some (.int g) /\
 ∀ H', Cur t H' p dx lw row ws (i + 1) -> Adv H H' p -> Q (.int g) H'
theorem ok_q75 (T : Txt K mg t) : FnOk P w K mg base CX0 5 t.f_q75 t.d_q75 ["cursor", "numbers", "nowhere"] (spRdGoal t) := by
 refine T.F_q75.ok sc_q75 ?_ ?_
 walk_at "i"
 ·obtain ⟨p, dx, lw, d, nw, row, ws, i, g, kvs, rfl, C, hd, hn, hv, q⟩ := h
  refine @at_cons _ _ _ _ _ _ _ (ps_set (i := 3) sc_q75.nd rfl (Or.inl rfl) (pe_tup (pa_cons (pe_fld (pv 0) rfl) (pa_cons (pe_fld (pv 0) rfl) pa_nil)))) ?_
  refine ⟨_, rfl, _, _, _, _, _, rfl, C.ob, T.cl_Cursor, T.n_Cursor_row, rfl, ?_⟩
  refine ⟨_, rfl, _, _, _, _, _, rfl, C.ob, T.cl_Cursor, T.n_Cursor_at, rfl, ?_⟩
  refine ⟨by show 2 <= sizeLine; decide, fun pt hpt => ?_⟩
  have s1 : Same H (upd H pt (.tup [.int row, .int i])) := Same.upd hpt
  have C1 := C.same s1
  refine @at_cons _ _ _ _ _ _ _ (ps_set (i := 4) sc_q75.nd rfl (Or.inl rfl) (pe_meth0 (pv 0) T.cl_Cursor T.m_q8 (ok_q8 T) (hr.mono (by decide)) (T.F_q8.binds (by walk_at "1")) .nil pass0)) ⟨_, rfl, p, dx, _, rfl, C1.ob, rfl, p, dx, lw, row, ws, i, rfl, C1, hn, fun H2 C2 a2 => ?_⟩
  have npd : d ≠ p := ne_of hd C.ob (by intro z; cases z)
  have hd2 : H2 d = some (.dK kvs) := a2 _ _ (s1 _ _ hd) npd
  refine @at_cons _ _ _ _ _ _ _ (ps_if (pt_cmp (pc_dnotin (hu_of hr) (pv 4) (pv 1))) pss_at pss_at) ⟨_, rfl, _, rfl, d, _, rfl, DGet.k (k := .inr (pk ws i)) hd2, _, rfl, ?_⟩
  rw [hv]
  refine iteF (at_nil ?_)
  refine @at_one _ _ _ _ _ _ (ps_ret (pe_dget1 (hu_of hr) (pv 1) (pv 4) ⟨rfl, rfl, rfl, rfl⟩)) ⟨_, rfl, d, rfl, .inl ⟨kvs, .inl hd2⟩, _, rfl, _, DGet.k (k := .inr (pk ws i)) hd2, ?_⟩
  rw [hv]
  exact q H2 C2 (s1.adv a2)
abbrev deeds : List Str := ["stay", "push", "pop", "into"]
abbrev going (d : Str) : Prop := d = "push" ∨ d = "into"
def goalW (names : List Str) : Option Nat -> List Str
 | some g => [names.getD g ""]
 | none => []
theorem goalW_len {names : List Str} {g : Option Nat} : (goalW names g).length <= 1 := by cases g <;> simp [goalW]
def ruleWords (names : List Str) (R : RuleM) : List Str := patWords R.sort R.signs ++ ((if eatsB R.sort = true then [R.colour] else []) ++ ([R.deed] ++ (goalW names R.goal ++ if R.fold = "" then [] else [R.fold])))
structure GoodRule (names : List Str) (R : RuleM) : Prop where
 pat : GoodPat R.sort R.signs
 col : eatsB R.sort = true -> isName R.colour = true
 col0 : eatsB R.sort = false -> R.colour = ""
 deed : R.deed ∈ deeds
 goal : going R.deed -> ∃ g, R.goal = some g /\ g < names.length
 goal0 : ¬ going R.deed -> R.goal = none
 fold : R.fold = "" ∨ R.fold = "open" ∨ R.fold = "close"
def numsOf (names : List Str) (kvs : List (Key × V)) : Prop := ∀ (g : Nat) n, names[g]? = some n -> valV kvs (.inr n) = some (.int g)
def spRdRule (t : Adr) : Sp := fun vs H Q _ => ∃ (p dx lw d : Addr) (nw : V) (row : Int) (ws : List Str) (kvs : List (Key × V)) (names : List Str) (R : RuleM), vs = [.ref p, .ref d, nw] /\ Cur t H p dx lw row ws 0 /\ ws = ruleWords names R /\ H d = some (.dK kvs) /\ numsOf names kvs /\
 (∀ n ∈ names, isName n = true) /\ GoodRule names R /\ ∀ r H', IsRule t H' r R -> Adv H H' p -> Q (.ref r) H'
theorem IsPat.adv {H H' : Hp} {p a dx lw : Addr} {row : Int} {ws : List Str} {i : Nat} {s z : Str} (h : IsPat t H a s z) (C : Cur t H p dx lw row ws i) (e : Adv H H' p) : IsPat t H' a s z := by
 obtain ⟨d, x⟩ := h
 refine ⟨d, e _ _ x (ne_of x C.ob fun q => ?_)⟩
 injection q with _ _ q
 unfold flOf cf at q
 split at q
 ·cases q
 ·split at q <;> simp at q
theorem ok_q78 (T : Txt K mg t) : FnOk P w K mg base CX0 6 t.f_q78 t.d_q78 ["cursor", "numbers", "nowhere"] (spRdRule t) := by
 refine T.F_q78.ok sc_q78 ?_ ?_
 walk_at "i"
 ·obtain ⟨p, dx, lw, d, nw, row, ws, kvs, names, R, rfl, C, hws, hd, hnum, hnm, G, q⟩ := h
  have npd : d ≠ p := ne_of hd C.ob (by intro z; cases z)
  obtain ⟨fe, fs, de, ds, PK⟩ := patK (P := P) (w := w) (base := base) T G.pat.sort
  refine @at_cons _ _ _ _ _ _ _ (ps_set (i := 3) sc_q78.nd rfl (Or.inl rfl) (pe_call (ok_q77 T) (hr.mono (by decide)) rfl T.mg_q77 T.F_q77.kp (T.F_q77.binds (by walk_at "1")) .nil pass0 (pa_cons (pv 0) pa_nil))) ⟨_, rfl, p, dx, lw, row, ws, 0, R.sort, R.signs, _, rfl, C, by rw [List.drop_zero, hws, ruleWords], G.pat, fun pa H1 j1 hp1 C1 hd1 a1 => ?_⟩
  refine at_consR (fun Z' H' => ∃ j, Z' = [some (.ref p), some (.ref d), some nw, some (.ref pa), some (.str R.colour), none, none, none] /\ Cur t H' p dx lw row ws j /\ IsPat t H' pa R.sort R.signs /\ Adv H H' p /\
   ws.drop j = R.deed :: (goalW names R.goal ++ if R.fold = "" then [] else [R.fold])) (ps_set (i := 4) sc_q78.nd rfl (Or.inl rfl) (pe_ifExp (pt_val (pe_meth0 (pv 3) PK.cl PK.ms PK.gs (hr.mono (by decide)) PK.bs .nil pass0)) (pe_meth0 (pv 0) T.cl_Cursor T.m_q8 (ok_q8 T) (hr.mono (by decide)) (T.F_q8.binds (by walk_at "1")) .nil pass0) pe_str)) ?_ ?_
  ·obtain ⟨dpa, hpa⟩ := hp1
   refine ⟨_, rfl, pa, dpa, _, rfl, hpa, PK.ns _, _, rfl, _, rfl, ifb (fun h => ?_) (fun h => ?_)⟩
   ·rw [if_pos h] at hd1
    refine ⟨_, rfl, p, dx, _, rfl, C1.ob, rfl, p, dx, lw, row, ws, j1, rfl, C1, by rw [pk_drop hd1]; exact G.col h, fun H2 C2 a2 => ?_⟩
    rw [pk_drop hd1]
    exact ⟨j1 + 1, rfl, C2, IsPat.adv ⟨dpa, hpa⟩ C1 a2, a1.trans a2, (drop_cons hd1).2⟩
   ·rw [h, if_neg (by decide)] at hd1
    rw [G.col0 h]
    exact ⟨j1, rfl, C1, ⟨dpa, hpa⟩, a1, hd1⟩
  rintro Z' H2 ⟨j2, rfl, C2, hp2, a2, hd2⟩
  refine @at_cons _ _ _ _ _ _ _ (ps_set (i := 5) sc_q78.nd rfl (Or.inl rfl) (pe_meth (pv 0) T.cl_Cursor T.m_q7 (ok_q7 T) (hr.mono (by decide)) (T.F_q7.binds (by walk_at "2")) .nil pass0 (pa_cons (pe_glob rfl T.mgv_DEEDS (v := V.ref t.g_DEEDS) rfl) pa_nil))) ⟨_, rfl, p, dx, _, rfl, C2.ob, rfl, p, dx, lw, t.g_DEEDS, deeds, row, ws, j2, rfl, C2, T.tv_DEEDS _, by rw [pk_drop hd2]; exact G.deed, fun H3 C3 a3 => ?_⟩
  rw [pk_drop hd2]
  have hp3 := hp2.adv C2 a3
  have a3 := a2.trans a3
  have hd3 := (drop_cons hd2).2
  refine at_consR (fun Z' H' => ∃ j, Z' = [some (.ref p), some (.ref d), some nw, some (.ref pa), some (.str R.colour), some (.str R.deed), some (goalV R.goal), none] /\ Cur t H' p dx lw row ws j /\ IsPat t H' pa R.sort R.signs /\ Adv H H' p /\
   ws.drop j = if R.fold = "" then [] else [R.fold]) (ps_set (i := 6) sc_q78.nd rfl (Or.inl rfl) (pe_ifExp (pt_cmpR op_in_seq (pv 5) (pe_glob rfl T.mgv_GOING (v := V.ref t.g_GOING) rfl) rfl) (pe_call (ok_q75 T) (hr.mono (by decide)) rfl T.mg_q75 T.F_q75.kp (T.F_q75.binds (by walk_at "3")) .nil pass0 (pa_cons (pv 0) (pa_cons (pv 1) (pa_cons (pv 2) pa_nil)))) pe_non)) ?_ ?_
  ·refine ⟨_, rfl, _, _, rfl, .inr (T.tv_GOING _), rfl, rfl, _, rfl, ?_⟩
   rw [show ([.str "push", .str "into"] : List V) = (["push", "into"] : List Str).map V.str from rfl, inV_strs]
   refine ifd (fun h => ?_) (fun h => ?_)
   ·have h : going R.deed := by simpa using h
    obtain ⟨g, eg, hg⟩ := G.goal h
    rw [eg] at hd3 ⊢
    have e := pk_drop hd3
    have hgn : names[g]? = some (names.getD g "") := by simp [hg]
    have hv := hnum g _ hgn
    have hin : isName (names.getD g "") = true := hnm _ (List.mem_of_getElem? hgn)
    refine ⟨_, rfl, _, rfl, _, rfl, p, dx, lw, d, nw, row, ws, j2 + 1, g, kvs, rfl, C3, a3 _ _ hd npd, by rw [e]; exact hin, by rw [e]; exact hv, fun H4 C4 a4 => ?_⟩
    exact ⟨_, rfl, C4, hp3.adv C3 a4, a3.trans a4, (drop_cons hd3).2⟩
   ·have h : ¬ going R.deed := by simpa using h
    rw [G.goal0 h] at hd3 ⊢
    exact ⟨_, rfl, C3, hp3, a3, hd3⟩
  rintro Z' H4 ⟨j4, rfl, C4, hp4, a4, hd4⟩
  refine at_consR (fun Z' H' => ∃ j, Z' = [some (.ref p), some (.ref d), some nw, some (.ref pa), some (.str R.colour), some (.str R.deed), some (goalV R.goal), some (.str R.fold)] /\ Cur t H' p dx lw row ws j /\ IsPat t H' pa R.sort R.signs /\ Adv H H' p /\
   ws.drop j = []) (ps_set (i := 7) sc_q78.nd rfl (Or.inl rfl) (pe_ifExp (pt_val (pe_meth0 (pv 0) T.cl_Cursor T.m_q4 (ok_q4 T) (hr.mono (by decide)) (T.F_q4.binds (by walk_at "1")) .nil pass0)) (pe_meth (pv 0) T.cl_Cursor T.m_q7 (ok_q7 T) (hr.mono (by decide)) (T.F_q7.binds (by walk_at "2")) .nil pass0 (pa_cons (pe_glob rfl T.mgv_FOLDS (v := V.ref t.g_FOLDS) rfl) pa_nil)) pe_str)) ?_ ?_
  ·refine ⟨_, rfl, p, dx, _, rfl, C4.ob, rfl, p, dx, lw, row, ws, j4, rfl, C4, _, rfl, ifd (fun h => ?_) (fun h => ?_)⟩
   ·have hf : R.fold ≠ "" := fun z => by rw [if_pos z] at hd4; have := nil_drop hd4; omega
    rw [if_neg hf] at hd4
    refine ⟨_, rfl, p, dx, _, rfl, C4.ob, rfl, p, dx, lw, t.g_FOLDS, ["open", "close"], row, ws, j4, rfl, C4, T.tv_FOLDS _, ?_, fun H5 C5 a5 => ?_⟩
    ·rw [pk_drop hd4]
     rcases G.fold with z | z | z
     ·exact absurd z hf
     ·rw [z]; decide
     ·rw [z]; decide
    ·rw [pk_drop hd4]
     exact ⟨_, rfl, C5, hp4.adv C4 a5, a4.trans a5, (drop_cons hd4).2⟩
   ·have hf : R.fold = "" := by
     by_cases z : R.fold = ""
     ·exact z
     ·rw [if_neg z] at hd4; exact absurd (lt_drop hd4) h
    rw [if_pos hf] at hd4
    rw [hf]
    exact ⟨_, rfl, C4, hp4, a4, hd4⟩
  rintro Z' H5 ⟨j5, rfl, C5, hp5, a5, hd5⟩
  have hj5 := nil_drop hd5
  refine @at_cons _ _ _ _ _ _ _ (ps_expr (pe_meth (pv 0) T.cl_Cursor T.m_q3 (ok_q3 T) (hr.mono (by decide)) (T.F_q3.binds (by walk_at "2")) .nil pass0 (pa_cons (pe_not (pe_meth0 (pv 0) T.cl_Cursor T.m_q4 (ok_q4 T) (hr.mono (by decide)) (T.F_q4.binds (by walk_at "1")) .nil pass0)) pa_nil))) ⟨_, rfl, p, dx, _, rfl, C5.ob, rfl, ⟨_, rfl, p, dx, _, rfl, C5.ob, rfl, p, dx, lw, row, ws, j5, rfl, C5, _, rfl, ?_⟩⟩
  rw [decide_eq_false (by omega)]
  refine ⟨_, rfl, ?_⟩
  refine @at_one _ _ _ _ _ _ (ps_ret (pe_make T.mk_Rule (ok_q23 T) (hr.mono (by decide)) rfl T.mgc_Rule (T.F_q23.binds (by walk_at "6")) .nil pass0 (pa_cons (pv 3) (pa_cons (pv 4) (pa_cons (pv 5) (pa_cons (pv 6) (pa_cons (pv 7) pa_nil))))))) ⟨_, rfl, _, rfl, _, rfl, _, rfl, _, rfl, fun x dx' nx ndx ne => ⟨x, dx', pa, R, rfl, upd_same, rfl, ?_⟩⟩
  exact q x _ ⟨dx', pa, upd_same, hp5.same (mk_same nx ndx)⟩ (a5.same (mk_same nx ndx))
inductive Item where
 | mode (n c : Str)
 | rule (R : RuleM)
def Item.words (names : List Str) : Item -> List Str
 | .mode n c => ["mode", n, c]
 | .rule R => ruleWords names R
def rowOf (names : List Str) (it : Item) : Str := Str.join ⟨#[32]⟩ (it.words names)
def addRule (R : RuleM) : List ModeM -> List ModeM
 | [] => []
 | [m] => [{ m with rules := m.rules ++ [R] }]
 | m :: n :: r => m :: addRule R (n :: r)
def stepI (ms : List ModeM) : Item -> List ModeM
 | .mode n c => ms ++ [⟨n, c, []⟩]
 | .rule R => addRule R ms
def foldI (its : List Item) : List ModeM := its.foldl stepI []
def nameI : Item -> List Str
 | .mode n _ => [n]
 | .rule _ => []
def namesOf (its : List Item) : List Str := its.flatMap nameI
structure GoodItems (its : List Item) : Prop where
 ne : its ≠ []
 mode : ∀ (i : Nat) n c, its[i]? = some (.mode n c) -> isName n = true /\ isName c = true /\ (namesOf (its.take i)).length < 12 /\ n ∉ namesOf (its.take i)
 rule : ∀ (i : Nat) R, its[i]? = some (.rule R) -> GoodRule (namesOf its) R /\ ∃ ms m, foldI (its.take i) = ms ++ [m] /\ m.rules.length < 12
theorem addRule_snoc (R : RuleM) (m : ModeM) : ∀ ms : List ModeM, addRule R (ms ++ [m]) = ms ++ [{ m with rules := m.rules ++ [R] }]
 | [] => rfl
 | [x] => rfl
 | x :: y :: r => by
  show x :: addRule R (y :: r ++ [m]) = _
  rw [addRule_snoc R m (y :: r)]
  rfl
theorem addRule_names (R : RuleM) : ∀ ms : List ModeM, (addRule R ms).map (·.name) = ms.map (·.name)
 | [] => rfl
 | [x] => rfl
 | x :: y :: r => by
  show x.name :: (addRule R (y :: r)).map (·.name) = _
  rw [addRule_names R (y :: r)]
  rfl
theorem take_snoc {α : Type} {l : List α} {i : Nat} {x : α} (h : l[i]? = some x) : l.take (i + 1) = l.take i ++ [x] := by rw [List.take_succ, h]; rfl
theorem foldI_snoc (its : List Item) (it : Item) : foldI (its ++ [it]) = stepI (foldI its) it := by unfold foldI; rw [List.foldl_append]; rfl
theorem namesOf_app (a b : List Item) : namesOf (a ++ b) = namesOf a ++ namesOf b := by unfold namesOf; rw [List.flatMap_append]
theorem names_fold_aux : ∀ (its : List Item) (ms : List ModeM), (its.foldl stepI ms).map (·.name) = ms.map (·.name) ++ namesOf its
 | [], ms => by simp [namesOf]
 | .mode n c :: r, ms => by
  rw [List.foldl_cons, names_fold_aux r]
  simp [stepI, namesOf, nameI]
 | .rule R :: r, ms => by
  rw [List.foldl_cons, names_fold_aux r]
  simp [stepI, namesOf, nameI, addRule_names]
theorem names_fold (its : List Item) : (foldI its).map (·.name) = namesOf its := by
 unfold foldI; rw [names_fold_aux]; rfl
structure GoodWord (x : Str) : Prop where
 b : 32 ∉ x.cps.toList
 n : 10 ∉ x.cps.toList
 l : x.length <= 202
theorem len_cps (x : Str) : x.cps.toList.length = x.length := by simp [Str.length]
theorem name_word {x : Str} (h : isName x = true) : GoodWord x := by
 unfold isName at h
 simp only [Bool.and_eq_true, decide_eq_true_eq, List.all_eq_true] at h
 obtain ⟨⟨h1, h2⟩, h3⟩ := h
 refine ⟨fun z => ?_, fun z => ?_, by omega⟩
 ·exact absurd (h3 _ z) (by decide +kernel)
 ·exact absurd (h3 _ z) (by decide +kernel)
theorem wSigns_word {z : Str} (h : z.length <= 200) (h2 : 10 ∉ z.cps.toList) : GoodWord (wSigns z) := by
 refine ⟨fun y => ?_, fun y => ?_, ?_⟩
 ·rw [wSigns_cps] at y
  rcases List.mem_cons.mp y with y | y
  ·exact absurd y (by decide)
  ·unfold subL at y
   obtain ⟨c, _, e⟩ := List.mem_map.mp y
   split at e <;> omega
 ·rw [wSigns_cps] at y
  rcases List.mem_cons.mp y with y | y
  ·exact absurd y (by decide)
  ·unfold subL at y
   obtain ⟨c, hc, e⟩ := List.mem_map.mp y
   split at e
   ·omega
   ·exact h2 (e ▸ hc)
 ·have := congrArg List.length (wSigns_cps z)
  rw [len_cps, List.length_cons, subL, List.length_map, len_cps] at this
  omega
theorem sort_word {s : Str} (h : s ∈ sorts) : GoodWord s /\ s ≠ "mode" := by
 rcases sorts_cases h with rfl | rfl | rfl | rfl | rfl | rfl | rfl <;> exact ⟨⟨by decide +kernel, by decide +kernel, by decide +kernel⟩, by decide +kernel⟩
theorem pat_words {s z : Str} (G : GoodPat s z) : ∀ x ∈ patWords s z, GoodWord x := by
 intro x hx
 unfold patWords at hx
 split at hx
 ·rw [List.mem_singleton.mp hx]; exact (sort_word G.sort).1
 ·rename_i hb
  obtain ⟨z1, z2, z3, z4⟩ := G.sg hb
  rcases List.mem_cons.mp hx with e | e
  ·rw [e]; exact (sort_word G.sort).1
  ·rw [List.mem_singleton.mp e]; exact wSigns_word z2 z4
theorem rule_words {names : List Str} {R : RuleM} (hn : ∀ n ∈ names, isName n = true) (G : GoodRule names R) : ∀ x ∈ ruleWords names R, GoodWord x := by
 intro x hx
 unfold ruleWords at hx
 simp only [List.mem_append] at hx
 rcases hx with hx | hx | hx | hx | hx
 ·exact pat_words G.pat x hx
 ·split at hx
  ·rename_i h; rw [List.mem_singleton.mp hx]; exact name_word (G.col h)
  ·cases hx
 ·rw [List.mem_singleton.mp hx]
  have := G.deed
  simp only [List.mem_cons, List.not_mem_nil, or_false] at this
  rcases this with e | e | e | e <;> rw [e] <;> exact ⟨by decide +kernel, by decide +kernel, by decide +kernel⟩
 ·cases e : R.goal with
  | some g =>
   rw [e] at hx
   rw [List.mem_singleton.mp hx]
   have hg : g < names.length := by
    by_cases h : going R.deed
    ·obtain ⟨g', e', h'⟩ := G.goal h
     rw [e] at e'; cases e'; exact h'
    ·rw [G.goal0 h] at e; cases e
   refine name_word (hn _ ?_)
   have : names.getD g "" = names[g] := by simp [hg]
   rw [this]; exact List.getElem_mem hg
  | none => rw [e] at hx; cases hx
 ·split at hx
  ·cases hx
  ·rw [List.mem_singleton.mp hx]
   rcases G.fold with e | e | e <;> rw [e] <;> exact ⟨by decide +kernel, by decide +kernel, by decide +kernel⟩
theorem pat_len {s z : Str} : 1 <= (patWords s z).length /\ (patWords s z).length <= 2 := by
 unfold patWords
 split
 ·exact ⟨by show 1 <= 1; decide, by show 1 <= 2; decide⟩
 ·exact ⟨by show 1 <= 2; decide, by show 2 <= 2; decide⟩
theorem rule_len {names : List Str} {R : RuleM} : 1 <= (ruleWords names R).length /\ (ruleWords names R).length <= 7 := by
 have h1 := pat_len (s := R.sort) (z := R.signs)
 have h2 : (if eatsB R.sort = true then [R.colour] else []).length <= 1 := by split <;> simp
 have h3 := goalW_len (names := names) (g := R.goal)
 have h4 : (if R.fold = "" then [] else [R.fold]).length <= 1 := by split <;> simp
 unfold ruleWords
 simp only [List.length_append, List.length_cons, List.length_nil]
 omega
theorem good_names {its : List Item} (G : GoodItems its) : ∀ n ∈ namesOf its, isName n = true := by
 intro n hn
 unfold namesOf at hn
 obtain ⟨it, h1, h2⟩ := List.mem_flatMap.mp hn
 obtain ⟨i, h3⟩ := List.mem_iff_getElem?.mp h1
 cases it with
 | mode a c =>
  have e : n = a := List.mem_singleton.mp h2
  rw [e]
  exact (G.mode i a c h3).1
 | rule R => cases h2
theorem item_words {its : List Item} (G : GoodItems its) {i : Nat} {it : Item} (h : its[i]? = some it) : (∀ x ∈ it.words (namesOf its), GoodWord x) /\ it.words (namesOf its) ≠ [] /\ (it.words (namesOf its)).length <= 7 := by
 cases it with
 | mode n c =>
  obtain ⟨h1, h2, _⟩ := G.mode i n c h
  refine ⟨fun x hx => ?_, by simp [Item.words], by simp [Item.words]⟩
  simp only [Item.words, List.mem_cons, List.not_mem_nil, or_false] at hx
  rcases hx with e | e | e
  ·rw [e]; exact ⟨by decide +kernel, by decide +kernel, by decide +kernel⟩
  ·rw [e]; exact name_word h1
  ·rw [e]; exact name_word h2
 | rule R =>
  obtain ⟨h1, _⟩ := G.rule i R h
  have hl := rule_len (names := namesOf its) (R := R)
  exact ⟨rule_words (good_names G) h1, fun z => by simp only [Item.words] at z; rw [z] at hl; simp at hl, hl.2⟩
theorem mem_joinL {c d : Nat} (hcd : d ≠ c) : ∀ {ps : List (List Nat)}, (∀ p ∈ ps, d ∉ p) -> d ∉ joinL c ps
 | [], _, z => by cases z
 | [x], h, z => h x (by simp) z
 | x :: y :: r, h, z => by
  unfold joinL at z
  rcases List.mem_append.mp z with z | z
  ·exact h x (by simp) z
  ·rcases List.mem_cons.mp z with z | z
   ·exact hcd z
   ·exact mem_joinL hcd (fun p hp => h p (List.mem_cons_of_mem _ hp)) z
theorem len_joinL {c m : Nat} : ∀ {ps : List (List Nat)}, (∀ p ∈ ps, p.length <= m) -> (joinL c ps).length <= ps.length * (m + 1)
 | [], _ => by simp [joinL]
 | [x], h => by have := h x (by simp); simp [joinL]; omega
 | x :: y :: r, h => by
  have h1 := h x (by simp)
  have h2 := len_joinL (c := c) (ps := y :: r) (fun p hp => h p (List.mem_cons_of_mem _ hp))
  unfold joinL
  rw [List.length_append, List.length_cons, List.length_cons, Nat.succ_mul]
  omega
theorem row_good {its : List Item} (G : GoodItems its) {i : Nat} {it : Item} (h : its[i]? = some it) : 10 ∉ (rowOf (namesOf its) it).cps.toList /\ (rowOf (namesOf its) it).length <= 1421 /\ PySem.Txt.split (rowOf (namesOf its) it) ⟨#[32]⟩ = it.words (namesOf its) := by
 obtain ⟨h1, h2, h3⟩ := item_words G h
 refine ⟨?_, ?_, split_join h2 fun p hp => (h1 p hp).b⟩
 ·unfold rowOf
  rw [join_cps]
  refine mem_joinL (by decide) fun p hp => ?_
  obtain ⟨x, hx, rfl⟩ := List.mem_map.mp hp
  exact (h1 x hx).n
 ·have h4 := len_joinL (c := 32) (m := 202) (ps := (it.words (namesOf its)).map fun p => p.cps.toList) (fun p hp => by
   obtain ⟨x, hx, rfl⟩ := List.mem_map.mp hp
   rw [len_cps]; exact (h1 x hx).l)
  rw [← join_cps, len_cps, List.length_map] at h4
  unfold rowOf
  omega
def rowsOf (its : List Item) : List Str := its.map (rowOf (namesOf its))
theorem rows_at {its : List Item} {i : Nat} {x : Str} (h : (rowsOf its)[i]? = some x) : ∃ it, its[i]? = some it /\ x = rowOf (namesOf its) it := by
 unfold rowsOf at h
 rw [List.getElem?_map] at h
 obtain ⟨it, h1, h2⟩ := Option.map_eq_some_iff.mp h
 exact ⟨it, h1, h2.symm⟩
theorem rows_split {its : List Item} (G : GoodItems its) : PySem.Txt.split (Str.join ⟨#[10]⟩ (rowsOf its)) ⟨#[10]⟩ = rowsOf its := by
 refine split_join (by unfold rowsOf; simpa using G.ne) fun p hp => ?_
 obtain ⟨i, h⟩ := List.mem_iff_getElem?.mp hp
 obtain ⟨it, h1, rfl⟩ := rows_at h
 exact (row_good G h1).1
theorem text_len {its : List Item} (G : GoodItems its) (hl : its.length <= 200) : (Str.join ⟨#[10]⟩ (rowsOf its)).length <= 300000 := by
 have h4 := len_joinL (c := 10) (m := 1421) (ps := (rowsOf its).map fun p => p.cps.toList) (fun p hp => by
  obtain ⟨x, hx, rfl⟩ := List.mem_map.mp hp
  obtain ⟨i, h⟩ := List.mem_iff_getElem?.mp hx
  obtain ⟨it, h1, rfl⟩ := rows_at h
  rw [len_cps]; exact (row_good G h1).2.1)
 rw [← join_cps, len_cps, List.length_map, rowsOf, List.length_map] at h4
 unfold rowsOf
 omega
structure Nums (names : List Str) (kvs : List (Key × V)) : Prop where
 has : numsOf names kvs
 not : ∀ n, n ∉ names -> valV kvs (.inr n) = none
 len : kvs.length = names.length
theorem Nums.nil : Nums [] [] := ⟨fun g n h => by simp at h, fun _ _ => rfl, rfl⟩
theorem Nums.put {names : List Str} {kvs : List (Key × V)} {n : Str} (N : Nums names kvs) (h : n ∉ names) : Nums (names ++ [n]) (putK kvs (.inr n) (.int names.length)) := by
 refine ⟨fun g m e => ?_, fun m hm => ?_, ?_⟩
 ·rw [valV_put]
  rcases snoc_get e with e | ⟨e1, e2⟩
  ·have : m ≠ n := fun z => h (z ▸ List.mem_of_getElem? e)
   rw [if_neg (fun z => this (Sum.inr.inj z))]
   exact N.has g m e
  ·rw [e2, if_pos rfl, e1]
 ·rw [valV_put, if_neg (fun z => hm (by rw [Sum.inr.inj z]; simp))]
  exact N.not m fun z => hm (List.mem_append_left _ z)
 ·unfold putK
  rw [valV_any, N.not n h, if_neg (by decide), List.length_append, List.length_append, N.len]
  rfl
def spNums : Sp := fun vs H Q _ => ∃ (a : Addr) (its : List Item), vs = [.ref a] /\ H a = some (.lst ((rowsOf its).map V.str)) /\ GoodItems its /\ its.length <= 200 /\
 ∀ d kvs H', H' d = some (.dK kvs) -> Nums (namesOf its) kvs -> Same H H' -> Q (.ref d) H'
theorem first_word {names : List Str} {R : RuleM} (G : GoodRule names R) : ∃ x r, ruleWords names R = x :: r /\ x ≠ "mode" := by
 unfold ruleWords patWords
 split
 ·exact ⟨R.sort, _, rfl, (sort_word G.pat.sort).2⟩
 ·exact ⟨R.sort, _, rfl, (sort_word G.pat.sort).2⟩
theorem ok_q74 (T : Txt K mg t) : FnOk P w K mg base CX0 1 t.f_q74 t.d_q74 ["rows"] spNums := by
 refine T.F_q74.ok sc_q74 ?_ ?_
 walk_at "i"
 ·obtain ⟨a, its, rfl, ha, G, hlen, q⟩ := h
  have sp1 : (" " : Str) = ⟨#[32]⟩ := by decide +kernel
  refine @at_cons _ _ _ _ _ _ _ (ps_set (i := 1) sc_q74.nd rfl (Or.inl rfl) pe_dnewK) fun d hd => ?_
  refine @at_consR _ _ _ _ _ _ _ (fun Z' H' => ∃ x y kvs, Z' = [some (.ref a), some (.ref d), x, y] /\ H' d = some (.dK kvs) /\ Nums (namesOf its) kvs /\ Same H H') (ps_forA PassesOwn.never rfl (pi_list (pv 0)) (pg_name (i := 2) sc_q74.nd rfl (Or.inl rfl)) pss_at) ?_ ?_
  ·refine ⟨_, rfl, a, rfl, ⟨_, SqL.of (by rw [upd_ne (ne_of_none ha hd)]; exact ha)⟩, forW_list (xs := (rowsOf its).map V.str) (fun i Z' H' => ∃ x y kvs, Z' = [some (.ref a), some (.ref d), x, y] /\ H' d = some (.dK kvs) /\ Nums (namesOf (its.take i)) kvs /\ Same H H') ⟨_, _, [], rfl, upd_same, Nums.nil, Same.upd hd⟩ ?_ ?_ ?_⟩
   ·rintro i Z' H' _ ⟨x, y, kvs, rfl, h1, h2, h3⟩
    exact SqL.of (h3 _ _ ha)
   ·rintro i xv Z' H1 hx ⟨x, y, kvs, rfl, h1, h2, s1⟩
    rw [List.getElem?_map] at hx
    obtain ⟨row, hrow, rfl⟩ := Option.map_eq_some_iff.mp hx
    obtain ⟨it, hit, rfl⟩ := rows_at hrow
    obtain ⟨g1, g2, g3⟩ := row_good G hit
    refine @at_cons _ _ _ _ _ _ _ (ps_set (i := 3) sc_q74.nd rfl (Or.inl rfl) (pe_bm F.plainAttrs_str F.slot_str_split F.type_str_split mt_split (pv 2) (pa_cons pe_str pa_nil))) ⟨_, rfl, rfl, _, _, rfl, rfl, by decide, sl_le (by omega), fun lw hlw => ?_⟩
    rw [sp1, g3]
    have s2 : Same H1 (upd H1 lw (.lst ((it.words (namesOf its)).map V.str))) := Same.upd hlw
    have hw : upd H1 lw (.lst ((it.words (namesOf its)).map V.str)) lw = some (.lst ((it.words (namesOf its)).map V.str)) := upd_same
    have hd2 := s2 _ _ h1
    generalize upd H1 lw (.lst ((it.words (namesOf its)).map V.str)) = H2 at s2 hw hd2
    cases it with
    | mode n c =>
     obtain ⟨m1, m2, m3, m4⟩ := G.mode i n c hit
     refine @at_one _ _ _ _ _ _ (ps_if (PW.pt (pw_and (pt_cmpR op_eq (pe_ix ix_list (pv 3) pe_int (fun _ _ => rfl)) pe_str (nomark _)) (pw_and1 (pt_cmpR op_gt (pe_callB call_len_seq (by rfl) T.z_len (by decide +kernel) (pa_cons (pv 3) pa_nil)) pe_int (nomark _))))) pss_at pss_at) ⟨_, rfl, _, _, _, _, rfl, rfl, SqL.of hw, atI_nat (j := 0) rfl, rfl, _, rfl, ifd (fun _ => ?_) (fun h => absurd rfl h)⟩
     refine ⟨_, rfl, _, _, rfl, .inl (SqL.of hw), _, _, rfl, rfl, _, rfl, ifd (fun _ => ?_) (fun h => absurd (by simp [Item.words]) h)⟩
     refine @at_one _ _ _ _ _ _ (ps_dput (hu_of hr) (pv 1) (pe_ix ix_list (pv 3) pe_int (fun _ _ => rfl)) (pe_callB call_lenD (by rfl) T.z_len (by decide +kernel) (pa_cons (pv 1) pa_nil)) rfl) ⟨_, rfl, d, kvs, rfl, hd2, _, rfl, _, rfl, _, _, _, _, rfl, rfl, SqL.of hw, atI_nat (j := 1) rfl, d, _, rfl, DPut.k (k := .inr n) hd2 ?_, ?_⟩
     ·rw [h2.len]; exact sl_lt (by omega)
     ·refine ⟨_, _, _, rfl, upd_same, ?_, fun b o hb => ?_⟩
      ·rw [take_snoc hit, namesOf_app, h2.len]
       exact h2.put m4
      ·rw [upd_ne (ne_of_none hb hd)]; exact s2 _ _ (s1 _ _ hb)
    | rule R =>
     obtain ⟨r1, _⟩ := G.rule i R hit
     obtain ⟨fw, fr, e1, e2⟩ := first_word r1
     have hw' : H2 lw = some (.lst (V.str fw :: fr.map V.str)) := by rw [hw]; simp only [Item.words]; rw [e1]; rfl
     refine @at_one _ _ _ _ _ _ (ps_if (PW.pt (pw_and (pt_cmpR op_eq (pe_ix ix_list (pv 3) pe_int (fun _ _ => rfl)) pe_str (nomark _)) (pw_and1 (pt_cmpR op_gt (pe_callB call_len_seq (by rfl) T.z_len (by decide +kernel) (pa_cons (pv 3) pa_nil)) pe_int (nomark _))))) pss_at pss_at) ⟨_, rfl, _, _, _, _, rfl, rfl, SqL.of hw', atI_nat (j := 0) rfl, rfl, _, rfl, ifd (fun h => absurd (V.str.inj h) e2) (fun _ => at_nil ?_)⟩
     refine ⟨_, _, kvs, rfl, hd2, ?_, s1.trans s2⟩
     rw [take_snoc hit, namesOf_app]
     show Nums (namesOf (its.take i) ++ []) kvs
     rw [List.append_nil]
     exact h2
   ·rintro Z' H' ⟨x, y, kvs, rfl, h1, h2, h3⟩
    refine ⟨x, y, kvs, rfl, h1, ?_, h3⟩
    rw [List.length_map, rowsOf, List.length_map, List.take_length] at h2
    exact h2
  rintro Z' H' ⟨x, y, kvs, rfl, h1, h2, h3⟩
  exact @at_one _ _ _ _ _ _ (ps_ret (pv 1)) ⟨_, rfl, q d kvs H' h1 h2 h3⟩
def spRdMode (t : Adr) : Sp := fun vs H Q _ => ∃ (p dx lw lm : Addr) (row : Int) (n c : Str) (as ls : List Addr) (ms : List ModeM), vs = [.ref p, .ref lm] /\ Cur t H p dx lw row ["mode", n, c] 0 /\ isName n = true /\ isName c = true /\ H lm = some (.lst (as.map V.ref)) /\ ModesAt t H as ls ms /\ ms.length < 12 /\ n ∉ ms.map (·.name) /\
 ∀ m l2 dm H', H' m = some (.ins t.c_Mode dm (mf ⟨n, c, []⟩ l2)) -> H' l2 = some (.lst []) -> H l2 = none -> Adv H H' p -> Q (.ref m) H'
theorem mode_ne {H : Hp} {m dm l p dx lw : Addr} {M : ModeM} {row : Int} {ws : List Str} {i : Nat} (h : H m = some (.ins t.c_Mode dm (mf M l))) (C : Cur t H p dx lw row ws i) : m ≠ p := ne_of h C.ob fun q => by
 injection q with _ _ q
 unfold mf cf at q
 simp at q
theorem ok_q76 (T : Txt K mg t) : FnOk P w K mg base CX0 5 t.f_q76 t.d_q76 ["cursor", "modes"] (spRdMode t) := by
 refine T.F_q76.ok sc_q76 ?_ ?_
 walk_at "i"
 ·obtain ⟨p, dx, lw, lm, row, n, c, as, ls, ms, rfl, C, hn, hc, hlm, hM, hl12, hnn, q⟩ := h
  have nlp : lm ≠ p := ne_of hlm C.ob (by intro z; cases z)
  refine @at_cons _ _ _ _ _ _ _ (ps_expr (pe_meth (pv 0) T.cl_Cursor T.m_q3 (ok_q3 T) (hr.mono (by decide)) (T.F_q3.binds (by walk_at "2")) .nil pass0 (pa_cons (pe_cmpR op_lt (pe_callB call_len_seq (by rfl) T.z_len (by decide +kernel) (pa_cons (pv 1) pa_nil)) (pe_globE rfl T.mgv_MOST_MODES) (nomark _)) pa_nil))) ⟨_, rfl, p, dx, _, rfl, C.ob, rfl, _, rfl, _, _, rfl, .inl (SqL.of hlm), _, _, rfl, rfl, ?_⟩
  dsimp only
  rw [decide_eq_true (by rw [List.length_map, hM.la]; omega)]
  refine ⟨_, rfl, ?_⟩
  refine @at_cons _ _ _ _ _ _ _ (ps_expr (pe_meth (pv 0) T.cl_Cursor T.m_q7 (ok_q7 T) (hr.mono (by decide)) (T.F_q7.binds (by walk_at "2")) .nil pass0 (pa_cons (pe_tup (pa_cons pe_str pa_nil)) pa_nil))) ⟨_, rfl, p, dx, _, rfl, C.ob, rfl, by show 1 <= sizeLine; decide, fun pt hpt => ?_⟩
  have s1 : Same H (upd H pt (.tup [.str "mode"])) := Same.upd hpt
  have C1 := C.same s1
  refine ⟨p, dx, lw, pt, ["mode"], row, _, 0, rfl, C1, SqT.of upd_same, List.mem_singleton.mpr rfl, fun H2 C2 a2 => ?_⟩
  have a2 := s1.adv a2
  have hlm2 : H2 lm = some (.lst (as.map V.ref)) := a2 _ _ hlm nlp
  refine @at_cons _ _ _ _ _ _ _ (@ps_expr _ _ _ _ (@pe_meth _ _ _ _ _ _ _ _ _ _ _ _ _ _ _ _ _ _ _ _ (pv 0) T.cl_Cursor T.m_q3 (ok_q3 T) (hr.mono (by decide)) (T.F_q3.binds (by walk_at "2")) .nil pass0 (@pa_cons _ _ _ _ _ (@pe_cmpR _ _ _ _ _ _ _ _ op_notIn_seq (@pe_meth0 _ _ _ _ _ _ _ _ _ _ _ _ _ _ _ _ _ (pv 0) T.cl_Cursor T.m_q5 (ok_q5 T) (hr.mono (by decide)) (T.F_q5.binds (by walk_at "1")) .nil pass0 (by left)) (@pe_comp _ (defScope s_q76) _ ["cursor", "modes", "name", "colour"] _ _ ("mode") _ _ [] _ _ (by walk_at "ck") (@pi_list _ _ _ _ (pv 1)) (fun _ _ _ _ => by exact (@pe_fldK _ K _ _ _ _ (pv 0) rfl (by left))) (by left) (by left) (by left) (by left)) rfl) pa_nil (by left)) (by left) (by left) (by left)) (by left)) ?_
  refine ⟨_, rfl, p, dx, _, rfl, C2.ob, rfl, ⟨_, rfl, p, dx, _, rfl, C2.ob, rfl, p, dx, lw, row, _, 0 + 1, rfl, C2, ?_⟩⟩
  refine ⟨_, rfl, lm, rfl, ⟨_, SqL.of hlm2⟩, comp_list (xs := as.map V.ref) (fun i ys H' => H' = H2 /\ ys = ((ms.map (·.name)).take i).map V.str) ⟨rfl, rfl⟩ (sl_lt (by rw [List.length_map, hM.la]; omega)) ?_ ?_ ?_⟩
  ·rintro i ys H' _ ⟨rfl, _⟩
   exact SqL.of hlm2
  ·rintro i xv ys H' hx hyl ⟨rfl, rfl⟩
   rw [List.getElem?_map] at hx
   obtain ⟨a, ha, rfl⟩ := Option.map_eq_some_iff.mp hx
   have hi : i < as.length := (List.getElem?_eq_some_iff.mp ha).1
   obtain ⟨m, hm⟩ : ∃ m, ms[i]? = some m := ⟨ms[i]'(by rw [← hM.la]; exact hi), List.getElem?_eq_getElem _⟩
   obtain ⟨l, hll⟩ : ∃ l, ls[i]? = some l := ⟨ls[i]'(by rw [hM.ll, ← hM.la]; exact hi), List.getElem?_eq_getElem _⟩
   obtain ⟨dm, rs, o1, o2, o3⟩ := hM.ob i a l m ha hll hm
   refine ⟨_, rfl, a, t.c_Mode, dm, _, _, rfl, a2 _ _ o1 (mode_ne o1 C), T.cl_Mode, T.n_Mode_name, rfl, ?_⟩
   refine comp_turn (by rw [List.length_map]; exact hi) hyl ⟨rfl, ?_⟩
   rw [take_snoc (l := ms.map (·.name)) (x := m.name) (by rw [List.getElem?_map, hm]; rfl), List.map_append]
   rfl
  ·rintro ys H' hyl ⟨rfl, rfl⟩ D hD
   have hall : (ms.map (·.name)).take (as.map V.ref).length = ms.map (·.name) := List.take_of_length_le (by rw [List.length_map, List.length_map, hM.la]; omega)
   rw [hall]
   have s3 : Same H' (upd H' D (.lst ((ms.map (·.name)).map V.str))) := Same.upd hD
   have C3 := C2.same s3
   refine ⟨D, _, rfl, .inl (SqL.of upd_same), rfl, flat_strs, ?_⟩
   rw [if_pos rfl, inV_strs, decide_eq_false (p := pk ["mode", n, c] (0 + 1) ∈ ms.map (·.name)) hnn]
   refine ⟨_, rfl, ?_⟩
   refine @at_cons _ _ _ _ _ _ _ (ps_set (i := 2) sc_q76.nd rfl (Or.inl rfl) (pe_meth0 (pv 0) T.cl_Cursor T.m_q8 (ok_q8 T) (hr.mono (by decide)) (T.F_q8.binds (by walk_at "1")) .nil pass0)) ⟨_, rfl, p, dx, _, rfl, C3.ob, rfl, p, dx, lw, row, _, 0 + 1, rfl, C3, hn, fun H4 C4 a4 => ?_⟩
   refine @at_cons _ _ _ _ _ _ _ (ps_set (i := 3) sc_q76.nd rfl (Or.inl rfl) (pe_meth0 (pv 0) T.cl_Cursor T.m_q8 (ok_q8 T) (hr.mono (by decide)) (T.F_q8.binds (by walk_at "1")) .nil pass0)) ⟨_, rfl, p, dx, _, rfl, C4.ob, rfl, p, dx, lw, row, _, 0 + 1 + 1, rfl, C4, hc, fun H5 C5 a5 => ?_⟩
   have a5 := (a2.same s3).trans (a4.trans a5)
   refine @at_cons _ _ _ _ _ _ _ (ps_expr (pe_meth (pv 0) T.cl_Cursor T.m_q3 (ok_q3 T) (hr.mono (by decide)) (T.F_q3.binds (by walk_at "2")) .nil pass0 (pa_cons (pe_not (pe_meth0 (pv 0) T.cl_Cursor T.m_q4 (ok_q4 T) (hr.mono (by decide)) (T.F_q4.binds (by walk_at "1")) .nil pass0)) pa_nil))) ⟨_, rfl, p, dx, _, rfl, C5.ob, rfl, ⟨_, rfl, p, dx, _, rfl, C5.ob, rfl, p, dx, lw, row, _, 0 + 1 + 1 + 1, rfl, C5, _, rfl, ?_⟩⟩
   refine ⟨_, rfl, ?_⟩
   refine @at_one _ _ _ _ _ _ (ps_ret (pe_make T.mk_Mode (ok_q15 T) (hr.mono (by decide)) rfl T.mgc_Mode (T.F_q15.binds (by walk_at "4")) .nil pass0 (pa_cons (pv 2) (pa_cons (pv 3) (pa_cons (pe_lst pa_nil) pa_nil))))) ⟨_, rfl, _, rfl, by show 0 <= sizeLine; decide, fun l1 hl1 => ?_⟩
   intro x dm nx ndm ne
   have nl1 : l1 ≠ x := ne_of_none upd_same nx
   have nl2 : l1 ≠ dm := ne_of_none upd_same ndm
   refine ⟨x, dm, l1, n, c, [], rfl, upd_same, by rw [upd_ne nl1, upd_ne nl2]; exact upd_same, fun l2 H6 h1 h2 h3 h4 => ⟨rfl, ?_⟩⟩
   have key : ∀ b o, H5 b = some o -> b ≠ x /\ b ≠ dm /\ b ≠ l1 := fun b o hb => by
    have e1 : b ≠ l1 := ne_of_none hb hl1
    have hb' : upd H5 l1 (.lst []) b = some o := by rw [upd_ne e1]; exact hb
    exact ⟨ne_of_none hb' nx, ne_of_none hb' ndm, e1⟩
   have hadv : ∀ b o, H5 b = some o -> H6 b = some o := fun b o hb => by
    obtain ⟨k1, k2, k3⟩ := key b o hb
    refine h4 b o ?_ k1
    rw [upd_ne k1, upd_ne k2, upd_ne k3]; exact hb
   refine q x l2 dm H6 h2 h3 ?_ fun b o hb nb => hadv b o (a5 b o hb nb)
   cases e : H l2 with
   | none => rfl
   | some o =>
    by_cases z : l2 = p
    ·have h5 := hadv p _ C5.ob
     rw [z, h5] at h3
     cases h3
    ·have h5 := a5 _ _ e z
     obtain ⟨k1, k2, k3⟩ := key _ _ h5
     rw [upd_ne k1, upd_ne k2, upd_ne k3, h5] at h1
     cases h1
def spRead (t : Adr) : Sp := fun vs H Q _ => ∃ (its : List Item), vs = [.str (Str.join ⟨#[10]⟩ (rowsOf its))] /\ GoodItems its /\ its.length <= 200 /\ ∀ a H', IsRules t H' a (foldI its) -> Same H H' -> Q (.ref a) H'
theorem foldI_len (its : List Item) : (foldI its).length = (namesOf its).length := by rw [← names_fold, List.length_map]
theorem Adv.fresh {H H1 H2 : Hp} {p : Addr} (s : Same H H1) (h : H p = none) (a : Adv H1 H2 p) : Same H H2 := fun b o hb => a b o (s b o hb) (ne_of_none hb h)
theorem IsRule.updL {H : Hp} {r l : Addr} {R : RuleM} {xs : List V} {o : HO} (h : IsRule t H r R) (hl : H l = some (.lst xs)) : IsRule t (upd H l o) r R := by
 obtain ⟨dx, p, x, ⟨dp, y⟩⟩ := h
 exact ⟨dx, p, by rw [upd_ne (ne_of x hl (by intro z; cases z))]; exact x, dp, by rw [upd_ne (ne_of y hl (by intro z; cases z))]; exact y⟩
theorem ModesAt.updL {H : Hp} {as ls : List Addr} {ms : List ModeM} {l : Addr} {xs : List V} {o : HO} (h : ModesAt t H as ls ms) (hl : H l = some (.lst xs)) (hn : l ∉ ls) : ModesAt t (upd H l o) as ls ms :=
 ⟨h.la, h.ll, h.nd, fun i a l' m h1 h2 h3 => by
  obtain ⟨dx, rs, x, y, z⟩ := h.ob i a l' m h1 h2 h3
  exact ⟨dx, rs, by rw [upd_ne (ne_of x hl (by intro z; cases z))]; exact x, by rw [upd_ne (show l' ≠ l from fun e => hn (e ▸ List.mem_of_getElem? h2))]; exact y, z.mono fun _ _ r => r.updL hl⟩⟩
theorem ModesAt.alive {H : Hp} {as ls : List Addr} {ms : List ModeM} (h : ModesAt t H as ls ms) {l : Addr} (hl : l ∈ ls) : ∃ xs, H l = some (.lst xs) := by
 obtain ⟨i, e⟩ := List.mem_iff_getElem?.mp hl
 have hi := (List.getElem?_eq_some_iff.mp e).1
 obtain ⟨dx, rs, x, y, z⟩ := h.ob i _ l _ (List.getElem?_eq_getElem (by rw [h.la, ← h.ll]; exact hi)) e (List.getElem?_eq_getElem (by rw [← h.ll]; exact hi))
 exact ⟨_, y⟩
theorem ModesAt.addM {H : Hp} {as ls : List Addr} {ms : List ModeM} {m l dm : Addr} {n c : Str} (h : ModesAt t H as ls ms) (hm : H m = some (.ins t.c_Mode dm (mf ⟨n, c, []⟩ l))) (hl : H l = some (.lst [])) (hn : l ∉ ls) : ModesAt t H (as ++ [m]) (ls ++ [l]) (ms ++ [⟨n, c, []⟩]) := by
 refine ⟨by simp [h.la], by simp [h.ll], ?_, fun i a l' m' h1 h2 h3 => ?_⟩
 ·refine List.nodup_append.mpr ⟨h.nd, by simp, fun a ha b hb => ?_⟩
  rw [List.mem_singleton.mp hb]
  exact fun e => hn (e ▸ ha)
 ·have e1 := h.la
  have e2 := h.ll
  rcases snoc_get h1 with h1 | ⟨i1, rfl⟩
  ·have := (List.getElem?_eq_some_iff.mp h1).1
   rcases snoc_get h2 with h2 | ⟨i2, rfl⟩
   ·rcases snoc_get h3 with h3 | ⟨i3, rfl⟩
    ·exact h.ob i a l' m' h1 h2 h3
    ·omega
   ·omega
  ·rcases snoc_get h2 with h2 | ⟨i2, rfl⟩
   ·have := (List.getElem?_eq_some_iff.mp h2).1; omega
   ·rcases snoc_get h3 with h3 | ⟨i3, rfl⟩
    ·have := (List.getElem?_eq_some_iff.mp h3).1; omega
    ·exact ⟨dm, [], hm, hl, All2.nil⟩
theorem nodup_at {l : List Addr} (h : l.Nodup) {i j : Nat} {a : Addr} (h1 : l[i]? = some a) (h2 : l[j]? = some a) : i = j := by
 obtain ⟨i1, e1⟩ := List.getElem?_eq_some_iff.mp h1
 obtain ⟨j1, e2⟩ := List.getElem?_eq_some_iff.mp h2
 exact (List.getElem_inj h).mp (e1.trans e2.symm)
theorem ModesAt.addR {H : Hp} {as ls : List Addr} {ms : List ModeM} {m : ModeM} {l r : Addr} {rs : List Addr} {R : RuleM} (h : ModesAt t H as ls (ms ++ [m])) (hl : ls[ms.length]? = some l) (hH : H l = some (.lst (rs.map V.ref))) (hA : All2 (IsRule t H) rs m.rules) (hr : IsRule t H r R) :
  ModesAt t (upd H l (.lst (rs.map V.ref ++ [.ref r]))) as ls (ms ++ [{ m with rules := m.rules ++ [R] }]) := by
 refine ⟨by rw [h.la]; simp, by rw [h.ll]; simp, h.nd, fun i a l' m' h1 h2 h3 => ?_⟩
 rcases snoc_get h3 with h3 | ⟨i3, rfl⟩
 ·have hi := (List.getElem?_eq_some_iff.mp h3).1
  obtain ⟨dx, rs', x, y, z⟩ := h.ob i a l' m' h1 h2 (by rw [List.getElem?_append_left hi]; exact h3)
  refine ⟨dx, rs', by rw [upd_ne (ne_of x hH (by intro z; cases z))]; exact x, ?_, z.mono fun _ _ r => r.updL hH⟩
  rw [upd_ne (fun e => ?_)]
  ·exact y
  ·subst e
   have := nodup_at h.nd h2 hl
   omega
 ·subst i3
  rw [hl] at h2
  cases h2
  obtain ⟨dx, rs', x, y, z⟩ := h.ob _ a l m h1 hl (by simp)
  refine ⟨dx, rs ++ [r], by rw [upd_ne (ne_of x hH (by intro z; cases z))]; exact x, by rw [upd_same, List.map_append]; rfl, ?_⟩
  exact All2.snoc (hA.mono fun _ _ r => r.updL hH) (hr.updL hH)
theorem atI_lastM {α β : Type} {f : α -> β} {as : List α} {k : Nat} {a : α} (hl : as.length = k + 1) (h : as[k]? = some a) : atI (as.map f) (-1) = some (f a) := by
 unfold atI ixN
 rw [List.length_map, hl]
 have e : ((-1 : Int) + ((k + 1 : Nat) : Int)).toNat = k := by omega
 first
  | (rw [if_neg (by omega), if_pos (by omega)]; simp only [Option.bind_some]; rw [show (((k + 1 : Nat) : Int) + (-1 : Int)).toNat = k by omega, List.getElem?_map, h]; rfl)
  | (rw [if_neg (by omega), if_pos (by omega)]; simp only [Option.bind_some]; rw [e, List.getElem?_map, h]; rfl)
theorem ok_q79 (T : Txt K mg t) : FnOk P w K mg base CX0 7 t.f_q79 t.d_q79 ["text"] (spRead t) := by
 refine T.F_q79.ok sc_q79 ?_ ?_
 walk_at "i"
 ·obtain ⟨its, rfl, G, hlen, q⟩ := h
  have nl1 : ("\n" : Str) = ⟨#[10]⟩ := by decide +kernel
  refine @at_cons _ _ _ _ _ _ _ (ps_set (i := 1) sc_q79.nd rfl (Or.inl rfl) (pe_bm F.plainAttrs_str F.slot_str_split F.type_str_split mt_split (pv 0) (pa_cons pe_str pa_nil))) ⟨_, rfl, rfl, _, _, rfl, rfl, by decide, sl_le (by have := text_len G hlen; omega), fun lr hlr => ?_⟩
  rw [nl1, rows_split G]
  have s1 : Same H (upd H lr (.lst ((rowsOf its).map V.str))) := Same.upd hlr
  have hr1 : upd H lr (.lst ((rowsOf its).map V.str)) lr = some (.lst ((rowsOf its).map V.str)) := upd_same
  generalize upd H lr (.lst ((rowsOf its).map V.str)) = H1 at s1 hr1
  refine @at_cons _ _ _ _ _ _ _ (ps_set (i := 2) sc_q79.nd rfl (Or.inl rfl) (pe_call (ok_q74 T) (hr.mono (by decide)) rfl T.mg_q74 T.F_q74.kp (T.F_q74.binds (by walk_at "1")) .nil pass0 (pa_cons (pv 1) pa_nil))) ⟨_, rfl, lr, its, rfl, hr1, G, hlen, fun d kvs H2 hd2 hN s2 => ?_⟩
  have hr2 := s2 _ _ hr1
  have s2 := s1.trans s2
  refine @at_cons _ _ _ _ _ _ _ (ps_set (i := 3) sc_q79.nd rfl (Or.inl rfl) (pe_lst pa_nil)) ⟨by show 0 <= sizeLine; decide, fun lm hlm => ?_⟩
  have s3 : Same H2 (upd H2 lm (.lst [])) := Same.upd hlm
  have hm3 : upd H2 lm (.lst []) lm = some (.lst []) := upd_same
  generalize upd H2 lm (.lst []) = H3 at s3 hm3
  have hlm0 : H lm = none := s2.free hlm
  have hr3 := s3 _ _ hr2
  have hd3 := s3 _ _ hd2
  have s3 := s2.trans s3
  refine @at_cons _ _ _ _ _ _ _ (ps_set (i := 4) sc_q79.nd rfl (Or.inl rfl) (pe_lst pa_nil)) ⟨by show 0 <= sizeLine; decide, fun nw hnw => ?_⟩
  have s4 : Same H3 (upd H3 nw (.lst [])) := Same.upd hnw
  have hw4 : upd H3 nw (.lst []) nw = some (.lst []) := upd_same
  generalize upd H3 nw (.lst []) = H4 at s4 hw4
  have hr4 := s4 _ _ hr3
  have hd4 := s4 _ _ hd3
  have hm4 := s4 _ _ hm3
  have nmw : lm ≠ nw := ne_of_none hm3 hnw
  have s4 := s3.trans s4
  have nlr : lr ≠ lm := ne_of_none hr2 hlm
  have nlrw : lr ≠ nw := ne_of_none hr3 hnw
  refine @at_consR _ _ _ _ _ _ _ (fun Z' H' => ∃ x5 x6 x7 x8 as ls, Z' = [some (.str (Str.join ⟨#[10]⟩ (rowsOf its))), some (.ref lr), some (.ref d), some (.ref lm), some (.ref nw), x5, x6, x7, x8] /\ H' lm = some (.lst (as.map V.ref)) /\ H' nw = some (.lst []) /\ ModesAt t H' as ls (foldI its) /\ Same H H') (ps_forA PassesOwn.never rfl (pi_enum rfl T.z_enumerate (pa_cons (pv 1) pa_nil)) (pg_tup rfl (pgs_cons (pg_name (i := 5) sc_q79.nd rfl (Or.inl rfl)) (pgs_cons (pg_name (i := 6) sc_q79.nd rfl (Or.inl rfl)) pgs_nil))) pss_at) ?_ ?_
  ·refine ⟨_, rfl, lr, _, rfl, SqL.of hr4, forW_enum (xs := (rowsOf its).map V.str) (fun i Z' H' => ∃ x5 x6 x7 x8 as ls, Z' = [some (.str (Str.join ⟨#[10]⟩ (rowsOf its))), some (.ref lr), some (.ref d), some (.ref lm), some (.ref nw), x5, x6, x7, x8] /\ H' lm = some (.lst (as.map V.ref)) /\ H' nw = some (.lst []) /\ H' lr = some (.lst ((rowsOf its).map V.str)) /\ H' d = some (.dK kvs) /\ ModesAt t H' as ls (foldI (its.take i)) /\ lm ∉ ls /\ nw ∉ ls /\ lr ∉ ls /\ (∀ l ∈ ls, H l = none) /\ Same H H') ?_ ?_ ?_ ?_⟩
   ·exact ⟨_, _, _, _, [], [], rfl, hm4, hw4, hr4, hd4, ⟨rfl, rfl, List.nodup_nil, fun i a l m h => by simp at h⟩, by simp, by simp, by simp, by simp, s4⟩
   ·rintro i Z' H' _ ⟨x5, x6, x7, x8, as, ls, rfl, h1, h2, h3, _⟩
    exact SqL.of h3
   ·rintro i xv pt Z' H5 hx hpt ⟨x5, x6, x7, x8, as, ls, rfl, hm5, hw5, hr5, hd5, hM, nl1', nl2', nl3', hfr, s5⟩
    rw [List.getElem?_map] at hx
    obtain ⟨row, hrow, rfl⟩ := Option.map_eq_some_iff.mp hx
    obtain ⟨it, hit, rfl⟩ := rows_at hrow
    obtain ⟨g1, g2, g3⟩ := row_good G hit
    obtain ⟨w1, w2, w3⟩ := item_words G hit
    have s6 : Same H5 (upd H5 pt (.tup [.int i, .str (rowOf (namesOf its) it)])) := Same.upd hpt
    refine ⟨pt, [.int i, .str (rowOf (namesOf its) it)], rfl, SqT.of upd_same, rfl, _, _, rfl, _, _, rfl, rfl, ?_⟩
    generalize upd H5 pt (.tup [.int i, .str (rowOf (namesOf its) it)]) = H6 at s6
    refine @at_cons _ _ _ _ _ _ _ (ps_set (i := 7) sc_q79.nd rfl (Or.inl rfl) (pe_make T.mk_Cursor (ok_q2 T) (hr.mono (by decide)) rfl T.mgc_Cursor (T.F_q2.binds (by walk_at "3")) .nil pass0 (pa_cons (pv 5) (pa_cons (pv 6) pa_nil)))) ⟨_, rfl, _, rfl, fun p dx np ndx ne => ⟨p, dx, i, _, rfl, upd_same, by omega, by rw [g3]; omega, fun lw H7 hlw C7 a7 => ⟨rfl, ?_⟩⟩⟩
    rw [g3] at C7
    have s7 : Same H5 H7 := fun b o hb => a7 b o (by rw [upd_ne (ne_of_none (s6 _ _ hb) np), upd_ne (ne_of_none (s6 _ _ hb) ndx)]; exact s6 _ _ hb) (ne_of_none (s6 _ _ hb) np)
    have hp5 : H5 p = none := s6.free np
    have hm7 := s7 _ _ hm5
    have hM7 := hM.same s7
    have hml : as.length = (foldI (its.take i)).length := hM.la
    cases it with
    | mode n c =>
     obtain ⟨m1, m2, m3, m4⟩ := G.mode i n c hit
     refine @at_one _ _ _ _ _ _ (ps_if (PW.pt (pw_or (pt_not (pt_truth (pv 3) (fun _ => rfl))) (pw_or1 (pt_cmpR op_eq (pe_meth0 (pv 7) T.cl_Cursor T.m_q5 (ok_q5 T) (hr.mono (by decide)) (T.F_q5.binds (by walk_at "1")) .nil pass0) pe_str (nomark _))))) pss_at pss_at) ⟨_, rfl, _, .inl ⟨_, SqL.of hm7, rfl⟩, ?_⟩
     refine (fun hb => ifb (fun _ => iteT hb) (fun _ => ⟨_, rfl, p, dx, _, rfl, C7.ob, rfl, p, dx, lw, i, _, 0, rfl, C7, rfl, _, rfl, ifd (fun _ => hb) (fun h => absurd rfl h)⟩)) ?_
     refine @at_one _ _ _ _ _ _ (ps_expr (pe_bm F.plainAttrs_list F.slot_list_append F.type_list_append mt_append (pv 3) (pa_cons (pe_call (ok_q76 T) (hr.mono (by decide)) rfl T.mg_q76 T.F_q76.kp (T.F_q76.binds (by walk_at "2")) .nil pass0 (pa_cons (pv 7) (pa_cons (pv 3) pa_nil))) pa_nil))) ⟨_, rfl, .inl ⟨rfl, _, SqL.of hm7⟩, _, rfl, _, rfl, p, dx, lw, lm, i, n, c, as, ls, _, rfl, C7, m1, m2, hm7, hM7, by rw [foldI_len]; exact m3, by rw [names_fold]; exact m4, fun m l2 dm H8 e1 e2 e3 a8 => ?_⟩
     have s8 : Same H5 H8 := Adv.fresh s7 hp5 a8
     have hm8 := s8 _ _ hm5
     have n1 : lm ≠ l2 := ne_of_none hm7 e3
     have hn2 : l2 ∉ ls := fun z => by
      obtain ⟨xs, hx⟩ := hM7.alive z
      rw [hx] at e3; cases e3
     refine ⟨lm, _, _, rfl, rfl, hm8, sl_lt (by rw [List.length_map, hml, foldI_len]; omega), ?_⟩
     refine ⟨_, _, _, _, as ++ [m], ls ++ [l2], rfl, by rw [upd_same, List.map_append]; rfl, ?_, ?_, ?_, ?_, ?_, ?_, ?_, ?_, ?_⟩
     ·rw [upd_ne (Ne.symm nmw)]; exact s8 _ _ hw5
     ·rw [upd_ne nlr]; exact s8 _ _ hr5
     ·rw [upd_ne (ne_of hd5 hm5 (by intro z; cases z))]; exact s8 _ _ hd5
     ·rw [take_snoc hit, foldI_snoc]
      exact ModesAt.addM ((hM.same s8).updL hm8 nl1') (by rw [upd_ne (ne_of e1 hm8 (by intro z; cases z))]; exact e1) (by rw [upd_ne (Ne.symm n1)]; exact e2) hn2
     ·intro z
      rcases List.mem_append.mp z with z | z
      ·exact nl1' z
      ·exact n1 (List.mem_singleton.mp z)
     ·intro z
      rcases List.mem_append.mp z with z | z
      ·exact nl2' z
      ·exact ne_of_none (s7 _ _ hw5) e3 (List.mem_singleton.mp z)
     ·intro z
      rcases List.mem_append.mp z with z | z
      ·exact nl3' z
      ·exact ne_of_none (s7 _ _ hr5) e3 (List.mem_singleton.mp z)
     ·intro l hl
      rcases List.mem_append.mp hl with z | z
      ·exact hfr l z
      ·rw [List.mem_singleton.mp z]; exact (s5.trans s7).free e3
     ·intro b o hb
      rw [upd_ne (ne_of_none hb hlm0)]
      exact s8 _ _ (s5 _ _ hb)
    | rule R =>
     obtain ⟨r1, ms, m, hms, hm12⟩ := G.rule i R hit
     obtain ⟨fw, fr, f1, f2⟩ := first_word r1
     rw [hms] at hM hM7 hml
     have hk : as.length = ms.length + 1 := by rw [hml]; simp
     obtain ⟨a, ha⟩ : ∃ a, as[ms.length]? = some a := ⟨as[ms.length]'(by omega), List.getElem?_eq_getElem _⟩
     obtain ⟨l, hl⟩ : ∃ l, ls[ms.length]? = some l := ⟨ls[ms.length]'(by rw [hM.ll]; simp), List.getElem?_eq_getElem _⟩
     obtain ⟨dm, rs, o1, o2, o3⟩ := hM.ob ms.length a l m ha hl (by simp)
     have o1' := s7 _ _ o1
     have o2' := s7 _ _ o2
     have hrl : rs.length < 12 := by rw [o3.1]; exact hm12
     have hl0 : H l = none := hfr l (List.mem_of_getElem? hl)
     have hnl : l ∈ ls := List.mem_of_getElem? hl
     refine @at_one _ _ _ _ _ _ (ps_if (PW.pt (pw_or (pt_not (pt_truth (pv 3) (fun _ => rfl))) (pw_or1 (pt_cmpR op_eq (pe_meth0 (pv 7) T.cl_Cursor T.m_q5 (ok_q5 T) (hr.mono (by decide)) (T.F_q5.binds (by walk_at "1")) .nil pass0) pe_str (nomark _))))) pss_at pss_at) ⟨_, rfl, _, .inl ⟨_, SqL.of hm7, rfl⟩, ifb (fun h => ?_) (fun _ => ?_)⟩
     ·exfalso
      have : as ≠ [] := fun z => by rw [z] at hk; simp at hk
      cases as with
      | nil => exact this rfl
      | cons _ _ => simp at h
     refine ⟨_, rfl, p, dx, _, rfl, C7.ob, rfl, p, dx, lw, i, _, 0, rfl, C7, rfl, _, rfl, ifd (fun h => ?_) (fun _ => ?_)⟩
     ·exfalso
      refine f2 ?_
      have h := V.str.inj h
      simp only [Item.words, f1] at h
      exact h
     refine @at_cons _ _ _ _ _ _ _ (ps_set (i := 8) sc_q79.nd rfl (Or.inl rfl) (pe_fld (pe_ix ix_list (pv 3) (pe_un un_neg pe_int) (fun _ _ => rfl)) rfl)) ⟨_, rfl, _, rfl, _, _, _, _, rfl, rfl, SqL.of hm7, atI_lastM hk ha, a, t.c_Mode, dm, _, _, rfl, o1', T.cl_Mode, T.n_Mode_rules, rfl, ?_⟩
     refine @at_cons _ _ _ _ _ _ _ (ps_expr (pe_meth (pv 7) T.cl_Cursor T.m_q3 (ok_q3 T) (hr.mono (by decide)) (T.F_q3.binds (by walk_at "2")) .nil pass0 (pa_cons (pe_cmpR op_lt (pe_callB call_len_seq (by rfl) T.z_len (by decide +kernel) (pa_cons (pv 8) pa_nil)) (pe_globE rfl T.mgv_MOST_RULES) (nomark _)) pa_nil))) ⟨_, rfl, p, dx, _, rfl, C7.ob, rfl, _, rfl, _, _, rfl, .inl (SqL.of o2'), _, _, rfl, rfl, ?_⟩
     dsimp only
     rw [decide_eq_true (by rw [List.length_map]; omega)]
     refine ⟨_, rfl, ?_⟩
     refine @at_one _ _ _ _ _ _ (ps_expr (pe_bm F.plainAttrs_list F.slot_list_append F.type_list_append mt_append (pv 8) (pa_cons (pe_call (ok_q78 T) (hr.mono (by decide)) rfl T.mg_q78 T.F_q78.kp (T.F_q78.binds (by walk_at "3")) .nil pass0 (pa_cons (pv 7) (pa_cons (pv 2) (pa_cons (pv 4) pa_nil)))) pa_nil))) ⟨_, rfl, .inl ⟨rfl, _, SqL.of o2'⟩, _, rfl, _, rfl, _, rfl, p, dx, lw, d, _, i, _, kvs, namesOf its, R, rfl, C7, rfl, s7 _ _ hd5, hN.has, good_names G, r1, fun r H8 hr8 a8 => ?_⟩
     have s8 : Same H5 H8 := Adv.fresh s7 hp5 a8
     have o2'' := s8 _ _ o2
     refine ⟨l, _, _, rfl, rfl, o2'', sl_lt (by rw [List.length_map]; omega), ?_⟩
     refine ⟨_, _, _, _, as, ls, rfl, ?_, ?_, ?_, ?_, ?_, nl1', nl2', nl3', hfr, ?_⟩
     ·rw [upd_ne (show lm ≠ l from fun z => nl1' (z ▸ hnl))]; exact s8 _ _ hm5
     ·rw [upd_ne (show nw ≠ l from fun z => nl2' (z ▸ hnl))]; exact s8 _ _ hw5
     ·rw [upd_ne (show lr ≠ l from fun z => nl3' (z ▸ hnl))]; exact s8 _ _ hr5
     ·rw [upd_ne (ne_of hd5 o2 (by intro z; cases z))]; exact s8 _ _ hd5
     ·rw [take_snoc hit, foldI_snoc, hms]
      show ModesAt _ _ _ _ (addRule R (ms ++ [m]))
      rw [addRule_snoc]
      exact (hM.same s8).addR hl o2'' (o3.mono fun _ _ r => r.same s8) hr8
     ·intro b o hb
      rw [upd_ne (ne_of_none hb hl0)]
      exact s8 _ _ (s5 _ _ hb)
   ·rintro Z' H' ⟨x5, x6, x7, x8, as, ls, rfl, h1, h2, h3, h4, h5, _, _, _, _, h6⟩
    rw [List.length_map, rowsOf, List.length_map, List.take_length] at h5
    exact ⟨_, _, _, _, as, ls, rfl, h1, h2, h5, h6⟩
  rintro Z' H' ⟨x5, x6, x7, x8, as, ls, rfl, h1, h2, h5, h6⟩
  refine @at_cons _ _ _ _ _ _ _ (ps_if (pt_truth (pv 4) (fun _ => rfl)) pss_at pss_at) ⟨_, rfl, _, .inl ⟨_, SqL.of h2, rfl⟩, iteF (at_nil ?_)⟩
  refine @at_one _ _ _ _ _ _ (ps_ret (pe_make T.mk_Rules (ok_q24 T) (hr.mono (by decide)) rfl T.mgc_Rules (T.F_q24.binds (by walk_at "2")) .nil pass0 (pa_cons (pv 3) pa_nil))) ⟨_, rfl, fun x dx nx ndx ne => ⟨x, dx, lm, _, rfl, upd_same, by rw [upd_ne (ne_of_none h1 nx), upd_ne (ne_of_none h1 ndx)]; exact h1, fun l2 H8 e1 e2 e3 e4 => ⟨rfl, ?_⟩⟩⟩
  have s8 : Same H' H8 := fun b o hb => e4 b o (by rw [upd_ne (ne_of_none hb nx), upd_ne (ne_of_none hb ndx)]; exact hb) (ne_of_none hb nx)
  exact q x H8 ⟨dx, l2, as, ls, e2, e3, h5.same s8⟩ (h6.trans s8)
def fitsB (R : RuleM) (row : Str) (i : Nat) : Bool := decide (dueV R.sort R.signs row i ≠ .non)
def firstF (row : Str) (i : Nat) : Nat -> List RuleM -> Option Nat
 | _, [] => none
 | k, R :: r => if fitsB R row i = true then some k else firstF row i (k + 1) r
def firstM (rs : List RuleM) (row : Str) (i : Nat) : Option Nat := firstF row i 0 rs
def GoodR (R : RuleM) : Prop := R.sort ∈ sorts /\ R.signs.length <= 200
def RulesOk (rs : List RuleM) : Prop := rs.length <= 200 /\ ∀ R ∈ rs, GoodR R
theorem drop_at {α : Type} {l : List α} {i : Nat} {x : α} (h : l[i]? = some x) : l.drop i = x :: l.drop (i + 1) := by
 rw [List.drop_eq_getElem?_toList_append, h]; rfl
theorem firstF_at {row : Str} {i k : Nat} {rs : List RuleM} {R : RuleM} {n : Nat} (h : rs[n]? = some R) : firstF row i k (rs.drop n) = if fitsB R row i = true then some k else firstF row i (k + 1) (rs.drop (n + 1)) := by
 rw [drop_at h]; rfl
theorem IsRules.mode {H : Hp} {a : Addr} {ms : List ModeM} (h : IsRules t H a ms) {k : Nat} {m : ModeM} (hm : ms[k]? = some m) :
  ∃ (dx lm : Addr) (as : List Addr) (b lr dm : Addr) (rs : List Addr), H a = some (.ins t.c_Rules dx [("modes", .ref lm)]) /\ H lm = some (.lst (as.map V.ref)) /\ as.length = ms.length /\ as[k]? = some b /\ H b = some (.ins t.c_Mode dm (mf m lr)) /\ H lr = some (.lst (rs.map V.ref)) /\ All2 (IsRule t H) rs m.rules := by
 obtain ⟨dx, lm, as, ls, ha, hlm, hM⟩ := h
 have hk := (List.getElem?_eq_some_iff.mp hm).1
 obtain ⟨b, hb⟩ : ∃ b, as[k]? = some b := ⟨as[k]'(by rw [hM.la]; exact hk), List.getElem?_eq_getElem _⟩
 obtain ⟨lr, hlr⟩ : ∃ b, ls[k]? = some b := ⟨ls[k]'(by rw [hM.ll]; exact hk), List.getElem?_eq_getElem _⟩
 obtain ⟨dm, rs, o1, o2, o3⟩ := hM.ob k b lr m hb hlr hm
 exact ⟨dx, lm, as, b, lr, dm, rs, ha, hlm, hM.la, hb, o1, o2, o3⟩
theorem at_ref {as : List Addr} {k : Nat} {b : Addr} (h : as[k]? = some b) : atI (as.map V.ref) ((k : Nat) : Int) = some (.ref b) := atI_nat (by rw [List.getElem?_map, h]; rfl)
def spFirst (t : Adr) : Sp := fun vs H Q _ => ∃ (a : Addr) (ms : List ModeM) (m : ModeM) (k i : Nat) (row : Str), vs = [.ref a, .int k, .str row, .int i] /\ IsRules t H a ms /\ ms[k]? = some m /\ RulesOk m.rules /\ row.length <= 1000 /\ i <= row.length /\
 ∀ H', Same H H' -> Q (goalV (firstM m.rules row i)) H'
theorem ok_q70 (T : Txt K mg t) : FnOk P w K mg base CX0 2 t.f_q70 t.d_q70 ["rules", "mode", "row", "at"] (spFirst t) := by
 refine T.F_q70.ok sc_q70 ?_ ?_
 walk_at "i"
 ·obtain ⟨a, ms, m, k, i, row, rfl, hR, hm, hok, hrow, hi, q⟩ := h
  obtain ⟨dx, lm, as, b, lr, dm, rs, ha, hlm, hal, hb, hmo, hlr, hA⟩ := hR.mode hm
  refine @at_consR _ _ _ _ _ _ _ (fun Z' H' => (∃ x y, Z' = [some (.ref a), some (.int k), some (.str row), some (.int i), x, y]) /\ Same H H' /\ firstM m.rules row i = none) (ps_forA PassesOwn.never rfl (pi_enum rfl T.z_enumerate (pa_cons (pe_fld (pe_ix ix_list (pe_fld (pv 0) rfl) (pv 1) (fun _ _ => rfl)) rfl) pa_nil)) (pg_tup rfl (pgs_cons (pg_name (i := 4) sc_q70.nd rfl (Or.inl rfl)) (pgs_cons (pg_name (i := 5) sc_q70.nd rfl (Or.inl rfl)) pgs_nil))) pss_at) ?_ ?_
  ·refine ⟨_, rfl, _, _, _, _, _, rfl, ha, T.cl_Rules, T.n_Rules_modes, rfl, ⟨_, rfl, _, _, _, _, rfl, rfl, SqL.of hlm, at_ref hb, b, t.c_Mode, dm, _, _, rfl, hmo, T.cl_Mode, T.n_Mode_rules, rfl, lr, _, rfl, SqL.of hlr, forW_enum (xs := rs.map V.ref) (fun n Z' H' => (∃ x y, Z' = [some (.ref a), some (.int k), some (.str row), some (.int i), x, y]) /\ Same H H' /\ firstM m.rules row i = firstF row i n (m.rules.drop n)) ⟨⟨_, _, rfl⟩, Same.refl H, rfl⟩ ?_ ?_ ?_⟩⟩
   ·rintro n Z' H' _ ⟨_, s1, _⟩
    exact SqL.of (s1 _ _ hlr)
   ·rintro n xv pt Z' H1 hx hpt ⟨⟨x, y, rfl⟩, s1, hf⟩
    rw [List.getElem?_map] at hx
    obtain ⟨r, hr0, rfl⟩ := Option.map_eq_some_iff.mp hx
    obtain ⟨R, hR1⟩ : ∃ R, m.rules[n]? = some R := ⟨m.rules[n]'(by rw [← hA.1]; exact (List.getElem?_eq_some_iff.mp hr0).1), List.getElem?_eq_getElem _⟩
    obtain ⟨dr, pa, hr1, dp, hp1⟩ := hA.2 n r R hr0 hR1
    obtain ⟨g1, g2⟩ := hok.2 R (List.mem_of_getElem? hR1)
    obtain ⟨fe, fs, de, ds, PK⟩ := patK (P := P) (w := w) (base := base) T g1
    have s2 : Same H (upd H1 pt (.tup [.int n, .ref r])) := s1.trans (Same.upd hpt)
    refine ⟨pt, [.int n, .ref r], rfl, SqT.of upd_same, rfl, _, _, rfl, _, _, rfl, rfl, ?_⟩
    rw [firstF_at hR1] at hf
    generalize upd H1 pt (.tup [.int n, .ref r]) = H2 at s2
    refine @at_one _ _ _ _ _ _ (ps_if (pt_cmpR op_notN (pe_meth (pe_fld (pv 5) rfl) PK.cl PK.me PK.ge (hr.mono (by decide)) PK.be .nil pass0 (pa_cons (pv 2) (pa_cons (pv 3) pa_nil))) pe_non (nomark _)) pss_at pss_at) (⟨_, rfl, _, _, _, _, _, rfl, (s2 _ _ hr1), T.cl_Rule, T.n_Rule_pattern, rfl, ⟨pa, dp, _, rfl, s2 _ _ hp1, PK.ne _, _, rfl, _, rfl, pa, dp, R.signs, row, i, rfl, s2 _ _ hp1, by omega, hrow, hi, rfl, _, rfl, ifnd (fun h => ?_) (fun h => at_nil ⟨⟨_, _, rfl⟩, s2, ?_⟩)⟩⟩)
    ·refine @at_one _ _ _ _ _ _ (ps_ret (pv 4)) ⟨_, rfl, ?_⟩
     rw [if_pos (show fitsB R row i = true from decide_eq_true h)] at hf
     have := q H2 s2
     rw [hf] at this
     exact this
    ·rw [if_neg (by rw [fitsB, decide_eq_false (fun z => z h)]; decide)] at hf
     exact hf
   ·rintro Z' H' ⟨h1, h2, h3⟩
    rw [List.length_map, hA.1, List.drop_length] at h3
    exact ⟨h1, h2, h3⟩
  rintro Z' H' ⟨⟨x, y, rfl⟩, s1, hn⟩
  refine @at_one _ _ _ _ _ _ (ps_ret pe_non) ?_
  have := q H' s1
  rw [hn] at this
  exact this
def natV (n : Nat) : V := .int (n : Int)
def deedM (on : List Nat) (d : Str) (g : Option Nat) : List Nat :=
 if d = "push" then on ++ [g.getD 0] else if d = "into" then on.dropLast ++ [g.getD 0] else if d = "pop" then (if on.length = 1 then [0] else on.dropLast) else on
def GoodD (R : RuleM) : Prop := going R.deed -> ∃ g, R.goal = some g
theorem set_last {α : Type} : ∀ (l : List α) (x : α), l ≠ [] -> l.set (l.length - 1) x = l.dropLast ++ [x]
 | [], _, h => absurd rfl h
 | [a], x, _ => rfl
 | a :: b :: r, x, _ => by
  have := set_last (b :: r) x (by simp)
  show a :: (b :: r).set ((b :: r).length - 1) x = a :: ((b :: r).dropLast ++ [x])
  rw [this]
theorem ix_last {n : Nat} (h : 0 < n) : ixN n (-1) = some (n - 1) := by
 unfold ixN
 first
  | (rw [if_neg (by omega), if_pos (by omega)]; congr 1; omega)
  | (rw [if_pos (by omega)]; congr 1; omega)
def spDeed (t : Adr) : Sp := fun vs H Q _ => ∃ (lo r : Addr) (on : List Nat) (R : RuleM), vs = [.ref lo, .ref r] /\ H lo = some (.lst (on.map natV)) /\ IsRule t H r R /\ on ≠ [] /\ on.length <= 100000 /\ GoodD R /\ Q .non (upd H lo (.lst ((deedM on R.deed R.goal).map natV)))
theorem upd_id {H : Hp} {a : Addr} {o : HO} (h : H a = some o) : upd H a o = H := by
 funext b
 by_cases e : b = a
 ·rw [e, upd_same, h]
 ·rw [upd_ne e]
theorem ok_q69 (T : Txt K mg t) : FnOk P w K mg base CX0 1 t.f_q69 t.d_q69 ["modes", "rule"] (spDeed t) := by
 refine T.F_q69.ok sc_q69 ?_ ?_
 walk_at "i"
 ·obtain ⟨lo, r, on, R, rfl, hlo, ⟨dr, pa, hr1, hp1⟩, hne, hlen, hg, q⟩ := h
  have nlr : r ≠ lo := ne_of hr1 hlo (by intro z; cases z)
  have hpos : 0 < on.length := by cases on with | nil => exact absurd rfl hne | cons _ _ => simp
  refine @at_one _ _ _ _ _ _ (ps_if (pt_cmpR op_eq (pe_fld (pv 1) rfl) pe_str (nomark _)) pss_at pss_at) (⟨_, rfl, _, _, _, _, _, rfl, hr1, T.cl_Rule, T.n_Rule_deed, rfl, ⟨rfl, _, rfl, ifd (fun h => ?_) (fun h1 => ?_)⟩⟩)
  ·have h := V.str.inj h
   obtain ⟨g, eg⟩ := hg (.inl h)
   refine @at_one _ _ _ _ _ _ (ps_expr (pe_bm F.plainAttrs_list F.slot_list_append F.type_list_append mt_append (pv 0) (pa_cons (pe_fld (pv 1) rfl) pa_nil))) ⟨_, rfl, .inl ⟨rfl, _, SqL.of hlo⟩, ⟨_, rfl, _, _, _, _, _, rfl, hr1, T.cl_Rule, T.n_Rule_goal, rfl, ⟨lo, _, _, rfl, rfl, hlo, sl_lt (by rw [List.length_map]; omega), ?_⟩⟩⟩
   rw [deedM, if_pos h, eg, List.map_append] at q
   rw [eg]
   exact q
  ·have h1 : R.deed ≠ "push" := fun z => h1 (by rw [z])
   refine @at_one _ _ _ _ _ _ (ps_if (pt_cmpR op_eq (pe_fld (pv 1) rfl) pe_str (nomark _)) pss_at pss_at) (⟨_, rfl, _, _, _, _, _, rfl, hr1, T.cl_Rule, T.n_Rule_deed, rfl, ⟨rfl, _, rfl, ifd (fun h => ?_) (fun h2 => ?_)⟩⟩)
   ·have h := V.str.inj h
    obtain ⟨g, eg⟩ := hg (.inr h)
    refine @at_one _ _ _ _ _ _ (ps_asg (pe_fld (pv 1) rfl) (pg_sub (pv 0) (pe_un un_neg pe_int) set_list)) (⟨_, rfl, _, _, _, _, _, rfl, hr1, T.cl_Rule, T.n_Rule_goal, rfl, ⟨_, rfl, _, rfl, lo, _, _, _, rfl, rfl, hlo, ix_last (by rw [List.length_map]; exact hpos), ?_⟩⟩)
    rw [deedM, if_neg h1, if_pos h, eg, List.map_append] at q
    rw [set_last _ _ (by simpa using hne), eg, ← List.map_dropLast]
    exact q
   ·have h2 : R.deed ≠ "into" := fun z => h2 (by rw [z])
    refine @at_one _ _ _ _ _ _ (ps_if (pt_cmpR op_eq (pe_fld (pv 1) rfl) pe_str (nomark _)) pss_at pss_at) (⟨_, rfl, _, _, _, _, _, rfl, hr1, T.cl_Rule, T.n_Rule_deed, rfl, ⟨rfl, _, rfl, ifd (fun h => ?_) (fun h3 => at_nil ?_)⟩⟩)
    ·have h := V.str.inj h
     rw [deedM, if_neg h1, if_neg h2, if_pos h] at q
     obtain ⟨y, hy⟩ : ∃ y, (on.map natV)[(on.map natV).length - 1]? = some y := ⟨_, List.getElem?_eq_getElem (by rw [List.length_map]; omega)⟩
     refine @at_cons _ _ _ _ _ _ _ (ps_expr (pe_bm0 F.plainAttrs_list F.slot_list_pop F.type_list_pop mt_pop (pv 0))) ⟨_, rfl, .inl ⟨rfl, _, SqL.of hlo⟩, lo, _, y, rfl, rfl, hlo, hy, ?_⟩
     refine @at_one _ _ _ _ _ _ (ps_if (pt_not (pt_truth (pv 0) (fun _ => rfl))) pss_at pss_at) ⟨_, rfl, _, .inl ⟨_, SqL.of upd_same, rfl⟩, ?_⟩
     rw [← List.map_dropLast]
     by_cases h1l : on.length = 1
     ·rw [if_pos h1l] at q
      have e : on.dropLast = [] := List.eq_nil_of_length_eq_zero (by rw [List.length_dropLast, h1l])
      rw [e]
      refine iteT (@at_one _ _ _ _ _ _ (ps_expr (pe_bm F.plainAttrs_list F.slot_list_append F.type_list_append mt_append (pv 0) (pa_cons (pe_globE rfl T.mgv_START) pa_nil))) ⟨_, rfl, .inl ⟨rfl, _, SqL.of upd_same⟩, lo, _, _, rfl, rfl, upd_same, by decide, ?_⟩)
      rw [upd_upd]
      exact q
     ·rw [if_neg h1l] at q
      have e : on.dropLast ≠ [] := fun z => by
       have := congrArg List.length z
       rw [List.length_dropLast] at this
       simp at this
       omega
      cases hd : on.dropLast with
      | nil => exact absurd hd e
      | cons x r =>
       rw [hd] at q
       exact iteF (at_nil q)
    ·have h3 : R.deed ≠ "pop" := fun z => h3 (by rw [z])
     rw [deedM, if_neg h1, if_neg h2, if_neg h3, upd_id hlo] at q
     exact q
theorem deed_ne {on : List Nat} {d : Str} {g : Option Nat} (h : on ≠ []) : deedM on d g ≠ [] := by
 unfold deedM
 split
 ·simp
 ·split
  ·simp
  ·split
   ·split
    ·simp
    ·intro z
     have := congrArg List.length z
     rw [List.length_dropLast] at this
     cases on with
     | nil => exact h rfl
     | cons x r =>
      cases r with
      | nil => rename_i h1 _ ; simp at *
      | cons y r => simp at this
   ·exact h
theorem at_natlast {on : List Nat} {k : Nat} (h : on.getLast? = some k) : atI (on.map natV) (-1) = some (natV k) := by
 obtain ⟨pre, rfl⟩ : ∃ pre, on = pre ++ [k] := by
  rcases List.eq_nil_or_concat on with rfl | ⟨p, x, rfl⟩
  ·simp at h
  ·simp at h
   exact ⟨p, by rw [h, List.concat_eq_append]⟩
 exact atI_lastM (k := pre.length) (by simp) (by simp)
structure GoodMs (ms : List ModeM) : Prop where
 pos : 0 < ms.length
 len : ms.length <= 200
 ok : ∀ m ∈ ms, RulesOk m.rules
 deed : ∀ m ∈ ms, ∀ R ∈ m.rules, R.deed ∈ deeds
 goal : ∀ m ∈ ms, ∀ R ∈ m.rules, going R.deed -> ∃ g, R.goal = some g /\ g < ms.length
theorem GoodMs.gd {ms : List ModeM} (G : GoodMs ms) {m : ModeM} {R : RuleM} (h : m ∈ ms) (h2 : R ∈ m.rules) : GoodD R := fun z => let ⟨g, e, _⟩ := G.goal m h R h2 z; ⟨g, e⟩
def OnOk (ms : List ModeM) (on : List Nat) : Prop := on ≠ [] /\ ∀ x ∈ on, x < ms.length
theorem OnOk.deed {ms : List ModeM} (G : GoodMs ms) {on : List Nat} (h : OnOk ms on) {m : ModeM} {R : RuleM} (h1 : m ∈ ms) (h2 : R ∈ m.rules) : OnOk ms (deedM on R.deed R.goal) := by
 refine ⟨deed_ne h.1, fun x hx => ?_⟩
 unfold deedM at hx
 split at hx
 ·rename_i e
  obtain ⟨g, eg, hg⟩ := G.goal m h1 R h2 (.inl e)
  rcases List.mem_append.mp hx with hx | hx
  ·exact h.2 x hx
  ·rw [List.mem_singleton.mp hx, eg]; exact hg
 ·split at hx
  ·rename_i e
   obtain ⟨g, eg, hg⟩ := G.goal m h1 R h2 (.inr e)
   rcases List.mem_append.mp hx with hx | hx
   ·exact h.2 x (List.dropLast_subset _ hx)
   ·rw [List.mem_singleton.mp hx, eg]; exact hg
  ·split at hx
   ·split at hx
    ·rw [List.mem_singleton.mp hx]; exact G.pos
    ·exact h.2 x (List.dropLast_subset _ hx)
   ·exact h.2 x hx
def topN (on : List Nat) : Nat := on.getLastD 0
theorem top_last {on : List Nat} (h : on ≠ []) : on.getLast? = some (topN on) := by
 unfold topN
 rw [List.getLastD_eq_getLast?, List.getLast?_eq_some_getLast h]
 rfl
theorem top_mem {on : List Nat} (h : on ≠ []) : topN on ∈ on := List.mem_of_getLast? (top_last h)
theorem OnOk.mode {ms : List ModeM} {on : List Nat} (h : OnOk ms on) : ∃ m, ms[topN on]? = some m := ⟨ms[topN on]'(h.2 _ (top_mem h.1)), List.getElem?_eq_getElem _⟩
def ruleM (rs : List RuleM) (row : Str) (i : Nat) : Option RuleM := (firstM rs row i).bind (rs[·]?)
def idleM (rs : List RuleM) (row : Str) : Option RuleM := (ruleM rs row 0).bind fun R => if eatsB R.sort = true then none else some R
theorem firstF_some {row : Str} {i : Nat} : ∀ {rs : List RuleM} {k n : Nat}, firstF row i k rs = some n -> k <= n /\ ∃ R, rs[n - k]? = some R /\ fitsB R row i = true /\ ∀ j, j < n - k -> ∀ R', rs[j]? = some R' -> fitsB R' row i = false
 | [], k, n, h => by cases h
 | R :: r, k, n, h => by
  rw [firstF] at h
  split at h
  ·rename_i hf
   cases h
   refine ⟨Nat.le_refl _, R, by rw [Nat.sub_self]; rfl, hf, fun j hj => ?_⟩
   omega
  ·rename_i hf
   obtain ⟨h1, R', h2, h3, h4⟩ := firstF_some h
   have e : n - k = (n - (k + 1)) + 1 := by omega
   refine ⟨by omega, R', by rw [e, List.getElem?_cons_succ]; exact h2, h3, fun j hj R'' hR => ?_⟩
   cases j with
   | zero =>
    rw [List.getElem?_cons_zero] at hR
    cases hR
    simpa using hf
   | succ j => exact h4 j (by omega) R'' (by rw [List.getElem?_cons_succ] at hR; exact hR)
theorem first_at {rs : List RuleM} {row : Str} {i n : Nat} (h : firstM rs row i = some n) : ∃ R, rs[n]? = some R /\ ruleM rs row i = some R /\ fitsB R row i = true := by
 obtain ⟨_, R, h2, h3, _⟩ := firstF_some h
 rw [Nat.sub_zero] at h2
 exact ⟨R, h2, by rw [ruleM, h]; exact h2, h3⟩
def spIdle (t : Adr) : Sp := fun vs H Q _ => ∃ (a : Addr) (ms : List ModeM) (m : ModeM) (k : Nat) (row : Str), vs = [.ref a, .int k, .str row] /\ IsRules t H a ms /\ ms[k]? = some m /\ RulesOk m.rules /\ row.length <= 1000 /\
 ∀ H', Same H H' -> (idleM m.rules row = none -> Q .non H') /\ ∀ R r, idleM m.rules row = some R -> IsRule t H r R -> Q (.ref r) H'
theorem ok_q72 (T : Txt K mg t) : FnOk P w K mg base CX0 3 t.f_q72 t.d_q72 ["rules", "mode", "row"] (spIdle t) := by
 refine T.F_q72.ok sc_q72 ?_ ?_
 walk_at "i"
 ·obtain ⟨a, ms, m, k, row, rfl, hR, hm, hok, hrow, q⟩ := h
  refine @at_cons _ _ _ _ _ _ _ (ps_set (i := 3) sc_q72.nd rfl (Or.inl rfl) (pe_call (ok_q70 T) (hr.mono (by decide)) rfl T.mg_q70 T.F_q70.kp (T.F_q70.binds (by walk_at "4")) .nil pass0 (pa_cons (pv 0) (pa_cons (pv 1) (pa_cons (pv 2) (pa_cons pe_int pa_nil)))))) ⟨_, rfl, _, rfl, _, rfl, a, ms, m, k, 0, row, rfl, hR, hm, hok, hrow, by omega, fun H1 s1 => ?_⟩
  obtain ⟨dx, lm, as, b, lr, dm, rs, ha, hlm, hal, hb, hmo, hlr, hA⟩ := hR.mode hm
  cases hf : firstM m.rules row 0 with
  | none =>
   have e : idleM m.rules row = none := by rw [idleM, ruleM, hf]; rfl
   exact @at_cons _ _ _ _ _ _ _ (ps_if (pt_cmpR op_isN (pv 3) pe_non (nomark _)) pss_at pss_at) ⟨_, rfl, rfl, _, rfl, ifd (fun _ => @at_one _ _ _ _ _ _ (ps_ret pe_non) ((q H1 s1).1 e)) (fun h => absurd rfl h)⟩
  | some n =>
   obtain ⟨R, hn, hru, _⟩ := first_at hf
   obtain ⟨r, hr0, hr1⟩ := hA.at hn
   obtain ⟨g1, g2⟩ := hok.2 R (List.mem_of_getElem? hn)
   obtain ⟨fe, fs, de, ds, PK⟩ := patK (P := P) (w := w) (base := base) T g1
   refine @at_cons _ _ _ _ _ _ _ (ps_if (pt_cmpR op_isN (pv 3) pe_non (nomark _)) pss_at pss_at) ⟨_, rfl, rfl, _, rfl, ifd (fun h => by cases h) (fun _ => at_nil ?_)⟩
   refine @at_cons _ _ _ _ _ _ _ (ps_set (i := 4) sc_q72.nd rfl (Or.inl rfl) (pe_ix ix_list (pe_fld (pe_ix ix_list (pe_fld (pv 0) rfl) (pv 1) (fun _ _ => rfl)) rfl) (pv 3) (fun _ _ => rfl))) (⟨_, rfl, _, _, _, _, _, rfl, (s1 _ _ ha), T.cl_Rules, T.n_Rules_modes, rfl, ⟨_, rfl, _, _, _, _, rfl, rfl, SqL.of (s1 _ _ hlm), at_ref hb, b, t.c_Mode, dm, _, _, rfl, s1 _ _ hmo, T.cl_Mode, T.n_Mode_rules, rfl, _, rfl, _, _, _, _, rfl, rfl, SqL.of (s1 _ _ hlr), at_ref hr0, ?_⟩⟩)
   obtain ⟨dr, pa, o1, dp, o2⟩ := id hr1
   have e : idleM m.rules row = if eatsB R.sort = true then none else some R := by rw [idleM, hru]; rfl
   refine @at_one _ _ _ _ _ _ (ps_ret (pe_ifExp (pt_val (pe_meth0 (pe_fld (pv 4) rfl) PK.cl PK.ms PK.gs (hr.mono (by decide)) PK.bs .nil pass0)) pe_non (pv 4))) (⟨_, rfl, _, _, _, _, _, rfl, (s1 _ _ o1), T.cl_Rule, T.n_Rule_pattern, rfl, ⟨pa, dp, _, rfl, s1 _ _ o2, PK.ns _, _, rfl, _, rfl, ifb (fun h => ?_) (fun h => ⟨_, rfl, ?_⟩)⟩⟩)
   ·rw [if_pos h] at e
    exact (q H1 s1).1 e
   ·rw [if_neg (by rw [h]; decide)] at e
    exact (q H1 s1).2 R r e hr1
def idleAt (ms : List ModeM) (k : Nat) (row : Str) : Option RuleM := (ms[k]?).bind fun m => idleM m.rules row
def ringF (ms : List ModeM) (row : Str) (first : Nat) : Nat -> List Nat -> List Nat -> Option (List Nat)
 | 0, _, _ => none
 | f + 1, on, ring => match idleAt ms (topN on) row with
  | none => none
  | some R => if R.deed = "pop" /\ on.length = 1 /\ first ≠ 0 then none else if topN (deedM on R.deed R.goal) = first then some (ring ++ [topN on]) else ringF ms row first f (deedM on R.deed R.goal) (ring ++ [topN on])
def ringFrom (ms : List ModeM) (first : Nat) (row : Str) : Option (List Nat) := ringF ms row first ms.length [first] []
theorem deed_len {on : List Nat} {d : Str} {g : Option Nat} : (deedM on d g).length <= on.length + 1 := by
 unfold deedM
 split
 ·simp
 ·split
  ·simp
  ·split
   ·split
    ·simp
    ·simp; omega
   ·omega
theorem idle_mem {rs : List RuleM} {row : Str} {R : RuleM} (h : idleM rs row = some R) : R ∈ rs := by
 unfold idleM at h
 cases e : ruleM rs row 0 with
 | none => rw [e] at h; cases h
 | some R' =>
  rw [e] at h
  have : (if eatsB R'.sort = true then none else some R') = some R := h
  split at this
  ·cases this
  ·cases this
   unfold ruleM at e
   cases e2 : firstM rs row 0 with
   | none => rw [e2] at e; cases e
   | some n => rw [e2] at e; exact List.mem_of_getElem? e
def spRingFrom (t : Adr) : Sp := fun vs H Q _ => ∃ (a : Addr) (ms : List ModeM) (first : Nat) (row : Str), vs = [.ref a, .int first, .str row] /\ IsRules t H a ms /\ GoodMs ms /\ first < ms.length /\ row.length <= 1000 /\
 ∀ H', Same H H' -> (ringFrom ms first row = none -> Q .non H') /\ ∀ ring l, ringFrom ms first row = some ring -> H' l = some (.lst (ring.map natV)) -> H l = none -> Q (.ref l) H'
theorem ok_q80 (T : Txt K mg t) : FnOk P w K mg base CX0 4 t.f_q80 t.d_q80 ["rules", "first", "row"] (spRingFrom t) := by
 refine T.F_q80.ok sc_q80 ?_ ?_
 walk_at "i"
 ·obtain ⟨a, ms, first, row, rfl, hR, G, hfirst, hrow, q⟩ := h
  refine @at_cons _ _ _ _ _ _ _ (ps_set (i := 3) sc_q80.nd rfl (Or.inl rfl) (pe_lst pa_nil)) ⟨by show 0 <= sizeLine; decide, fun lg hlg => ?_⟩
  have s1 : Same H (upd H lg (.lst [])) := Same.upd hlg
  have hg1 : upd H lg (.lst []) lg = some (.lst []) := upd_same
  generalize upd H lg (.lst []) = H1 at s1 hg1
  refine @at_cons _ _ _ _ _ _ _ (ps_set (i := 4) sc_q80.nd rfl (Or.inl rfl) (pe_lst (pa_cons (pv 1) pa_nil))) ⟨_, rfl, by show 1 <= sizeLine; decide, fun lo hlo => ?_⟩
  have s2 : Same H1 (upd H1 lo (.lst [.int first])) := Same.upd hlo
  have ho2 : upd H1 lo (.lst [.int first]) lo = some (.lst ([first].map natV)) := upd_same
  have hg2 := s2 _ _ hg1
  have ngo : lg ≠ lo := ne_of_none hg1 hlo
  have hlo0 : H lo = none := s1.free hlo
  generalize upd H1 lo (.lst [.int first]) = H2 at s2 ho2 hg2
  have s2 := s1.trans s2
  show At _ _ _ [some (.ref a), some (.int first), some (.str row), some (.ref lg), some (.ref lo), none] H2
  obtain ⟨dx, lm, as, ls, ha, hlm, hM⟩ := id hR
  refine @at_consR _ _ _ _ _ _ _ (fun Z' H' => (∃ x, Z' = [some (.ref a), some (.int first), some (.str row), some (.ref lg), some (.ref lo), x]) /\ Same H H' /\ ringFrom ms first row = none) (ps_while PassesOwn.never (pt_cmpR op_lt (pe_callB call_len_seq (by rfl) T.z_len (by decide +kernel) (pa_cons (pv 3) pa_nil)) (pe_callB call_len_seq (by rfl) T.z_len (by decide +kernel) (pa_cons (pe_fld (pv 0) rfl) pa_nil)) (nomark _)) pss_at) ?_ ?_
  ·refine ⟨fun f Z' H' => ∃ (on ring : List Nat), (∃ x, Z' = [some (.ref a), some (.int first), some (.str row), some (.ref lg), some (.ref lo), x]) /\ H' lg = some (.lst (ring.map natV)) /\ H' lo = some (.lst (on.map natV)) /\ Same H H' /\ f + ring.length = ms.length /\ OnOk ms on /\ on.length <= ring.length + 1 /\ ringFrom ms first row = ringF ms row first f on ring, ⟨ms.length, [first], [], ⟨_, rfl⟩, hg2, ho2, s2, by simp, ⟨by simp, by simpa using hfirst⟩, by simp, rfl⟩, ?_⟩
   rintro f Z' H3 ⟨on, ring, ⟨x, rfl⟩, hg3, ho3, s3, hfl, hon, honl, hrec⟩
   have hlen := G.len
   refine ⟨_, rfl, _, _, rfl, .inl (SqL.of hg3), ⟨_, rfl, _, _, _, _, _, rfl, (s3 _ _ ha), T.cl_Rules, T.n_Rules_modes, rfl, ⟨_, _, rfl, .inl (SqL.of (s3 _ _ hlm)), _, _, rfl, rfl, _, rfl, ifd (fun h => ?_) (fun h => ?_)⟩⟩⟩
   ·rw [List.length_map, List.length_map, hM.la] at h
    obtain ⟨f', rfl⟩ : ∃ f', f = f' + 1 := ⟨f - 1, by omega⟩
    obtain ⟨m, hm⟩ := hon.mode
    have hmm := List.mem_of_getElem? hm
    have hid : idleAt ms (topN on) row = idleM m.rules row := by rw [idleAt, hm]; rfl
    rw [ringF, hid] at hrec
    refine ⟨_, fun Z' H' z => z, ?_⟩
    obtain ⟨dx', lm', as', b, lr, dm, rs, ha', hlm', hal', hb, hmo, hlr, hA⟩ := (hR.same s3).mode hm
    cases hi0 : idleM m.rules row with
    | none =>
     rw [hi0] at hrec
     refine @at_cons _ _ _ _ _ _ _ (ps_set (i := 5) sc_q80.nd rfl (Or.inl rfl) (pe_call (ok_q72 T) (hr.mono (by decide)) rfl T.mg_q72 T.F_q72.kp (T.F_q72.binds (by walk_at "3")) .nil pass0 (pa_cons (pv 0) (pa_cons (pe_ix ix_list (pv 4) (pe_un un_neg pe_int) (fun _ _ => rfl)) (pa_cons (pv 2) pa_nil))))) ⟨_, rfl, _, rfl, _, rfl, _, _, _, _, rfl, rfl, SqL.of ho3, at_natlast (top_last hon.1), _, rfl, a, ms, m, topN on, row, rfl, hR.same s3, hm, G.ok m hmm, hrow, fun H4 s4 => ⟨fun _ => ?_, (fun R r e => by rw [hi0] at e; cases e)⟩⟩
     exact @at_cons _ _ _ _ _ _ _ (ps_if (pt_cmpR op_isN (pv 5) pe_non (nomark _)) pss_at pss_at) ⟨_, rfl, rfl, _, rfl, ifd (fun _ => @at_one _ _ _ _ _ _ (ps_ret pe_non) ((q H4 (s3.trans s4)).1 hrec)) (fun h => absurd rfl h)⟩
    | some R =>
     rw [hi0] at hrec
     have hRm := idle_mem hi0
     refine @at_cons _ _ _ _ _ _ _ (ps_set (i := 5) sc_q80.nd rfl (Or.inl rfl) (pe_call (ok_q72 T) (hr.mono (by decide)) rfl T.mg_q72 T.F_q72.kp (T.F_q72.binds (by walk_at "3")) .nil pass0 (pa_cons (pv 0) (pa_cons (pe_ix ix_list (pv 4) (pe_un un_neg pe_int) (fun _ _ => rfl)) (pa_cons (pv 2) pa_nil))))) ⟨_, rfl, _, rfl, _, rfl, _, _, _, _, rfl, rfl, SqL.of ho3, at_natlast (top_last hon.1), _, rfl, a, ms, m, topN on, row, rfl, hR.same s3, hm, G.ok m hmm, hrow, fun H4 s4 => ⟨(fun e => by rw [hi0] at e; cases e), fun R' r e hr1 => ?_⟩⟩
     rw [hi0] at e
     cases e
     refine @at_cons _ _ _ _ _ _ _ (ps_if (pt_cmpR op_isN (pv 5) pe_non (nomark _)) pss_at pss_at) ⟨_, rfl, rfl, _, rfl, ifd (fun h => by cases h) (fun _ => at_nil ?_)⟩
     have hr4 := hr1.same s4
     have hg4 := s4 _ _ hg3
     have ho4 := s4 _ _ ho3
     obtain ⟨dr, pa, o1, hpat⟩ := id hr4
     refine @at_consR _ _ _ _ _ _ _ (fun Z' H' => Z' = [some (.ref a), some (.int first), some (.str row), some (.ref lg), some (.ref lo), some (.ref r)] /\ H' = H4 /\ ¬ (R.deed = "pop" /\ on.length = 1 /\ first ≠ 0)) (ps_if (PW.pt (pw_and (pt_cmpR op_eq (pe_fld (pv 5) rfl) pe_str (nomark _)) (pw_and (pt_cmpR op_eq (pe_callB call_len_seq (by rfl) T.z_len (by decide +kernel) (pa_cons (pv 4) pa_nil)) pe_int (nomark _)) (pw_and1 (pt_cmpR op_ne (pv 1) (pe_globE rfl T.mgv_START) (nomark _)))))) pss_at pss_at) ?_ ?_
     ·refine ⟨_, rfl, _, _, _, _, _, rfl, o1, T.cl_Rule, T.n_Rule_deed, rfl, ⟨rfl, _, rfl, ifd (fun h1 => ?_) (fun h1 => at_nil ⟨rfl, rfl, fun z => h1 (by rw [z.1])⟩)⟩⟩
      refine ⟨_, rfl, _, _, rfl, .inl (SqL.of ho4), rfl, _, rfl, ifd (fun h2 => ?_) (fun h2 => at_nil ⟨rfl, rfl, fun z => h2 (by rw [List.length_map, z.2.1]; rfl)⟩)⟩
      refine ⟨_, rfl, rfl, _, rfl, ifnd (fun h3 => ?_) (fun h3 => at_nil ⟨rfl, rfl, fun z => z.2.2 (by have := V.int.inj h3; omega)⟩)⟩
      have h2 := V.int.inj h2
      rw [List.length_map] at h2
      have hc : R.deed = "pop" /\ on.length = 1 /\ first ≠ 0 := ⟨V.str.inj h1, by omega, fun z => h3 (by rw [z]; rfl)⟩
      simp only [if_pos hc] at hrec
      exact @at_one _ _ _ _ _ _ (ps_ret pe_non) ((q H4 (s3.trans s4)).1 hrec)
     rintro Z' H' ⟨rfl, e, hnc⟩
     rw [e]
     clear e H'
     simp only [if_neg hnc] at hrec
     refine @at_cons _ _ _ _ _ _ _ (ps_expr (pe_bm F.plainAttrs_list F.slot_list_append F.type_list_append mt_append (pv 3) (pa_cons (pe_ix ix_list (pv 4) (pe_un un_neg pe_int) (fun _ _ => rfl)) pa_nil))) ⟨_, rfl, .inl ⟨rfl, _, SqL.of hg4⟩, _, rfl, _, rfl, _, _, _, _, rfl, rfl, SqL.of ho4, at_natlast (top_last hon.1), lg, _, _, rfl, rfl, hg4, sl_lt (by rw [List.length_map]; omega), ?_⟩
     have hg5 : upd H4 lg (.lst (ring.map natV ++ [natV (topN on)])) lg = some (.lst ((ring ++ [topN on]).map natV)) := by rw [upd_same, List.map_append]; rfl
     have ho5 : upd H4 lg (.lst (ring.map natV ++ [natV (topN on)])) lo = some (.lst (on.map natV)) := by rw [upd_ne (Ne.symm ngo)]; exact ho4
     have hr5 : IsRule t (upd H4 lg (.lst (ring.map natV ++ [natV (topN on)]))) r R := hr4.updL hg4
     have s5 : Same H (upd H4 lg (.lst (ring.map natV ++ [natV (topN on)]))) := fun b o hb => by rw [upd_ne (ne_of_none hb hlg)]; exact s4 _ _ (s3 _ _ hb)
     generalize upd H4 lg (.lst (ring.map natV ++ [natV (topN on)])) = H5 at hg5 ho5 hr5 s5
     refine @at_cons _ _ _ _ _ _ _ (ps_expr (pe_call (ok_q69 T) (hr.mono (by decide)) rfl T.mg_q69 T.F_q69.kp (T.F_q69.binds (by walk_at "2")) .nil pass0 (pa_cons (pv 4) (pa_cons (pv 5) pa_nil)))) ⟨_, rfl, _, rfl, lo, r, on, R, rfl, ho5, hr5, hon.1, by omega, G.gd hmm hRm, ?_⟩
     have hon6 := hon.deed G hmm hRm
     have hol6 : (deedM on R.deed R.goal).length <= on.length + 1 := deed_len
     have hg6 : upd H5 lo (.lst ((deedM on R.deed R.goal).map natV)) lg = some (.lst ((ring ++ [topN on]).map natV)) := by rw [upd_ne ngo]; exact hg5
     have s6 : Same H (upd H5 lo (.lst ((deedM on R.deed R.goal).map natV))) := fun b o hb => by rw [upd_ne (ne_of_none hb hlo0)]; exact s5 _ _ hb
     refine @at_one _ _ _ _ _ _ (ps_if (pt_cmpR op_eq (pe_ix ix_list (pv 4) (pe_un un_neg pe_int) (fun _ _ => rfl)) (pv 1) (nomark _)) pss_at pss_at) ⟨_, rfl, _, rfl, _, _, _, _, rfl, rfl, SqL.of upd_same, at_natlast (top_last hon6.1), _, rfl, rfl, _, rfl, ifd (fun h => ?_) (fun h => at_nil ?_)⟩
     ·have h : topN (deedM on R.deed R.goal) = first := by have := V.int.inj h; omega
      rw [if_pos h] at hrec
      exact @at_one _ _ _ _ _ _ (ps_ret (pv 3)) ⟨_, rfl, (q _ s6).2 _ lg hrec hg6 hlg⟩
     ·have h : ¬ topN (deedM on R.deed R.goal) = first := fun z => h (by rw [← z]; rfl)
      rw [if_neg h] at hrec
      refine ⟨f', by omega, _, _, ⟨_, rfl⟩, hg6, upd_same, s6, ?_, hon6, ?_, hrec⟩
      ·simp only [List.length_append, List.length_cons, List.length_nil]; omega
      ·simp only [List.length_append, List.length_cons, List.length_nil]; omega
   ·rw [List.length_map, List.length_map, hM.la] at h
    have : f = 0 := by omega
    subst this
    exact ⟨⟨_, rfl⟩, s3, hrec⟩
  rintro Z' H' ⟨⟨x, rfl⟩, s3, hn⟩
  exact @at_one _ _ _ _ _ _ (ps_ret pe_non) ((q H' s3).1 hn)
abbrev signs94 : Str := " !\"#$&'()*+,-./0123456789:;<=>?@ABCDEFGHIJKLMNOPQRSTUVWXYZ[\\]^_`abcdefghijklmnopqrstuvwxyz{|}~"
def shortRows : List Str := "" :: signs94.cps.toList.map fun c => (⟨#[c]⟩ : Str)
def spShort : Sp := fun vs H Q _ => vs = [] /\ ∀ l H', H' l = some (.lst (shortRows.map V.str)) -> H l = none -> Same H H' -> Q (.ref l) H'
theorem ok_q84 (T : Txt K mg t) : FnOk P w K mg base CX0 1 t.f_q84 t.d_q84 [] spShort := by
 refine T.F_q84.ok sc_q84 (fun vs H Q E h => ?_) (fun cdv A outer s H vs Q E hr h => at_body ?_)
 ·obtain ⟨rfl, _⟩ := h
  rfl
 ·obtain ⟨rfl, q⟩ := h
  refine @at_one _ _ _ _ _ _ (ps_ret (pe_op op_cat (pe_lst (pa_cons pe_str pa_nil)) (pe_callTy (call_listS rfl) (by rfl) T.z_list (by decide +kernel) (pa_cons (pe_globE rfl T.mgv_SIGNS) pa_nil)))) ⟨by show 1 <= sizeLine; decide, fun l1 hl1 => ⟨_, rfl, by decide +kernel, fun l2 hl2 => ?_⟩⟩
  refine ⟨l1, l2, _, _, rfl, rfl, Same.upd hl2 _ _ upd_same, upd_same, sl_le (by simp only [signsV, List.length_map, List.length_cons, List.length_nil]; decide +kernel), fun l hl => ?_⟩
  refine q l _ ?_ (((Same.upd hl1).to hl2).free hl) (((Same.upd hl1).to hl2).to hl)
  rw [upd_same, shortRows, List.map_cons, List.map_map]
  rfl
theorem short_len : ∀ r ∈ shortRows, r.length <= 1 := by
 intro r hr
 rcases List.mem_cons.mp hr with e | e
 ·rw [e]; decide
 ·obtain ⟨c, _, rfl⟩ := List.mem_map.mp e
  exact Nat.le_refl 1
def ringRow (ms : List ModeM) (row : Str) : Nat -> Nat -> Option (List Nat)
 | 0, _ => none
 | n + 1, k => match ringFrom ms k row with
  | some r => some r
  | none => ringRow ms row n (k + 1)
def ringRows (ms : List ModeM) : List Str -> Option (List Nat × Str)
 | [] => none
 | row :: r => match ringRow ms row ms.length 0 with
  | some ring => some (ring, row)
  | none => ringRows ms r
def ringM (ms : List ModeM) : Option (List Nat × Str) := ringRows ms shortRows
theorem ringRow_none {ms : List ModeM} {row : Str} : ∀ {n k : Nat}, ringRow ms row n k = none -> ∀ j, k <= j -> j < k + n -> ringFrom ms j row = none
 | 0, k, _, j, h1, h2 => by omega
 | n + 1, k, h, j, h1, h2 => by
  rw [ringRow] at h
  cases e : ringFrom ms k row with
  | some r => rw [e] at h; cases h
  | none =>
   rw [e] at h
   by_cases z : j = k
   ·rw [z]; exact e
   ·exact ringRow_none h j (by omega) (by omega)
theorem ringRows_none {ms : List ModeM} : ∀ {rows : List Str}, ringRows ms rows = none -> ∀ row ∈ rows, ∀ j, j < ms.length -> ringFrom ms j row = none
 | [], _, row, h, _, _ => by cases h
 | r :: rs, h, row, hr, j, hj => by
  rw [ringRows] at h
  cases e : ringRow ms r ms.length 0 with
  | some r => rw [e] at h; cases h
  | none =>
   rw [e] at h
   rcases List.mem_cons.mp hr with z | z
   ·rw [z]; exact ringRow_none e j (Nat.zero_le _) (by omega)
   ·exact ringRows_none h row z j hj
theorem ringM_none {ms : List ModeM} (h : ringM ms = none) : ∀ row ∈ shortRows, ∀ j, j < ms.length -> ringFrom ms j row = none := ringRows_none h
def nameAt (ms : List ModeM) (k : Nat) : Str := match ms[k]? with
 | some m => m.name
 | none => ""
def rowV (row : Str) : V := if row = "" then .non else .str row
def spRing (t : Adr) : Sp := fun vs H Q _ => ∃ (a : Addr) (ms : List ModeM), vs = [.ref a] /\ IsRules t H a ms /\ GoodMs ms /\
 ∀ H', Same H H' -> (ringM ms = none -> Q .non H') /\ ∀ ring row p l, ringM ms = some (ring, row) -> H' p = some (.tup [.ref l, rowV row]) -> H' l = some (.lst ((ring.map (nameAt ms)).map V.str)) -> Q (.ref p) H'
theorem ringF_lt {ms : List ModeM} (G : GoodMs ms) {row : Str} {first : Nat} : ∀ {f : Nat} {on ring r : List Nat}, OnOk ms on -> (∀ x ∈ ring, x < ms.length) -> ringF ms row first f on ring = some r -> ∀ x ∈ r, x < ms.length
 | 0, on, ring, r, _, _, h => by cases h
 | f + 1, on, ring, r, ho, hr, h => by
  rw [ringF] at h
  obtain ⟨m, hm⟩ := ho.mode
  have hid : idleAt ms (topN on) row = idleM m.rules row := by rw [idleAt, hm]; rfl
  rw [hid] at h
  have h2 : ∀ x ∈ ring ++ [topN on], x < ms.length := fun x hx => by
   rcases List.mem_append.mp hx with hx | hx
   ·exact hr x hx
   ·rw [List.mem_singleton.mp hx]; exact ho.2 _ (top_mem ho.1)
  cases e : idleM m.rules row with
  | none => rw [e] at h; cases h
  | some R =>
   rw [e] at h
   have h : (if R.deed = "pop" /\ on.length = 1 /\ first ≠ 0 then none else if topN (deedM on R.deed R.goal) = first then some (ring ++ [topN on]) else ringF ms row first f (deedM on R.deed R.goal) (ring ++ [topN on])) = some r := h
   split at h
   ·cases h
   ·split at h
    ·cases h; exact h2
    ·exact ringF_lt G (ho.deed G (List.mem_of_getElem? hm) (idle_mem e)) h2 h
theorem ringF_len {ms : List ModeM} {row : Str} {first : Nat} : ∀ {f : Nat} {on ring r : List Nat}, ringF ms row first f on ring = some r -> r.length <= ring.length + f
 | 0, on, ring, r, h => by cases h
 | f + 1, on, ring, r, h => by
  rw [ringF] at h
  cases e : idleAt ms (topN on) row with
  | none => rw [e] at h; cases h
  | some R =>
   rw [e] at h
   have h : (if R.deed = "pop" /\ on.length = 1 /\ first ≠ 0 then none else if topN (deedM on R.deed R.goal) = first then some (ring ++ [topN on]) else ringF ms row first f (deedM on R.deed R.goal) (ring ++ [topN on])) = some r := h
   split at h
   ·cases h
   ·split at h
    ·cases h; simp
    ·have := ringF_len h
     rw [List.length_append, List.length_cons, List.length_nil] at this
     omega
theorem ok_q81 (T : Txt K mg t) : FnOk P w K mg base CX0 5 t.f_q81 t.d_q81 ["rules"] (spRing t) := by
 refine T.F_q81.ok sc_q81 ?_ ?_
 walk_at "i"
 ·obtain ⟨a, ms, rfl, hR, G, q⟩ := h
  have hlen := G.len
  refine @at_consR _ _ _ _ _ _ _ (fun Z' H' => (∃ x y z, Z' = [some (.ref a), x, y, z]) /\ Same H H' /\ ringM ms = none) (ps_forA PassesOwn.never rfl (pi_list (pe_call0 (ok_q84 T) (hr.mono (by decide)) rfl T.mg_q84 T.F_q84.kp (T.F_q84.binds (by walk_at "0")) .nil pass0)) (pg_name (i := 1) sc_q81.nd rfl (Or.inl rfl)) pss_at) ?_ ?_
  ·refine ⟨rfl, fun l H1 hl1 hl0 s1 => ⟨l, rfl, ⟨_, SqL.of hl1⟩, forW_list (xs := shortRows.map V.str) (fun i Z' H' => (∃ x y z, Z' = [some (.ref a), x, y, z]) /\ H' l = some (.lst (shortRows.map V.str)) /\ Same H H' /\ ringM ms = ringRows ms (shortRows.drop i)) ⟨⟨_, _, _, rfl⟩, hl1, s1, rfl⟩ ?_ ?_ ?_⟩⟩
   ·rintro i Z' H' _ ⟨_, h, _⟩
    exact SqL.of h
   ·rintro i xv Z' H2 hx ⟨⟨x, y, z, rfl⟩, hl2, s2, hrec⟩
    rw [List.getElem?_map] at hx
    obtain ⟨row, hrow, rfl⟩ := Option.map_eq_some_iff.mp hx
    have hrl := short_len row (List.mem_of_getElem? hrow)
    rw [drop_at hrow, ringRows] at hrec
    obtain ⟨dx, lm, as, ls, ha, hlm, hM⟩ := id hR
    refine @at_one _ _ _ _ _ _ (ps_forA PassesOwn.never rfl (pi_range1 rfl T.z_range (pa_cons (pe_callB call_len_seq (by rfl) T.z_len (by decide +kernel) (pa_cons (pe_fld (pv 0) rfl) pa_nil)) pa_nil)) (pg_name (i := 2) sc_q81.nd rfl (Or.inl rfl)) pss_at) (⟨_, rfl, _, _, _, _, _, rfl, (s2 _ _ ha), T.cl_Rules, T.n_Rules_modes, rfl, ⟨_, _, rfl, .inl (SqL.of (s2 _ _ hlm)), (ms.length : Int), by rw [List.length_map, hM.la], by omega, by omega, forW_range (n := ((ms.length : Nat) : Int).toNat) (fun k Z' H' => (∃ y z, Z' = [some (.ref a), some (.str row), y, z]) /\ H' l = some (.lst (shortRows.map V.str)) /\ Same H H' /\ ringRow ms row ms.length 0 = ringRow ms row (ms.length - k) k) ⟨⟨_, _, rfl⟩, hl2, s2, rfl⟩ ?_ ?_⟩⟩)
    ·rintro k Z' H3 hk ⟨⟨y, z, rfl⟩, hl3, s3, hrow3⟩
     have hk' : k < ms.length := by omega
     rw [show ms.length - k = (ms.length - (k + 1)) + 1 by omega, ringRow] at hrow3
     cases hf : ringFrom ms k row with
     | none =>
      rw [hf] at hrow3
      refine @at_cons _ _ _ _ _ _ _ (ps_set (i := 3) sc_q81.nd rfl (Or.inl rfl) (pe_call (ok_q80 T) (hr.mono (by decide)) rfl T.mg_q80 T.F_q80.kp (T.F_q80.binds (by walk_at "3")) .nil pass0 (pa_cons (pv 0) (pa_cons (pv 2) (pa_cons (pv 1) pa_nil))))) ⟨_, rfl, _, rfl, _, rfl, a, ms, k, row, (by rw [Int.zero_add]; rfl), hR.same s3, G, hk', by omega, fun H4 s4 => ⟨fun _ => ?_, (fun ring lg e => by rw [hf] at e; cases e)⟩⟩
      exact @at_one _ _ _ _ _ _ (ps_if (pt_cmpR op_notN (pv 3) pe_non (nomark _)) pss_at pss_at) ⟨_, rfl, rfl, _, rfl, ifnd (fun h => absurd rfl h) (fun _ => at_nil ⟨⟨_, _, rfl⟩, s4 _ _ hl3, s3.trans s4, hrow3⟩)⟩
     | some ring =>
      rw [hf] at hrow3
      have hrec : ringM ms = some (ring, row) := by rw [hrec, hrow3]
      refine @at_cons _ _ _ _ _ _ _ (ps_set (i := 3) sc_q81.nd rfl (Or.inl rfl) (pe_call (ok_q80 T) (hr.mono (by decide)) rfl T.mg_q80 T.F_q80.kp (T.F_q80.binds (by walk_at "3")) .nil pass0 (pa_cons (pv 0) (pa_cons (pv 2) (pa_cons (pv 1) pa_nil))))) ⟨_, rfl, _, rfl, _, rfl, a, ms, k, row, (by rw [Int.zero_add]; rfl), hR.same s3, G, hk', by omega, fun H4 s4 => ⟨(fun e => by rw [hf] at e; cases e), fun ring' lg e hlg hlg0 => ?_⟩⟩
      rw [hf] at e
      cases e
      have s4' := s3.trans s4
      have hlt : ∀ x ∈ ring, x < ms.length := ringF_lt G ⟨by simp, by simpa using hk'⟩ (by simp) hf
      have hrl2 : ring.length < 1000000 := by
       have := ringF_len hf
       simp only [List.length_nil] at this
       omega
      refine @at_one _ _ _ _ _ _ (ps_if (pt_cmpR op_notN (pv 3) pe_non (nomark _)) pss_at pss_at) ⟨_, rfl, rfl, _, rfl, ifnd (fun _ => ?_) (fun h => by cases h)⟩
      refine @at_one _ _ _ _ _ _ (@ps_ret _ _ _ _ (@pe_tup _ _ _ _ _ (@pa_cons _ _ _ _ _ (@pe_comp _ (defScope s_q81) _ ["rules", "row", "first", "ring"] _ _ ("mode") _ _ [("rules", 0)] _ _ (by walk_at "ck") (@pi_list _ _ _ _ (pv 3)) (fun _ _ _ _ => by exact (@pe_fldK _ K _ _ _ _ (@pe_ix _ _ _ _ _ _ _ (ix_listK (K := K) rfl) (@pe_fldK _ K _ _ _ _ (pv 0) rfl (by left)) (pv 1) (fun _ _ => rfl)) rfl (by left))) (by left) (by left) (by left) (by left)) (@pa_cons _ _ _ _ _ (@pe_ifExp _ _ _ _ _ _ _ _ (@pt_truth _ _ _ (pv 1) (fun _ => rfl)) (pv 1) pe_non) pa_nil (by left)) (by left)))) ⟨_, rfl, lg, rfl, ⟨_, SqL.of hlg⟩, comp_list (xs := ring.map natV) (fun i ys H5 => ys = ((ring.take i).map (nameAt ms)).map V.str /\ Same H4 H5) ⟨rfl, Same.refl H4⟩ (by rw [List.length_map]; exact Nat.lt_trans hrl2 (by decide)) ?_ ?_ ?_⟩
      ·rintro i ys H5 _ ⟨_, s5⟩
       exact SqL.of (s5 _ _ hlg)
      ·rintro i xv ys H5 hx hyl ⟨rfl, s5⟩
       rw [List.getElem?_map] at hx
       obtain ⟨n, hn, rfl⟩ := Option.map_eq_some_iff.mp hx
       obtain ⟨m, hm⟩ : ∃ m, ms[n]? = some m := ⟨ms[n]'(hlt n (List.mem_of_getElem? hn)), List.getElem?_eq_getElem _⟩
       obtain ⟨dx, lm, as, b, lr, dm, rs, ha, hlm, hal, hb, hmo, hlr, hA⟩ := (hR.same (s4'.trans s5)).mode hm
       refine ⟨_, rfl, _, _, _, _, _, rfl, ha, T.cl_Rules, T.n_Rules_modes, rfl, ⟨_, rfl, _, _, _, _, rfl, rfl, SqL.of hlm, at_ref hb, b, t.c_Mode, dm, _, _, rfl, hmo, T.cl_Mode, T.n_Mode_name, rfl, ?_⟩⟩
       have hi := (List.getElem?_eq_some_iff.mp hn).1
       refine comp_turn (by rw [List.length_map]; exact hi) hyl ⟨?_, s5⟩
       rw [take_snoc hn, List.map_append, List.map_append]
       show _ = _ ++ [V.str (nameAt ms n)]
       rw [nameAt, hm]
      ·rintro ys H5 hyl ⟨rfl, s5⟩ D hD
       have e5 : ring.take (ring.map natV).length = ring := by rw [List.length_map, List.take_length]
       rw [e5]
       have s6 : Same H (upd H5 D (.lst ((ring.map (nameAt ms)).map V.str))) := (s4'.trans s5).to hD
       have hD6 : upd H5 D (.lst ((ring.map (nameAt ms)).map V.str)) D = some (.lst ((ring.map (nameAt ms)).map V.str)) := upd_same
       generalize upd H5 D (.lst ((ring.map (nameAt ms)).map V.str)) = H6 at s6 hD6
       by_cases h0 : row = ""
       ·refine ⟨_, rfl, false, ⟨sl_le (by omega), (by rw [h0]; rfl)⟩, iteF ⟨by show 2 <= sizeLine; decide, fun tp htp => ?_⟩⟩
        exact (q _ (s6.to htp)).2 ring row tp D hrec (by rw [upd_same, rowV, if_pos h0]) (Same.upd htp _ _ hD6)
       ·have hrl1 : row.length ≠ 0 := fun z => h0 (str_ext (by rw [show (Str.ofString "").cps.toList = [] from by decide +kernel]; exact List.eq_nil_of_length_eq_zero (by rw [len_cps]; exact z)))
        refine ⟨_, rfl, true, ⟨sl_le (by omega), ?_⟩, iteT ⟨_, rfl, by show 2 <= sizeLine; decide, fun tp htp => ?_⟩⟩
        ·have : (row.length : Int) ≠ 0 := by omega
         simpa using this
        ·exact (q _ (s6.to htp)).2 ring row tp D hrec (by rw [upd_same, rowV, if_neg h0]) (Same.upd htp _ _ hD6)
    ·rintro Z' H3 ⟨⟨y, z, rfl⟩, hl3, s3, hrow3⟩
     rw [Int.toNat_natCast, Nat.sub_self] at hrow3
     refine ⟨⟨_, _, _, rfl⟩, hl3, s3, ?_⟩
     rw [hrec, hrow3]
     rfl
   ·rintro Z' H' ⟨h1, _, h2, h3⟩
    rw [List.length_map, List.drop_length] at h3
    exact ⟨h1, h2, h3⟩
  rintro Z' H' ⟨⟨x, y, z, rfl⟩, s1, hn⟩
  exact @at_one _ _ _ _ _ _ (ps_ret pe_non) ((q H' s1).1 hn)
def eatN (R : RuleM) (row : Str) (i : Nat) : Nat := match dueV R.sort R.signs row i with
 | .int n => n.toNat
 | _ => 0
structure Cfg where
 on : List Nat
 tints : List Str
 marks : List (Nat × Str)
def colourAt (ms : List ModeM) (k : Nat) : Str := match ms[k]? with
 | some m => m.colour
 | none => ""
def rulesAt (ms : List ModeM) (k : Nat) : List RuleM := match ms[k]? with
 | some m => m.rules
 | none => []
def eatC (c : Cfg) (R : RuleM) (row : Str) : Cfg := ⟨deedM c.on R.deed R.goal, c.tints ++ List.replicate (eatN R row c.tints.length) R.colour, if R.fold = "" then c.marks else c.marks ++ [(c.tints.length, R.fold)]⟩
def stepG (ms : List ModeM) (row : Str) (c : Cfg) : Option Cfg := match ruleM (rulesAt ms (topN c.on)) row c.tints.length with
 | some R => some (eatC c R row)
 | none => if c.tints.length < row.length then some ⟨c.on, c.tints ++ [colourAt ms (topN c.on)], c.marks⟩ else none
def goN (ms : List ModeM) (row : Str) : Nat -> Cfg -> Option Cfg
 | 0, c => match stepG ms row c with
  | none => some c
  | some _ => none
 | n + 1, c => match stepG ms row c with
  | none => some c
  | some c' => goN ms row n c'
theorem goN_step {ms : List ModeM} {row : Str} {n : Nat} {c c' d : Cfg} (h : stepG ms row c = some c') (g : goN ms row n c' = some d) : goN ms row (n + 1) c = some d := by
 rw [goN, h]; exact g
theorem goN_end {ms : List ModeM} {row : Str} {n : Nat} {c : Cfg} (h : stepG ms row c = none) : goN ms row n c = some c := by
 cases n with
 | zero => rw [goN, h]
 | succ n => rw [goN, h]
theorem goN_more {ms : List ModeM} {row : Str} : ∀ {n m : Nat} {c d : Cfg}, n <= m -> goN ms row n c = some d -> goN ms row m c = some d
 | 0, m, c, d, _, h => by
  rw [goN] at h
  cases e : stepG ms row c with
  | none => rw [e] at h; cases h; exact goN_end e
  | some c' => rw [e] at h; cases h
 | n + 1, 0, c, d, h0, _ => by omega
 | n + 1, m + 1, c, d, h0, h => by
  rw [goN] at h ⊢
  cases e : stepG ms row c with
  | none => rw [e] at h; exact h
  | some c' => rw [e] at h; exact goN_more (by omega) h
def shortAt (row : Str) (i : Nat) : Str := match row.cps.toList[i]? with
 | some c => ⟨#[c]⟩
 | none => ""
theorem due_fit {s sg row : Str} {i c : Nat} (h1 : s ≠ "end") (h2 : s ≠ "word") (e : row.cps.toList[i]? = some c) : dueV s sg row i ≠ .non ↔ ((s = "any" ∨ s = "still") ∨ (s = "none" /\ c ∉ sg.cps.toList) ∨ (s ≠ "none" /\ c ∈ sg.cps.toList)) := by
 rw [dueV_at h1 h2 e]
 by_cases h3 : s = "any" ∨ s = "still"
 ·rw [if_pos h3]
  exact ⟨fun _ => .inl h3, fun _ z => by cases z⟩
 ·rw [if_neg h3]
  by_cases h4 : s = "none"
  ·rw [if_pos h4]
   by_cases h5 : c ∈ sg.cps.toList
   ·rw [if_pos h5]
    exact ⟨fun z => absurd rfl z, fun z => by rcases z with z | z | z; (exact absurd z h3); (exact absurd h5 z.2); (exact absurd h4 z.1)⟩
   ·rw [if_neg h5]
    exact ⟨fun _ => .inr (.inl ⟨h4, h5⟩), fun _ z => by cases z⟩
  ·rw [if_neg h4]
   by_cases h5 : c ∈ sg.cps.toList
   ·rw [if_pos h5]
    exact ⟨fun _ => .inr (.inr ⟨h4, h5⟩), fun _ z => by cases z⟩
   ·rw [if_neg h5]
    exact ⟨fun z => absurd rfl z, fun z => by rcases z with z | z | z; (exact absurd z h3); (exact absurd z.1 h4); (exact absurd z.2 h5)⟩
theorem fits_short {R : RuleM} {row : Str} {i : Nat} (hi : i <= row.length) (h : fitsB R (shortAt row i) 0 = true) (hs : R.sort ∈ sorts) : fitsB R row i = true := by
 unfold fitsB at h ⊢
 rw [decide_eq_true_eq] at h ⊢
 have hl := len_cps row
 cases e : row.cps.toList[i]? with
 | none =>
  have hi2 : i = row.length := by
   have := List.getElem?_eq_none_iff.mp e
   omega
  have es : shortAt row i = "" := by unfold shortAt; rw [e]
  rw [es] at h
  have ee : (Str.ofString "").cps.toList = [] := by decide +kernel
  rcases sorts_cases hs with hs | hs | hs | hs | hs | hs | hs <;> rw [hs] at h ⊢
  ·rw [dueV, if_neg (by decide), if_pos rfl] at h ⊢
   rw [show (("" : Str)).cps.toList = [] from ee] at h
   have : row.cps.toList.drop i = [] := List.drop_eq_nil_of_le (by omega)
   rw [this]
   exact h
  all_goals first
   | (exfalso; exact h (dueV_out (by decide) (by decide) (by decide)))
   | (rw [dueV, if_pos rfl, if_pos hi2]; intro z; cases z)
 | some c =>
  have hi2 : i < row.length := by
   have := (List.getElem?_eq_some_iff.mp e).1
   omega
  have es : shortAt row i = ⟨#[c]⟩ := by unfold shortAt; rw [e]
  rw [es] at h
  have e0 : (⟨#[c]⟩ : Str).cps.toList[0]? = some c := rfl
  rcases sorts_cases hs with hs | hs | hs | hs | hs | hs | hs <;> rw [hs] at h ⊢
  ·rw [dueV, if_neg (by decide), if_pos rfl] at h ⊢
   have hd := drop_at e
   rw [hd]
   intro z
   apply h
   by_cases y : ((⟨#[c]⟩ : Str).cps.toList.drop 0).take R.signs.length = R.signs.cps.toList
   ·exfalso
    have y' : [c].take R.signs.length = R.signs.cps.toList := y
    have yl := congrArg List.length y'
    rw [len_cps, List.length_take] at yl
    have : (c :: row.cps.toList.drop (i + 1)).take R.signs.length = R.signs.cps.toList := by
     rw [← y']
     cases hsl : R.signs.length with
     | zero => rfl
     | succ n =>
      rw [hsl] at yl
      have : n = 0 := by simp at yl; omega
      subst this
      rfl
    rw [if_pos this] at z
    cases z
   ·rw [if_neg y]
  all_goals first
   | (rw [dueV, if_pos rfl, if_neg (by show ¬ 0 = 1; decide)] at h; exact absurd rfl h)
   | exact (due_fit (by decide) (by decide) e).mpr ((due_fit (by decide) (by decide) e0).mp h)
theorem idle_sorts {s : Str} (h : s ∈ sorts) (h2 : eatsB s = false) : s = "still" ∨ s = "end" := by
 rcases sorts_cases h with rfl | rfl | rfl | rfl | rfl | rfl | rfl
 all_goals first
  | exact .inl rfl
  | exact .inr rfl
  | (exfalso; revert h2; decide +kernel)
theorem idle_short {R : RuleM} {row : Str} {i : Nat} (hi : i <= row.length) (h : fitsB R row i = true) (hs : R.sort ∈ sorts) (h2 : eatsB R.sort = false) : fitsB R (shortAt row i) 0 = true := by
 unfold fitsB at h ⊢
 rw [decide_eq_true_eq] at h ⊢
 have hl := len_cps row
 cases e : row.cps.toList[i]? with
 | none =>
  have hi2 : i = row.length := by
   have := List.getElem?_eq_none_iff.mp e
   omega
  have es : shortAt row i = "" := by unfold shortAt; rw [e]
  rw [es]
  rcases idle_sorts hs h2 with hs | hs <;> rw [hs] at h ⊢
  ·exact absurd (dueV_out (by decide) (by decide) (by omega)) h
  ·rw [dueV, if_pos rfl, if_pos (by decide +kernel)]; intro z; cases z
 | some c =>
  have hi2 : i < row.length := by
   have := (List.getElem?_eq_some_iff.mp e).1
   omega
  have es : shortAt row i = ⟨#[c]⟩ := by unfold shortAt; rw [e]
  have e0 : (⟨#[c]⟩ : Str).cps.toList[0]? = some c := rfl
  rw [es]
  rcases idle_sorts hs h2 with hs | hs <;> rw [hs] at h ⊢
  ·rw [dueV_at (by decide) (by decide) e0, if_pos (by decide)]; intro z; cases z
  ·rw [dueV, if_pos rfl, if_neg (by omega)] at h; exact absurd rfl h
theorem firstF_is {row : Str} {i : Nat} : ∀ {rs : List RuleM} {k n : Nat} {R : RuleM}, rs[n]? = some R -> fitsB R row i = true -> (∀ j, j < n -> ∀ R', rs[j]? = some R' -> fitsB R' row i = false) -> firstF row i k rs = some (k + n)
 | [], k, n, R, h, _, _ => by simp at h
 | R0 :: r, k, 0, R, h, hf, _ => by
  rw [List.getElem?_cons_zero] at h
  cases h
  rw [firstF, if_pos hf]
  rfl
 | R0 :: r, k, n + 1, R, h, hf, hn => by
  have h0 := hn 0 (by omega) R0 rfl
  rw [firstF, if_neg (by rw [h0]; decide), firstF_is (rs := r) (n := n) h hf (fun j hj R' hR => hn (j + 1) (by omega) R' hR)]
  congr 1
  omega
theorem rule_idle {rs : List RuleM} {row : Str} {i : Nat} {R : RuleM} (hok : ∀ R ∈ rs, R.sort ∈ sorts) (hi : i <= row.length) (h : ruleM rs row i = some R) (h2 : eatsB R.sort = false) : idleM rs (shortAt row i) = some R := by
 unfold ruleM at h
 cases e : firstM rs row i with
 | none => rw [e] at h; cases h
 | some n =>
  rw [e] at h
  obtain ⟨_, R', g1, g2, g3⟩ := firstF_some e
  rw [Nat.sub_zero] at g1 g3
  have : R' = R := Option.some.inj (g1.symm.trans h)
  subst this
  have hm := List.mem_of_getElem? g1
  have hf : firstM rs (shortAt row i) 0 = some n := by
   have := firstF_is (row := shortAt row i) (i := 0) (k := 0) g1 (idle_short hi g2 (hok _ hm) h2) (fun j hj R' hR => by
    cases z : fitsB R' (shortAt row i) 0 with
    | false => rfl
    | true =>
     have := fits_short hi z (hok _ (List.mem_of_getElem? hR))
     rw [g3 j hj R' hR] at this
     cases this)
   rw [Nat.zero_add] at this
   exact this
  rw [idleM, ruleM, hf]
  show (rs[n]?).bind _ = _
  rw [g1]
  show (if eatsB R'.sort = true then none else some R') = some R'
  rw [if_neg (by rw [h2]; decide)]
theorem run_le (sg : List Nat) : ∀ l : List Nat, runL sg l <= l.length
 | [] => Nat.le_refl _
 | c :: r => by
  rw [runL]
  split
  ·have := run_le sg r; rw [List.length_cons]; omega
  ·exact Nat.zero_le _
theorem due_le {s sg row : Str} {i : Nat} {n : Int} (hi : i <= row.length) (h : dueV s sg row i = .int n) : i + n.toNat <= row.length := by
 have hl := len_cps row
 by_cases h1 : s = "end"
 ·rw [dueV, if_pos h1] at h
  split at h
  ·have := V.int.inj h
   omega
  ·cases h
 ·by_cases h2 : s = "word"
  ·rw [dueV, if_neg h1, if_pos h2] at h
   split at h
   ·rename_i hw
    have := congrArg List.length hw
    rw [List.length_take, List.length_drop, len_cps, len_cps] at this
    have := V.int.inj h
    omega
   ·cases h
  ·cases e : row.cps.toList[i]? with
   | none => rw [dueV, if_neg h1, if_neg h2, e] at h; cases h
   | some c =>
    have hi2 : i < row.length := by
     have := (List.getElem?_eq_some_iff.mp e).1
     omega
    have hr := run_le sg.cps.toList (row.cps.toList.drop (i + 1))
    rw [List.length_drop] at hr
    rw [dueV_at h1 h2 e] at h
    split at h
    ·have := V.int.inj h
     split at this <;> omega
    ·split at h
     ·split at h
      ·cases h
      ·have := V.int.inj h; omega
     ·split at h
      ·have := V.int.inj h
       split at this <;> omega
      ·cases h
theorem eat_le {R : RuleM} {row : Str} {i : Nat} (hs : R.sort ∈ sorts) (hi : i <= row.length) : i + eatN R row i <= row.length := by
 unfold eatN
 rcases dueV_cases R.sort R.signs row i with ⟨n, e⟩ | e
 ·rw [e]; exact due_le hi e
 ·rw [e]; exact hi
theorem due_pos {s sg row : Str} {i : Nat} {n : Int} (he : eatsB s = true) (hg : s = "word" -> 1 <= sg.length) (h : dueV s sg row i = .int n) : 1 <= n := by
 have h1 : s ≠ "end" := fun z => by rw [z] at he; revert he; decide +kernel
 have h1' : s ≠ "still" := fun z => by rw [z] at he; revert he; decide +kernel
 by_cases h2 : s = "word"
 ·rw [dueV, if_neg h1, if_pos h2] at h
  split at h
  ·have := V.int.inj h
   have := hg h2
   omega
  ·cases h
 ·cases e : row.cps.toList[i]? with
  | none => rw [dueV, if_neg h1, if_neg h2, e] at h; cases h
  | some c =>
   rw [dueV_at h1 h2 e] at h
   split at h
   ·rename_i h3
    have := V.int.inj h
    rcases h3 with h3 | h3
    ·rw [if_pos h3] at this; omega
    ·exact absurd h3 h1'
   ·split at h
    ·split at h
     ·cases h
     ·have := V.int.inj h; omega
    ·split at h
     ·have := V.int.inj h
      split at this <;> omega
     ·cases h
theorem eat_pos {R : RuleM} {row : Str} {i : Nat} (hs : R.sort ∈ sorts) (he : eatsB R.sort = true) (hg : ¬ bare R.sort -> 1 <= R.signs.length) (hf : fitsB R row i = true) : 1 <= eatN R row i := by
 unfold fitsB at hf
 rw [decide_eq_true_eq] at hf
 unfold eatN
 rcases dueV_cases R.sort R.signs row i with ⟨n, e⟩ | e
 ·have := due_pos he (fun z => hg (by rw [z]; decide)) e
  rw [e]
  show 1 <= n.toNat
  omega
 ·exact absurd e hf
theorem eat_zero {R : RuleM} {row : Str} {i : Nat} (hs : R.sort ∈ sorts) (he : eatsB R.sort = false) : eatN R row i = 0 := by
 unfold eatN
 rcases idle_sorts hs he with h | h <;> rw [h]
 ·cases e : row.cps.toList[i]? with
  | none => rw [dueV, if_neg (by decide), if_neg (by decide), e]
  | some c => rw [dueV_at (by decide) (by decide) e, if_pos (by decide), if_neg (by decide)]; rfl
 ·rw [dueV, if_pos rfl]
  split
  ·rename_i e; split at e <;> cases e; rfl
  ·rfl
def popsN (ms : List ModeM) (row : Str) : Nat -> Nat -> Bool
 | 0, _ => false
 | f + 1, k => match idleAt ms k row with
  | none => false
  | some R => if R.deed = "pop" then true else if R.deed = "into" then popsN ms row f (R.goal.getD 0) else false
theorem pops_more {ms : List ModeM} {row : Str} : ∀ {f g k : Nat}, f <= g -> popsN ms row f k = true -> popsN ms row g k = true
 | 0, g, k, _, h => by cases h
 | f + 1, 0, k, h0, _ => by omega
 | f + 1, g + 1, k, h0, h => by
  rw [popsN] at h ⊢
  cases e : idleAt ms k row with
  | none => rw [e] at h; cases h
  | some R =>
   rw [e] at h
   have h : (if R.deed = "pop" then true else if R.deed = "into" then popsN ms row f (R.goal.getD 0) else false) = true := h
   show (if R.deed = "pop" then true else if R.deed = "into" then popsN ms row g (R.goal.getD 0) else false) = true
   split
   ·rfl
   ·rename_i h1
    rw [if_neg h1] at h
    split
    ·rename_i h2
     rw [if_pos h2] at h
     exact pops_more (by omega) h
    ·rename_i h2
     rw [if_neg h2] at h
     cases h
theorem top_one (k : Nat) : topN [k] = k := rfl
theorem top_snoc (r : List Nat) (k : Nat) : topN (r ++ [k]) = k := by unfold topN; simp
theorem ring_start {ms : List ModeM} {row : Str} : ∀ {f fuel k : Nat} {ring : List Nat}, f <= fuel -> popsN ms row f k = true -> ringF ms row 0 fuel [k] ring ≠ none
 | 0, fuel, k, ring, _, h => by cases h
 | f + 1, 0, k, ring, h0, _ => by omega
 | f + 1, fuel + 1, k, ring, h0, h => by
  rw [popsN] at h
  rw [ringF, top_one]
  cases e : idleAt ms k row with
  | none => rw [e] at h; cases h
  | some R =>
   rw [e] at h
   have h : (if R.deed = "pop" then true else if R.deed = "into" then popsN ms row f (R.goal.getD 0) else false) = true := h
   show (if R.deed = "pop" /\ [k].length = 1 /\ (0 : Nat) ≠ 0 then none else if topN (deedM [k] R.deed R.goal) = 0 then some (ring ++ [k]) else ringF ms row 0 fuel (deedM [k] R.deed R.goal) (ring ++ [k])) ≠ none
   rw [if_neg (fun z => z.2.2 rfl)]
   by_cases hp : R.deed = "pop"
   ·have : deedM [k] R.deed R.goal = [0] := by rw [deedM, hp, if_neg (by decide), if_neg (by decide), if_pos rfl]; rfl
    rw [this, if_pos (top_one 0)]
    intro z; cases z
   ·rw [if_neg hp] at h
    by_cases hi : R.deed = "into"
    ·rw [if_pos hi] at h
     have : deedM [k] R.deed R.goal = [R.goal.getD 0] := by rw [deedM, hi, if_neg (by decide), if_pos rfl]; rfl
     rw [this, top_one]
     split
     ·intro z; cases z
     ·exact ring_start (by omega) h
    ·rw [if_neg hi] at h; cases h
theorem ring_push {ms : List ModeM} {row : Str} {y : Nat} : ∀ {f fuel k : Nat} {ring : List Nat}, f <= fuel -> popsN ms row f k = true -> ringF ms row y fuel [y, k] ring ≠ none
 | 0, fuel, k, ring, _, h => by cases h
 | f + 1, 0, k, ring, h0, _ => by omega
 | f + 1, fuel + 1, k, ring, h0, h => by
  rw [popsN] at h
  rw [ringF, show topN [y, k] = k from rfl]
  cases e : idleAt ms k row with
  | none => rw [e] at h; cases h
  | some R =>
   rw [e] at h
   have h : (if R.deed = "pop" then true else if R.deed = "into" then popsN ms row f (R.goal.getD 0) else false) = true := h
   show (if R.deed = "pop" /\ [y, k].length = 1 /\ y ≠ 0 then none else if topN (deedM [y, k] R.deed R.goal) = y then some (ring ++ [k]) else ringF ms row y fuel (deedM [y, k] R.deed R.goal) (ring ++ [k])) ≠ none
   rw [if_neg (fun z => absurd z.2.1 (by show ¬ 2 = 1; decide))]
   by_cases hp : R.deed = "pop"
   ·have : deedM [y, k] R.deed R.goal = [y] := by rw [deedM, hp, if_neg (by decide), if_neg (by decide), if_pos rfl, if_neg (by show ¬ 2 = 1; decide)]; rfl
    rw [this, if_pos (top_one y)]
    intro z; cases z
   ·rw [if_neg hp] at h
    by_cases hi : R.deed = "into"
    ·rw [if_pos hi] at h
     have : deedM [y, k] R.deed R.goal = [y, R.goal.getD 0] := by rw [deedM, hi, if_neg (by decide), if_pos rfl]; rfl
     rw [this, show topN [y, R.goal.getD 0] = R.goal.getD 0 from rfl]
     split
     ·intro z; cases z
     ·exact ring_push (by omega) h
    ·rw [if_neg hi] at h; cases h
def UpIdle (ms : List ModeM) : Prop := ∀ (k : Nat) m, ms[k]? = some m -> ∀ R ∈ m.rules, eatsB R.sort = false -> R.deed = "pop" ∨ (going R.deed /\ ∃ g, R.goal = some g /\ k < g /\ g < ms.length)
structure NoPops (ms : List ModeM) (row : Str) : Prop where
 start : popsN ms row ms.length 0 = false
 push : ∀ y R, y < ms.length -> idleAt ms y row = some R -> R.deed = "push" -> popsN ms row (ms.length - R.goal.getD 0) (R.goal.getD 0) = false
theorem idle_at_of {ms : List ModeM} {k : Nat} {row : Str} {R : RuleM} (h : idleAt ms k row = some R) : ∃ m, ms[k]? = some m /\ R ∈ m.rules /\ eatsB R.sort = false := by
 unfold idleAt at h
 cases e : ms[k]? with
 | none => rw [e] at h; cases h
 | some m =>
  rw [e] at h
  have h : idleM m.rules row = some R := h
  refine ⟨m, rfl, idle_mem h, ?_⟩
  unfold idleM at h
  cases e2 : ruleM m.rules row 0 with
  | none => rw [e2] at h; cases h
  | some R' =>
   rw [e2] at h
   have h : (if eatsB R'.sort = true then none else some R') = some R := h
   split at h
   ·cases h
   ·rename_i hn; cases h; simpa using hn
theorem noPops {ms : List ModeM} (U : UpIdle ms) (G : 0 < ms.length) (h : ringM ms = none) : ∀ row ∈ shortRows, NoPops ms row := by
 intro row hr
 have hf := ringM_none h row hr
 refine ⟨?_, fun y R hy hi hp => ?_⟩
 ·cases e : popsN ms row ms.length 0 with
  | false => rfl
  | true => exact absurd (hf 0 G) (ring_start (Nat.le_refl _) e)
 ·cases e : popsN ms row (ms.length - R.goal.getD 0) (R.goal.getD 0) with
  | false => rfl
  | true =>
   exfalso
   have h0 := hf y hy
   obtain ⟨m, hm, hR, he⟩ := idle_at_of hi
   obtain ⟨g, eg, hg1, hg2⟩ : ∃ g, R.goal = some g /\ y < g /\ g < ms.length := by
    rcases U y m hm R hR he with z | ⟨_, z⟩
    ·rw [hp] at z; cases z
    ·exact z
   unfold ringFrom at h0
   obtain ⟨n, hn⟩ : ∃ n, ms.length = n + 1 := ⟨ms.length - 1, by omega⟩
   rw [hn, ringF, top_one, hi] at h0
   have h0 : (if R.deed = "pop" /\ [y].length = 1 /\ y ≠ 0 then none else if topN (deedM [y] R.deed R.goal) = y then some ([] ++ [y]) else ringF ms row y n (deedM [y] R.deed R.goal) ([] ++ [y])) = none := h0
   rw [if_neg (fun z => by rw [hp] at z; exact absurd z.1 (by decide))] at h0
   have ed : deedM [y] R.deed R.goal = [y, R.goal.getD 0] := by rw [deedM, if_pos hp]; rfl
   rw [ed] at h0
   split at h0
   ·cases h0
   ·exact ring_push (by rw [eg]; show ms.length - g <= n; omega) e h0
def wsum (N : Nat) (on : List Nat) : Nat := (on.map fun k => N - k).sum
theorem wsum_app (N : Nat) (a b : List Nat) : wsum N (a ++ b) = wsum N a + wsum N b := by unfold wsum; rw [List.map_append, List.sum_append]
theorem wsum_one (N k : Nat) : wsum N [k] = N - k := by simp [wsum]
theorem split_last {on : List Nat} (h : on ≠ []) : ∃ r, on = r ++ [topN on] := by
 rcases List.eq_nil_or_concat on with rfl | ⟨p, x, rfl⟩
 ·exact absurd rfl h
 ·exact ⟨p, by rw [List.concat_eq_append, top_snoc]⟩
theorem deed_push {on : List Nat} {d : Str} {g : Nat} (h : d = "push") : deedM on d (some g) = on ++ [g] := by rw [deedM, if_pos h]; rfl
theorem deed_into {r : List Nat} {k : Nat} {d : Str} {g : Nat} (h : d = "into") : deedM (r ++ [k]) d (some g) = r ++ [g] := by
 rw [deedM, h, if_neg (by decide), if_pos rfl, List.dropLast_concat]; rfl
theorem deed_pop {r : List Nat} {k : Nat} {d : Str} {g : Option Nat} (h : d = "pop") (hr : r ≠ []) : deedM (r ++ [k]) d g = r := by
 have : (r ++ [k]).length ≠ 1 := by
  cases r with
  | nil => exact absurd rfl hr
  | cons x y => simp
 rw [deedM, h, if_neg (by decide), if_neg (by decide), if_pos rfl, if_neg this, List.dropLast_concat]
theorem deed_pop1 {k : Nat} {d : Str} {g : Option Nat} (h : d = "pop") : deedM [k] d g = [0] := by
 rw [deedM, h, if_neg (by decide), if_neg (by decide), if_pos rfl]
 rfl
def idleC (ms : List ModeM) (row : Str) (c : Cfg) : Prop := ∃ R, ruleM (rulesAt ms (topN c.on)) row c.tints.length = some R /\ eatsB R.sort = false
def Still (ms : List ModeM) (row : Str) : Nat -> Cfg -> Cfg -> Prop
 | 0, c, d => c = d
 | n + 1, c, d => ∃ R, ruleM (rulesAt ms (topN c.on)) row c.tints.length = some R /\ eatsB R.sort = false /\ Still ms row n (eatC c R row) d
theorem Still.go {ms : List ModeM} {row : Str} : ∀ {n m : Nat} {c d e : Cfg}, Still ms row n c d -> goN ms row m d = some e -> goN ms row (n + m) c = some e
 | 0, m, c, d, e, h, g => by rw [Nat.zero_add, show c = d from h]; exact g
 | n + 1, m, c, d, e, ⟨R, h1, _, h3⟩, g => by
  rw [show n + 1 + m = (n + m) + 1 by omega]
  exact goN_step (by rw [stepG, h1]) (h3.go g)
structure Good (ms : List ModeM) (row : Str) : Prop where
 g : GoodMs ms
 up : UpIdle ms
 four : ms.length <= 4
 sg : ∀ m ∈ ms, ∀ R ∈ m.rules, ¬ bare R.sort -> 1 <= R.signs.length
 np : ∀ r ∈ shortRows, NoPops ms r
 row : ∀ c ∈ row.cps.toList, c ∈ signs94.cps.toList
theorem Good.short {ms : List ModeM} {row : Str} (G : Good ms row) (i : Nat) : shortAt row i ∈ shortRows := by
 unfold shortAt
 cases e : row.cps.toList[i]? with
 | none => exact List.mem_cons_self ..
 | some c => exact List.mem_cons_of_mem _ (List.mem_map.mpr ⟨c, G.row c (List.mem_of_getElem? e), rfl⟩)
theorem Good.rule {ms : List ModeM} {row : Str} (G : Good ms row) {k i : Nat} {R : RuleM} (hk : k < ms.length) (h : ruleM (rulesAt ms k) row i = some R) : ∃ m, ms[k]? = some m /\ R ∈ m.rules /\ R.sort ∈ sorts /\ fitsB R row i = true := by
 have hm : ms[k]? = some ms[k] := List.getElem?_eq_getElem hk
 rw [rulesAt, hm] at h
 have h : ruleM ms[k].rules row i = some R := h
 unfold ruleM at h
 cases e : firstM ms[k].rules row i with
 | none => rw [e] at h; cases h
 | some n =>
  rw [e] at h
  obtain ⟨_, R', g1, g2, _⟩ := firstF_some e
  rw [Nat.sub_zero] at g1
  have : R' = R := Option.some.inj (g1.symm.trans h)
  subst this
  have hR := List.mem_of_getElem? g1
  exact ⟨_, hm, hR, ((G.g.ok _ (List.getElem_mem hk)).2 R' hR).1, g2⟩
theorem Good.idle {ms : List ModeM} {row : Str} (G : Good ms row) {k i : Nat} {R : RuleM} (hk : k < ms.length) (hi : i <= row.length) (h : ruleM (rulesAt ms k) row i = some R) (he : eatsB R.sort = false) : idleAt ms k (shortAt row i) = some R := by
 have hm : ms[k]? = some ms[k] := List.getElem?_eq_getElem hk
 rw [rulesAt, hm] at h
 rw [idleAt, hm]
 exact rule_idle (fun R hR => ((G.g.ok _ (List.getElem_mem hk)).2 R hR).1) hi h he
def tri : Nat -> Nat
 | 0 => 0
 | n + 1 => tri n + (n + 1)
theorem tri_mono : ∀ {a b : Nat}, a <= b -> tri a <= tri b
 | a, 0, h => by have : a = 0 := by omega
                 rw [this]; exact Nat.le_refl _
 | a, b + 1, h => by
  by_cases e : a = b + 1
  ·rw [e]; exact Nat.le_refl _
  ·have := tri_mono (a := a) (b := b) (by omega)
   rw [tri]; omega
theorem eatC_tints {c : Cfg} {R : RuleM} {row : Str} (hs : R.sort ∈ sorts) (he : eatsB R.sort = false) : (eatC c R row).tints = c.tints := by
 show c.tints ++ List.replicate (eatN R row c.tints.length) R.colour = c.tints
 rw [eat_zero hs he]
 exact List.append_nil _
theorem phaseA {ms : List ModeM} {row : Str} (G : Good ms row) : ∀ (w k : Nat) (r : List Nat) (c : Cfg), w = ms.length - k -> k < ms.length -> c.on = r ++ [k] -> c.tints.length <= row.length -> (∀ x ∈ r, x < ms.length) -> popsN ms (shortAt row c.tints.length) (ms.length - k) k = false ->
  ∃ n d, Still ms row n c d /\ ¬ idleC ms row d /\ d.tints = c.tints /\ OnOk ms d.on /\ n <= w /\ wsum ms.length d.on <= wsum ms.length r + tri w
 | 0, k, r, c, hw, hk, _, _, _, _ => by omega
 | w + 1, k, r, c, hw, hk, hon, hi, hr, hp => by
  have htop : topN c.on = k := by rw [hon, top_snoc]
  have hok : OnOk ms c.on := by
   rw [hon]
   refine ⟨by simp, fun x hx => ?_⟩
   rcases List.mem_append.mp hx with hx | hx
   ·exact hr x hx
   ·rw [List.mem_singleton.mp hx]; exact hk
  by_cases hid : idleC ms row c
  ·obtain ⟨R, h1, h2⟩ := id hid
   rw [htop] at h1
   obtain ⟨m, hm, hR, hs, hf⟩ := G.rule hk h1
   have hia := G.idle hk hi h1 h2
   have htt := eatC_tints (c := c) (row := row) hs h2
   rw [show ms.length - k = (ms.length - (k + 1)) + 1 by omega, popsN, hia] at hp
   have hp : (if R.deed = "pop" then true else if R.deed = "into" then popsN ms (shortAt row c.tints.length) (ms.length - (k + 1)) (R.goal.getD 0) else false) = false := hp
   by_cases hpop : R.deed = "pop"
   ·rw [if_pos hpop] at hp; cases hp
   ·rw [if_neg hpop] at hp
    obtain ⟨hgo, g, eg, hg1, hg2⟩ : going R.deed /\ ∃ g, R.goal = some g /\ k < g /\ g < ms.length := by
     rcases G.up k m hm R hR h2 with z | z
     ·exact absurd z hpop
     ·exact z
    by_cases hin : R.deed = "into"
    ·rw [if_pos hin, eg] at hp
     have hon2 : (eatC c R row).on = r ++ [g] := by show deedM c.on R.deed R.goal = _; rw [hon, eg, deed_into hin]
     obtain ⟨n, d, a1, a2, a3, a4, a5, a6⟩ := phaseA G (ms.length - g) g r (eatC c R row) rfl hg2 hon2 (by rw [htt]; exact hi) hr (by
      rw [htt]
      cases e : popsN ms (shortAt row c.tints.length) (ms.length - g) g with
      | false => rfl
      | true =>
       have := pops_more (g := ms.length - (k + 1)) (by omega) e
       rw [show (some g).getD 0 = g from rfl] at hp
       rw [this] at hp; cases hp)
     have := tri_mono (a := ms.length - g) (b := w + 1) (by omega)
     exact ⟨n + 1, d, ⟨R, by rw [htop]; exact h1, h2, a1⟩, a2, by rw [a3, htt], a4, by omega, by omega⟩
    ·have hpu : R.deed = "push" := by
      rcases hgo with z | z
      ·exact z
      ·exact absurd z hin
     have hon2 : (eatC c R row).on = (r ++ [k]) ++ [g] := by show deedM c.on R.deed R.goal = _; rw [hon, eg, deed_push hpu]
     have hnp := (G.np _ (G.short c.tints.length)).push k R hk hia hpu
     rw [eg] at hnp
     obtain ⟨n, d, a1, a2, a3, a4, a5, a6⟩ := phaseA G (ms.length - g) g (r ++ [k]) (eatC c R row) rfl hg2 hon2 (by rw [htt]; exact hi) (fun x hx => by
      rcases List.mem_append.mp hx with hx | hx
      ·exact hr x hx
      ·rw [List.mem_singleton.mp hx]; exact hk) (by rw [htt]; exact hnp)
     have h3 := tri_mono (a := ms.length - g) (b := w) (by omega)
     rw [wsum_app, wsum_one] at a6
     refine ⟨n + 1, d, ⟨R, by rw [htop]; exact h1, h2, a1⟩, a2, by rw [a3, htt], a4, by omega, ?_⟩
     rw [tri]
     omega
  ·refine ⟨0, c, rfl, hid, rfl, hok, by omega, ?_⟩
   rw [hon, wsum_app, wsum_one, ← hw, tri]
   omega
termination_by w => w
theorem phaseB {ms : List ModeM} {row : Str} (G : Good ms row) : ∀ (W : Nat) (c : Cfg), wsum ms.length c.on = W -> OnOk ms c.on -> c.tints.length <= row.length ->
  ∃ n d, Still ms row n c d /\ ¬ idleC ms row d /\ d.tints = c.tints /\ OnOk ms d.on /\ n + wsum ms.length d.on <= W + 14 /\ wsum ms.length d.on <= max W 4 + 6 := by
 intro W
 induction W using Nat.strongRecOn with
 | ind W ih =>
  intro c hW hok hi
  by_cases hid : idleC ms row c
  ·obtain ⟨R, h1, h2⟩ := id hid
   obtain ⟨r, hon⟩ := split_last hok.1
   have hk : topN c.on < ms.length := hok.2 _ (top_mem hok.1)
   obtain ⟨m, hm, hR, hs, hf⟩ := G.rule hk h1
   have hia := G.idle hk hi h1 h2
   have htt := eatC_tints (c := c) (row := row) hs h2
   have hmm := List.mem_of_getElem? hm
   have hok2 : OnOk ms (eatC c R row).on := hok.deed G.g hmm hR
   have h4 := G.four
   generalize hkk : topN c.on = k at h1 hk hm hia hon
   have hWs : wsum ms.length r + (ms.length - k) = W := by rw [← hW, hon, wsum_app, wsum_one]
   have hrr : ∀ x ∈ r, x < ms.length := fun x hx => hok.2 x (by rw [hon]; exact List.mem_append_left _ hx)
   have t3 : tri 3 = 6 := rfl
   have t4 : tri 4 = 10 := rfl
   by_cases hpop : R.deed = "pop"
   ·by_cases hr : r = []
    ·have hon2 : (eatC c R row).on = [] ++ [0] := by show deedM c.on R.deed R.goal = _; rw [hon, hr]; exact deed_pop1 hpop
     obtain ⟨n, d, a1, a2, a3, a4, a5, a6⟩ := phaseA G (ms.length - 0) 0 [] (eatC c R row) rfl G.g.pos hon2 (by rw [htt]; exact hi) (by simp) (by rw [htt]; exact (G.np _ (G.short _)).start)
     have := tri_mono (a := ms.length - 0) (b := 4) (by omega)
     have e0 : wsum ms.length ([] : List Nat) = 0 := rfl
     refine ⟨n + 1, d, ⟨R, by rw [hkk]; exact h1, h2, a1⟩, a2, by rw [a3, htt], a4, by omega, by omega⟩
    ·have hon2 : (eatC c R row).on = r := by show deedM c.on R.deed R.goal = _; rw [hon]; exact deed_pop hpop hr
     obtain ⟨n, d, a1, a2, a3, a4, a5, a6⟩ := ih (wsum ms.length r) (by omega) (eatC c R row) (by rw [hon2]) hok2 (by rw [htt]; exact hi)
     refine ⟨n + 1, d, ⟨R, by rw [hkk]; exact h1, h2, a1⟩, a2, by rw [a3, htt], a4, by omega, by omega⟩
   ·obtain ⟨hgo, g, eg, hg1, hg2⟩ : going R.deed /\ ∃ g, R.goal = some g /\ k < g /\ g < ms.length := by
     rcases G.up k m hm R hR h2 with z | z
     ·exact absurd z hpop
     ·exact z
    by_cases hin : R.deed = "into"
    ·have hon2 : (eatC c R row).on = r ++ [g] := by show deedM c.on R.deed R.goal = _; rw [hon, eg, deed_into hin]
     have hW2 : wsum ms.length (eatC c R row).on = wsum ms.length r + (ms.length - g) := by rw [hon2, wsum_app, wsum_one]
     obtain ⟨n, d, a1, a2, a3, a4, a5, a6⟩ := ih _ (by omega) (eatC c R row) hW2 hok2 (by rw [htt]; exact hi)
     refine ⟨n + 1, d, ⟨R, by rw [hkk]; exact h1, h2, a1⟩, a2, by rw [a3, htt], a4, by omega, by omega⟩
    ·have hpu : R.deed = "push" := by
      rcases hgo with z | z
      ·exact z
      ·exact absurd z hin
     have hon2 : (eatC c R row).on = c.on ++ [g] := by show deedM c.on R.deed R.goal = _; rw [eg, deed_push hpu]
     have hnp := (G.np _ (G.short c.tints.length)).push k R hk hia hpu
     rw [eg] at hnp
     obtain ⟨n, d, a1, a2, a3, a4, a5, a6⟩ := phaseA G (ms.length - g) g c.on (eatC c R row) rfl hg2 hon2 (by rw [htt]; exact hi) hok.2 (by rw [htt]; exact hnp)
     have := tri_mono (a := ms.length - g) (b := 3) (by omega)
     refine ⟨n + 1, d, ⟨R, by rw [hkk]; exact h1, h2, a1⟩, a2, by rw [a3, htt], a4, by omega, by omega⟩
  ·exact ⟨0, c, rfl, hid, rfl, hok, by omega, by omega⟩
theorem wsum_deed {ms : List ModeM} (G : GoodMs ms) {on : List Nat} (h : OnOk ms on) {d : Str} {g : Option Nat} : wsum ms.length (deedM on d g) <= wsum ms.length on + ms.length := by
 obtain ⟨r, hr⟩ := split_last h.1
 have hk : topN on < ms.length := h.2 _ (top_mem h.1)
 generalize topN on = k at hr hk
 subst hr
 unfold deedM
 split
 ·rw [wsum_app, wsum_one]; omega
 ·split
  ·rw [List.dropLast_concat, wsum_app, wsum_app, wsum_one, wsum_one]; omega
  ·split
   ·split
    ·rw [wsum_one]; omega
    ·rw [List.dropLast_concat, wsum_app]; omega
   ·omega
theorem runs {ms : List ModeM} {row : Str} (G : Good ms row) : ∀ (D : Nat) (c : Cfg), row.length - c.tints.length = D -> OnOk ms c.on -> c.tints.length <= row.length ->
  ∃ n d, goN ms row n c = some d /\ d.tints.length = row.length /\ OnOk ms d.on /\ n + wsum ms.length d.on <= wsum ms.length c.on + 19 * D + 14 /\ wsum ms.length d.on <= max (wsum ms.length c.on) 4 + 10 * D + 6 := by
 intro D
 induction D using Nat.strongRecOn with
 | ind D ih =>
  intro c hD hok hi
  obtain ⟨n1, c1, a1, a2, a3, a4, a5, a6⟩ := phaseB G _ c rfl hok hi
  have hi1 : c1.tints.length <= row.length := by rw [a3]; exact hi
  have h4 := G.four
  have hk : topN c1.on < ms.length := a4.2 _ (top_mem a4.1)
  cases hr : ruleM (rulesAt ms (topN c1.on)) row c1.tints.length with
  | none =>
   by_cases hlt : c1.tints.length < row.length
   ·have hst : stepG ms row c1 = some ⟨c1.on, c1.tints ++ [colourAt ms (topN c1.on)], c1.marks⟩ := by
     rw [stepG, hr]
     show (if c1.tints.length < row.length then _ else _) = _
     rw [if_pos hlt]
    have hl2 : (c1.tints ++ [colourAt ms (topN c1.on)]).length = c1.tints.length + 1 := by simp
    obtain ⟨n2, d, b1, b2, b3, b4, b5⟩ := ih (row.length - (c1.tints.length + 1)) (by rw [a3] at hlt ⊢; omega) ⟨c1.on, c1.tints ++ [colourAt ms (topN c1.on)], c1.marks⟩ (by show row.length - (c1.tints ++ [colourAt ms (topN c1.on)]).length = _; rw [hl2]) a4 (by show (c1.tints ++ [colourAt ms (topN c1.on)]).length <= _; rw [hl2]; omega)
    have b4 : n2 + wsum ms.length d.on <= wsum ms.length c1.on + 19 * (row.length - (c1.tints.length + 1)) + 14 := b4
    have b5 : wsum ms.length d.on <= max (wsum ms.length c1.on) 4 + 10 * (row.length - (c1.tints.length + 1)) + 6 := b5
    rw [a3] at hlt b4 b5
    exact ⟨n1 + (n2 + 1), d, a1.go (goN_step hst b1), b2, b3, by omega, by omega⟩
   ·have hst : stepG ms row c1 = none := by
     rw [stepG, hr]
     show (if c1.tints.length < row.length then _ else _) = _
     rw [if_neg hlt]
    exact ⟨n1 + 0, c1, a1.go (goN_end hst), by omega, a4, by omega, by omega⟩
  | some R =>
   obtain ⟨m, hm, hR, hs, hf⟩ := G.rule hk hr
   have hmm := List.mem_of_getElem? hm
   have he : eatsB R.sort = true := by
    cases e : eatsB R.sort with
    | true => rfl
    | false => exact absurd ⟨R, hr, e⟩ a2
   have hst : stepG ms row c1 = some (eatC c1 R row) := by rw [stepG, hr]
   have e1 := eat_pos (i := c1.tints.length) hs he (G.sg m hmm R hR) hf
   have e2 := eat_le (R := R) (row := row) (i := c1.tints.length) hs hi1
   have hl2 : (eatC c1 R row).tints.length = c1.tints.length + eatN R row c1.tints.length := by
    show (c1.tints ++ List.replicate _ _).length = _
    rw [List.length_append, List.length_replicate]
   have hw : wsum ms.length (eatC c1 R row).on <= wsum ms.length c1.on + ms.length := wsum_deed G.g a4
   obtain ⟨n2, d, b1, b2, b3, b4, b5⟩ := ih (row.length - (eatC c1 R row).tints.length) (by rw [hl2]; rw [a3] at e1 e2 ⊢; omega) (eatC c1 R row) rfl (a4.deed G.g hmm hR) (by rw [hl2]; exact e2)
   rw [hl2] at b4 b5
   rw [a3] at e1 e2 b4 b5
   exact ⟨n1 + (n2 + 1), d, a1.go (goN_step hst b1), b2, b3, by omega, by omega⟩
def GM (H : Hp) (lk : Addr) (mk : List (Nat × Str)) : Prop := ∃ ps, H lk = some (.lst (ps.map V.ref)) /\ All2 (fun p m => H p = some (.tup [natV m.1, .str m.2])) ps mk
theorem GM.same {H H' : Hp} {lk : Addr} {mk : List (Nat × Str)} (h : GM H lk mk) (s : Same H H') : GM H' lk mk := let ⟨ps, a, b⟩ := h; ⟨ps, s _ _ a, b.mono fun _ _ e => s _ _ e⟩
theorem GM.updL {H : Hp} {lk l : Addr} {mk : List (Nat × Str)} {xs : List V} {o : HO} (h : GM H lk mk) (hl : H l = some (.lst xs)) (hn : lk ≠ l) : GM (upd H l o) lk mk := by
 obtain ⟨ps, a, b⟩ := h
 exact ⟨ps, by rw [upd_ne hn]; exact a, b.mono fun p m e => by rw [upd_ne (ne_of e hl (by intro z; cases z))]; exact e⟩
def GF (H0 H : Hp) (lk : Addr) (mk : List (Nat × Str)) : Prop := ∃ ps : List Addr, H lk = some (.lst (ps.map V.ref)) /\ All2 (fun p m => H p = some (.tup [natV m.1, .str m.2])) ps mk /\ ∀ p ∈ ps, H0 p = none
theorem GF.gm {H0 H : Hp} {lk : Addr} {mk : List (Nat × Str)} (h : GF H0 H lk mk) : GM H lk mk := let ⟨ps, a, b, _⟩ := h; ⟨ps, a, b⟩
theorem GF.same {H0 H H' : Hp} {lk : Addr} {mk : List (Nat × Str)} (h : GF H0 H lk mk) (s : Same H H') : GF H0 H' lk mk := let ⟨ps, a, b, c⟩ := h; ⟨ps, s _ _ a, b.mono fun _ _ e => s _ _ e, c⟩
theorem GF.updL {H0 H : Hp} {lk l : Addr} {mk : List (Nat × Str)} {xs : List V} {o : HO} (h : GF H0 H lk mk) (hl : H l = some (.lst xs)) (hn : lk ≠ l) : GF H0 (upd H l o) lk mk := by
 obtain ⟨ps, a, b, c⟩ := h
 exact ⟨ps, by rw [upd_ne hn]; exact a, b.mono fun p m e => by rw [upd_ne (ne_of e hl (by intro z; cases z))]; exact e, c⟩
structure Told (H : Hp) (tp lt lo lk : Addr) (d : Cfg) : Prop where
 tp : H tp = some (.tup [.ref lt, .ref lo, .ref lk])
 lt : H lt = some (.lst (d.tints.map V.str))
 lo : H lo = some (.lst (d.on.map natV))
 lk : GM H lk d.marks
theorem Told.same {H H' : Hp} {tp lt lo lk : Addr} {d : Cfg} (h : Told H tp lt lo lk d) (s : Same H H') : Told H' tp lt lo lk d := ⟨s _ _ h.tp, s _ _ h.lt, s _ _ h.lo, h.lk.same s⟩
def spGone (t : Adr) : Sp := fun vs H Q _ => ∃ (a lo : Addr) (ms : List ModeM) (on : List Nat) (row : Str) (n : Nat) (d : Cfg), vs = [.ref a, .ref lo, .str row] /\ IsRules t H a ms /\ GoodMs ms /\ H lo = some (.lst (on.map natV)) /\ OnOk ms on /\ row.length <= 1000 /\ on.length <= 50000 /\ n <= 40000 /\ goN ms row n ⟨on, [], []⟩ = some d /\
 ∀ tp lt lo' lk H', Told H' tp lt lo' lk d -> GF H H' lk d.marks -> H lt = none -> H lo' = none -> H lk = none -> lt ≠ lo' -> lt ≠ lk -> lo' ≠ lk -> Same H H' -> Q (.ref tp) H'
theorem rep_flat {α : Type} (x : α) : ∀ n : Nat, (List.replicate n [x]).flatten = List.replicate n x
 | 0 => rfl
 | n + 1 => by rw [List.replicate_succ, List.flatten_cons, rep_flat x n, List.replicate_succ]; rfl
theorem due_eat {R : RuleM} {row : Str} {i : Nat} (h : fitsB R row i = true) : dueV R.sort R.signs row i = natV (eatN R row i) := by
 unfold fitsB at h
 rw [decide_eq_true_eq] at h
 unfold eatN
 have hn : ∀ n : Int, dueV R.sort R.signs row i = .int n -> 0 <= n := by
  intro n
  unfold dueV
  intro e
  repeat' split at e
  all_goals first
   | (have := V.int.inj e; omega)
   | cases e
 rcases dueV_cases R.sort R.signs row i with ⟨n, e⟩ | e
 ·rw [e]
  have := hn n e
  show V.int n = V.int ((n.toNat : Nat) : Int)
  rw [show ((n.toNat : Nat) : Int) = n by omega]
 ·exact absurd e h
theorem ok_q71 (T : Txt K mg t) : FnOk P w K mg base CX0 3 t.f_q71 t.d_q71 ["rules", "modes", "row"] (spGone t) := by
 refine T.F_q71.ok sc_q71 ?_ ?_
 walk_at "i"
 ·obtain ⟨a, lh, ms, on, row, n, d, rfl, hR, G, hlh, hok, hrow, honl, hn, hgo, q⟩ := h
  refine @at_cons _ _ _ _ _ _ _ (ps_set (i := 3) sc_q71.nd rfl (Or.inl rfl) (pe_callTy call_list_of (by rfl) T.z_list (by decide +kernel) (pa_cons (pv 1) pa_nil))) ⟨_, rfl, lh, _, rfl, .inl (SqL.of hlh), fun lo hlo => ?_⟩
  have s1 : Same H (upd H lo (.lst (on.map natV))) := Same.upd hlo
  have ho1 : upd H lo (.lst (on.map natV)) lo = some (.lst (on.map natV)) := upd_same
  generalize upd H lo (.lst (on.map natV)) = H1 at s1 ho1
  refine @at_cons _ _ _ _ _ _ _ (ps_set (i := 4) sc_q71.nd rfl (Or.inl rfl) (pe_lst pa_nil)) ⟨by show 0 <= sizeLine; decide, fun lt hlt => ?_⟩
  have s2 : Same H1 (upd H1 lt (.lst [])) := Same.upd hlt
  have ht2 : upd H1 lt (.lst []) lt = some (.lst []) := upd_same
  have ho2 := s2 _ _ ho1
  have not_ : lo ≠ lt := ne_of_none ho1 hlt
  have hlt0 : H lt = none := s1.free hlt
  generalize upd H1 lt (.lst []) = H2 at s2 ht2 ho2
  have s2 := s1.trans s2
  refine @at_cons _ _ _ _ _ _ _ (ps_set (i := 5) sc_q71.nd rfl (Or.inl rfl) (pe_lst pa_nil)) ⟨by show 0 <= sizeLine; decide, fun lk hlk => ?_⟩
  have s3 : Same H2 (upd H2 lk (.lst [])) := Same.upd hlk
  have hk3 : upd H2 lk (.lst []) lk = some (.lst []) := upd_same
  have ho3 := s3 _ _ ho2
  have ht3 := s3 _ _ ht2
  have nok : lo ≠ lk := ne_of_none ho2 hlk
  have ntk : lt ≠ lk := ne_of_none ht2 hlk
  have hlk0 : H lk = none := s2.free hlk
  generalize upd H2 lk (.lst []) = H3 at s3 hk3 ho3 ht3
  have s3 := s2.trans s3
  show At _ _ _ [some (.ref a), some (.ref lh), some (.str row), some (.ref lo), some (.ref lt), some (.ref lk), none, none, none, none] H3
  refine @at_one _ _ _ _ _ _ (ps_while PassesOwn.never (pt_val pe_bl) pss_at) ⟨fun m Z' H' => ∃ c : Cfg, (∃ x6 x7 x8 x9, Z' = [some (.ref a), some (.ref lh), some (.str row), some (.ref lo), some (.ref lt), some (.ref lk), x6, x7, x8, x9]) /\ H' lo = some (.lst (c.on.map natV)) /\ H' lt = some (.lst (c.tints.map V.str)) /\ GF H H' lk c.marks /\ OnOk ms c.on /\ c.tints.length <= row.length /\ c.on.length + m <= on.length + n /\ c.marks.length + m <= n /\ goN ms row m c = some d /\ Same H H', ⟨n, ⟨on, [], []⟩, ⟨_, _, _, _, rfl⟩, ho3, ht3, ⟨[], hk3, All2.nil, by simp⟩, hok, Nat.zero_le _, Nat.le_refl _, by simp, hgo, s3⟩, ?_⟩
  rintro m Z' H4 ⟨c, ⟨x6, x7, x8, x9, rfl⟩, ho4, ht4, hk4, hok4, htl4, hol4, hml4, hgo4, s4⟩
  refine ⟨true, rfl, iteT ⟨_, fun Z' H' z => z, ?_⟩⟩
  refine @at_cons _ _ _ _ _ _ _ (ps_set (i := 6) sc_q71.nd rfl (Or.inl rfl) (pe_callB call_len_seq (by rfl) T.z_len (by decide +kernel) (pa_cons (pv 4) pa_nil))) ⟨_, rfl, _, _, rfl, .inl (SqL.of ht4), ?_⟩
  rw [List.length_map]
  show At _ _ _ [some (.ref a), some (.ref lh), some (.str row), some (.ref lo), some (.ref lt), some (.ref lk), some (.int c.tints.length), x7, x8, x9] H4
  obtain ⟨md, hm⟩ := hok4.mode
  have hmm := List.mem_of_getElem? hm
  obtain ⟨dx, lm, as, b, lr, dm, rs, ha, hlm, hal, hb, hmo, hlr, hA⟩ := (hR.same s4).mode hm
  have hru : rulesAt ms (topN c.on) = md.rules := by rw [rulesAt, hm]
  refine @at_cons _ _ _ _ _ _ _ (ps_set (i := 7) sc_q71.nd rfl (Or.inl rfl) (pe_ix ix_list (pe_fld (pv 0) rfl) (pe_ix ix_list (pv 3) (pe_un un_neg pe_int) (fun _ _ => rfl)) (fun _ _ => rfl))) (⟨_, rfl, _, _, _, _, _, rfl, ha, T.cl_Rules, T.n_Rules_modes, rfl, ⟨_, rfl, _, rfl, _, _, _, _, rfl, rfl, SqL.of ho4, at_natlast (top_last hok4.1), _, _, _, _, rfl, rfl, SqL.of hlm, at_ref hb, ?_⟩⟩)
  refine @at_cons _ _ _ _ _ _ _ (ps_set (i := 8) sc_q71.nd rfl (Or.inl rfl) (pe_call (ok_q70 T) (hr.mono (by decide)) rfl T.mg_q70 T.F_q70.kp (T.F_q70.binds (by walk_at "4")) .nil pass0 (pa_cons (pv 0) (pa_cons (pe_ix ix_list (pv 3) (pe_un un_neg pe_int) (fun _ _ => rfl)) (pa_cons (pv 2) (pa_cons (pv 6) pa_nil)))))) ⟨_, rfl, _, rfl, _, rfl, _, _, _, _, rfl, rfl, SqL.of ho4, at_natlast (top_last hok4.1), _, rfl, _, rfl, a, ms, md, topN c.on, c.tints.length, row, rfl, hR.same s4, hm, G.ok md hmm, hrow, htl4, fun H5 s5 => ?_⟩
  have ho5 := s5 _ _ ho4
  have ht5 := s5 _ _ ht4
  have hk5 := hk4.same s5
  have s5' := s4.trans s5
  cases hf : firstM md.rules row c.tints.length with
  | none =>
   have hrn : ruleM (rulesAt ms (topN c.on)) row c.tints.length = none := by rw [hru, ruleM, hf]; rfl
   refine @at_one _ _ _ _ _ _ (ps_if (pt_cmpR op_notN (pv 8) pe_non (nomark _)) pss_at pss_at) ⟨_, rfl, rfl, _, rfl, ifnd (fun h => absurd rfl h) (fun _ => ?_)⟩
   refine @at_one _ _ _ _ _ _ (ps_if (pt_cmpR op_lt (pv 6) (pe_callB call_len_str (by rfl) T.z_len (by decide +kernel) (pa_cons (pv 2) pa_nil)) (nomark _)) pss_at pss_at) ⟨_, rfl, _, rfl, _, rfl, sl_le (by omega), _, _, rfl, rfl, _, rfl, ifd (fun h => ?_) (fun h => ?_)⟩
   ·have hlt' : c.tints.length < row.length := by omega
    have hst : stepG ms row c = some ⟨c.on, c.tints ++ [colourAt ms (topN c.on)], c.marks⟩ := by
     rw [stepG, hrn]
     show (if c.tints.length < row.length then _ else _) = _
     rw [if_pos hlt']
    have ecol : colourAt ms (topN c.on) = md.colour := by rw [colourAt, hm]
    refine @at_one _ _ _ _ _ _ (ps_expr (pe_bm F.plainAttrs_list F.slot_list_append F.type_list_append mt_append (pv 4) (pa_cons (pe_fld (pv 7) rfl) pa_nil))) ⟨_, rfl, .inl ⟨rfl, _, SqL.of ht5⟩, ⟨_, rfl, _, _, _, _, _, rfl, (s5 _ _ hmo), T.cl_Mode, T.n_Mode_colour, rfl, ⟨lt, _, _, rfl, rfl, ht5, sl_lt (by rw [List.length_map]; omega), ?_⟩⟩⟩
    obtain ⟨m', rfl⟩ : ∃ m', m = m' + 1 := by
     cases m with
     | zero => rw [goN, hst] at hgo4; cases hgo4
     | succ m' => exact ⟨m', rfl⟩
    rw [goN, hst] at hgo4
    refine ⟨m', by omega, ⟨c.on, c.tints ++ [colourAt ms (topN c.on)], c.marks⟩, ⟨_, _, _, _, rfl⟩, ?_, ?_, hk5.updL ht5 (Ne.symm ntk), hok4, ?_, ?_, ?_, hgo4, ?_⟩
    ·rw [upd_ne not_]; exact ho5
    ·rw [upd_same]
     show _ = some (HO.lst ((c.tints ++ [colourAt ms (topN c.on)]).map V.str))
     rw [List.map_append, ecol]
     rfl
    ·show (c.tints ++ [colourAt ms (topN c.on)]).length <= _
     rw [List.length_append, List.length_cons, List.length_nil]
     omega
    ·show c.on.length + m' <= _; omega
    ·show c.marks.length + m' <= _; omega
    ·intro b o hb
     rw [upd_ne (ne_of_none hb hlt0)]
     exact s5' _ _ hb
   ·have hst : stepG ms row c = none := by
     rw [stepG, hrn]
     show (if c.tints.length < row.length then _ else _) = _
     rw [if_neg (by omega)]
    have hd : d = c := by
     rw [goN_end hst] at hgo4
     exact (Option.some.inj hgo4).symm
    subst hd
    refine @at_one _ _ _ _ _ _ (ps_ret (pe_tup (pa_cons (pv 4) (pa_cons (pv 3) (pa_cons (pv 5) pa_nil))))) ⟨_, rfl, _, rfl, _, rfl, by show 3 <= sizeLine; decide, fun tp htp => ?_⟩
    refine q tp lt lo lk _ ⟨upd_same, ?_, ?_, (hk5.same (Same.upd htp)).gm⟩ (hk5.same (Same.upd htp)) hlt0 hlo hlk0 (Ne.symm not_) ntk nok (s5'.to htp)
    ·exact Same.upd htp _ _ ht5
    ·exact Same.upd htp _ _ ho5
  | some j =>
   obtain ⟨R, hj, hruR, hfit⟩ := first_at hf
   have hRm := List.mem_of_getElem? hj
   obtain ⟨g1, g2⟩ := (G.ok md hmm).2 R hRm
   obtain ⟨r, hr0, hr1⟩ := hA.at hj
   obtain ⟨fe, fs, de, ds, PK⟩ := patK (P := P) (w := w) (base := base) T g1
   have hst : stepG ms row c = some (eatC c R row) := by rw [stepG, hru, hruR]
   obtain ⟨m', rfl⟩ : ∃ m', m = m' + 1 := by
    cases m with
    | zero => rw [goN, hst] at hgo4; cases hgo4
    | succ m' => exact ⟨m', rfl⟩
   rw [goN, hst] at hgo4
   have hr5 := hr1.same s5
   have hel := eat_le (R := R) (row := row) g1 htl4
   refine @at_one _ _ _ _ _ _ (ps_if (pt_cmpR op_notN (pv 8) pe_non (nomark _)) pss_at pss_at) ⟨_, rfl, rfl, _, rfl, ifnd (fun _ => ?_) (fun h => by cases h)⟩
   refine @at_cons _ _ _ _ _ _ _ (ps_set (i := 9) sc_q71.nd rfl (Or.inl rfl) (pe_ix ix_list (pe_fld (pv 7) rfl) (pv 8) (fun _ _ => rfl))) (⟨_, rfl, _, _, _, _, _, rfl, (s5 _ _ hmo), T.cl_Mode, T.n_Mode_rules, rfl, ⟨_, rfl, _, _, _, _, rfl, rfl, SqL.of (s5 _ _ hlr), at_ref hr0, ?_⟩⟩)
   obtain ⟨dr, pa, o1, dp, o2⟩ := id hr5
   refine @at_cons _ _ _ _ _ _ _ (ps_expr (pe_bm F.plainAttrs_list F.slot_list_extend F.type_list_extend mt_extend (pv 4) (pa_cons (pe_op op_rep (pe_lst (pa_cons (pe_fld (pv 9) rfl) pa_nil)) (pe_meth (pe_fld (pv 9) rfl) PK.cl PK.me PK.ge (hr.mono (by decide)) PK.be .nil pass0 (pa_cons (pv 2) (pa_cons (pv 6) pa_nil)))) pa_nil))) ⟨_, rfl, .inl ⟨rfl, _, SqL.of ht5⟩, ⟨_, rfl, _, _, _, _, _, rfl, o1, T.cl_Rule, T.n_Rule_colour, rfl, ⟨by show 1 <= sizeLine; decide, fun l1 hl1 => ?_⟩⟩⟩
   have s6 : Same H5 (upd H5 l1 (.lst [.str R.colour])) := Same.upd hl1
   have hl6 : upd H5 l1 (.lst [.str R.colour]) l1 = some (.lst [.str R.colour]) := upd_same
   generalize upd H5 l1 (.lst [.str R.colour]) = H6 at s6 hl6
   refine ⟨_, rfl, _, _, _, _, _, rfl, (s6 _ _ o1), T.cl_Rule, T.n_Rule_pattern, rfl, ⟨pa, dp, _, rfl, s6 _ _ o2, PK.ne _, _, rfl, _, rfl, pa, dp, R.signs, row, c.tints.length, rfl, s6 _ _ o2, by omega, hrow, htl4, ?_⟩⟩
   rw [due_eat hfit]
   refine ⟨l1, _, _, rfl, rfl, hl6, by omega, by omega, by rw [Int.toNat_natCast]; exact sl_le (by simp only [List.length_cons, List.length_nil]; omega), fun l2 hl2 => ?_⟩
   rw [Int.toNat_natCast, rep_flat]
   have s7 : Same H5 (upd H6 l2 (.lst (List.replicate (eatN R row c.tints.length) (V.str R.colour)))) := s6.to hl2
   have hl7 : upd H6 l2 (.lst (List.replicate (eatN R row c.tints.length) (V.str R.colour))) l2 = some (.lst (List.replicate (eatN R row c.tints.length) (V.str R.colour))) := upd_same
   generalize upd H6 l2 (.lst (List.replicate (eatN R row c.tints.length) (V.str R.colour))) = H7 at s7 hl7
   have ht7 := s7 _ _ ht5
   have ho7 := s7 _ _ ho5
   have hk7 := hk5.same s7
   refine ⟨lt, l2, _, _, rfl, rfl, ht7, hl7, sl_le (by rw [List.length_map, List.length_replicate]; omega), ?_⟩
   have ht8 : upd H7 lt (.lst (c.tints.map V.str ++ List.replicate (eatN R row c.tints.length) (V.str R.colour))) lt = some (.lst ((eatC c R row).tints.map V.str)) := by
    rw [upd_same]
    show _ = some (HO.lst ((c.tints ++ List.replicate (eatN R row c.tints.length) R.colour).map V.str))
    rw [List.map_append, List.map_replicate]
   have ho8 : upd H7 lt (.lst (c.tints.map V.str ++ List.replicate (eatN R row c.tints.length) (V.str R.colour))) lo = some (.lst (c.on.map natV)) := by rw [upd_ne not_]; exact ho7
   have hk8 : GF H (upd H7 lt (.lst (c.tints.map V.str ++ List.replicate (eatN R row c.tints.length) (V.str R.colour)))) lk c.marks := hk7.updL ht7 (Ne.symm ntk)
   have hr8 : IsRule t (upd H7 lt (.lst (c.tints.map V.str ++ List.replicate (eatN R row c.tints.length) (V.str R.colour)))) r R := (hr5.same s7).updL ht7
   have s8 : Same H (upd H7 lt (.lst (c.tints.map V.str ++ List.replicate (eatN R row c.tints.length) (V.str R.colour)))) := fun b o hb => by rw [upd_ne (ne_of_none hb hlt0)]; exact s7 _ _ (s5' _ _ hb)
   generalize upd H7 lt (.lst (c.tints.map V.str ++ List.replicate (eatN R row c.tints.length) (V.str R.colour))) = H8 at ht8 ho8 hk8 hr8 s8
   refine @at_consR _ _ _ _ _ _ _ (fun Z' H' => (∃ x7 x8, Z' = [some (.ref a), some (.ref lh), some (.str row), some (.ref lo), some (.ref lt), some (.ref lk), some (.int c.tints.length), x7, x8, some (.ref r)]) /\ H' lo = some (.lst (c.on.map natV)) /\ H' lt = some (.lst ((eatC c R row).tints.map V.str)) /\ GF H H' lk (eatC c R row).marks /\ IsRule t H' r R /\ Same H H') (ps_if (pt_cmpR op_ne (pe_fld (pv 9) rfl) pe_str (nomark _)) pss_at pss_at) ?_ ?_
   ·obtain ⟨dr8, pa8, o8, p8⟩ := id hr8
    refine ⟨_, rfl, _, _, _, _, _, rfl, o8, T.cl_Rule, T.n_Rule_fold, rfl, ⟨rfl, _, rfl, ifnd (fun h => ?_) (fun h => at_nil ⟨⟨_, _, rfl⟩, ho8, ht8, ?_, hr8, s8⟩)⟩⟩
    ·have h : R.fold ≠ "" := fun z => h (by rw [z])
     obtain ⟨ps, hps, hAp, hfr⟩ := hk8
     refine @at_one _ _ _ _ _ _ (ps_expr (pe_bm F.plainAttrs_list F.slot_list_append F.type_list_append mt_append (pv 5) (pa_cons (pe_tup (pa_cons (pv 6) (pa_cons (pe_fld (pv 9) rfl) pa_nil))) pa_nil))) ⟨_, rfl, .inl ⟨rfl, _, SqL.of hps⟩, _, rfl, ⟨_, rfl, _, _, _, _, _, rfl, o8, T.cl_Rule, T.n_Rule_fold, rfl, ⟨by show 2 <= sizeLine; decide, fun tp htp => ?_⟩⟩⟩
     have s9 : Same H8 (upd H8 tp (.tup [.int c.tints.length, .str R.fold])) := Same.upd htp
     have hp9 : upd H8 tp (.tup [.int c.tints.length, .str R.fold]) tp = some (.tup [.int c.tints.length, .str R.fold]) := upd_same
     generalize upd H8 tp (.tup [.int c.tints.length, .str R.fold]) = H9 at s9 hp9
     have hps9 := s9 _ _ hps
     have hpl : ps.length <= 100000 := by rw [hAp.1]; omega
     refine ⟨lk, _, _, rfl, rfl, hps9, sl_lt (by rw [List.length_map]; omega), ⟨_, _, rfl⟩, ?_, ?_, ?_, ?_, ?_⟩
     ·rw [upd_ne nok]; exact s9 _ _ ho8
     ·rw [upd_ne ntk]; exact s9 _ _ ht8
     ·have em : (eatC c R row).marks = c.marks ++ [(c.tints.length, R.fold)] := if_neg h
      rw [em]
      refine ⟨ps ++ [tp], by rw [upd_same, List.map_append]; rfl, All2.snoc (hAp.mono fun p m e => ?_) ?_, fun p hp => ?_⟩
      ·rw [upd_ne (ne_of (s9 _ _ e) hps9 (by intro z; cases z))]; exact s9 _ _ e
      ·rw [upd_ne (ne_of hp9 hps9 (by intro z; cases z))]; exact hp9
      ·rcases List.mem_append.mp hp with hp | hp
       ·exact hfr p hp
       ·rw [List.mem_singleton.mp hp]; exact s8.free htp
     ·exact (hr8.same s9).updL hps9
     ·intro b o hb
      rw [upd_ne (ne_of_none hb hlk0)]
      exact s9 _ _ (s8 _ _ hb)
    ·have h : R.fold = "" := V.str.inj h
     have em : (eatC c R row).marks = c.marks := if_pos h
     rw [em]
     exact hk8
   rintro Z' H9 ⟨⟨y7, y8, rfl⟩, ho9, ht9, hk9, hr9, s9⟩
   refine @at_one _ _ _ _ _ _ (ps_expr (pe_call (ok_q69 T) (hr.mono (by decide)) rfl T.mg_q69 T.F_q69.kp (T.F_q69.binds (by walk_at "2")) .nil pass0 (pa_cons (pv 3) (pa_cons (pv 9) pa_nil)))) ⟨_, rfl, _, rfl, lo, r, c.on, R, rfl, ho9, hr9, hok4.1, by omega, G.gd hmm hRm, ?_⟩
   have hdl := deed_len (on := c.on) (d := R.deed) (g := R.goal)
   refine ⟨m', by omega, eatC c R row, ⟨_, _, _, _, rfl⟩, upd_same, ?_, hk9.updL ho9 (Ne.symm nok), hok4.deed G hmm hRm, ?_, ?_, ?_, hgo4, ?_⟩
   ·rw [upd_ne (Ne.symm not_)]; exact ht9
   ·show (c.tints ++ List.replicate _ _).length <= _
    rw [List.length_append, List.length_replicate]
    exact hel
   ·show (deedM c.on R.deed R.goal).length + m' <= _
    omega
   ·show (if R.fold = "" then c.marks else c.marks ++ [(c.tints.length, R.fold)]).length + m' <= _
    split
    ·omega
    ·rw [List.length_append, List.length_cons, List.length_nil]; omega
   ·intro b o hb
    rw [upd_ne (ne_of_none hb hlo)]
    exact s9 _ _ hb
theorem join_eq (sep : Str) (ys : List Str) : PySem.Txt.join sep ys = Str.join sep ys := eq_of_beq (PyProof.Rows.join_plain_closes sep ys)
theorem pick {xs : List Str} {d : Int} (h0 : 0 <= d) (h1 : d < xs.length) : ∃ x ∈ xs, atI (xs.map V.str) d = some (.str x) := by
 obtain ⟨v, e1, e2⟩ := atI_in (xs.map V.str) h0 (by rw [List.length_map]; exact h1)
 rw [List.getElem?_map] at e1
 obtain ⟨x, e3, rfl⟩ := Option.map_eq_some_iff.mp e1
 exact ⟨x, List.mem_of_getElem? e3, e2⟩
theorem ifeq {b c : Bool} {A B : Prop} (h : b = c) (k : if c = true then A else B) : if b = true then A else B := by rw [h]; exact k
theorem join_signs : ∀ (cs : List Nat), (Str.join "" (cs.map fun c => (⟨#[c]⟩ : Str))).cps.toList = cs
 | [] => by decide +kernel
 | [c] => rfl
 | c :: d :: r => by
  have ih := join_signs (d :: r)
  show ((⟨#[c]⟩ : Str) ++ "" ++ Str.join "" ((d :: r).map fun c => (⟨#[c]⟩ : Str))).cps.toList = _
  rw [cps_app, cps_app, ih, show (Str.ofString "").cps.toList = [] from by decide +kernel]
  rfl
theorem signs_sum : ∀ (cs : List Nat), ((cs.map fun c => (⟨#[c]⟩ : Str)).map (·.length)).sum = cs.length
 | [] => rfl
 | c :: r => by
  rw [List.map_cons, List.map_cons, List.sum_cons, signs_sum r, List.length_cons]
  show 1 + _ = _
  omega
def spDraw (K : PySem.W.Frag) : Sp := fun vs H Q _ => ∃ (a : Addr) (ns : List Int) (k m : Int), vs = [.ref a, .int k, .int m] /\ SqL K H a (ns.map V.int) /\ 0 <= k /\ k <= 100000 /\ 0 < m /\ ns.length <= 63 /\
 ∀ d H', 0 <= d -> d < m -> Same H H' -> Q (.int d) H'
theorem ok_q51 (T : Txt K mg t) : FnOk P w K mg base CX0 1 t.f_q51 t.d_q51 ["_law_script", "_law_k", "_law_many"] (spDraw K) := by
 refine T.F_q51.ok sc_q51 ?_ ?_
 walk_at "i"
 ·obtain ⟨a, ns, k, m, rfl, hS, hk0, hk1, hm, hl, q⟩ := h
  refine @at_consR _ _ _ _ _ _ _ (fun Z' H' => ∃ c : Int, Z' = [some (.ref a), some (.int k), some (.int m), some (.int c), none, none, none] /\ H' = H) (ps_set (i := 3) sc_q51.nd rfl (Or.inl rfl) (pe_ifExp (pt_cmpR op_gt (pe_callB call_len_seq (by rfl) T.z_len (by decide +kernel) (pa_cons (pv 0) pa_nil)) pe_int (nomark _)) (pe_ix ix_list (pv 0) (pe_op op_mod (pv 1) (pe_callB call_len_seq (by rfl) T.z_len (by decide +kernel) (pa_cons (pv 0) pa_nil))) (fun _ _ => rfl)) pe_int)) ?_ ?_
  ·refine ⟨_, rfl, _, _, rfl, .inl hS, _, _, rfl, rfl, _, rfl, ifd (fun h => ?_) (fun h => ⟨0, rfl, rfl⟩)⟩
   refine ⟨_, rfl, _, rfl, _, rfl, _, _, rfl, .inl hS, _, _, rfl, rfl, h, ?_⟩
   obtain ⟨h1, h2⟩ := emod_rng k h
   obtain ⟨v, e1, e2⟩ := atI_in (ns.map V.int) h1 h2
   rw [List.getElem?_map] at e1
   obtain ⟨c, e3, rfl⟩ := Option.map_eq_some_iff.mp e1
   exact ⟨_, _, _, _, rfl, rfl, hS, e2, c, rfl, rfl⟩
  rintro Z' H' ⟨c, rfl, e⟩
  rw [e]
  clear e H'
  refine @at_cons _ _ _ _ _ _ _ (ps_set (i := 4) sc_q51.nd rfl (Or.inl rfl) (pv 3)) ⟨_, rfl, ?_⟩
  refine @at_consR _ _ _ _ _ _ _ (fun Z' H' => (∃ x y, Z' = [some (.ref a), some (.int k), some (.int m), some (.int c), x, y, none]) /\ H' = H) (ps_if (PW.pt (pw_and (pt_cmpR op_gt (pe_callB call_len_seq (by rfl) T.z_len (by decide +kernel) (pa_cons (pv 0) pa_nil)) pe_int (nomark _)) (pw_and1 (pt_cmpR op_eq (pe_op op_mod (pe_ix ix_list (pv 0) pe_int (fun _ _ => rfl)) pe_int) pe_int (nomark _))))) pss_at pss_at) ?_ ?_
  ·refine ⟨_, rfl, _, _, rfl, .inl hS, _, _, rfl, rfl, _, rfl, ifd (fun h => ?_) (fun h => at_nil ⟨⟨_, _, rfl⟩, rfl⟩)⟩
   obtain ⟨n0, r0, rfl⟩ : ∃ n0 r0, ns = n0 :: r0 := by
    cases ns with
    | nil => simp at h
    | cons x r => exact ⟨x, r, rfl⟩
   refine ⟨_, rfl, _, _, _, _, rfl, rfl, hS, atI_nat (j := 0) rfl, _, _, rfl, rfl, (by show (0 : Int) < 2; decide), rfl, _, rfl, ifd (fun h2 => ?_) (fun h2 => at_nil ⟨⟨_, _, rfl⟩, rfl⟩)⟩
   refine @at_consR _ _ _ _ _ _ _ (fun Z' H' => (∃ (x : Int) (y : Option V), Z' = [some (.ref a), some (.int k), some (.int m), some (.int c), some (.int x), y, none]) /\ H' = H) (ps_forA PassesOwn.never rfl (pi_range1 rfl T.z_range (pa_cons (pe_op op_mod (pe_op op_fdiv (pv 1) (pe_callB call_len_seq (by rfl) T.z_len (by decide +kernel) (pa_cons (pv 0) pa_nil))) pe_int) pa_nil)) (pg_name (i := 5) sc_q51.nd rfl (Or.inl rfl)) pss_at) ?_ ?_
   ·have hd := emod_rng (k / (((n0 :: r0).map V.int).length : Int)) (m := 60) (by decide)
    refine ⟨_, rfl, _, rfl, _, _, rfl, .inl hS, _, _, rfl, rfl, ⟨h, (by rw [List.length_map] at h ⊢; omega)⟩, _, _, rfl, rfl, (by show (0 : Int) < 60; decide), _, rfl, by omega, by omega, forW_range (fun j Z' H' => (∃ (x : Int) (y : Option V), Z' = [some (.ref a), some (.int k), some (.int m), some (.int c), some (.int x), y, none]) /\ H' = H) ⟨⟨_, _, rfl⟩, rfl⟩ ?_ (fun Z' H' z => z)⟩
    rintro j Z' H1 hj ⟨⟨x, y, rfl⟩, e⟩
    rw [e]
    exact @at_one _ _ _ _ _ _ (ps_set (i := 4) sc_q51.nd rfl (Or.inl rfl) (pe_op op_fdiv (pv 4) pe_int)) ⟨_, rfl, _, _, rfl, rfl, ⟨by decide, by decide⟩, ⟨_, _, rfl⟩, rfl⟩
   rintro Z' H' ⟨⟨x, y, rfl⟩, e⟩
   rw [e]
   clear e H'
   refine @at_one _ _ _ _ _ _ (ps_if (pt_cmpR op_gt (pv 4) pe_int (nomark _)) pss_at pss_at) ⟨_, rfl, _, _, rfl, rfl, _, rfl, ifd (fun h3 => ?_) (fun h3 => at_nil ⟨⟨_, _, rfl⟩, rfl⟩)⟩
   have hd := emod_rng (x / 2 % 500009) hm
   exact @at_one _ _ _ _ _ _ (ps_ret (pe_op op_mod (pe_op op_mod (pe_op op_fdiv (pv 4) pe_int) pe_int) (pv 2))) ⟨_, rfl, _, _, rfl, rfl, ⟨by decide, by decide⟩, _, _, rfl, rfl, (by show (0 : Int) < 500009; decide), _, rfl, _, _, rfl, rfl, hm, q _ H hd.1 hd.2 (Same.refl H)⟩
  rintro Z' H' ⟨⟨x, y, rfl⟩, e⟩
  rw [e]
  clear e H'
  refine @at_cons _ _ _ _ _ _ _ (ps_set (i := 6) sc_q51.nd rfl (Or.inl rfl) (pe_op op_add (pe_op op_add (pe_op op_mod (pv 3) pe_int) (pe_op op_mul (pe_op op_mul pe_int (pv 1)) (pv 1))) pe_int)) ?_
  walk_at "rd"
  refine ⟨by decide, .inl ⟨by decide, by decide⟩, .inr ⟨by omega, by omega⟩, ?_⟩
  refine @at_one _ _ _ _ _ _ (ps_ret (pe_op op_mod (pe_op op_mod (pe_op op_mul (pe_op op_mod (pe_op op_mul (pv 6) pe_int) pe_int) pe_int) pe_int) (pv 2))) ?_
  walk_at "rd"
  have hd := emod_rng ((c % 1000003 + 31 * k * k + 1) * 48271 % 999983 * 7919 % 524287) hm
  exact ⟨.inr ⟨by decide, by decide⟩, by decide, .inr ⟨by decide, by decide⟩, by decide, hm, q _ H hd.1 hd.2 (Same.refl H)⟩
abbrev sg6 : List Nat := (Str.ofString "ab()# ").cps.toList
theorem sg6_ok : ∀ c ∈ sg6, c ≠ 95 /\ c ≠ 10 := by decide +kernel
def spSgs (K : PySem.W.Frag) : Sp := fun vs H Q _ => ∃ (a : Addr) (ns : List Int) (b : Int), vs = [.ref a, .int b] /\ SqL K H a (ns.map V.int) /\ ns.length <= 63 /\ 0 <= b /\ b <= 50000 /\
 ∀ (z : Str) H', 1 <= z.length -> z.length <= 3 -> (∀ c ∈ z.cps.toList, c ∈ sg6) -> Same H H' -> Q (.str z) H'
theorem ok_q61 (T : Txt K mg t) : FnOk P w K mg base CX0 2 t.f_q61 t.d_q61 ["_law_script", "_law_base"] (spSgs K) := by
 refine T.F_q61.ok sc_q61 ?_ ?_
 walk_at "i"
 ·obtain ⟨a, ns, b, rfl, hS, hl, hb0, hb1, q⟩ := h
  refine @at_consR _ _ _ _ _ _ _ (fun Z' H' => ∃ z : Nat, 0 < z /\ z <= 3 /\ Z' = [some (.ref a), some (.int b), some (.int z)] /\ Same H H') (ps_set (i := 2) sc_q61.nd rfl (Or.inl rfl) (pe_op op_add pe_int (pe_call (ok_q51 T) (hr.mono (by decide)) rfl T.mg_q51 T.F_q51.kp (T.F_q51.binds (by walk_at "3")) .nil pass0 (pa_cons (pv 0) (pa_cons (pv 1) (pa_cons pe_int pa_nil)))))) ?_ ?_
  ·refine ⟨_, rfl, _, rfl, a, ns, _, _, rfl, hS, (by omega), (by omega), (by decide), hl, fun d H1 h0 h1 s1 => ⟨_, _, rfl, rfl, ?_⟩⟩
   refine ⟨(1 + d).toNat, by omega, by omega, ?_, s1⟩
   rw [show (((1 + d).toNat : Nat) : Int) = 1 + d by omega]
   rfl
  rintro Z' H1 ⟨sz, hz0, hz1, rfl, s1⟩
  refine @at_one _ _ _ _ _ _ (@ps_ret _ _ _ _ (@pe_bm _ _ _ _ _ _ _ _ _ _ _ _ F.plainAttrs_str F.slot_str_join F.type_str_join mt_join pe_str (@pa_cons _ _ _ _ _ (@pe_comp _ (defScope s_q61) _ ["_law_script", "_law_base", "_law_size"] _ _ ("_law_k") _ _ [("_law_script", 0), ("_law_base", 1)] _ _ (by walk_at "ck") (@pi_range1 _ _ _ _ _ _ rfl T.z_range (@pa_cons _ _ _ _ _ (pv 2) pa_nil (by left)) (by left)) (fun _ _ _ _ => by exact (@pe_ix _ _ _ _ _ _ _ ix_str pe_str (@pe_call _ _ _ _ _ _ _ _ _ _ _ _ _ _ _ _ (ok_q51 T) (hr.mono (by decide)) rfl T.mg_q51 T.F_q51.kp (T.F_q51.binds (by walk_at "3")) .nil pass0 (@pa_cons _ _ _ _ _ (pv 0) (@pa_cons _ _ _ _ _ (@pe_op _ _ _ _ _ _ _ _ op_add (@pe_op _ _ _ _ _ _ _ _ op_add (pv 1) pe_int) (pv 2)) (@pa_cons _ _ _ _ _ pe_int pa_nil (by left)) (by left)) (by left)) (by left) (by left) (by left)) (fun _ _ => rfl))) (by left) (by left) (by left) (by left)) pa_nil (by left)) (by left) (by left) (by left) (by left) (by left))) ⟨rfl, _, rfl, _, rfl, by omega, by omega, comp_range (n := ((sz : Nat) : Int).toNat) (fun j ys H2 => ∃ cs : List Nat, ys = (cs.map fun c => (⟨#[c]⟩ : Str)).map V.str /\ (∀ c ∈ cs, c ∈ sg6) /\ Same H H2) ⟨[], rfl, by simp, s1⟩ (sl_lt (by omega)) ?_ ?_⟩
  ·rintro j ys H2 hj hyl ⟨cs, rfl, hz, s2⟩
   refine ⟨_, rfl, _, rfl, _, _, rfl, rfl, _, rfl, _, _, rfl, rfl, a, ns, _, _, rfl, hS.same s2, (by omega), (by omega), (by decide), hl, fun d H3 h0 h1 s3 => ?_⟩
   have l6 : sg6.length = 6 := by decide +kernel
   obtain ⟨c, e1, e2⟩ := atI_in sg6 h0 (by rw [l6]; exact h1)
   refine ⟨_, _, c, rfl, rfl, by decide +kernel, e2, comp_turn hj hyl ⟨cs ++ [c], by simp, ?_, s2.trans s3⟩⟩
   intro x hx
   rcases List.mem_append.mp hx with hx | hx
   ·exact hz x hx
   ·rw [List.mem_singleton.mp hx]; exact List.mem_of_getElem? e1
  ·rintro ys H2 hyl ⟨cs, rfl, hz, s2⟩ D hD
   rw [List.length_map, List.length_map] at hyl
   refine ⟨_, D, _, rfl, rfl, SqL.of upd_same, ?_, ?_⟩
   ·rw [signs_sum, show ("" : Str).length = 0 from by decide]
    omega
   ·rw [join_eq]
    have e : (Str.join (Str.ofString "") (cs.map fun c => (⟨#[c]⟩ : Str))).cps.toList = cs := join_signs cs
    have el : (Str.join (Str.ofString "") (cs.map fun c => (⟨#[c]⟩ : Str))).length = cs.length := by rw [← len_cps, e]
    refine q _ _ (by show 1 <= (Str.join (Str.ofString "") _).length; rw [el]; omega) (by show (Str.join (Str.ofString "") _).length <= 3; rw [el]; omega) (fun c hc => ?_) (s2.to hD)
    rw [show (("" : Str)) = Str.ofString "" from rfl, e] at hc
    exact hz c hc
def spRow (K : PySem.W.Frag) : Sp := fun vs H Q _ => ∃ (a : Addr) (ns : List Int) (b : Int) (m : Nat), vs = [.ref a, .int b, .int m] /\ SqL K H a (ns.map V.int) /\ ns.length <= 63 /\ 0 <= b /\ b <= 50000 /\ 0 < m /\ m <= 100 /\
 ∀ (z : Str) H', z.length < m -> (∀ c ∈ z.cps.toList, c ∈ sg6) -> Same H H' -> Q (.str z) H'
abbrev sg8 : List Nat := (Str.ofString "ab()# ab").cps.toList
theorem sg8_6 : ∀ c ∈ sg8, c ∈ sg6 := by decide +kernel
theorem ok_q58 (T : Txt K mg t) : FnOk P w K mg base CX0 2 t.f_q58 t.d_q58 ["_law_script", "_law_base", "_law_most"] (spRow K) := by
 refine T.F_q58.ok sc_q58 ?_ ?_
 walk_at "i"
 ·obtain ⟨a, ns, b, m, rfl, hS, hl, hb0, hb1, hm0, hm1, q⟩ := h
  refine @at_consR _ _ _ _ _ _ _ (fun Z' H' => ∃ z : Nat, z < m /\ Z' = [some (.ref a), some (.int b), some (.int m), some (.int z)] /\ Same H H') (ps_set (i := 3) sc_q58.nd rfl (Or.inl rfl) (pe_call (ok_q51 T) (hr.mono (by decide)) rfl T.mg_q51 T.F_q51.kp (T.F_q51.binds (by walk_at "3")) .nil pass0 (pa_cons (pv 0) (pa_cons (pv 1) (pa_cons (pv 2) pa_nil))))) ?_ ?_
  ·refine ⟨_, rfl, _, rfl, _, rfl, a, ns, _, _, rfl, hS, (by omega), (by omega), (by omega), hl, fun d H1 h0 h1 s1 => ?_⟩
   refine ⟨d.toNat, by omega, ?_, s1⟩
   rw [show ((d.toNat : Nat) : Int) = d by omega]
   rfl
  rintro Z' H1 ⟨sz, hz1, rfl, s1⟩
  refine @at_one _ _ _ _ _ _ (@ps_ret _ _ _ _ (@pe_bm _ _ _ _ _ _ _ _ _ _ _ _ F.plainAttrs_str F.slot_str_join F.type_str_join mt_join pe_str (@pa_cons _ _ _ _ _ (@pe_comp _ (defScope s_q58) _ ["_law_script", "_law_base", "_law_most", "_law_size"] _ _ ("_law_k") _ _ [("_law_script", 0), ("_law_base", 1)] _ _ (by walk_at "ck") (@pi_range1 _ _ _ _ _ _ rfl T.z_range (@pa_cons _ _ _ _ _ (pv 3) pa_nil (by left)) (by left)) (fun _ _ _ _ => by exact (@pe_ix _ _ _ _ _ _ _ ix_str pe_str (@pe_call _ _ _ _ _ _ _ _ _ _ _ _ _ _ _ _ (ok_q51 T) (hr.mono (by decide)) rfl T.mg_q51 T.F_q51.kp (T.F_q51.binds (by walk_at "3")) .nil pass0 (@pa_cons _ _ _ _ _ (pv 0) (@pa_cons _ _ _ _ _ (@pe_op _ _ _ _ _ _ _ _ op_add (@pe_op _ _ _ _ _ _ _ _ op_add (pv 1) pe_int) (pv 2)) (@pa_cons _ _ _ _ _ pe_int pa_nil (by left)) (by left)) (by left)) (by left) (by left) (by left)) (fun _ _ => rfl))) (by left) (by left) (by left) (by left)) pa_nil (by left)) (by left) (by left) (by left) (by left) (by left))) ⟨rfl, _, rfl, _, rfl, by omega, by omega, comp_range (n := ((sz : Nat) : Int).toNat) (fun j ys H2 => ∃ cs : List Nat, ys = (cs.map fun c => (⟨#[c]⟩ : Str)).map V.str /\ (∀ c ∈ cs, c ∈ sg6) /\ Same H H2) ⟨[], rfl, by simp, s1⟩ (sl_lt (by omega)) ?_ ?_⟩
  ·rintro j ys H2 hj hyl ⟨cs, rfl, hz, s2⟩
   refine ⟨_, rfl, _, rfl, _, _, rfl, rfl, _, rfl, _, _, rfl, rfl, a, ns, _, _, rfl, hS.same s2, (by omega), (by omega), (by decide), hl, fun d H3 h0 h1 s3 => ?_⟩
   have l8 : sg8.length = 8 := by decide +kernel
   obtain ⟨c, e1, e2⟩ := atI_in sg8 h0 (by rw [l8]; exact h1)
   refine ⟨_, _, c, rfl, rfl, by decide +kernel, e2, comp_turn hj hyl ⟨cs ++ [c], by simp, ?_, s2.trans s3⟩⟩
   intro x hx
   rcases List.mem_append.mp hx with hx | hx
   ·exact hz x hx
   ·rw [List.mem_singleton.mp hx]; exact sg8_6 _ (List.mem_of_getElem? e1)
  ·rintro ys H2 hyl ⟨cs, rfl, hz, s2⟩ D hD
   rw [List.length_map, List.length_map] at hyl
   refine ⟨_, D, _, rfl, rfl, SqL.of upd_same, ?_, ?_⟩
   ·rw [signs_sum, show ("" : Str).length = 0 from by decide]
    omega
   ·rw [join_eq]
    have e : (Str.join (Str.ofString "") (cs.map fun c => (⟨#[c]⟩ : Str))).cps.toList = cs := join_signs cs
    have el : (Str.join (Str.ofString "") (cs.map fun c => (⟨#[c]⟩ : Str))).length = cs.length := by rw [← len_cps, e]
    refine q _ _ (by show (Str.join (Str.ofString "") _).length < m; rw [el]; omega) (fun c hc => ?_) (s2.to hD)
    rw [show (("" : Str)) = Str.ofString "" from rfl, e] at hc
    exact hz c hc
structure BRule (N k : Nat) (calm : Bool) (R : RuleM) (z : Str) : Prop where
 sort : R.sort ∈ sorts
 z1 : 1 <= z.length
 z3 : z.length <= 3
 zs : ∀ c ∈ z.cps.toList, c ∈ sg6
 sg : R.signs = if bare R.sort then ("" : Str) else z
 col : eatsB R.sort = true -> isName R.colour = true
 col0 : eatsB R.sort = false -> R.colour = ""
 deed : R.deed ∈ deeds
 goal : going R.deed -> ∃ g, R.goal = some g /\ g < N
 goal0 : ¬ going R.deed -> R.goal = none
 fold : R.fold = "" ∨ R.fold = "open" ∨ R.fold = "close"
 idle : eatsB R.sort = false -> calm = false /\ (R.deed = "pop" ∨ (going R.deed /\ ∃ g, R.goal = some g /\ k < g))
def tup6 (R : RuleM) (z : Str) : List V := [.str R.sort, .str z, .str R.colour, .str R.deed, goalV R.goal, .str R.fold]
def spLRule (K : PySem.W.Frag) : Sp := fun vs H Q _ => ∃ (a : Addr) (ns : List Int) (b : Int) (k N : Nat) (calm : Bool), vs = [.ref a, .int b, .int k, .int N, .bl calm] /\ SqL K H a (ns.map V.int) /\ ns.length <= 63 /\ 0 <= b /\ b <= 40000 /\ k < N /\ N <= 4 /\
 ∀ R z tq H', BRule N k calm R z -> H' tq = some (.tup (tup6 R z)) -> Same H H' -> Q (.ref tq) H'
theorem in_idle {s : Str} (hs : s ∈ sorts) : inV (.str s) [.str "still", .str "end"] = !eatsB s := by
 rw [show ([.str "still", .str "end"] : List V) = (["still", "end"] : List Str).map V.str from rfl, inV_strs]
 rcases sorts_cases hs with rfl | rfl | rfl | rfl | rfl | rfl | rfl <;> decide +kernel
theorem in2 {x a b : Str} : inV (.str x) [.str a, .str b] = decide (x = a ∨ x = b) := by
 rw [show ([.str a, .str b] : List V) = ([a, b] : List Str).map V.str from rfl, inV_strs]
 simp only [List.mem_cons, List.not_mem_nil, or_false]
theorem in3 {x a b c : Str} : inV (.str x) [.str a, .str b, .str c] = decide (x = a ∨ x = b ∨ x = c) := by
 rw [show ([.str a, .str b, .str c] : List V) = ([a, b, c] : List Str).map V.str from rfl, inV_strs]
 simp only [List.mem_cons, List.not_mem_nil, or_false]
theorem deeds_cases {d : Str} (h : d ∈ deeds) : d = "stay" ∨ d = "push" ∨ d = "pop" ∨ d = "into" := by simpa using h
theorem ok_q59 (T : Txt K mg t) : FnOk P w K mg base CX0 3 t.f_q59 t.d_q59 ["_law_script", "_law_base", "_law_number", "_law_many", "_law_calm"] (spLRule K) := by
 refine T.F_q59.ok sc_q59 ?_ ?_
 walk_at "i"
 ·obtain ⟨a, ns, b, k, N, calm, rfl, hS, hl, hb0, hb1, hk, hN, q⟩ := h
  refine @at_consR _ _ _ _ _ _ _ (fun Z' H' => ∃ st, st ∈ sorts /\ Z' = [some (.ref a), some (.int b), some (.int k), some (.int N), some (.bl calm), some (.str st), none, none, none, none] /\ Same H H') (@ps_set _ _ 5 _ _ _ _ sc_q59.nd rfl (Or.inl rfl) (@pe_ix _ _ _ _ _ _ _ ix_list (@pe_lst _ _ _ _ (@pa_strs _ _ ["word", "word", "one", "none", "many", "any", "still", "end"] rfl)) (@pe_call _ _ _ _ _ _ _ _ _ _ _ _ _ _ _ _ (ok_q51 T) (hr.mono (by decide)) rfl T.mg_q51 T.F_q51.kp (T.F_q51.binds (by walk_at "3")) .nil pass0 (@pa_cons _ _ _ _ _ (pv 0) (@pa_cons _ _ _ _ _ (pv 1) (@pa_cons _ _ _ _ _ pe_int pa_nil (by left)) (by left)) (by left)) (by left) (by left) (by left)) (fun _ _ => rfl)) (by left) (by left)) ?_ ?_
  ·refine ⟨by show 8 <= sizeLine; decide, fun l0 hl0 => ⟨_, rfl, _, rfl, a, ns, _, _, rfl, (hS.same (Same.upd hl0)), hb0, (by omega), (by decide), hl, fun d H1 h0 h1 s1 => ?_⟩⟩
   obtain ⟨x, hx, e⟩ := pick (xs := ["word", "word", "one", "none", "many", "any", "still", "end"]) h0 h1
   have : ∀ y ∈ (["word", "word", "one", "none", "many", "any", "still", "end"] : List Str), y ∈ sorts := by decide +kernel
   exact ⟨l0, _, _, _, rfl, rfl, SqL.of (s1 _ _ upd_same), e, x, this x hx, rfl, (Same.upd hl0).trans s1⟩
  rintro Z' H1 ⟨st0, hst0, rfl, s1⟩
  refine @at_consR _ _ _ _ _ _ _ (fun Z' H' => ∃ st, st ∈ sorts /\ (eatsB st = false -> calm = false) /\ Z' = [some (.ref a), some (.int b), some (.int k), some (.int N), some (.bl calm), some (.str st), none, none, none, none] /\ Same H H') (ps_if (PW.pt (pw_and (pt_val (pv 4)) (pw_and1 (pt_cmpR op_in_seq (pv 5) (pe_tup (pa_cons pe_str (pa_cons pe_str pa_nil))) rfl)))) pss_at pss_at) ?_ ?_
  ·refine ⟨_, rfl, calm, rfl, ifb (fun h => ?_) (fun h => at_nil ⟨st0, hst0, fun _ => h, rfl, s1⟩)⟩
   refine ⟨_, rfl, by show 2 <= sizeLine; decide, fun pt hpt => ⟨pt, _, rfl, .inr (SqT.of upd_same), rfl, rfl, _, rfl, ifeq (in_idle hst0) (ifnb (fun h2 => ?_) (fun h2 => at_nil ⟨st0, hst0, (fun z => by rw [h2] at z; cases z), rfl, s1.to hpt⟩))⟩⟩
   exact @at_one _ _ _ _ _ _ (ps_set (i := 5) sc_q59.nd rfl (Or.inl rfl) pe_str) ⟨"word", by decide +kernel, (fun z => absurd z (by decide +kernel)), rfl, s1.to hpt⟩
  rintro Z' H2 ⟨st, hst, hcalm, rfl, s2⟩
  refine @at_consR _ _ _ _ _ _ _ (fun Z' H' => ∃ dd, dd ∈ deeds /\ Z' = [some (.ref a), some (.int b), some (.int k), some (.int N), some (.bl calm), some (.str st), some (.str dd), none, none, none] /\ Same H H') (@ps_set _ _ 6 _ _ _ _ sc_q59.nd rfl (Or.inl rfl) (@pe_ix _ _ _ _ _ _ _ ix_list (@pe_lst _ _ _ _ (@pa_strs _ _ ["stay", "push", "pop", "into"] rfl)) (@pe_call _ _ _ _ _ _ _ _ _ _ _ _ _ _ _ _ (ok_q51 T) (hr.mono (by decide)) rfl T.mg_q51 T.F_q51.kp (T.F_q51.binds (by walk_at "3")) .nil pass0 (@pa_cons _ _ _ _ _ (pv 0) (@pa_cons _ _ _ _ _ (@pe_op _ _ _ _ _ _ _ _ op_add (pv 1) pe_int) (@pa_cons _ _ _ _ _ pe_int pa_nil (by left)) (by left)) (by left)) (by left) (by left) (by left)) (fun _ _ => rfl)) (by left) (by left)) ?_ ?_
  ·refine ⟨by show 4 <= sizeLine; decide, fun l0 hl0 => ⟨_, rfl, _, rfl, _, _, rfl, rfl, a, ns, _, _, rfl, (hS.same (s2.to hl0)), (by omega), (by omega), (by decide), hl, fun d H3 h0 h1 s3 => ?_⟩⟩
   obtain ⟨x, hx, e⟩ := pick (xs := deeds) h0 h1
   exact ⟨l0, _, _, _, rfl, rfl, SqL.of (s3 _ _ upd_same), e, x, hx, rfl, (s2.to hl0).trans s3⟩
  rintro Z' H3 ⟨dd, hdd, rfl, s3⟩
  refine @at_consR _ _ _ _ _ _ _ (fun Z' H' => ∃ g : Int, 0 <= g /\ g < N /\ Z' = [some (.ref a), some (.int b), some (.int k), some (.int N), some (.bl calm), some (.str st), some (.str dd), some (.int g), none, none] /\ Same H H') (ps_set (i := 7) sc_q59.nd rfl (Or.inl rfl) (pe_call (ok_q51 T) (hr.mono (by decide)) rfl T.mg_q51 T.F_q51.kp (T.F_q51.binds (by walk_at "3")) .nil pass0 (pa_cons (pv 0) (pa_cons (pe_op op_add (pv 1) pe_int) (pa_cons (pv 3) pa_nil))))) ?_ ?_
  ·exact ⟨_, rfl, _, rfl, _, _, rfl, rfl, _, rfl, a, ns, _, _, rfl, (hS.same s3), (by omega), (by omega), (by omega), hl, fun d H4 h0 h1 s4 => ⟨d, h0, h1, rfl, s3.trans s4⟩⟩
  rintro Z' H4 ⟨g, hg0, hg1, rfl, s4⟩
  refine @at_consR _ _ _ _ _ _ _ (fun Z' H' => ∃ c, isName c = true /\ Z' = [some (.ref a), some (.int b), some (.int k), some (.int N), some (.bl calm), some (.str st), some (.str dd), some (.int g), some (.str c), none] /\ Same H H') (@ps_set _ _ 8 _ _ _ _ sc_q59.nd rfl (Or.inl rfl) (@pe_ix _ _ _ _ _ _ _ ix_list (@pe_lst _ _ _ _ (@pa_strs _ _ ["red", "blue", "green", "r"] rfl)) (@pe_call _ _ _ _ _ _ _ _ _ _ _ _ _ _ _ _ (ok_q51 T) (hr.mono (by decide)) rfl T.mg_q51 T.F_q51.kp (T.F_q51.binds (by walk_at "3")) .nil pass0 (@pa_cons _ _ _ _ _ (pv 0) (@pa_cons _ _ _ _ _ (@pe_op _ _ _ _ _ _ _ _ op_add (pv 1) pe_int) (@pa_cons _ _ _ _ _ pe_int pa_nil (by left)) (by left)) (by left)) (by left) (by left) (by left)) (fun _ _ => rfl)) (by left) (by left)) ?_ ?_
  ·refine ⟨by show 4 <= sizeLine; decide, fun l0 hl0 => ⟨_, rfl, _, rfl, _, _, rfl, rfl, a, ns, _, _, rfl, (hS.same (s4.to hl0)), (by omega), (by omega), (by decide), hl, fun d H5 h0 h1 s5 => ?_⟩⟩
   obtain ⟨x, hx, e⟩ := pick (xs := ["red", "blue", "green", "r"]) h0 h1
   have : ∀ y ∈ (["red", "blue", "green", "r"] : List Str), isName y = true := by decide +kernel
   exact ⟨l0, _, _, _, rfl, rfl, SqL.of (s5 _ _ upd_same), e, x, this x hx, rfl, (s4.to hl0).trans s5⟩
  rintro Z' H5 ⟨c, hc, rfl, s5⟩
  refine @at_consR _ _ _ _ _ _ _ (fun Z' H' => ∃ f : Str, (f = "" ∨ f = "open" ∨ f = "close") /\ Z' = [some (.ref a), some (.int b), some (.int k), some (.int N), some (.bl calm), some (.str st), some (.str dd), some (.int g), some (.str c), some (.str f)] /\ Same H H') (@ps_set _ _ 9 _ _ _ _ sc_q59.nd rfl (Or.inl rfl) (@pe_ix _ _ _ _ _ _ _ ix_list (@pe_lst _ _ _ _ (@pa_strs _ _ ["", "", "open", "close"] rfl)) (@pe_call _ _ _ _ _ _ _ _ _ _ _ _ _ _ _ _ (ok_q51 T) (hr.mono (by decide)) rfl T.mg_q51 T.F_q51.kp (T.F_q51.binds (by walk_at "3")) .nil pass0 (@pa_cons _ _ _ _ _ (pv 0) (@pa_cons _ _ _ _ _ (@pe_op _ _ _ _ _ _ _ _ op_add (pv 1) pe_int) (@pa_cons _ _ _ _ _ pe_int pa_nil (by left)) (by left)) (by left)) (by left) (by left) (by left)) (fun _ _ => rfl)) (by left) (by left)) ?_ ?_
  ·refine ⟨by show 4 <= sizeLine; decide, fun l0 hl0 => ⟨_, rfl, _, rfl, _, _, rfl, rfl, a, ns, _, _, rfl, (hS.same (s5.to hl0)), (by omega), (by omega), (by decide), hl, fun d H6 h0 h1 s6 => ?_⟩⟩
   obtain ⟨x, hx, e⟩ := pick (xs := ["", "", "open", "close"]) h0 h1
   exact ⟨l0, _, _, _, rfl, rfl, SqL.of (s6 _ _ upd_same), e, x, by simpa using hx, rfl, (s5.to hl0).trans s6⟩
  rintro Z' H6 ⟨f, hf, rfl, s6⟩
  refine @at_consR _ _ _ _ _ _ _ (fun Z' H' => ∃ (dd : Str) (g : Int) (c : Str), dd ∈ deeds /\ 0 <= g /\ g < N /\ (eatsB st = true -> isName c = true) /\ (eatsB st = false -> c = "") /\ (eatsB st = false -> dd = "pop" ∨ (going dd /\ (k : Int) < g)) /\ Z' = [some (.ref a), some (.int b), some (.int k), some (.int N), some (.bl calm), some (.str st), some (.str dd), some (.int g), some (.str c), some (.str f)] /\ Same H H') (ps_if (pt_cmpR op_in_seq (pv 5) (pe_tup (pa_cons pe_str (pa_cons pe_str pa_nil))) rfl) pss_at pss_at) ?_ ?_
  ·refine ⟨_, rfl, by show 2 <= sizeLine; decide, fun pt hpt => ⟨pt, _, rfl, .inr (SqT.of upd_same), rfl, rfl, _, rfl, ifeq (in_idle hst) (ifnb (fun h => ?_) (fun h => at_nil ⟨dd, g, c, hdd, hg0, hg1, fun _ => hc, (fun z => by rw [h] at z; cases z), (fun z => by rw [h] at z; cases z), rfl, s6.to hpt⟩))⟩⟩
   have s7 : Same H (upd H6 pt (.tup [.str "still", .str "end"])) := s6.to hpt
   generalize upd H6 pt (.tup [.str "still", .str "end"]) = H7 at s7
   refine @at_cons _ _ _ _ _ _ _ (ps_set (i := 8) sc_q59.nd rfl (Or.inl rfl) pe_str) ?_
   refine @at_consR _ _ _ _ _ _ _ (fun Z' H' => ∃ dd, dd ∈ deeds /\ (dd = "pop" ∨ k + 1 < N) /\ Z' = [some (.ref a), some (.int b), some (.int k), some (.int N), some (.bl calm), some (.str st), some (.str dd), some (.int g), some (.str ""), some (.str f)] /\ Same H H') (@ps_if _ _ _ _ _ _ _ _ (@PW.pt _ _ _ (@pw_and _ _ _ _ _ _ _ (@pt_cmpR _ _ _ _ _ _ _ _ op_in_seq (pv 6) (@pe_tup _ _ _ _ _ (@pa_strs _ _ ["stay", "push", "into"] rfl)) rfl) (@pw_and1 _ _ _ _ (@pt_cmpR _ _ _ _ _ _ _ _ op_eq (@pe_op _ _ _ _ _ _ _ _ op_add (pv 2) pe_int) (pv 3) (nomark _))))) pss_at pss_at) ?_ ?_
   ·refine ⟨_, rfl, by show 3 <= sizeLine; decide, fun pt hpt => ⟨pt, _, rfl, .inr (SqT.of upd_same), rfl, rfl, _, rfl, ifeq in3 (ifd (fun h2 => ?_) (fun h2 => at_nil ⟨dd, hdd, ?_, rfl, s7.to hpt⟩))⟩⟩
    ·refine ⟨_, rfl, _, _, rfl, rfl, _, rfl, rfl, _, rfl, ifd (fun h3 => ?_) (fun h3 => at_nil ⟨dd, hdd, .inr ?_, rfl, s7.to hpt⟩)⟩
     ·exact @at_one _ _ _ _ _ _ (ps_set (i := 6) sc_q59.nd rfl (Or.inl rfl) pe_str) ⟨"pop", by decide +kernel, .inl rfl, rfl, s7.to hpt⟩
     ·have : ¬ (k : Int) + 1 = N := fun z => h3 (by show V.int ((k : Int) + 1) = _; rw [z])
      omega
    ·rcases deeds_cases hdd with e | e | e | e
     ·exact absurd (.inl e) h2
     ·exact absurd (.inr (.inl e)) h2
     ·exact .inl e
     ·exact absurd (.inr (.inr e)) h2
   rintro Z' H8 ⟨dd1, hdd1, hp1, rfl, s8⟩
   refine @at_consR _ _ _ _ _ _ _ (fun Z' H' => ∃ dd, dd ∈ deeds /\ (dd = "pop" ∨ (going dd /\ k + 1 < N)) /\ Z' = [some (.ref a), some (.int b), some (.int k), some (.int N), some (.bl calm), some (.str st), some (.str dd), some (.int g), some (.str ""), some (.str f)] /\ Same H H') (ps_if (pt_cmpR op_eq (pv 6) pe_str (nomark _)) pss_at pss_at) ?_ ?_
   ·refine ⟨_, rfl, rfl, _, rfl, ifd (fun h2 => ?_) (fun h2 => at_nil ⟨dd1, hdd1, ?_, rfl, s8⟩)⟩
    ·have h2 := V.str.inj h2
     refine @at_one _ _ _ _ _ _ (ps_set (i := 6) sc_q59.nd rfl (Or.inl rfl) pe_str) ⟨"push", by decide +kernel, .inr ⟨.inl rfl, ?_⟩, rfl, s8⟩
     rcases hp1 with z | z
     ·rw [z] at h2; exact absurd h2 (by decide)
     ·exact z
    ·rcases deeds_cases hdd1 with e | e | e | e
     ·exact absurd (by rw [e]) h2
     ·exact .inr ⟨.inl e, by rcases hp1 with z | z; (rw [z] at e; exact absurd e (by decide)); exact z⟩
     ·exact .inl e
     ·exact .inr ⟨.inr e, by rcases hp1 with z | z; (rw [z] at e; exact absurd e (by decide)); exact z⟩
   rintro Z' H9 ⟨dd2, hdd2, hp2, rfl, s9⟩
   refine @at_one _ _ _ _ _ _ (ps_if (pt_cmpR op_in_seq (pv 6) (pe_tup (pa_cons pe_str (pa_cons pe_str pa_nil))) rfl) pss_at pss_at) ⟨_, rfl, by show 2 <= sizeLine; decide, fun pt hpt => ⟨pt, _, rfl, .inr (SqT.of upd_same), rfl, rfl, _, rfl, ifeq in2 (ifd (fun h2 => ?_) (fun h2 => at_nil ⟨dd2, g, "", hdd2, hg0, hg1, (fun z => by rw [h] at z; cases z), fun _ => rfl, fun _ => .inl ?_, rfl, s9.to hpt⟩))⟩⟩
   ·have hkN : k + 1 < N := by
     rcases hp2 with z | z
     ·rw [z] at h2; exact absurd h2 (by decide)
     ·exact z.2
    have hd := emod_rng g (m := (N : Int) - k - 1) (by omega)
    exact @at_one _ _ _ _ _ _ (ps_set (i := 7) sc_q59.nd rfl (Or.inl rfl) (pe_op op_add (pe_op op_add (pv 2) pe_int) (pe_op op_mod (pv 7) (pe_op op_sub (pe_op op_sub (pv 3) (pv 2)) pe_int)))) ⟨_, rfl, _, _, rfl, rfl, _, rfl, _, rfl, _, rfl, _, _, rfl, rfl, _, _, rfl, rfl, _, _, rfl, rfl, (by show (0 : Int) < (N : Int) - k - 1; omega), _, _, rfl, rfl, dd2, (k : Int) + 1 + g % ((N : Int) - k - 1), "", hdd2, by omega, by omega, (fun z => by rw [h] at z; cases z), fun _ => rfl, fun _ => .inr ⟨h2, by omega⟩, rfl, s9.to hpt⟩
   ·rcases hp2 with z | z
    ·exact z
    ·exact absurd z.1 h2
  rintro Z' H7 ⟨dd, g, c, hdd, hg0, hg1, hc1, hc2, hid, rfl, s7⟩
  refine @at_consR _ _ _ _ _ _ _ (fun Z' H' => ∃ go : Option Nat, (going dd -> go = some g.toNat) /\ (¬ going dd -> go = none) /\ Z' = [some (.ref a), some (.int b), some (.int k), some (.int N), some (.bl calm), some (.str st), some (.str dd), some (goalV go), some (.str c), some (.str f)] /\ Same H H') (ps_if (pt_cmpR op_in_seq (pv 6) (pe_tup (pa_cons pe_str (pa_cons pe_str pa_nil))) rfl) pss_at pss_at) ?_ ?_
  ·refine ⟨_, rfl, by show 2 <= sizeLine; decide, fun pt hpt => ⟨pt, _, rfl, .inr (SqT.of upd_same), rfl, rfl, _, rfl, ifeq in2 (ifd (fun h2 => ?_) (fun h2 => at_nil ⟨some g.toNat, fun _ => rfl, fun z => ?_, ?_, s7.to hpt⟩))⟩⟩
   ·refine @at_one _ _ _ _ _ _ (ps_set (i := 7) sc_q59.nd rfl (Or.inl rfl) pe_non) ⟨none, fun z => ?_, fun _ => rfl, rfl, s7.to hpt⟩
    rcases h2 with e | e <;> rw [e] at z <;> exact absurd z (by decide)
   ·exfalso
    rcases deeds_cases hdd with e | e | e | e
    ·exact h2 (.inl e)
    ·exact z (.inl e)
    ·exact h2 (.inr e)
    ·exact z (.inr e)
   ·show _ = [_, _, _, _, _, _, _, some (V.int ((g.toNat : Nat) : Int)), _, _]
    rw [show ((g.toNat : Nat) : Int) = g by omega]
  rintro Z' H8 ⟨go, hgo1, hgo2, rfl, s8⟩
  refine @at_one _ _ _ _ _ _ (ps_ret (pe_tup (pa_cons (pv 5) (pa_cons (pe_call (ok_q61 T) (hr.mono (by decide)) rfl T.mg_q61 T.F_q61.kp (T.F_q61.binds (by walk_at "2")) .nil pass0 (pa_cons (pv 0) (pa_cons (pe_op op_add (pv 1) pe_int) pa_nil))) (pa_cons (pv 8) (pa_cons (pv 6) (pa_cons (pv 7) (pa_cons (pv 9) pa_nil)))))))) ⟨_, rfl, _, rfl, _, rfl, _, _, rfl, rfl, a, ns, _, rfl, (hS.same s8), hl, (by omega), (by omega), fun z H9 hz1 hz3 hzs s9 => ⟨_, rfl, _, rfl, _, rfl, _, rfl, by show 6 <= sizeLine; decide, fun tq htq => ?_⟩⟩
  refine q ⟨st, if bare st then ("" : Str) else z, c, dd, go, f⟩ z tq _ ⟨hst, hz1, hz3, hzs, rfl, hc1, hc2, hdd, fun h => ⟨_, hgo1 h, by omega⟩, hgo2, hf, fun h => ⟨hcalm h, ?_⟩⟩ upd_same ((s8.trans s9).to htq)
  rcases hid h with z | ⟨z1, z2⟩
  ·exact .inl z
  ·exact .inr ⟨z1, g.toNat, hgo1 z1, by omega⟩
def LR (H : Hp) (tr : Addr) (R : RuleM) : Prop := ∃ z, H tr = some (.tup (tup6 R z)) /\ z.length <= 200 /\ (¬ bare R.sort -> z = R.signs)
def LMode (H : Hp) (tm : Addr) (m : ModeM) : Prop := ∃ lr rs, H tm = some (.tup [.str m.name, .str m.colour, .ref lr]) /\ H lr = some (.lst (rs.map V.ref)) /\ All2 (LR H) rs m.rules
def LMs (H : Hp) (lm : Addr) (ms : List ModeM) : Prop := ∃ ts, H lm = some (.lst (ts.map V.ref)) /\ All2 (LMode H) ts ms
theorem LR.same {H H' : Hp} {tr : Addr} {R : RuleM} (h : LR H tr R) (s : Same H H') : LR H' tr R := let ⟨z, a, b⟩ := h; ⟨z, s _ _ a, b⟩
theorem LMode.same {H H' : Hp} {tm : Addr} {m : ModeM} (h : LMode H tm m) (s : Same H H') : LMode H' tm m := let ⟨lr, rs, x, y, z⟩ := h; ⟨lr, rs, s _ _ x, s _ _ y, z.mono fun _ _ r => r.same s⟩
theorem LMs.same {H H' : Hp} {lm : Addr} {ms : List ModeM} (h : LMs H lm ms) (s : Same H H') : LMs H' lm ms := let ⟨ts, x, z⟩ := h; ⟨ts, s _ _ x, z.mono fun _ _ r => r.same s⟩
structure Built (calm : Bool) (ms : List ModeM) : Prop where
 pos : 0 < ms.length
 four : ms.length <= 4
 nd : (ms.map (·.name)).Nodup
 nm : ∀ m ∈ ms, isName m.name = true /\ isName m.colour = true
 rules : ∀ (k : Nat) m, ms[k]? = some m -> m.rules.length <= 6 /\ ∀ R ∈ m.rules, ∃ z, BRule ms.length k calm R z
def hide (H : Hp) (x : Addr) : Hp := fun b => if b = x then none else H b
theorem hide_same {H : Hp} {x : Addr} : Same (hide H x) H := fun b o h => by
 unfold hide at h
 split at h
 ·cases h
 ·exact h
theorem hide_of {H : Hp} {x b : Addr} {o : HO} (h : H b = some o) (h1 : b ≠ x) : hide H x b = some o := by
 unfold hide
 rw [if_neg h1]
 exact h
theorem hide_x {H : Hp} {x : Addr} : hide H x x = none := by unfold hide; rw [if_pos rfl]
theorem Same.hid {G H : Hp} {x : Addr} (s : Same G H) (h1 : G x = none) : Same G (hide H x) := fun b o h => hide_of (s b o h) (ne_of_none h h1)
theorem Same.up {G H : Hp} {x : Addr} {o : HO} (s : Same G H) (h : G x = none) : Same G (L2.upd H x o) := fun b u e => by rw [upd_ne (ne_of_none e h)]; exact s b u e
def spModes (K : PySem.W.Frag) : Sp := fun vs H Q _ => ∃ (a : Addr) (ns : List Int) (b : Int) (calm : Bool), vs = [.ref a, .int b, .bl calm] /\ SqL K H a (ns.map V.int) /\ ns.length <= 63 /\ 0 <= b /\ b <= 30000 /\
 ∀ ms lm H', Built calm ms -> LMs H' lm ms -> Same H H' -> Q (.ref lm) H'
def nameLists : List (List Str) := [["a", "b", "c", "d"], ["a", "ab", "abc", "abcdefgh"], ["word", "mode", "end", "stay"]]
theorem nameLists_ok : ∀ l ∈ nameLists, l.length = 4 /\ l.Nodup /\ ∀ x ∈ l, isName x = true := by decide +kernel
theorem ok_q57 (T : Txt K mg t) : FnOk P w K mg base CX0 4 t.f_q57 t.d_q57 ["_law_script", "_law_base", "_law_calm"] (spModes K) := by
 refine T.F_q57.ok sc_q57 ?_ ?_
 walk_at "i"
 ·obtain ⟨a, ns, b, calm, rfl, hS, hl, hb0, hb1, q⟩ := h
  refine @at_consR _ _ _ _ _ _ _ (fun Z' H' => ∃ l l1 l2 l3, Z' = [some (.ref a), some (.int b), some (.bl calm), some (.ref l), none, none, none, none, none] /\ H' l = some (.lst [.ref l1, .ref l2, .ref l3]) /\ H' l1 = some (.lst ((["a", "b", "c", "d"] : List Str).map V.str)) /\ H' l2 = some (.lst ((["a", "ab", "abc", "abcdefgh"] : List Str).map V.str)) /\ H' l3 = some (.lst ((["word", "mode", "end", "stay"] : List Str).map V.str)) /\ Same H H') (@ps_set _ _ 3 _ _ _ _ sc_q57.nd rfl (Or.inl rfl) (@pe_lst _ _ _ _ (@pa_cons _ _ _ _ _ (@pe_lst _ _ _ _ (@pa_strs _ _ ["a", "b", "c", "d"] rfl)) (@pa_cons _ _ _ _ _ (@pe_lst _ _ _ _ (@pa_strs _ _ ["a", "ab", "abc", "abcdefgh"] rfl)) (@pa_cons _ _ _ _ _ (@pe_lst _ _ _ _ (@pa_strs _ _ ["word", "mode", "end", "stay"] rfl)) pa_nil (by left)) (by left)) (by left))) (by left) (by left)) ?_ ?_
  ·refine ⟨by show 4 <= sizeLine; decide, fun l1 h1 => ⟨by show 4 <= sizeLine; decide, fun l2 h2 => ⟨by show 4 <= sizeLine; decide, fun l3 h3 => ⟨by show 3 <= sizeLine; decide, fun l hl0 => ⟨l, l1, l2, l3, rfl, upd_same, ?_, ?_, ?_, (((Same.upd h1).to h2).to h3).to hl0⟩⟩⟩⟩⟩
   ·exact Same.upd hl0 _ _ (Same.upd h3 _ _ (Same.upd h2 _ _ upd_same))
   ·exact Same.upd hl0 _ _ (Same.upd h3 _ _ upd_same)
   ·exact Same.upd hl0 _ _ upd_same
  rintro Z' H1 ⟨l, l1, l2, l3, rfl, e0, e1, e2, e3, s1⟩
  refine @at_consR _ _ _ _ _ _ _ (fun Z' H' => ∃ ln nms, nms ∈ nameLists /\ Z' = [some (.ref a), some (.int b), some (.bl calm), some (.ref ln), none, none, none, none, none] /\ H' ln = some (.lst (nms.map V.str)) /\ Same H H') (ps_set (i := 3) sc_q57.nd rfl (Or.inl rfl) (pe_ix ix_list (pv 3) (pe_call (ok_q51 T) (hr.mono (by decide)) rfl T.mg_q51 T.F_q51.kp (T.F_q51.binds (by walk_at "3")) .nil pass0 (pa_cons (pv 0) (pa_cons (pv 1) (pa_cons pe_int pa_nil)))) (fun _ _ => rfl))) ?_ ?_
  ·refine ⟨_, rfl, _, rfl, _, rfl, a, ns, _, _, rfl, (hS.same s1), hb0, (by omega), (by decide), hl, fun d H2 h0 h1 s2 => ?_⟩
   obtain ⟨v, g1, g2⟩ := atI_in [V.ref l1, V.ref l2, V.ref l3] h0 h1
   have hv := List.mem_of_getElem? g1
   simp only [List.mem_cons, List.not_mem_nil, or_false] at hv
   refine ⟨_, _, _, _, rfl, rfl, SqL.of (s2 _ _ e0), g2, ?_⟩
   rcases hv with rfl | rfl | rfl
   ·exact ⟨l1, _, by decide +kernel, rfl, s2 _ _ e1, s1.trans s2⟩
   ·exact ⟨l2, _, by decide +kernel, rfl, s2 _ _ e2, s1.trans s2⟩
   ·exact ⟨l3, _, by decide +kernel, rfl, s2 _ _ e3, s1.trans s2⟩
  rintro Z' H2 ⟨ln, nms, hnms, rfl, hln, s2⟩
  obtain ⟨n4, nnd, nnm⟩ := nameLists_ok nms hnms
  refine @at_consR _ _ _ _ _ _ _ (fun Z' H' => ∃ N : Nat, 0 < N /\ N <= 4 /\ Z' = [some (.ref a), some (.int b), some (.bl calm), some (.ref ln), some (.int N), none, none, none, none] /\ Same H2 H') (ps_set (i := 4) sc_q57.nd rfl (Or.inl rfl) (pe_op op_add pe_int (pe_call (ok_q51 T) (hr.mono (by decide)) rfl T.mg_q51 T.F_q51.kp (T.F_q51.binds (by walk_at "3")) .nil pass0 (pa_cons (pv 0) (pa_cons (pe_op op_add (pv 1) pe_int) (pa_cons pe_int pa_nil)))))) ?_ ?_
  ·refine ⟨_, rfl, _, rfl, _, _, rfl, rfl, a, ns, _, _, rfl, (hS.same s2), (by omega), (by omega), (by decide), hl, fun d H3 h0 h1 s3 => ⟨_, _, rfl, rfl, ?_⟩⟩
   refine ⟨(1 + d).toNat, by omega, by omega, ?_, s3⟩
   rw [show (((1 + d).toNat : Nat) : Int) = 1 + d by omega]
   rfl
  rintro Z' H3 ⟨N, hN0, hN1, rfl, s3⟩
  have hln3 := s3 _ _ hln
  have s3 := s2.trans s3
  refine @at_cons _ _ _ _ _ _ _ (ps_set (i := 5) sc_q57.nd rfl (Or.inl rfl) (pe_lst pa_nil)) ⟨by show 0 <= sizeLine; decide, fun lm hlm => ?_⟩
  have s4 : Same H3 (upd H3 lm (.lst [])) := Same.upd hlm
  have hm4 : upd H3 lm (.lst []) lm = some (.lst []) := upd_same
  have hln4 := s4 _ _ hln3
  have nlm : ln ≠ lm := ne_of_none hln3 hlm
  have hlm0 : H lm = none := s3.free hlm
  show At _ _ _ [some (.ref a), some (.int b), some (.bl calm), some (.ref ln), some (.int N), some (.ref lm), none, none, none] _
  generalize upd H3 lm (.lst []) = H4 at s4 hm4 hln4
  have s4 := s3.trans s4
  refine @at_consR _ _ _ _ _ _ _ (fun Z' H' => (∃ x6 x7 x8, Z' = [some (.ref a), some (.int b), some (.bl calm), some (.ref ln), some (.int N), some (.ref lm), x6, x7, x8]) /\ ∃ ms, Built calm ms /\ LMs H' lm ms /\ Same H H') (ps_forA PassesOwn.never rfl (pi_range1 rfl T.z_range (pa_cons (pv 4) pa_nil)) (pg_name (i := 6) sc_q57.nd rfl (Or.inl rfl)) pss_at) ?_ ?_
  ·refine ⟨_, rfl, _, rfl, by omega, by omega, forW_range (n := ((N : Nat) : Int).toNat) (fun k Z' H' => (∃ x6 x7 x8, Z' = [some (.ref a), some (.int b), some (.bl calm), some (.ref ln), some (.int N), some (.ref lm), x6, x7, x8]) /\ ∃ ms ts G, H' lm = some (.lst (ts.map V.ref)) /\ H' ln = some (.lst (nms.map V.str)) /\ Same G H' /\ G lm = none /\ All2 (LMode G) ts ms /\ ms.map (·.name) = nms.take k /\ ms.length = k /\ (∀ m ∈ ms, isName m.name = true /\ isName m.colour = true) /\ (∀ (k : Nat) m, ms[k]? = some m -> m.rules.length <= 6 /\ ∀ R ∈ m.rules, ∃ z, BRule N k calm R z) /\ Same H H') ?_ ?_ ?_⟩
   ·exact ⟨⟨_, _, _, rfl⟩, [], [], hide H4 lm, hm4, hln4, hide_same, hide_x, All2.nil, rfl, rfl, by simp, fun k m h => by simp at h, s4⟩
   ·rintro k Z' H5 hk ⟨⟨x6, x7, x8, rfl⟩, ms, ts, G, hm5, hln5, sG, G1, hA, hnames, hml, hnm, hru, s5⟩
    have hkN : k < N := by omega
    obtain ⟨nm, hnk⟩ : ∃ x, nms[k]? = some x := ⟨nms[k]'(by omega), List.getElem?_eq_getElem _⟩
    have hnmk : isName nm = true := nnm nm (List.mem_of_getElem? hnk)
    have hat : atI (nms.map V.str) ((0 : Int) + (k : Int)) = some (.str nm) := by
     rw [Int.zero_add]
     refine atI_nat ?_
     rw [List.getElem?_map, hnk]
     rfl
    refine @at_cons _ _ _ _ _ _ _ (ps_set (i := 7) sc_q57.nd rfl (Or.inl rfl) (pe_lst pa_nil)) ⟨by show 0 <= sizeLine; decide, fun lu hlu => ?_⟩
    have hu6 : upd H5 lu (.lst []) lu = some (.lst []) := upd_same
    have s6' : Same H5 (upd H5 lu (.lst [])) := Same.upd hlu
    have u2 : lm ≠ lu := ne_of_none hm5 hlu
    have u4 : G lu = none := sG.free hlu
    have u5 : H lu = none := s5.free hlu
    have u6 : ln ≠ lu := ne_of_none hln5 hlu
    show At _ _ _ [some (.ref a), some (.int b), some (.bl calm), some (.ref ln), some (.int N), some (.ref lm), some (.int (0 + k)), some (.ref lu), x8] _
    generalize upd H5 lu (.lst []) = H6 at hu6 s6'
    have hm6 := s6' _ _ hm5
    have hln6 := s6' _ _ hln5
    have sG6 := sG.trans s6'
    have s6 := s5.trans s6'
    refine @at_consR _ _ _ _ _ _ _ (fun Z' H' => (∃ x8, Z' = [some (.ref a), some (.int b), some (.bl calm), some (.ref ln), some (.int N), some (.ref lm), some (.int (0 + k)), some (.ref lu), x8]) /\ ∃ Rs rs, H' lu = some (.lst (rs.map V.ref)) /\ All2 (LR H') rs Rs /\ Rs.length <= 6 /\ (∀ R ∈ Rs, ∃ z, BRule N k calm R z) /\ H' lm = some (.lst (ts.map V.ref)) /\ H' ln = some (.lst (nms.map V.str)) /\ Same G H' /\ Same H H') (ps_forA PassesOwn.never rfl (pi_range1 rfl T.z_range (pa_cons (pe_call (ok_q51 T) (hr.mono (by decide)) rfl T.mg_q51 T.F_q51.kp (T.F_q51.binds (by walk_at "3")) .nil pass0 (pa_cons (pv 0) (pa_cons (pe_op op_add (pe_op op_add (pv 1) pe_int) (pv 6)) (pa_cons pe_int pa_nil)))) pa_nil)) (pg_name (i := 8) sc_q57.nd rfl (Or.inl rfl)) pss_at) ?_ ?_
    ·refine ⟨_, rfl, _, rfl, _, _, rfl, rfl, _, rfl, _, _, rfl, rfl, a, ns, _, _, rfl, hS.same s6, (by omega), (by omega), (by decide), hl, fun d H7 h0 h1 s7 => ?_⟩
     refine ⟨d, rfl, by omega, by omega, forW_range (n := d.toNat) (fun j Z' H' => (∃ x8, Z' = [some (.ref a), some (.int b), some (.bl calm), some (.ref ln), some (.int N), some (.ref lm), some (.int (0 + k)), some (.ref lu), x8]) /\ ∃ Rs rs, H' lu = some (.lst (rs.map V.ref)) /\ All2 (LR H') rs Rs /\ Rs.length = j /\ (∀ R ∈ Rs, ∃ z, BRule N k calm R z) /\ H' lm = some (.lst (ts.map V.ref)) /\ H' ln = some (.lst (nms.map V.str)) /\ Same G H' /\ Same H H') ?_ ?_ ?_⟩
     ·exact ⟨⟨_, rfl⟩, [], [], s7 _ _ hu6, All2.nil, rfl, by simp, s7 _ _ hm6, s7 _ _ hln6, sG6.trans s7, s6.trans s7⟩
     ·rintro j Z' H8 hj ⟨⟨y8, rfl⟩, Rs, rs, hu8, hA8, hRl, hB8, hm8, hln8, sG8, s8⟩
      refine @at_one _ _ _ _ _ _ (ps_expr (pe_bm F.plainAttrs_list F.slot_list_append F.type_list_append mt_append (pv 7) (pa_cons (pe_call (ok_q59 T) (hr.mono (by decide)) rfl T.mg_q59 T.F_q59.kp (T.F_q59.binds (by walk_at "5")) .nil pass0 (pa_cons (pv 0) (pa_cons (pe_op op_add (pe_op op_add (pe_op op_add (pv 1) pe_int) (pe_op op_mul pe_int (pv 6))) (pe_op op_mul pe_int (pv 8))) (pa_cons (pv 6) (pa_cons (pv 4) (pa_cons (pv 2) pa_nil)))))) pa_nil))) ⟨_, rfl, .inl ⟨rfl, _, SqL.of hu8⟩, _, rfl, _, rfl, _, _, rfl, rfl, _, rfl, _, _, rfl, rfl, .inl ⟨by decide, by decide⟩, _, _, rfl, rfl, _, rfl, _, _, rfl, rfl, .inl ⟨by decide, by decide⟩, _, _, rfl, rfl, _, rfl, _, rfl, _, rfl, a, ns, _, k, N, calm, (by rw [Int.zero_add]; rfl), hS.same s8, hl, (by omega), (by omega), hkN, hN1, fun R z tq H9 hBR htq s9 => ?_⟩
      have hu9 := s9 _ _ hu8
      have rl : rs.length = j := by rw [hA8.1, hRl]
      refine ⟨lu, _, _, rfl, rfl, hu9, sl_lt (by rw [List.length_map]; omega), ⟨_, rfl⟩, Rs ++ [R], rs ++ [tq], by rw [upd_same, List.map_append]; rfl, ?_, by simp [hRl], ?_, ?_, ?_, ?_, ?_⟩
      ·have keep : ∀ tr R', LR H9 tr R' -> LR (upd H9 lu (.lst (rs.map V.ref ++ [.ref tq]))) tr R' := fun tr R' h => by
        obtain ⟨z', a1, a2⟩ := h
        exact ⟨z', by rw [upd_ne (ne_of a1 hu9 (by intro z; cases z))]; exact a1, a2⟩
       refine All2.snoc (hA8.mono fun tr R' h => keep tr R' (h.same s9)) (keep tq R ⟨z, htq, by have := hBR.z3; omega, fun h => ?_⟩)
       rw [hBR.sg, if_neg h]
      ·intro R' h
       rcases List.mem_append.mp h with h | h
       ·exact hB8 R' h
       ·rw [List.mem_singleton.mp h]; exact ⟨z, hBR⟩
      ·rw [upd_ne u2]; exact s9 _ _ hm8
      ·rw [upd_ne u6]; exact s9 _ _ hln8
      ·exact Same.up (sG8.trans s9) u4
      ·exact Same.up (s8.trans s9) u5
     ·rintro Z' H8 ⟨hZ, Rs, rs, h1', h2', h3', r⟩
      exact ⟨hZ, Rs, rs, h1', h2', by omega, r⟩
    rintro Z' H7 ⟨⟨y8, rfl⟩, Rs, rs, hu7, hA7, hRl, hB7, hm7, hln7, sG7, s7⟩
    refine @at_one _ _ _ _ _ _ (@ps_expr _ _ _ _ (@pe_bm _ _ _ _ _ _ _ _ _ _ _ _ F.plainAttrs_list F.slot_list_append F.type_list_append mt_append (pv 5) (@pa_cons _ _ _ _ _ (@pe_tup _ _ _ _ _ (@pa_cons _ _ _ _ _ (@pe_ix _ _ _ _ _ _ _ ix_list (pv 3) (pv 6) (fun _ _ => rfl)) (@pa_cons _ _ _ _ _ (@pe_ix _ _ _ _ _ _ _ ix_list (@pe_lst _ _ _ _ (@pa_strs _ _ ["plain", "red", "mode", "z"] rfl)) (@pe_call _ _ _ _ _ _ _ _ _ _ _ _ _ _ _ _ (ok_q51 T) (hr.mono (by decide)) rfl T.mg_q51 T.F_q51.kp (T.F_q51.binds (by walk_at "3")) .nil pass0 (@pa_cons _ _ _ _ _ (pv 0) (@pa_cons _ _ _ _ _ (@pe_op _ _ _ _ _ _ _ _ op_add (@pe_op _ _ _ _ _ _ _ _ op_add (pv 1) pe_int) (pv 6)) (@pa_cons _ _ _ _ _ pe_int pa_nil (by left)) (by left)) (by left)) (by left) (by left) (by left)) (fun _ _ => rfl)) (@pa_cons _ _ _ _ _ (pv 7) pa_nil (by left)) (by left)) (by left))) pa_nil (by left)) (by left) (by left) (by left) (by left) (by left)) (by left)) ⟨_, rfl, .inl ⟨rfl, _, SqL.of hm7⟩, _, rfl, _, rfl, _, _, _, _, rfl, rfl, SqL.of hln7, hat, by show 4 <= sizeLine; decide, fun l0 hl0 => ⟨_, rfl, _, rfl, _, _, rfl, rfl, _, rfl, _, _, rfl, rfl, a, ns, _, _, rfl, hS.same (s7.to hl0), (by omega), (by omega), (by decide), hl, fun d H8 h0 h1 s8 => ?_⟩⟩
    obtain ⟨c, hcx, e⟩ := pick (xs := ["plain", "red", "mode", "z"]) h0 h1
    have hcn : isName c = true := by
     have : ∀ y ∈ (["plain", "red", "mode", "z"] : List Str), isName y = true := by decide +kernel
     exact this c hcx
    have s78 := (Same.upd hl0).trans s8
    refine ⟨l0, _, _, _, rfl, rfl, SqL.of (s8 _ _ upd_same), e, _, rfl, by show 3 <= sizeLine; decide, fun tm htm => ?_⟩
    have s9 : Same H7 (upd H8 tm (.tup [.str nm, .str c, .ref lu])) := s78.to htm
    have htm9 : upd H8 tm (.tup [.str nm, .str c, .ref lu]) tm = some (.tup [.str nm, .str c, .ref lu]) := upd_same
    generalize upd H8 tm (.tup [.str nm, .str c, .ref lu]) = H9 at s9 htm9
    have hm9 := s9 _ _ hm7
    have hh : ∀ {b o}, H9 b = some o -> b ≠ lm -> upd H9 lm (.lst (ts.map V.ref ++ [.ref tm])) b = some o := fun {b o} e ne => by rw [upd_ne ne]; exact e
    refine ⟨lm, _, _, rfl, rfl, hm9, sl_lt (by rw [List.length_map, hA.1]; omega), ⟨_, _, _, rfl⟩, ms ++ [⟨nm, c, Rs⟩], ts ++ [tm], hide (upd H9 lm (.lst (ts.map V.ref ++ [.ref tm]))) lm, by rw [upd_same, List.map_append]; rfl, hh (s9 _ _ hln7) nlm, hide_same, hide_x, ?_, ?_, by simp [hml], ?_, ?_, ?_⟩
    ·refine All2.snoc (hA.mono fun _ _ r => r.same (Same.hid (Same.up (sG7.trans s9) G1) G1)) ?_
     have nt : ∀ {b xs}, H9 b = some (.tup xs) -> hide (upd H9 lm (.lst (ts.map V.ref ++ [.ref tm]))) lm b = some (.tup xs) := fun {b xs} e => by
      have b1 : b ≠ lm := ne_of e hm9 (by intro z; cases z)
      exact hide_of (hh e b1) b1
     refine ⟨lu, rs, nt htm9, hide_of (hh (s9 _ _ hu7) (Ne.symm u2)) (Ne.symm u2), hA7.mono fun _ _ e => ?_⟩
     obtain ⟨z', a1, a2⟩ := e
     exact ⟨z', nt (s9 _ _ a1), a2⟩
    ·rw [List.map_append, hnames, take_snoc hnk]; rfl
    ·intro m hm
     rcases List.mem_append.mp hm with hm | hm
     ·exact hnm m hm
     ·rw [List.mem_singleton.mp hm]; exact ⟨hnmk, hcn⟩
    ·intro k' m hm
     rcases snoc_get hm with hm | ⟨e1, e2⟩
     ·exact hru k' m hm
     ·rw [e2, e1, hml]
      exact ⟨hRl, hB7⟩
    ·exact Same.up (s7.trans s9) hlm0
   ·rintro Z' H5 ⟨hZ, ms, ts, G, hm5, hln5, sG, G1, hA, hnames, hml, hnm, hru, s5⟩
    rw [Int.toNat_natCast] at hml hnames
    refine ⟨hZ, ms, ⟨by omega, by omega, ?_, hnm, ?_⟩, ⟨ts, hm5, hA.mono fun _ _ r => r.same sG⟩, s5⟩
    ·rw [hnames]; exact nnd.sublist (List.take_sublist _ _)
    ·rw [hml]; exact hru
  rintro Z' H5 ⟨⟨x6, x7, x8, rfl⟩, ms, hB, hL, s5⟩
  exact @at_one _ _ _ _ _ _ (ps_ret (pv 5)) ⟨_, rfl, q ms lm H5 hB hL s5⟩
structure Wds (H0 H : Hp) (l : Addr) (ws : List Str) : Prop where
 at_ : H l = some (.lst (ws.map V.str))
 new : H0 l = none
 same : Same H0 H
theorem Wds.add {H0 H : Hp} {l : Addr} {ws : List Str} {x : Str} (W : Wds H0 H l ws) : Wds H0 (upd H l (.lst (ws.map V.str ++ [.str x]))) l (ws ++ [x]) :=
 ⟨by rw [upd_same, List.map_append]; rfl, W.new, fun b o hb => by rw [upd_ne (ne_of_none hb W.new)]; exact W.same _ _ hb⟩
theorem Wds.to {H0 H H' : Hp} {l : Addr} {ws : List Str} (W : Wds H0 H l ws) (s : Same H H') : Wds H0 H' l ws := ⟨s _ _ W.at_, W.new, W.same.trans s⟩
theorem sum_le {m : Nat} : ∀ (ys : List Str), (∀ y ∈ ys, y.length <= m) -> (ys.map (·.length)).sum <= ys.length * m
 | [], _ => by simp
 | x :: r, h => by
  have h1 := h x (by simp)
  have h2 := sum_le r (fun z hz => h z (List.mem_cons_of_mem _ hz))
  rw [List.map_cons, List.sum_cons, List.length_cons, Nat.succ_mul]
  omega
theorem repl_len (z : Str) : (PySem.Txt.replace z " " "_").length = z.length := by
 have := congrArg List.length (replace_cps z 32 95)
 rw [len_cps, subL, List.length_map, len_cps] at this
 rw [show ((" " : Str)) = ⟨#[32]⟩ from by decide +kernel, show (("_" : Str)) = ⟨#[95]⟩ from by decide +kernel]
 exact this
theorem mode_row {names : List Str} {n c : Str} : (Str.ofString "mode " ++ n ++ Str.ofString " " ++ c : Str) = rowOf names (.mode n c) := by
 refine str_ext ?_
 unfold rowOf
 rw [join_cps, cps_app, cps_app, cps_app]
 show _ = (Str.ofString "mode").cps.toList ++ 32 :: (n.cps.toList ++ 32 :: c.cps.toList)
 have e1 : (Str.ofString "mode ").cps.toList = (Str.ofString "mode").cps.toList ++ [32] := by decide +kernel
 have e2 : (Str.ofString " ").cps.toList = [32] := by decide +kernel
 rw [e1, e2]
 simp
def itemsM (m : ModeM) : List Item := .mode m.name m.colour :: m.rules.map .rule
def itemsOf (ms : List ModeM) : List Item := ms.flatMap itemsM
theorem itemsOf_app (a b : List ModeM) : itemsOf (a ++ b) = itemsOf a ++ itemsOf b := by unfold itemsOf; rw [List.flatMap_append]
theorem itemsOf_one (m : ModeM) : itemsOf [m] = itemsM m := by unfold itemsOf; simp
theorem names_rules (rs : List RuleM) : namesOf (rs.map Item.rule) = [] := by
 induction rs with
 | nil => rfl
 | cons r t ih => show nameI (.rule r) ++ namesOf (t.map Item.rule) = []; rw [ih]; rfl
theorem names_M (m : ModeM) : namesOf (itemsM m) = [m.name] := by
 show nameI (.mode m.name m.colour) ++ namesOf (m.rules.map Item.rule) = _
 rw [names_rules]; rfl
theorem names_items (ms : List ModeM) : namesOf (itemsOf ms) = ms.map (·.name) := by
 induction ms with
 | nil => rfl
 | cons m r ih =>
  rw [show m :: r = [m] ++ r from rfl, itemsOf_app, namesOf_app, itemsOf_one, names_M, ih]
  rfl
theorem fold_rules_step (rs : List RuleM) : ∀ (ms : List ModeM) (m : ModeM), (rs.map Item.rule).foldl stepI (ms ++ [m]) = ms ++ [{ m with rules := m.rules ++ rs }] := by
 induction rs with
 | nil => intro ms m; simp
 | cons r t ih =>
  intro ms m
  rw [List.map_cons, List.foldl_cons, show stepI (ms ++ [m]) (Item.rule r) = addRule r (ms ++ [m]) from rfl, addRule_snoc, ih]
  simp
theorem fold_M (ms : List ModeM) (m : ModeM) : (itemsM m).foldl stepI ms = ms ++ [m] := by
 rw [itemsM, List.foldl_cons]
 show (m.rules.map Item.rule).foldl stepI (ms ++ [⟨m.name, m.colour, []⟩]) = _
 rw [fold_rules_step]
 simp
theorem fold_itemsOf (ms : List ModeM) : ∀ acc : List ModeM, (itemsOf ms).foldl stepI acc = acc ++ ms := by
 induction ms with
 | nil => intro acc; simp [itemsOf]
 | cons m r ih =>
  intro acc
  rw [show m :: r = [m] ++ r from rfl, itemsOf_app, List.foldl_append, itemsOf_one, fold_M, ih]
  simp
theorem fold_items (ms : List ModeM) : foldI (itemsOf ms) = ms := by
 have := fold_itemsOf ms []
 simpa [foldI] using this
theorem BRule.good {names : List Str} {k : Nat} {calm : Bool} {R : RuleM} {z : Str} (h : BRule names.length k calm R z) : GoodRule names R := by
 refine ⟨⟨h.sort, fun hb => ?_, fun hb => ?_⟩, h.col, h.col0, h.deed, h.goal, h.goal0, h.fold⟩
 ·rw [h.sg, if_pos hb]
 ·rw [h.sg, if_neg hb]
  have := h.z3
  exact ⟨h.z1, by omega, fun y => (sg6_ok _ (h.zs _ y)).1 rfl, fun y => (sg6_ok _ (h.zs _ y)).2 rfl⟩
theorem Built.rule {calm : Bool} {ms : List ModeM} (B : Built calm ms) {k : Nat} {m : ModeM} (hm : ms[k]? = some m) {R : RuleM} (hR : R ∈ m.rules) : GoodRule (ms.map (·.name)) R := by
 obtain ⟨z, hz⟩ := (B.rules k m hm).2 R hR
 exact BRule.good (names := ms.map (·.name)) (k := k) (calm := calm) (z := z) (by rw [List.length_map]; exact hz)
theorem good_upto {calm : Bool} {ms : List ModeM} (B : Built calm ms) : ∀ n, n <= ms.length -> ∀ (i : Nat) it, (itemsOf (ms.take n))[i]? = some it ->
  (∀ nm c, it = .mode nm c -> isName nm = true /\ isName c = true /\ (namesOf ((itemsOf (ms.take n)).take i)).length < 12 /\ nm ∉ namesOf ((itemsOf (ms.take n)).take i)) /\
  (∀ R, it = .rule R -> GoodRule (ms.map (·.name)) R /\ ∃ ms' m, foldI ((itemsOf (ms.take n)).take i) = ms' ++ [m] /\ m.rules.length < 12)
 | 0, _, i, it, h => by simp [itemsOf] at h
 | n + 1, hn, i, it, h => by
  have hm : ms[n]? = some ms[n] := List.getElem?_eq_getElem hn
  have e : itemsOf (ms.take (n + 1)) = itemsOf (ms.take n) ++ itemsM ms[n] := by rw [take_snoc hm, itemsOf_app, itemsOf_one]
  rw [e] at h ⊢
  have hmm := List.getElem_mem hn
  obtain ⟨r6, rB⟩ := B.rules n _ hm
  have h4 := B.four
  by_cases hi : i < (itemsOf (ms.take n)).length
  ·rw [List.getElem?_append_left hi] at h
   rw [List.take_append_of_le_length (by omega)]
   exact good_upto B n (by omega) i it h
  ·rw [List.getElem?_append_right (by omega)] at h
   rw [show (itemsOf (ms.take n) ++ itemsM ms[n]).take i = itemsOf (ms.take n) ++ (itemsM ms[n]).take (i - (itemsOf (ms.take n)).length) by
    rw [List.take_append, List.take_of_length_le (by omega)]]
   generalize i - (itemsOf (ms.take n)).length = j at h
   cases j with
   | zero =>
    have h : Item.mode ms[n].name ms[n].colour = it := by simpa [itemsM] using h
    subst h
    refine ⟨fun nm c e => ?_, (fun R e => by cases e)⟩
    cases e
    obtain ⟨n1, n2⟩ := B.nm _ hmm
    rw [List.take_zero, List.append_nil, names_items]
    refine ⟨n1, n2, by rw [List.length_map, List.length_take]; omega, fun hmem => ?_⟩
    rw [List.map_take] at hmem
    have hnd := B.nd
    obtain ⟨j, hj⟩ := List.mem_iff_getElem?.mp hmem
    have hjn : j < n := by
     have := (List.getElem?_eq_some_iff.mp hj).1
     rw [List.length_take] at this
     omega
    rw [List.getElem?_take_of_lt hjn] at hj
    have hk : (ms.map (·.name))[n]? = some ms[n].name := by rw [List.getElem?_map, hm]; rfl
    obtain ⟨j1, e1⟩ := List.getElem?_eq_some_iff.mp hj
    obtain ⟨k1, e2⟩ := List.getElem?_eq_some_iff.mp hk
    have := (List.getElem_inj hnd).mp (e1.trans e2.symm)
    omega
   | succ j =>
    have h : (ms[n].rules.map Item.rule)[j]? = some it := by simpa [itemsM] using h
    rw [List.getElem?_map] at h
    obtain ⟨R0, hR0, rfl⟩ := Option.map_eq_some_iff.mp h
    refine ⟨(fun nm c e => by cases e), fun R e => ?_⟩
    cases e
    refine ⟨B.rule hm (List.mem_of_getElem? hR0), ms.take n, ⟨ms[n].name, ms[n].colour, ms[n].rules.take j⟩, ?_, ?_⟩
    ·unfold foldI
     rw [List.foldl_append, fold_itemsOf, List.nil_append]
     have := fold_M (ms.take n) ⟨ms[n].name, ms[n].colour, ms[n].rules.take j⟩
     rw [← this]
     congr 1
     rw [itemsM, itemsM, List.take_succ_cons, List.map_take]
    ·show (ms[n].rules.take j).length < 12
     rw [List.length_take]
     omega
theorem Built.items {calm : Bool} {ms : List ModeM} (B : Built calm ms) : GoodItems (itemsOf ms) := by
 have h := good_upto B ms.length (Nat.le_refl _)
 rw [List.take_length] at h
 refine ⟨?_, fun i n c e => (h i _ e).1 n c rfl, fun i R e => ?_⟩
 ·intro z
  have := names_items ms
  rw [z] at this
  have hl := congrArg List.length this
  rw [List.length_map] at hl
  have := B.pos
  simp [namesOf] at hl
  omega
 ·rw [names_items]
  exact (h i _ e).2 R rfl
theorem Built.len {calm : Bool} {ms : List ModeM} (B : Built calm ms) : ∀ n, n <= ms.length -> (itemsOf (ms.take n)).length <= n * 7
 | 0, _ => by simp [itemsOf]
 | n + 1, hn => by
  have hm : ms[n]? = some ms[n] := List.getElem?_eq_getElem hn
  have ih := B.len n (by omega)
  have h6 := (B.rules n _ hm).1
  rw [take_snoc hm, itemsOf_app, itemsOf_one, List.length_append, itemsM, List.length_cons, List.length_map]
  omega
theorem Built.len28 {calm : Bool} {ms : List ModeM} (B : Built calm ms) : (itemsOf ms).length <= 28 := by
 have := B.len ms.length (Nat.le_refl _)
 rw [List.take_length] at this
 have := B.four
 omega
theorem Built.goodMs {calm : Bool} {ms : List ModeM} (B : Built calm ms) : GoodMs ms := by
 have at_ : ∀ m ∈ ms, ∃ k : Nat, ms[k]? = some m := fun m h => List.mem_iff_getElem?.mp h
 have h4 := B.four
 refine ⟨B.pos, by omega, fun m hm => ?_, fun m hm R hR => ?_, fun m hm R hR hg => ?_⟩
 ·obtain ⟨k, e⟩ := at_ m hm
  obtain ⟨h6, hB⟩ := B.rules k m e
  refine ⟨by omega, fun R hR => ?_⟩
  obtain ⟨z, hz⟩ := hB R hR
  refine ⟨hz.sort, ?_⟩
  rw [hz.sg]
  split
  ·decide
  ·have := hz.z3; omega
 ·obtain ⟨k, e⟩ := at_ m hm
  obtain ⟨z, hz⟩ := (B.rules k m e).2 R hR
  exact hz.deed
 ·obtain ⟨k, e⟩ := at_ m hm
  obtain ⟨z, hz⟩ := (B.rules k m e).2 R hR
  exact hz.goal hg
theorem Built.up {calm : Bool} {ms : List ModeM} (B : Built calm ms) : UpIdle ms := fun k m hm R hR he => by
 obtain ⟨z, hz⟩ := (B.rules k m hm).2 R hR
 rcases (hz.idle he).2 with h | ⟨h1, g, h2, h3⟩
 ·exact .inl h
 ·obtain ⟨g', e1, e2⟩ := hz.goal h1
  rw [h2] at e1
  cases e1
  exact .inr ⟨h1, g, h2, h3, e2⟩
theorem Built.calmPops {ms : List ModeM} (B : Built true ms) (row : Str) : NoPops ms row := by
 have hn : ∀ k, idleAt ms k row = none := fun k => by
  cases e : idleAt ms k row with
  | none => rfl
  | some R =>
   obtain ⟨m, hm, hR, he⟩ := idle_at_of e
   obtain ⟨z, hz⟩ := (B.rules k m hm).2 R hR
   cases (hz.idle he).1
 refine ⟨?_, fun y R hy hi => by rw [hn] at hi; cases hi⟩
 cases hN : ms.length with
 | zero => rfl
 | succ n => rw [popsN, hn]
theorem Built.calmIdle {ms : List ModeM} (B : Built true ms) (row : Str) (k : Nat) : idleAt ms k row = none := by
 cases e : idleAt ms k row with
 | none => rfl
 | some R =>
  obtain ⟨m, hm, hR, he⟩ := idle_at_of e
  obtain ⟨z, hz⟩ := (B.rules k m hm).2 R hR
  cases (hz.idle he).1
theorem Built.calmRow {ms : List ModeM} (B : Built true ms) (row : Str) : ∀ n k, ringRow ms row n k = none
 | 0, _ => rfl
 | n + 1, k => by
  have : ringFrom ms k row = none := by
   unfold ringFrom
   cases ms.length with
   | zero => rfl
   | succ f => rw [ringF, B.calmIdle]
  rw [ringRow, this]
  exact B.calmRow row n (k + 1)
theorem Built.calmRing {ms : List ModeM} (B : Built true ms) : ringM ms = none := by
 have : ∀ rows : List Str, ringRows ms rows = none := by
  intro rows
  induction rows with
  | nil => rfl
  | cons r rs ih => rw [ringRows, B.calmRow]; exact ih
 exact this _
structure LetBy (ms : List ModeM) : Prop where
 b : ∃ calm, Built calm ms
 np : ∀ r ∈ shortRows, NoPops ms r
 ring : ringM ms = none
theorem LetBy.good {ms : List ModeM} (L : LetBy ms) {row : Str} (h : ∀ c ∈ row.cps.toList, c ∈ sg6) : Good ms row := by
 obtain ⟨calm, B⟩ := L.b
 have h94 : ∀ c ∈ sg6, c ∈ signs94.cps.toList := by decide +kernel
 refine ⟨B.goodMs, B.up, B.four, fun m hm R hR hb => ?_, L.np, fun c hc => h94 c (h c hc)⟩
 obtain ⟨k, e⟩ := List.mem_iff_getElem?.mp hm
 obtain ⟨z, hz⟩ := (B.rules k m e).2 R hR
 rw [hz.sg, if_neg hb]
 exact hz.z1
def spText : Sp := fun vs H Q _ => ∃ (lm : Addr) (ms : List ModeM) (calm : Bool), vs = [.ref lm] /\ LMs H lm ms /\ Built calm ms /\ ∀ H', Same H H' -> Q (.str (Str.join ⟨#[10]⟩ (rowsOf (itemsOf ms)))) H'
theorem name_len {x : Str} (h : isName x = true) : x.length <= 8 /\ x ≠ "" := by
 unfold isName at h
 simp only [Bool.and_eq_true, decide_eq_true_eq] at h
 refine ⟨h.1.2, fun z => ?_⟩
 rw [z] at h
 exact absurd h.1.1 (by decide)
theorem ok_q62 (T : Txt K mg t) : FnOk P w K mg base CX0 1 t.f_q62 t.d_q62 ["_law_modes_here"] spText := by
 refine T.F_q62.ok sc_q62 ?_ ?_
 walk_at "i"
 ·obtain ⟨lm, ms, calm, rfl, ⟨ts, hlm, hA⟩, B, q⟩ := h
  obtain ⟨names, hnames⟩ : ∃ names, names = ms.map (·.name) := ⟨_, rfl⟩
  have hnl : names.length = ms.length := by rw [hnames, List.length_map]
  have hnm : ∀ x ∈ names, isName x = true := fun x hx => by
   rw [hnames] at hx
   obtain ⟨m, hm, rfl⟩ := List.mem_map.mp hx
   exact (B.nm m hm).1
  have hitems := B.len28
  have h4 := B.four
  refine @at_cons _ _ _ _ _ _ _ (ps_set (i := 1) sc_q62.nd rfl (Or.inl rfl) (pe_lst pa_nil)) ⟨by show 0 <= sizeLine; decide, fun lr hlr => ?_⟩
  have W0 : Wds H (upd H lr (.lst [])) lr [] := ⟨upd_same, hlr, Same.upd hlr⟩
  generalize upd H lr (.lst []) = H0 at W0
  refine @at_consR _ _ _ _ _ _ _ (fun Z' H' => (∃ x2 x3 x4 x5 x6 x7 x8 x9 x10 x11, Z' = [some (.ref lm), some (.ref lr), x2, x3, x4, x5, x6, x7, x8, x9, x10, x11]) /\ Wds H H' lr ((itemsOf ms).map (rowOf names))) (ps_forA PassesOwn.never rfl (pi_list (pv 0)) (pg_tup rfl (pgs_cons (pg_name (i := 2) sc_q62.nd rfl (Or.inl rfl)) (pgs_cons (pg_name (i := 3) sc_q62.nd rfl (Or.inl rfl)) (pgs_cons (pg_name (i := 4) sc_q62.nd rfl (Or.inl rfl)) pgs_nil)))) pss_at) ?_ ?_
  ·refine ⟨_, rfl, lm, rfl, ⟨_, SqL.of (W0.same _ _ hlm)⟩, forW_list (xs := ts.map V.ref) (fun i Z' H' => (∃ x2 x3 x4 x5 x6 x7 x8 x9 x10 x11, Z' = [some (.ref lm), some (.ref lr), x2, x3, x4, x5, x6, x7, x8, x9, x10, x11]) /\ Wds H H' lr ((itemsOf (ms.take i)).map (rowOf names))) ⟨⟨_, _, _, _, _, _, _, _, _, _, rfl⟩, W0⟩ ?_ ?_ ?_⟩
   ·rintro i Z' H' _ ⟨_, W⟩
    exact SqL.of (W.same _ _ hlm)
   ·rintro i xv Z' H1 hx ⟨⟨x2, x3, x4, x5, x6, x7, x8, x9, x10, x11, rfl⟩, W1⟩
    rw [List.getElem?_map] at hx
    obtain ⟨tm, htm, rfl⟩ := Option.map_eq_some_iff.mp hx
    have hi : i < ms.length := by rw [← hA.1]; exact (List.getElem?_eq_some_iff.mp htm).1
    have hm : ms[i]? = some ms[i] := List.getElem?_eq_getElem hi
    generalize hmd : ms[i] = m at hm
    obtain ⟨lu, rs, t1, t2, t3⟩ := hA.2 i tm m htm hm
    obtain ⟨n1, n2⟩ := B.nm m (List.mem_of_getElem? hm)
    obtain ⟨r6, rB⟩ := B.rules i m hm
    have l1 := (name_len n1).1
    have l2 := (name_len n2).1
    have hil := B.len i (by omega)
    refine ⟨tm, [.str m.name, .str m.colour, .ref lu], rfl, SqT.of (W1.same _ _ t1), rfl, _, _, rfl, _, _, rfl, _, _, rfl, rfl, ?_⟩
    have e5 : (Str.ofString "mode ").length = 5 := by decide +kernel
    have e1 : (Str.ofString " ").length = 1 := by decide +kernel
    refine @at_cons _ _ _ _ _ _ _ (ps_expr (pe_bm F.plainAttrs_list F.slot_list_append F.type_list_append mt_append (pv 1) (pa_cons (pe_op op_add_str (pe_op op_add_str (pe_op op_add_str pe_str (pv 2)) pe_str) (pv 3)) pa_nil))) ⟨_, rfl, .inl ⟨rfl, _, SqL.of W1.at_⟩, _, rfl, _, _, rfl, rfl, sl_le (by show (Str.ofString "mode ").length + _ <= _; omega), _, _, rfl, rfl, sl_le (by rw [Str.length_append]; show (Str.ofString "mode ").length + _ + (Str.ofString " ").length <= _; omega), _, rfl, _, _, rfl, rfl, sl_le (by rw [Str.length_append, Str.length_append]; show (Str.ofString "mode ").length + _ + (Str.ofString " ").length + _ <= _; omega), lr, _, _, rfl, rfl, W1.at_, sl_lt (by rw [List.length_map, List.length_map]; omega), ?_⟩
    rw [show (Str.ofString "mode " ++ m.name ++ Str.ofString " " ++ m.colour : Str) = rowOf names (.mode m.name m.colour) from mode_row]
    have W2 := W1.add (x := rowOf names (.mode m.name m.colour))
    generalize upd H1 lr _ = H2 at W2
    refine @at_one _ _ _ _ _ _ (ps_forA PassesOwn.never rfl (pi_list (pv 4)) (pg_tup rfl (pgs_cons (pg_name (i := 5) sc_q62.nd rfl (Or.inl rfl)) (pgs_cons (pg_name (i := 6) sc_q62.nd rfl (Or.inl rfl)) (pgs_cons (pg_name (i := 7) sc_q62.nd rfl (Or.inl rfl)) (pgs_cons (pg_name (i := 8) sc_q62.nd rfl (Or.inl rfl)) (pgs_cons (pg_name (i := 9) sc_q62.nd rfl (Or.inl rfl)) (pgs_cons (pg_name (i := 10) sc_q62.nd rfl (Or.inl rfl)) pgs_nil))))))) pss_at) ⟨_, rfl, lu, rfl, ⟨_, SqL.of (W2.same _ _ t2)⟩, forW_list (xs := rs.map V.ref) (fun j Z' H' => (∃ x2 x3 x4 x5 x6 x7 x8 x9 x10 x11, Z' = [some (.ref lm), some (.ref lr), x2, x3, x4, x5, x6, x7, x8, x9, x10, x11]) /\ Wds H H' lr ((itemsOf (ms.take i)).map (rowOf names) ++ [rowOf names (.mode m.name m.colour)] ++ (m.rules.take j).map fun R => rowOf names (.rule R))) ⟨⟨_, _, _, _, _, _, _, _, _, _, rfl⟩, by rw [List.take_zero, List.map_nil, List.append_nil]; exact W2⟩ ?_ ?_ ?_⟩
    ·rintro j Z' H' _ ⟨_, W⟩
     exact SqL.of (W.same _ _ t2)
    ·rintro j xv Z' H3 hx ⟨⟨y2, y3, y4, y5, y6, y7, y8, y9, y10, y11, rfl⟩, W3⟩
     rw [List.getElem?_map] at hx
     obtain ⟨tr, htr, rfl⟩ := Option.map_eq_some_iff.mp hx
     have hj : j < m.rules.length := by rw [← t3.1]; exact (List.getElem?_eq_some_iff.mp htr).1
     have hRj : m.rules[j]? = some m.rules[j] := List.getElem?_eq_getElem hj
     generalize hRd : m.rules[j] = R at hRj
     obtain ⟨z, u1, u2, u3⟩ := t3.2 j tr R htr hRj
     have hRm := List.mem_of_getElem? hRj
     have GR : GoodRule names R := by rw [hnames]; exact B.rule hm hRm
     refine ⟨tr, tup6 R z, rfl, SqT.of (W3.same _ _ u1), rfl, _, _, rfl, _, _, rfl, _, _, rfl, _, _, rfl, _, _, rfl, _, _, rfl, rfl, ?_⟩
     show At _ _ _ [some (.ref lm), some (.ref lr), y2, y3, y4, some (.str R.sort), some (.str z), some (.str R.colour), some (.str R.deed), some (goalV R.goal), some (.str R.fold), y11] H3
     refine @at_cons _ _ _ _ _ _ _ (ps_set (i := 11) sc_q62.nd rfl (Or.inl rfl) (pe_lst (pa_cons (pv 5) pa_nil))) ⟨_, rfl, by show 1 <= sizeLine; decide, fun l hl0 => ?_⟩
     have V0 : Wds H3 (upd H3 l (.lst [.str R.sort])) l [R.sort] := ⟨upd_same, hl0, Same.upd hl0⟩
     show At _ _ _ [some (.ref lm), some (.ref lr), y2, y3, y4, some (.str R.sort), some (.str z), some (.str R.colour), some (.str R.deed), some (goalV R.goal), some (.str R.fold), some (.ref l)] _
     generalize upd H3 l (.lst [.str R.sort]) = H4 at V0
     have hs := GR.pat.sort
     refine @at_consR _ _ _ _ _ _ _ (fun Z' H' => Z' = [some (.ref lm), some (.ref lr), y2, y3, y4, some (.str R.sort), some (.str z), some (.str R.colour), some (.str R.deed), some (goalV R.goal), some (.str R.fold), some (.ref l)] /\ Wds H3 H' l (patWords R.sort R.signs)) (@ps_if _ _ _ _ _ _ _ _ (@pt_cmpR _ _ _ _ _ _ _ _ op_in_seq (pv 5) (@pe_tup _ _ _ _ _ (@pa_strs _ _ ["word", "one", "none", "many"] rfl)) rfl) pss_at pss_at) ?_ ?_
     ·refine ⟨_, rfl, by show 4 <= sizeLine; decide, fun pt hpt => ⟨pt, _, rfl, .inr (SqT.of upd_same), rfl, rfl, _, rfl, ?_⟩⟩
      have V1 : Wds H3 (upd H4 pt (.tup ((["word", "one", "none", "many"] : List Str).map V.str))) l [R.sort] := V0.to (Same.upd hpt)
      generalize upd H4 pt (.tup ((["word", "one", "none", "many"] : List Str).map V.str)) = H5 at V1
      have hin : inV (.str R.sort) [.str "word", .str "one", .str "none", .str "many"] = decide (¬ bare R.sort) := by
       rw [show ([.str "word", .str "one", .str "none", .str "many"] : List V) = (["word", "one", "none", "many"] : List Str).map V.str from rfl, inV_strs]
       generalize R.sort = st at hs
       rcases sorts_cases hs with rfl | rfl | rfl | rfl | rfl | rfl | rfl <;> decide +kernel
      refine ifeq hin (ifd (fun h => ?_) (fun h => at_nil ⟨rfl, ?_⟩))
      ·have hz : z = R.signs := u3 h
       refine @at_one _ _ _ _ _ _ (ps_expr (pe_bm F.plainAttrs_list F.slot_list_append F.type_list_append mt_append (pv 11) (pa_cons (pe_add_repl (by decide +kernel) (pv 6)) pa_nil))) ⟨_, rfl, .inl ⟨rfl, _, SqL.of V1.at_⟩, _, rfl, z, rfl, ?_, _, rfl, ?_, ?_⟩
       ·rw [show ("_" : Str).length = 1 from by decide +kernel]
        omega
       ·rw [repl_len, show ("'" : Str).length = 1 from by decide +kernel]
        exact sl_le (by omega)
       ·refine ⟨l, _, _, rfl, rfl, V1.at_, by show 1 < sizeLine; decide, rfl, ?_⟩
        rw [patWords, if_neg h, ← hz]
        exact V1.add (x := wSigns z)
      ·rw [patWords, if_pos (Decidable.not_not.mp h)]
       exact V1
     rintro Z' H5 ⟨rfl, V5⟩
     have plen := pat_len (s := R.sort) (z := R.signs)
     refine @at_consR _ _ _ _ _ _ _ (fun Z' H' => Z' = [some (.ref lm), some (.ref lr), y2, y3, y4, some (.str R.sort), some (.str z), some (.str R.colour), some (.str R.deed), some (goalV R.goal), some (.str R.fold), some (.ref l)] /\ Wds H3 H' l (patWords R.sort R.signs ++ (if eatsB R.sort = true then [R.colour] else []))) (ps_if (pt_cmpR op_ne (pv 7) pe_str (nomark _)) pss_at pss_at) ?_ ?_
     ·refine ⟨_, rfl, rfl, _, rfl, ifnd (fun h => ?_) (fun h => at_nil ⟨rfl, ?_⟩)⟩
      ·have he : eatsB R.sort = true := by
        cases e : eatsB R.sort with
        | true => rfl
        | false => exact absurd (by rw [GR.col0 e]) h
       refine @at_one _ _ _ _ _ _ (ps_expr (pe_bm F.plainAttrs_list F.slot_list_append F.type_list_append mt_append (pv 11) (pa_cons (pv 7) pa_nil))) ⟨_, rfl, .inl ⟨rfl, _, SqL.of V5.at_⟩, _, rfl, l, _, _, rfl, rfl, V5.at_, sl_lt (by rw [List.length_map]; omega), rfl, ?_⟩
       rw [if_pos he]
       exact V5.add
      ·have he : ¬ eatsB R.sort = true := fun e => (name_len (GR.col e)).2 (V.str.inj h)
       rw [if_neg he, List.append_nil]
       exact V5
     rintro Z' H6 ⟨rfl, V6⟩
     have l4 : (if eatsB R.sort = true then [R.colour] else []).length <= 1 := by split <;> simp
     refine @at_cons _ _ _ _ _ _ _ (ps_expr (pe_bm F.plainAttrs_list F.slot_list_append F.type_list_append mt_append (pv 11) (pa_cons (pv 8) pa_nil))) ⟨_, rfl, .inl ⟨rfl, _, SqL.of V6.at_⟩, _, rfl, l, _, _, rfl, rfl, V6.at_, sl_lt (by rw [List.length_map, List.length_append]; omega), ?_⟩
     have V7 := V6.add (x := R.deed)
     generalize upd H6 l _ = H7 at V7
     refine @at_consR _ _ _ _ _ _ _ (fun Z' H' => Z' = [some (.ref lm), some (.ref lr), y2, y3, y4, some (.str R.sort), some (.str z), some (.str R.colour), some (.str R.deed), some (goalV R.goal), some (.str R.fold), some (.ref l)] /\ Wds H3 H' l (patWords R.sort R.signs ++ (if eatsB R.sort = true then [R.colour] else []) ++ [R.deed] ++ goalW names R.goal)) (ps_if (pt_cmpR op_notN (pv 9) pe_non (nomark _)) pss_at pss_at) ?_ ?_
     ·cases hg : R.goal with
      | none =>
       refine ⟨_, rfl, rfl, _, rfl, ifnd (fun h => absurd rfl h) (fun _ => at_nil ⟨rfl, ?_⟩)⟩
       rw [show goalW names none = [] from rfl, List.append_nil]
       exact V7
      | some g =>
       have hgl : g < ms.length := by
        by_cases hgo : going R.deed
        ·obtain ⟨g', e, hg'⟩ := GR.goal hgo
         rw [hg] at e; cases e; omega
        ·rw [GR.goal0 hgo] at hg; cases hg
       have hmg : ms[g]? = some ms[g] := List.getElem?_eq_getElem hgl
       obtain ⟨tg, htg, hLg⟩ := hA.at hmg
       obtain ⟨lg, rg, v1, v2, v3⟩ := hLg
       have hng : names.getD g "" = ms[g].name := by rw [hnames]; simp [hgl]
       refine ⟨_, rfl, rfl, _, rfl, ifnd (fun _ => ?_) (fun h => by cases h)⟩
       refine @at_one _ _ _ _ _ _ (ps_expr (pe_bm F.plainAttrs_list F.slot_list_append F.type_list_append mt_append (pv 11) (pa_cons (pe_ix ix_tup (pe_ix ix_list (pv 0) (pv 9) (fun _ _ => rfl)) pe_int (fun _ _ => rfl)) pa_nil))) ⟨_, rfl, .inl ⟨rfl, _, SqL.of V7.at_⟩, _, rfl, _, rfl, _, _, _, _, rfl, rfl, SqL.of ((W3.same.trans V7.same) _ _ hlm), at_ref htg, _, _, _, _, rfl, rfl, SqT.of ((W3.same.trans V7.same) _ _ v1), atI_nat (j := 0) rfl, l, _, _, rfl, rfl, V7.at_, sl_lt (by simp only [List.length_map, List.length_append, List.length_cons, List.length_nil]; omega), rfl, ?_⟩
       rw [show goalW names (some g) = [ms[g].name] by rw [← hng]; rfl]
       exact V7.add
     rintro Z' H8 ⟨rfl, V8⟩
     have l7 := goalW_len (names := names) (g := R.goal)
     refine @at_consR _ _ _ _ _ _ _ (fun Z' H' => Z' = [some (.ref lm), some (.ref lr), y2, y3, y4, some (.str R.sort), some (.str z), some (.str R.colour), some (.str R.deed), some (goalV R.goal), some (.str R.fold), some (.ref l)] /\ Wds H3 H' l (ruleWords names R)) (ps_if (pt_cmpR op_ne (pv 10) pe_str (nomark _)) pss_at pss_at) ?_ ?_
     ·refine ⟨_, rfl, rfl, _, rfl, ifnd (fun h => ?_) (fun h => at_nil ⟨rfl, ?_⟩)⟩
      ·have h : R.fold ≠ "" := fun y => h (by rw [y])
       refine @at_one _ _ _ _ _ _ (ps_expr (pe_bm F.plainAttrs_list F.slot_list_append F.type_list_append mt_append (pv 11) (pa_cons (pv 10) pa_nil))) ⟨_, rfl, .inl ⟨rfl, _, SqL.of V8.at_⟩, _, rfl, l, _, _, rfl, rfl, V8.at_, sl_lt (by simp only [List.length_map, List.length_append, List.length_cons, List.length_nil]; omega), rfl, ?_⟩
       have := V8.add (x := R.fold)
       rw [ruleWords]
       simp only [if_neg h]
       simp only [List.append_assoc] at this ⊢
       exact this
      ·have h : R.fold = "" := V.str.inj h
       rw [ruleWords]
       simp only [if_pos h]
       simp only [List.append_assoc, List.append_nil] at V8 ⊢
       exact V8
     rintro Z' H9 ⟨rfl, V9⟩
     have rl := rule_len (names := names) (R := R)
     have W9 := W3.to V9.same
     refine @at_one _ _ _ _ _ _ (ps_expr (pe_bm F.plainAttrs_list F.slot_list_append F.type_list_append mt_append (pv 1) (pa_cons (pe_bm F.plainAttrs_str F.slot_str_join F.type_str_join mt_join pe_str (pa_cons (pv 11) pa_nil)) pa_nil))) ⟨_, rfl, .inl ⟨rfl, _, SqL.of W9.at_⟩, rfl, _, rfl, _, l, _, rfl, rfl, SqL.of V9.at_, ?_, ?_⟩
     ·have h1 := sum_le (m := 202) (ruleWords names R) (fun y hy => (rule_words hnm GR y hy).l)
      rw [show (" " : Str).length = 1 from by decide +kernel]
      have h2 : (ruleWords names R).length * 202 <= 7 * 202 := Nat.mul_le_mul_right _ rl.2
      omega
     ·rw [join_eq, show ((" " : Str)) = ⟨#[32]⟩ from by decide +kernel]
      refine ⟨lr, _, _, rfl, rfl, W9.at_, sl_lt (by simp only [List.length_map, List.length_append, List.length_cons, List.length_nil, List.length_take]; omega), ⟨_, _, _, _, _, _, _, _, _, _, rfl⟩, ?_⟩
      have e : (m.rules.take (j + 1)).map (fun R => rowOf names (.rule R)) = (m.rules.take j).map (fun R => rowOf names (.rule R)) ++ [rowOf names (.rule R)] := by rw [take_snoc hRj, List.map_append]; rfl
      rw [e, ← List.append_assoc]
      exact W9.add (x := rowOf names (.rule R))
    ·rintro Z' H3 ⟨hZ, W3⟩
     refine ⟨hZ, ?_⟩
     rw [List.length_map, t3.1, List.take_length] at W3
     rw [take_snoc hm, itemsOf_app, itemsOf_one, List.map_append, itemsM, List.map_cons, List.map_map]
     rw [List.append_assoc] at W3
     exact W3
   ·rintro Z' H1 ⟨hZ, W1⟩
    rw [List.length_map, hA.1, List.take_length] at W1
    exact ⟨hZ, W1⟩
  rintro Z' H1 ⟨⟨x2, x3, x4, x5, x6, x7, x8, x9, x10, x11, rfl⟩, W1⟩
  have hGI := B.items
  have hrows : rowsOf (itemsOf ms) = (itemsOf ms).map (rowOf names) := by rw [rowsOf, names_items, hnames]
  refine @at_one _ _ _ _ _ _ (ps_ret (pe_bm F.plainAttrs_str F.slot_str_join F.type_str_join mt_join pe_str (pa_cons (pv 1) pa_nil))) ⟨rfl, _, rfl, _, lr, _, rfl, rfl, SqL.of W1.at_, ?_, ?_⟩
  ·have h5 := sum_le (m := 1421) ((itemsOf ms).map (rowOf names)) (fun y hy => by
    obtain ⟨it, hi, rfl⟩ := List.mem_map.mp hy
    obtain ⟨i, e⟩ := List.mem_iff_getElem?.mp hi
    have := (row_good hGI e).2.1
    rw [names_items, ← hnames] at this
    exact this)
   rw [show ("\n" : Str).length = 1 from by decide +kernel]
   rw [List.length_map] at h5 ⊢
   have h6 : (itemsOf ms).length * 1421 <= 28 * 1421 := Nat.mul_le_mul_right _ hitems
   omega
  ·rw [join_eq, show ((("\n" : Str))) = ⟨#[10]⟩ from by decide +kernel, ← hrows]
   exact q _ W1.same
def spLet (K : PySem.W.Frag) : Sp := fun vs H Q _ => ∃ (a : Addr) (ns : List Int) (b : Int), vs = [.ref a, .int b] /\ SqL K H a (ns.map V.int) /\ ns.length <= 63 /\ 0 <= b /\ b <= 30000 /\ ∀ ms lm H', LetBy ms -> LMs H' lm ms -> Same H H' -> Q (.ref lm) H'
theorem ok_q56 (T : Txt K mg t) : FnOk P w K mg base CX0 8 t.f_q56 t.d_q56 ["_law_script", "_law_base"] (spLet K) := by
 refine T.F_q56.ok sc_q56 ?_ ?_
 walk_at "i"
 ·obtain ⟨a, ns, b, rfl, hS, hl, hb0, hb1, q⟩ := h
  refine @at_cons _ _ _ _ _ _ _ (ps_set (i := 2) sc_q56.nd rfl (Or.inl rfl) (pe_call (ok_q57 T) (hr.mono (by decide)) rfl T.mg_q57 T.F_q57.kp (T.F_q57.binds (by walk_at "3")) .nil pass0 (pa_cons (pv 0) (pa_cons (pv 1) (pa_cons pe_bl pa_nil))))) ⟨_, rfl, _, rfl, a, ns, b, false, rfl, hS, hl, hb0, hb1, fun ms lm H1 B hL s1 => ?_⟩
  refine @at_consR _ _ _ _ _ _ _ (fun Z' H' => ∃ ms lm, LetBy ms /\ LMs H' lm ms /\ Z' = [some (.ref a), some (.int b), some (.ref lm)] /\ Same H H') (ps_if (pt_cmpR op_notN (pe_call (ok_q81 T) (hr.mono (by decide)) rfl T.mg_q81 T.F_q81.kp (T.F_q81.binds (by walk_at "1")) .nil pass0 (pa_cons (pe_call (ok_q79 T) (hr.mono (by decide)) rfl T.mg_q79 T.F_q79.kp (T.F_q79.binds (by walk_at "1")) .nil pass0 (pa_cons (pe_call (ok_q62 T) (hr.mono (by decide)) rfl T.mg_q62 T.F_q62.kp (T.F_q62.binds (by walk_at "1")) .nil pass0 (pa_cons (pv 2) pa_nil)) pa_nil)) pa_nil)) pe_non (nomark _)) pss_at pss_at) ?_ ?_
  ·refine ⟨_, rfl, lm, ms, false, rfl, hL, B, fun H2 s2 => ⟨itemsOf ms, rfl, B.items, (by have := B.len28; omega), fun r H3 hR s3 => ?_⟩⟩
   rw [fold_items] at hR
   have s3' := s1.trans (s2.trans s3)
   refine ⟨r, ms, rfl, hR, B.goodMs, fun H4 s4 => ⟨fun hn => ?_, fun ring row p l _ _ _ => ?_⟩⟩
   ·exact ⟨rfl, _, rfl, ifnd (fun h => absurd rfl h) (fun _ => at_nil ⟨ms, lm, ⟨⟨false, B⟩, noPops B.up B.pos hn, hn⟩, hL.same (s2.trans (s3.trans s4)), rfl, s3'.trans s4⟩)⟩
   ·refine ⟨rfl, _, rfl, ifnd (fun _ => ?_) (fun h => by cases h)⟩
    exact @at_one _ _ _ _ _ _ (ps_set (i := 2) sc_q56.nd rfl (Or.inl rfl) (pe_call (ok_q57 T) (hr.mono (by decide)) rfl T.mg_q57 T.F_q57.kp (T.F_q57.binds (by walk_at "3")) .nil pass0 (pa_cons (pv 0) (pa_cons (pv 1) (pa_cons pe_bl pa_nil))))) ⟨_, rfl, _, rfl, a, ns, b, true, rfl, hS.same (s3'.trans s4), hl, hb0, hb1, fun ms2 lm2 H5 B2 hL2 s5 => ⟨ms2, lm2, ⟨⟨true, B2⟩, fun r _ => B2.calmPops r, B2.calmRing⟩, hL2, rfl, (s3'.trans s4).trans s5⟩⟩
  rintro Z' H2 ⟨ms2, lm2, L2', hL2, rfl, s2⟩
  exact @at_one _ _ _ _ _ _ (ps_ret (pv 2)) ⟨_, rfl, q ms2 lm2 H2 L2' hL2 s2⟩
def SgOk (R : RuleM) : Prop := ¬ bare R.sort -> 1 <= R.signs.length
theorem slice_from (x : Str) (i : Nat) (hi : i <= x.length) : (PySem.Txt.slice x (some (i : Int)) none).cps.toList = x.cps.toList.drop i := by
 have := eq_of_beq (PyProof.Rows.slice_closes_fromL (x := x) (i := (i : Int)) (b := (x.length : Int)) (by omega) (by omega) rfl)
 rw [this]
 show (x.cps.toList.drop (i : Int).toNat).take ((x.length : Int) - (i : Int)).toNat = _
 rw [Int.toNat_natCast, List.take_of_length_le (by rw [List.length_drop, len_cps]; omega)]
theorem starts_iff {x sg : Str} : (decide (0 + sg.length <= x.length) && Builtin.Str.subAt x sg 0) = decide (x.cps.toList.take sg.length = sg.cps.toList) := by
 have e2 : Builtin.Str.subAt x sg 0 = decide (x.cps.toList.take sg.length = sg.cps.toList) := by
  unfold Builtin.Str.subAt
  rw [Bool.eq_iff_iff, beq_iff_eq, decide_eq_true_eq]
  rw [← Array.toList_inj]
  simp [Array.toList_extract, List.extract_eq_take_drop]
 rw [e2, Bool.eq_iff_iff, Bool.and_eq_true, decide_eq_true_eq, decide_eq_true_eq]
 refine ⟨fun z => z.2, fun z => ⟨?_, z⟩⟩
 have := congrArg List.length z
 rw [List.length_take, len_cps, len_cps] at this
 omega
theorem pick2 {b : Bool} {x y : V} : atI [x, y] (if b = true then (1 : Int) else 0) = some (if b = true then y else x) := by
 cases b <;> rfl
def spLEat : Sp := fun vs H Q _ => ∃ (tr : Addr) (R : RuleM) (row : Str) (i : Nat), vs = [.ref tr, .str row, .int i] /\ LR H tr R /\ R.sort ∈ sorts /\ SgOk R /\ row.length <= 1000 /\ i <= row.length /\ ∀ H', Same H H' -> Q (dueV R.sort R.signs row i) H'
theorem ok_q52 (T : Txt K mg t) : FnOk P w K mg base CX0 1 t.f_q52 t.d_q52 ["_law_rule_here", "_law_row_here", "_law_at"] spLEat := by
 refine T.F_q52.ok sc_q52 ?_ ?_
 walk_at "i"
 ·obtain ⟨tr, R, row, i, rfl, ⟨z, htr, hzl, hzs⟩, hs, hsg, hrow, hi, q⟩ := h
  have hT := fun {H' : Hp} (s' : Same H H') => SqT.of (K := K) (s' _ _ htr)
  have hT0 := SqT.of (K := K) htr
  refine @at_cons _ _ _ _ _ _ _ (ps_if (pt_cmpR op_eq (pe_ix ix_tup (pv 0) pe_int (fun _ _ => rfl)) pe_str (nomark _)) pss_at pss_at) ⟨_, rfl, _, _, _, _, rfl, rfl, hT0, atI_nat (j := 0) rfl, rfl, _, rfl, ifd (fun h => ?_) (fun h1 => at_nil ?_)⟩
  ·have h := V.str.inj h
   refine @at_one _ _ _ _ _ _ (ps_ret (pe_ix ix_list (pe_lst (pa_cons pe_non (pa_cons pe_int pa_nil))) (pe_callTy call_int1 (by rfl) T.z_int (by decide +kernel) (pa_cons (pe_cmpR op_eq (pv 2) (pe_callB call_len_str (by rfl) T.z_len (by decide +kernel) (pa_cons (pv 1) pa_nil)) (nomark _)) pa_nil)) (fun _ _ => rfl))) ⟨by show 2 <= sizeLine; decide, fun l hl => ⟨_, rfl, _, rfl, _, rfl, sl_le (by omega), rfl, .inr ⟨_, rfl, l, _, _, _, rfl, rfl, SqL.of upd_same, pick2, ?_⟩⟩⟩
   have q0 := q _ (Same.upd (o := .lst [.non, .int 0]) hl)
   rw [dueV, if_pos h] at q0
   by_cases e : i = row.length
   ·rw [if_pos e] at q0
    rw [decide_eq_true (show V.int (i : Int) = V.int (row.length : Int) by rw [e])]
    exact q0
   ·rw [if_neg e] at q0
    rw [decide_eq_false (show ¬ V.int (i : Int) = V.int (row.length : Int) from fun y => e (by have := V.int.inj y; omega))]
    exact q0
  have h1 : R.sort ≠ "end" := fun y => h1 (by rw [y])
  refine @at_cons _ _ _ _ _ _ _ (ps_if (pt_cmpR op_eq (pv 2) (pe_callB call_len_str (by rfl) T.z_len (by decide +kernel) (pa_cons (pv 1) pa_nil)) (nomark _)) pss_at pss_at) ⟨_, rfl, _, rfl, _, rfl, sl_le (by omega), rfl, _, rfl, ifd (fun h => ?_) (fun h3 => at_nil ?_)⟩
  ·have h : i = row.length := by have := V.int.inj h; omega
   have q0 := q H (Same.refl H)
   have e : dueV R.sort R.signs row i = .non := by
    by_cases h2 : R.sort = "word"
    ·rw [dueV, if_neg h1, if_pos h2, if_neg]
     intro y
     have := congrArg List.length y
     rw [List.length_take, List.length_drop, len_cps, len_cps] at this
     have := hsg (by rw [h2]; decide)
     omega
    ·exact dueV_out h1 h2 (by omega)
   rw [e] at q0
   exact @at_one _ _ _ _ _ _ (ps_ret pe_non) q0
  have h3 : i < row.length := by
   have : ¬ i = row.length := fun y => h3 (by rw [y])
   omega
  obtain ⟨c, e1, e2⟩ := strAt (row := row) (i := (i : Int)) (by omega) (by omega)
  rw [Int.toNat_natCast] at e1
  refine @at_cons _ _ _ _ _ _ _ (ps_if (pt_cmpR op_eq (pe_ix ix_tup (pv 0) pe_int (fun _ _ => rfl)) pe_str (nomark _)) pss_at pss_at) ⟨_, rfl, _, _, _, _, rfl, rfl, hT0, atI_nat (j := 0) rfl, rfl, _, rfl, ifd (fun h => ?_) (fun h4 => at_nil ?_)⟩
  ·have h := V.str.inj h
   have q0 := q H (Same.refl H)
   rw [dueV_at h1 (by rw [h]; decide) e1, if_pos (.inr h), if_neg (by rw [h]; decide)] at q0
   exact @at_one _ _ _ _ _ _ (ps_ret pe_int) q0
  have h4 : R.sort ≠ "still" := fun y => h4 (by rw [y])
  refine @at_cons _ _ _ _ _ _ _ (ps_if (pt_cmpR op_eq (pe_ix ix_tup (pv 0) pe_int (fun _ _ => rfl)) pe_str (nomark _)) pss_at pss_at) ⟨_, rfl, _, _, _, _, rfl, rfl, hT0, atI_nat (j := 0) rfl, rfl, _, rfl, ifd (fun h => ?_) (fun h5 => at_nil ?_)⟩
  ·have h := V.str.inj h
   have hz : z = R.signs := hzs (by rw [h]; decide)
   refine @at_one _ _ _ _ _ _ (ps_ret (pe_ix ix_list (pe_lst (pa_cons pe_non (pa_cons (pe_callB call_len_str (by rfl) T.z_len (by decide +kernel) (pa_cons (pe_ix ix_tup (pv 0) pe_int (fun _ _ => rfl)) pa_nil)) pa_nil))) (pe_callTy call_int1 (by rfl) T.z_int (by decide +kernel) (pa_cons (pe_bm F.plainAttrs_str F.slot_str_startswith F.type_str_startswith mt_starts2 (pe_slice sl_str (pv 1) (po_some (pv 2)) po_none) (pa_cons (pe_ix ix_tup (pv 0) pe_int (fun _ _ => rfl)) pa_nil)) pa_nil)) (fun _ _ => rfl))) ⟨_, rfl, _, _, _, _, rfl, rfl, hT0, atI_nat (j := 1) rfl, _, rfl, sl_le (by omega), by show 2 <= sizeLine; decide, fun l hl => ⟨_, rfl, _, rfl, _, rfl, _, rfl, sl_le (by omega), rfl, _, rfl, _, _, _, _, rfl, rfl, hT (Same.upd hl), atI_nat (j := 1) rfl, _, _, rfl, rfl, .inr ⟨_, rfl, l, _, _, _, rfl, rfl, SqL.of upd_same, pick2, ?_⟩⟩⟩
   have q0 := q _ (Same.upd (o := .lst [.non, .int z.length]) hl)
   rw [dueV, if_neg h1, if_pos h, ← hz] at q0
   rw [starts_iff, slice_from row i hi]
   by_cases e : (row.cps.toList.drop i).take z.length = z.cps.toList
   ·rw [if_pos e] at q0
    rw [decide_eq_true e]
    exact q0
   ·rw [if_neg e] at q0
    rw [decide_eq_false e]
    exact q0
  have h5 : R.sort ≠ "word" := fun y => h5 (by rw [y])
  have qd := fun H' (s' : Same H H') => q H' s'
  simp only [dueV_at h1 h5 e1] at qd
  refine @at_cons _ _ _ _ _ _ _ (ps_if (pt_cmpR op_eq (pe_ix ix_tup (pv 0) pe_int (fun _ _ => rfl)) pe_str (nomark _)) pss_at pss_at) ⟨_, rfl, _, _, _, _, rfl, rfl, hT0, atI_nat (j := 0) rfl, rfl, _, rfl, ifd (fun h => ?_) (fun h6 => at_nil ?_)⟩
  ·have h := V.str.inj h
   have q0 := qd H (Same.refl H)
   rw [if_pos (.inl h), if_pos h] at q0
   exact @at_one _ _ _ _ _ _ (ps_ret pe_int) q0
  have h6 : R.sort ≠ "any" := fun y => h6 (by rw [y])
  have h7 : ¬ (R.sort = "any" ∨ R.sort = "still") := fun y => y.elim h6 h4
  have hb : ¬ bare R.sort := fun y => by
   rcases y with y | y | y
   ·exact h6 y
   ·exact h4 y
   ·exact h1 y
  have hz : z = R.signs := hzs hb
  refine @at_cons _ _ _ _ _ _ _ (ps_if (pt_cmpR op_eq (pe_ix ix_tup (pv 0) pe_int (fun _ _ => rfl)) pe_str (nomark _)) pss_at pss_at) ⟨_, rfl, _, _, _, _, rfl, rfl, hT0, atI_nat (j := 0) rfl, rfl, _, rfl, ifd (fun h => ?_) (fun h8 => at_nil ?_)⟩
  ·have h := V.str.inj h
   refine @at_one _ _ _ _ _ _ (ps_ret (pe_ix ix_list (pe_lst (pa_cons pe_int (pa_cons pe_non pa_nil))) (pe_callTy call_int1 (by rfl) T.z_int (by decide +kernel) (pa_cons (pe_cmpR op_in_str (pe_ix ix_str (pv 1) (pv 2) (fun _ _ => rfl)) (pe_ix ix_tup (pv 0) pe_int (fun _ _ => rfl)) rfl) pa_nil)) (fun _ _ => rfl))) ⟨by show 2 <= sizeLine; decide, fun l hl => ⟨_, rfl, _, rfl, _, _, c, rfl, rfl, sl_le (by omega), e2, _, rfl, _, _, _, _, rfl, rfl, hT (Same.upd hl), atI_nat (j := 1) rfl, _, _, rfl, rfl, .inr ⟨_, rfl, l, _, _, _, rfl, rfl, SqL.of upd_same, pick2, ?_⟩⟩⟩
   have q0 := qd _ (Same.upd (o := .lst [.int 1, .non]) hl)
   rw [if_neg h7, if_pos h, ← hz] at q0
   rw [PySem.StrLaws.found_one]
   by_cases e : c ∈ z.cps.toList
   ·rw [if_pos e] at q0
    rw [decide_eq_true e]
    exact q0
   ·rw [if_neg e] at q0
    rw [decide_eq_false e]
    exact q0
  have h8 : R.sort ≠ "none" := fun y => h8 (by rw [y])
  simp only [if_neg h7, if_neg h8, ← hz] at qd
  refine @at_cons _ _ _ _ _ _ _ (ps_set (i := 3) sc_q52.nd rfl (Or.inl rfl) pe_int) ?_
  show At _ _ _ [some (.ref tr), some (.str row), some (.int i), some (.int 0)] H
  refine @at_consR _ _ _ _ _ _ _ (fun Z' H' => H' = H /\ ∃ j : Nat, Z' = [some (.ref tr), some (.str row), some (.int i), some (.int j)] /\ j = if c ∈ z.cps.toList then (if R.sort = "many" then 1 + runL z.cps.toList (row.cps.toList.drop (i + 1)) else 1) else 0) (ps_while PassesOwn.never (PW.pt (pw_and (pt_cmpR op_lt (pe_op op_add (pv 2) (pv 3)) (pe_callB call_len_str (by rfl) T.z_len (by decide +kernel) (pa_cons (pv 1) pa_nil)) (nomark _)) (pw_and (pt_cmpR op_in_str (pe_ix ix_str (pv 1) (pe_op op_add (pv 2) (pv 3)) (fun _ _ => rfl)) (pe_ix ix_tup (pv 0) pe_int (fun _ _ => rfl)) rfl) (pw_and1 (PW.pt (pw_or (pt_cmpR op_eq (pe_ix ix_tup (pv 0) pe_int (fun _ _ => rfl)) pe_str (nomark _)) (pw_or1 (pt_cmpR op_eq (pv 3) pe_int (nomark _))))))))) pss_at) ?_ ?_
  ·refine ⟨fun m Z' H' => H' = H /\ ∃ j : Nat, Z' = [some (.ref tr), some (.str row), some (.int i), some (.int j)] /\ i + j <= row.length /\ m = row.length - j /\ (R.sort = "many" -> runL z.cps.toList (row.cps.toList.drop i) = j + runL z.cps.toList (row.cps.toList.drop (i + j))) /\ (R.sort ≠ "many" -> j <= 1) /\ (0 < j -> c ∈ z.cps.toList), ⟨_, rfl, 0, rfl, by omega, rfl, fun _ => by rw [Nat.zero_add, Nat.add_zero], fun _ => by omega, fun y => by omega⟩, ?_⟩
   rintro m Z' H' ⟨e, j, rfl, hj, rfl, hm, ho, hc⟩
   rw [e]
   clear e H'
   have hstep := run_step (sg := z.cps.toList) e1
   refine ⟨_, rfl, _, rfl, _, _, rfl, rfl, _, rfl, _, rfl, sl_le (by omega), _, _, rfl, rfl, _, rfl, ifd (fun h => ?_) (fun h => ?_)⟩
   ·have hlt : i + j < row.length := by omega
    obtain ⟨c2, g1, g2⟩ := strAt (row := row) (i := (i : Int) + (j : Int)) (by omega) (by omega)
    rw [show ((i : Int) + (j : Int)).toNat = i + j by omega] at g1
    refine ⟨_, rfl, _, rfl, _, rfl, _, _, rfl, rfl, _, _, c2, rfl, rfl, sl_le (by omega), g2, _, rfl, _, _, _, _, rfl, rfl, hT0, atI_nat (j := 1) rfl, _, _, rfl, rfl, _, rfl, ?_⟩
    rw [PySem.StrLaws.found_one]
    refine ifd (fun h2 => ?_) (fun h2 => ?_)
    ·have hj0 : j = 0 -> c ∈ z.cps.toList := fun y => by
      subst y
      rw [Nat.add_zero, e1] at g1
      rw [Option.some.inj g1]; exact h2
     have key : ∀ {G : Prop}, (R.sort = "many" ∨ j = 0 -> G) -> (¬ R.sort = "many" -> ¬ j = 0 -> G) -> G := fun a b => by
      by_cases y : R.sort = "many"
      ·exact a (.inl y)
      ·by_cases y2 : j = 0
       ·exact a (.inr y2)
       ·exact b y y2
     have go : (R.sort = "many" ∨ j = 0) -> i + (j + 1) <= row.length /\ (R.sort = "many" -> runL z.cps.toList (row.cps.toList.drop i) = (j + 1) + runL z.cps.toList (row.cps.toList.drop (i + (j + 1)))) /\ (R.sort ≠ "many" -> j + 1 <= 1) /\ (0 < j + 1 -> c ∈ z.cps.toList) := fun y => by
      refine ⟨by omega, fun y2 => ?_, fun y2 => ?_, fun _ => ?_⟩
      ·have := hm y2
       rw [run_step (j := i + j) g1, if_pos h2] at this
       rw [show i + (j + 1) = i + j + 1 by omega]
       omega
      ·rcases y with y | y
       ·exact absurd y y2
       ·omega
      ·by_cases y3 : j = 0
       ·exact hj0 y3
       ·exact hc (by omega)
     refine ⟨_, rfl, _, _, _, _, rfl, rfl, hT0, atI_nat (j := 0) rfl, rfl, _, rfl, ifd (fun h3 => ?_) (fun h3 => ?_)⟩
     ·obtain ⟨a1, a2, a3, a4⟩ := go (.inl (V.str.inj h3))
      refine ⟨_, fun Z' H' z => z, @at_one _ _ _ _ _ _ (ps_set (i := 3) sc_q52.nd rfl (Or.inl rfl) (pe_op op_add (pv 3) pe_int)) ⟨_, rfl, _, _, rfl, rfl, row.length - (j + 1), by omega, rfl, j + 1, by simp, a1, rfl, a2, a3, a4⟩⟩
     ·refine ⟨_, rfl, rfl, _, rfl, ifd (fun h4 => ?_) (fun h4 => ?_)⟩
      ·have h4 : j = 0 := by have := V.int.inj h4; omega
       obtain ⟨a1, a2, a3, a4⟩ := go (.inr h4)
       refine ⟨_, fun Z' H' z => z, @at_one _ _ _ _ _ _ (ps_set (i := 3) sc_q52.nd rfl (Or.inl rfl) (pe_op op_add (pv 3) pe_int)) ⟨_, rfl, _, _, rfl, rfl, row.length - (j + 1), by omega, rfl, j + 1, by simp, a1, rfl, a2, a3, a4⟩⟩
      ·have h3 : ¬ R.sort = "many" := fun y => h3 (by rw [y])
       have h4 : ¬ j = 0 := fun y => h4 (by rw [y]; rfl)
       have := ho h3
       refine ⟨rfl, j, rfl, ?_⟩
       rw [if_pos (hc (by omega)), if_neg h3]
       omega
    ·refine ⟨rfl, j, rfl, ?_⟩
     by_cases hm2 : R.sort = "many"
     ·have := hm hm2
      rw [run_step (j := i + j) g1, if_neg h2, hstep] at this
      split
      ·rename_i y; rw [if_pos y] at this; omega
      ·rename_i y; rw [if_neg y] at this; omega
     ·have hj1 := ho hm2
      split
      ·rename_i y
       by_cases y2 : j = 0
       ·subst y2
        rw [Nat.add_zero, e1] at g1
        exact absurd (Option.some.inj g1 ▸ y) h2
       ·omega
      ·rename_i y
       by_cases y2 : j = 0
       ·exact y2
       ·exact absurd (hc (by omega)) y
   ·have hge : i + j = row.length := by omega
    have hjp : 0 < j := by omega
    have hcm := hc hjp
    refine ⟨rfl, j, rfl, ?_⟩
    rw [if_pos hcm]
    by_cases hm2 : R.sort = "many"
    ·have := hm hm2
     have hd : row.cps.toList.drop (i + j) = [] := List.drop_eq_nil_of_le (by rw [len_cps]; omega)
     rw [hd, runL, hstep, if_pos hcm] at this
     rw [if_pos hm2]
     omega
    ·have := ho hm2
     rw [if_neg hm2]
     omega
  rintro Z' H' ⟨e, j, rfl, hj⟩
  rw [e]
  clear e H'
  refine @at_one _ _ _ _ _ _ (ps_ret (pe_ix ix_list (pe_lst (pa_cons pe_non (pa_cons (pv 3) pa_nil))) (pe_callTy call_int1 (by rfl) T.z_int (by decide +kernel) (pa_cons (pe_cmpR op_gt (pv 3) pe_int (nomark _)) pa_nil)) (fun _ _ => rfl))) ⟨_, rfl, by show 2 <= sizeLine; decide, fun l hl => ⟨_, rfl, _, _, rfl, rfl, .inr ⟨_, rfl, l, _, _, _, rfl, rfl, SqL.of upd_same, pick2, ?_⟩⟩⟩
  have q0 := qd _ (Same.upd (o := .lst [.non, .int j]) hl)
  by_cases y : c ∈ z.cps.toList
  ·rw [if_pos y] at q0 hj
   rw [decide_eq_true (show (0 : Int) < (j : Int) by split at hj <;> omega)]
   by_cases hm2 : R.sort = "many"
   ·rw [if_pos hm2] at q0 hj
    rw [show (1 : Int) + ((runL z.cps.toList (row.cps.toList.drop (i + 1)) : Nat) : Int) = ((j : Nat) : Int) by omega] at q0
    exact q0
   ·rw [if_neg hm2] at q0 hj
    have q1 : Q (.int ((j : Nat) : Int)) (upd H l (.lst [.non, .int j])) := by rw [hj] at q0 ⊢; exact q0
    exact q1
  ·rw [if_neg y] at q0 hj
   rw [decide_eq_false (show ¬ (0 : Int) < (j : Int) by omega)]
   exact q0
theorem cut_neg1 {xs : List V} (h : xs ≠ []) : cutV xs none (some (-1 : Int)) = xs.dropLast := by
 have hp : 0 < xs.length := List.length_pos_iff.mpr h
 unfold cutV
 have e : HT.sIx xs.length xs.length (some (-1 : Int)) = xs.length - 1 := by
  show (if (-1 : Int) < 0 then ((-1 : Int) + (xs.length : Int)).toNat else min (-1 : Int).toNat xs.length) = _
  rw [if_pos (by decide)]
  omega
 rw [HT.sIx_none, e, List.drop_zero, Nat.sub_zero, List.dropLast_eq_take]
structure Wk (ms : List ModeM) : Prop where
 g : GoodMs ms
 sg : ∀ m ∈ ms, ∀ R ∈ m.rules, SgOk R
def spLFst : Sp := fun vs H Q _ => ∃ (lm : Addr) (ms : List ModeM) (m : ModeM) (k i : Nat) (row : Str), vs = [.ref lm, .int k, .str row, .int i] /\ LMs H lm ms /\ Wk ms /\ ms[k]? = some m /\ row.length <= 1000 /\ i <= row.length /\
 ∀ H', Same H H' -> (ruleM m.rules row i = none -> Q .non H') /\ ∀ R tr, ruleM m.rules row i = some R -> R ∈ m.rules -> LR H tr R -> Q (.ref tr) H'
theorem ok_q53 (T : Txt K mg t) : FnOk P w K mg base CX0 2 t.f_q53 t.d_q53 ["_law_modes_here", "_law_top", "_law_row_here", "_law_at"] spLFst := by
 refine T.F_q53.ok sc_q53 ?_ ?_
 walk_at "i"
 ·obtain ⟨lm, ms, m, k, i, row, rfl, ⟨ts, hlm, hA⟩, W, hm, hrow, hi, q⟩ := h
  obtain ⟨tm, htm, lu, rs, t1, t2, t3⟩ := hA.at hm
  have hmm := List.mem_of_getElem? hm
  refine @at_consR _ _ _ _ _ _ _ (fun Z' H' => (∃ x, Z' = [some (.ref lm), some (.int k), some (.str row), some (.int i), x]) /\ Same H H' /\ ruleM m.rules row i = none) (ps_forA PassesOwn.never rfl (pi_list (pe_ix ix_tup (pe_ix ix_list (pv 0) (pv 1) (fun _ _ => rfl)) pe_int (fun _ _ => rfl))) (pg_name (i := 4) sc_q53.nd rfl (Or.inl rfl)) pss_at) ?_ ?_
  ·refine ⟨_, rfl, _, rfl, _, _, _, _, rfl, rfl, SqL.of hlm, at_ref htm, _, _, _, _, rfl, rfl, SqT.of t1, atI_nat (j := 2) rfl, lu, rfl, ⟨_, SqL.of t2⟩, forW_list (xs := rs.map V.ref) (fun n Z' H' => (∃ x, Z' = [some (.ref lm), some (.int k), some (.str row), some (.int i), x]) /\ Same H H' /\ firstM m.rules row i = firstF row i n (m.rules.drop n)) ⟨⟨_, rfl⟩, Same.refl H, rfl⟩ ?_ ?_ ?_⟩
   ·rintro n Z' H' _ ⟨_, s1, _⟩
    exact SqL.of (s1 _ _ t2)
   ·rintro n xv Z' H1 hx ⟨⟨x, rfl⟩, s1, hf⟩
    rw [List.getElem?_map] at hx
    obtain ⟨tr, htr, rfl⟩ := Option.map_eq_some_iff.mp hx
    have hn : n < m.rules.length := by rw [← t3.1]; exact (List.getElem?_eq_some_iff.mp htr).1
    have hR : m.rules[n]? = some m.rules[n] := List.getElem?_eq_getElem hn
    generalize m.rules[n] = R at hR
    have hRm := List.mem_of_getElem? hR
    have hLR := t3.2 n tr R htr hR
    rw [firstF_at hR] at hf
    refine @at_one _ _ _ _ _ _ (ps_if (pt_cmpR op_notN (pe_call (ok_q52 T) (hr.mono (by decide)) rfl T.mg_q52 T.F_q52.kp (T.F_q52.binds (by walk_at "3")) .nil pass0 (pa_cons (pv 4) (pa_cons (pv 2) (pa_cons (pv 3) pa_nil)))) pe_non (nomark _)) pss_at pss_at) ⟨_, rfl, _, rfl, _, rfl, tr, R, row, i, rfl, hLR.same s1, ((W.g.ok m hmm).2 R hRm).1, W.sg m hmm R hRm, hrow, hi, fun H2 s2 => ⟨rfl, _, rfl, ifnd (fun h => ?_) (fun h => at_nil ⟨⟨_, rfl⟩, s1.trans s2, ?_⟩)⟩⟩
    ·rw [if_pos (show fitsB R row i = true from decide_eq_true h)] at hf
     exact @at_one _ _ _ _ _ _ (ps_ret (pv 4)) ⟨_, rfl, (q H2 (s1.trans s2)).2 R tr (by rw [ruleM, hf]; exact hR) hRm hLR⟩
    ·rw [if_neg (by rw [fitsB, decide_eq_false (fun z => z h)]; decide)] at hf
     exact hf
   ·rintro Z' H' ⟨h1, h2, h3⟩
    rw [List.length_map, t3.1, List.drop_length] at h3
    exact ⟨h1, h2, by rw [ruleM, h3]; rfl⟩
  rintro Z' H' ⟨⟨x, rfl⟩, s1, hn⟩
  exact @at_one _ _ _ _ _ _ (ps_ret pe_non) ((q H' s1).1 hn)
def spLDeed : Sp := fun vs H Q _ => ∃ (lo tr : Addr) (on : List Nat) (R : RuleM), vs = [.ref tr, .ref lo] /\ H lo = some (.lst (on.map natV)) /\ LR H tr R /\ R.deed ∈ deeds /\ GoodD R /\ on ≠ [] /\ on.length <= 100000 /\
 ∀ l H', H' l = some (.lst ((deedM on R.deed R.goal).map natV)) -> (l = lo ∨ H l = none) -> Same H H' -> Q (.ref l) H'
theorem ok_q50 (T : Txt K mg t) : FnOk P w K mg base CX0 1 t.f_q50 t.d_q50 ["_law_rule_here", "_law_on"] spLDeed := by
 refine T.F_q50.ok sc_q50 ?_ ?_
 walk_at "i"
 ·obtain ⟨lo, tr, on, R, rfl, hlo, ⟨z, htr, hzl, hzs⟩, hdd, hgd, hne, hlen, q⟩ := h
  have ht := SqT.of (K := K) htr
  have hL := SqL.of (K := K) hlo
  have hne' : on.map natV ≠ [] := by simpa using hne
  have hl0 : on.length ≠ 0 := fun y => hne (List.eq_nil_of_length_eq_zero y)
  refine @at_cons _ _ _ _ _ _ _ (ps_if (pt_cmpR op_eq (pe_ix ix_tup (pv 0) pe_int (fun _ _ => rfl)) pe_str (nomark _)) pss_at pss_at) ⟨_, rfl, _, _, _, _, rfl, rfl, ht, atI_nat (j := 3) rfl, rfl, _, rfl, ifd (fun h => ?_) (fun h2 => at_nil ?_)⟩
  ·have h := V.str.inj h
   obtain ⟨g, eg⟩ := hgd (.inl h)
   refine @at_one _ _ _ _ _ _ (ps_ret (pe_op op_cat (pv 1) (pe_lst (pa_cons (pe_ix ix_tup (pv 0) pe_int (fun _ _ => rfl)) pa_nil)))) ⟨_, rfl, _, rfl, _, _, _, _, rfl, rfl, ht, atI_nat (j := 4) rfl, by show 1 <= sizeLine; decide, fun l1 hl1 => ⟨lo, l1, _, _, rfl, rfl, Same.upd hl1 _ _ hlo, upd_same, sl_le (by simp only [List.length_map, List.length_cons, List.length_nil]; omega), fun l2 hl2 => q l2 _ ?_ (.inr ((Same.upd hl1).free hl2)) ((Same.upd hl1).to hl2)⟩⟩
   rw [upd_same, deedM, if_pos h, eg, List.map_append]
   rfl
  have h2 : R.deed ≠ "push" := fun y => h2 (by rw [y])
  refine @at_cons _ _ _ _ _ _ _ (ps_if (pt_cmpR op_eq (pe_ix ix_tup (pv 0) pe_int (fun _ _ => rfl)) pe_str (nomark _)) pss_at pss_at) ⟨_, rfl, _, _, _, _, rfl, rfl, ht, atI_nat (j := 3) rfl, rfl, _, rfl, ifd (fun h => ?_) (fun h3 => at_nil ?_)⟩
  ·have h := V.str.inj h
   obtain ⟨g, eg⟩ := hgd (.inr h)
   refine @at_one _ _ _ _ _ _ (ps_ret (pe_op op_cat (pe_slice sl_list (pv 1) po_none (po_some (pe_un un_neg pe_int))) (pe_lst (pa_cons (pe_ix ix_tup (pv 0) pe_int (fun _ _ => rfl)) pa_nil)))) ⟨_, rfl, _, rfl, _, rfl, lo, _, rfl, hL, fun l0 hl0' => ?_⟩
   have s0 : Same H (upd H l0 (.lst (cutV (on.map natV) none (some (-1 : Int))))) := Same.upd hl0'
   have hl2 : upd H l0 (.lst (cutV (on.map natV) none (some (-1 : Int)))) l0 = some (.lst ((on.map natV).dropLast)) := by rw [upd_same, cut_neg1 hne']
   generalize upd H l0 (.lst (cutV (on.map natV) none (some (-1 : Int)))) = H0 at s0 hl2
   refine ⟨_, rfl, _, _, _, _, rfl, rfl, SqT.of (s0 _ _ htr), atI_nat (j := 4) rfl, by show 1 <= sizeLine; decide, fun l1 hl1 => ⟨l0, l1, _, _, rfl, rfl, Same.upd hl1 _ _ hl2, upd_same, sl_le (by simp only [List.length_dropLast, List.length_map, List.length_cons, List.length_nil]; omega), fun l2 hl2 => q l2 _ ?_ (.inr ((s0.to hl1).free hl2)) (s0.trans ((Same.upd hl1).to hl2))⟩⟩
   rw [upd_same, deedM, if_neg h2, if_pos h, eg, List.map_append, List.map_dropLast]
   rfl
  have h3 : R.deed ≠ "into" := fun y => h3 (by rw [y])
  refine @at_consR _ _ _ _ _ _ _ (fun Z' H' => Z' = [some (.ref tr), some (.ref lo)] /\ H' = H /\ ¬ (R.deed = "pop" /\ on.length = 1)) (ps_if (PW.pt (pw_and (pt_cmpR op_eq (pe_ix ix_tup (pv 0) pe_int (fun _ _ => rfl)) pe_str (nomark _)) (pw_and1 (pt_cmpR op_eq (pe_callB call_len_seq (by rfl) T.z_len (by decide +kernel) (pa_cons (pv 1) pa_nil)) pe_int (nomark _))))) pss_at pss_at) ?_ ?_
  ·refine ⟨_, rfl, _, _, _, _, rfl, rfl, ht, atI_nat (j := 3) rfl, rfl, _, rfl, ifd (fun h => ?_) (fun h => at_nil ⟨rfl, rfl, fun y => h (by rw [y.1])⟩)⟩
   have h := V.str.inj h
   refine ⟨_, rfl, _, _, rfl, .inl hL, rfl, _, rfl, ifd (fun h5 => ?_) (fun h5 => at_nil ⟨rfl, rfl, fun y => h5 (by rw [List.length_map, y.2]; rfl)⟩)⟩
   have h5 := V.int.inj h5
   rw [List.length_map] at h5
   refine @at_one _ _ _ _ _ _ (ps_ret (pe_lst (pa_cons pe_int pa_nil))) ⟨by show 1 <= sizeLine; decide, fun l hl => q l _ ?_ (.inr hl) (Same.upd hl)⟩
   rw [upd_same, deedM, if_neg h2, if_neg h3, if_pos h, if_pos (by omega)]
   rfl
  rintro Z' H' ⟨rfl, e, h5⟩
  rw [e]
  clear e H'
  refine @at_cons _ _ _ _ _ _ _ (ps_if (pt_cmpR op_eq (pe_ix ix_tup (pv 0) pe_int (fun _ _ => rfl)) pe_str (nomark _)) pss_at pss_at) ⟨_, rfl, _, _, _, _, rfl, rfl, ht, atI_nat (j := 3) rfl, rfl, _, rfl, ifd (fun h => ?_) (fun h6 => at_nil ?_)⟩
  ·have h := V.str.inj h
   refine @at_one _ _ _ _ _ _ (ps_ret (pe_slice sl_list (pv 1) po_none (po_some (pe_un un_neg pe_int)))) ⟨_, rfl, _, rfl, _, rfl, lo, _, rfl, hL, fun l0 hl0' => q l0 _ ?_ (.inr hl0') (Same.upd hl0')⟩
   rw [upd_same, cut_neg1 hne', deedM, if_neg h2, if_neg h3, if_pos h, if_neg (fun y => h5 ⟨h, y⟩), List.map_dropLast]
  ·have h6 : R.deed ≠ "pop" := fun y => h6 (by rw [y])
   refine @at_one _ _ _ _ _ _ (ps_ret (pv 1)) ⟨_, rfl, q lo H ?_ (.inl rfl) (Same.refl H)⟩
   rw [deedM, if_neg h2, if_neg h3, if_neg h6]
   exact hlo
def spLGone : Sp := fun vs H Q _ => ∃ (lm lo : Addr) (ms : List ModeM) (on : List Nat) (row : Str) (n : Nat) (d : Cfg), vs = [.ref lm, .ref lo, .str row] /\ LMs H lm ms /\ Wk ms /\ H lo = some (.lst (on.map natV)) /\ OnOk ms on /\ row.length <= 1000 /\ on.length <= 40000 /\ n <= 5000 /\ goN ms row n ⟨on, [], []⟩ = some d /\
 ∀ tp lt lo' lk H', Told H' tp lt lo' lk d -> H lt = none -> H lk = none -> (lo' = lo ∨ H lo' = none) -> Same H H' -> Q (.ref tp) H'
theorem ok_q55 (T : Txt K mg t) : FnOk P w K mg base CX0 3 t.f_q55 t.d_q55 ["_law_modes_here", "_law_on", "_law_row_here"] spLGone := by
 refine T.F_q55.ok sc_q55 ?_ ?_
 walk_at "i"
 ·obtain ⟨lm, lh, ms, on, row, n, d, rfl, hL, W, hlh, hok, hrow, honl, hn, hgo, q⟩ := h
  refine @at_cons _ _ _ _ _ _ _ (ps_set (i := 3) sc_q55.nd rfl (Or.inl rfl) (pe_lst pa_nil)) ⟨by show 0 <= sizeLine; decide, fun lt hlt => ?_⟩
  have s1 : Same H (upd H lt (.lst [])) := Same.upd hlt
  have ht1 : upd H lt (.lst []) lt = some (.lst []) := upd_same
  have nht : lh ≠ lt := ne_of_none hlh hlt
  generalize upd H lt (.lst []) = H1 at s1 ht1
  refine @at_cons _ _ _ _ _ _ _ (ps_set (i := 4) sc_q55.nd rfl (Or.inl rfl) (pe_lst pa_nil)) ⟨by show 0 <= sizeLine; decide, fun lk hlk => ?_⟩
  have s2 : Same H1 (upd H1 lk (.lst [])) := Same.upd hlk
  have hk2 : upd H1 lk (.lst []) lk = some (.lst []) := upd_same
  have ht2 := s2 _ _ ht1
  have ntk : lt ≠ lk := ne_of_none ht1 hlk
  have nhk : lh ≠ lk := ne_of_none (s1 _ _ hlh) hlk
  have hlk0 : H lk = none := s1.free hlk
  generalize upd H1 lk (.lst []) = H2 at s2 hk2 ht2
  have s2 := s1.trans s2
  refine @at_cons _ _ _ _ _ _ _ (ps_set (i := 5) sc_q55.nd rfl (Or.inl rfl) pe_int) ?_
  refine @at_cons _ _ _ _ _ _ _ (ps_set (i := 6) sc_q55.nd rfl (Or.inl rfl) pe_int) ?_
  show At _ _ _ [some (.ref lm), some (.ref lh), some (.str row), some (.ref lt), some (.ref lk), some (.int 0), some (.int 5000), none, none] H2
  have look : ∀ {H' : Hp} {c : Cfg}, OnOk ms c.on -> ∃ m, ms[topN c.on]? = some m /\ rulesAt ms (topN c.on) = m.rules := fun {H' c} h => by
   obtain ⟨m, hm⟩ := h.mode
   exact ⟨m, hm, by rw [rulesAt, hm]⟩
  obtain ⟨m0, hm0, hr0⟩ := look (H' := H) (c := ⟨on, [], []⟩) hok
  refine @at_consR _ _ _ _ _ _ _ (fun Z' H' => ∃ rv, Z' = [some (.ref lm), some (.ref lh), some (.str row), some (.ref lt), some (.ref lk), some (.int 0), some (.int 5000), some rv, none] /\ Same H2 H' /\ ((ruleM (rulesAt ms (topN on)) row 0 = none /\ rv = .non) ∨ ∃ R tr, ruleM (rulesAt ms (topN on)) row 0 = some R /\ R ∈ m0.rules /\ rv = .ref tr /\ LR H' tr R)) (ps_set (i := 7) sc_q55.nd rfl (Or.inl rfl) (pe_call (ok_q53 T) (hr.mono (by decide)) rfl T.mg_q53 T.F_q53.kp (T.F_q53.binds (by walk_at "4")) .nil pass0 (pa_cons (pv 0) (pa_cons (pe_ix ix_list (pv 1) (pe_un un_neg pe_int) (fun _ _ => rfl)) (pa_cons (pv 2) (pa_cons (pv 5) pa_nil)))))) ?_ ?_
  ·refine ⟨_, rfl, _, rfl, _, rfl, _, _, _, _, rfl, rfl, SqL.of (s2 _ _ hlh), at_natlast (top_last hok.1), _, rfl, _, rfl, lm, ms, m0, topN on, 0, row, rfl, hL.same s2, W, hm0, hrow, Nat.zero_le _, fun H3 s3 => ⟨fun e => ⟨_, rfl, s3, .inl ⟨by rw [hr0]; exact e, rfl⟩⟩, fun R tr e hR hLR => ⟨_, rfl, s3, .inr ⟨R, tr, by rw [hr0]; exact e, hR, rfl, hLR.same s3⟩⟩⟩⟩
  rintro Z' H3 ⟨rv0, rfl, s3, hrv0⟩
  have s3' := s2.trans s3
  refine @at_consR _ _ _ _ _ _ _ (fun Z' H' => ∃ lt lo x5 x6 x7 x8, Z' = [some (.ref lm), some (.ref lo), some (.str row), some (.ref lt), some (.ref lk), x5, x6, x7, x8] /\ H' lt = some (.lst (d.tints.map V.str)) /\ H' lo = some (.lst (d.on.map natV)) /\ GM H' lk d.marks /\ H lt = none /\ (lo = lh ∨ H lo = none) /\ Same H H') (ps_while PassesOwn.never (PW.pt (pw_and (pt_cmpR op_gt (pv 6) pe_int (nomark _)) (pw_and1 (PW.pt (pw_or (pt_cmpR op_notN (pv 7) pe_non (nomark _)) (pw_or1 (pt_cmpR op_lt (pv 5) (pe_callB call_len_str (by rfl) T.z_len (by decide +kernel) (pa_cons (pv 2) pa_nil)) (nomark _)))))))) pss_at) ?_ ?_
  ·refine ⟨fun m Z' H' => ∃ (c : Cfg) (lt lo : Addr) (left : Int) (rv : V) (x8 : Option V), Z' = [some (.ref lm), some (.ref lo), some (.str row), some (.ref lt), some (.ref lk), some (.int c.tints.length), some (.int left), some rv, x8] /\ H' lo = some (.lst (c.on.map natV)) /\ H' lt = some (.lst (c.tints.map V.str)) /\ GM H' lk c.marks /\ H lt = none /\ (lo = lh ∨ H lo = none) /\ lo ≠ lt /\ lo ≠ lk /\ lt ≠ lk /\ OnOk ms c.on /\ c.tints.length <= row.length /\ c.on.length + m <= on.length + n /\ c.marks.length + m <= n /\ (m : Int) <= left /\ goN ms row m c = some d /\ ((ruleM (rulesAt ms (topN c.on)) row c.tints.length = none /\ rv = .non) ∨ ∃ R tr m', ms[topN c.on]? = some m' /\ ruleM (rulesAt ms (topN c.on)) row c.tints.length = some R /\ R ∈ m'.rules /\ rv = .ref tr /\ LR H' tr R) /\ Same H H',
    ⟨n, ⟨on, [], []⟩, lt, lh, 5000, rv0, _, rfl, s3' _ _ hlh, s3 _ _ ht2, ⟨[], s3 _ _ hk2, All2.nil⟩, hlt, .inl rfl, nht, nhk, ntk, hok, Nat.zero_le _, Nat.le_refl _, by simp, by omega, hgo, ?_, s3'⟩, ?_⟩
   ·rcases hrv0 with h | ⟨R, tr, h1, h2, h3, h4⟩
    ·exact .inl h
    ·exact .inr ⟨R, tr, m0, hm0, h1, h2, h3, h4⟩
   rintro m Z' H4 ⟨c, lt, lo, left, rv, x8, rfl, ho4, ht4, hk4, hlt0, hlo0, not_, nok, ntk, hok4, htl4, hol4, hml4, hleft, hgo4, hrv, s4⟩
   obtain ⟨md, hmd, hru⟩ := look (H' := H) hok4
   have hmm := List.mem_of_getElem? hmd
   cases hst : stepG ms row c with
   | none =>
    have hd : d = c := by
     rw [goN_end hst] at hgo4
     exact (Option.some.inj hgo4).symm
    subst hd
    rw [stepG] at hst
    rcases hrv with ⟨hnone, rfl⟩ | ⟨R, tr, m', _, h1, _⟩
    ·rw [hnone] at hst
     have hnl : ¬ d.tints.length < row.length := fun z => by
      have hst : (if d.tints.length < row.length then some _ else none) = none := hst
      rw [if_pos z] at hst; cases hst
     have fin : ∃ lt' lo' x5 x6 x7 x8', [some (V.ref lm), some (V.ref lo), some (V.str row), some (V.ref lt), some (V.ref lk), some (V.int d.tints.length), some (V.int left), some V.non, x8] = [some (.ref lm), some (.ref lo'), some (.str row), some (.ref lt'), some (.ref lk), x5, x6, x7, x8'] /\ H4 lt' = some (.lst (d.tints.map V.str)) /\ H4 lo' = some (.lst (d.on.map natV)) /\ GM H4 lk d.marks /\ H lt' = none /\ (lo' = lh ∨ H lo' = none) /\ Same H H4 := ⟨lt, lo, _, _, _, _, rfl, ht4, ho4, hk4, hlt0, hlo0, s4⟩
     refine ⟨_, rfl, _, _, rfl, rfl, _, rfl, ifd (fun h => ?_) (fun h => fin)⟩
     refine ⟨_, rfl, rfl, _, rfl, ifnd (fun h => absurd rfl h) (fun _ => ?_)⟩
     exact ⟨_, rfl, _, rfl, _, rfl, sl_le (by omega), _, _, rfl, rfl, _, rfl, ifd (fun h => absurd h (by omega)) (fun h => fin)⟩
    ·rw [h1] at hst; cases hst
   | some c' =>
    obtain ⟨m', rfl⟩ : ∃ m', m = m' + 1 := by
     cases m with
     | zero => rw [goN, hst] at hgo4; cases hgo4
     | succ m' => exact ⟨m', rfl⟩
    rw [goN, hst] at hgo4
    have hgo5 : goN ms row m' c' = some d := hgo4
    have hpos : (0 : Int) < left := by omega
    refine ⟨_, rfl, _, _, rfl, rfl, _, rfl, ifd (fun _ => ?_) (fun h => absurd hpos h)⟩
    have hnon : rv = .non -> c.tints.length < row.length := fun e => by
     rcases hrv with ⟨hnone, _⟩ | ⟨R, tr, m', _, h1, _, h3, _⟩
     ·rw [stepG, hnone] at hst
      have hst : (if c.tints.length < row.length then some _ else none) = some c' := hst
      by_cases z : c.tints.length < row.length
      ·exact z
      ·rw [if_neg z] at hst; cases hst
     ·rw [e] at h3; cases h3
    refine (fun hb => ⟨_, rfl, rfl, _, rfl, ifnd (fun _ => hb) (fun h => ⟨_, rfl, _, rfl, _, rfl, sl_le (by omega), _, _, rfl, rfl, _, rfl, ifd (fun _ => hb) (fun h' => absurd (by have := hnon h; omega) h')⟩)⟩) ?_
    refine ⟨_, fun Z' H' z => z, ?_⟩
    refine @at_cons _ _ _ _ _ _ _ (ps_set (i := 6) sc_q55.nd rfl (Or.inl rfl) (pe_op op_sub (pv 6) pe_int)) ⟨_, rfl, _, _, rfl, rfl, ?_⟩
    refine @at_cons _ _ _ _ _ _ _ (ps_set (i := 8) sc_q55.nd rfl (Or.inl rfl) pe_int) ?_
    show At _ _ _ [some (.ref lm), some (.ref lo), some (.str row), some (.ref lt), some (.ref lk), some (.int c.tints.length), some (.int (left - 1)), some rv, some (.int 1)] H4
    refine @at_consR _ _ _ _ _ _ _ (fun Z' H' => ∃ (lt lo : Addr) (mn : Int), Z' = [some (.ref lm), some (.ref lo), some (.str row), some (.ref lt), some (.ref lk), some (.int c.tints.length), some (.int (left - 1)), some rv, some (.int mn)] /\ (c.tints.length : Int) + mn = c'.tints.length /\ H' lo = some (.lst (c'.on.map natV)) /\ H' lt = some (.lst (c'.tints.map V.str)) /\ GM H' lk c'.marks /\ H lt = none /\ (lo = lh ∨ H lo = none) /\ lo ≠ lt /\ lo ≠ lk /\ lt ≠ lk /\ OnOk ms c'.on /\ c'.tints.length <= row.length /\ c'.on.length + m' <= on.length + n /\ c'.marks.length + m' <= n /\ Same H H') (ps_if (pt_cmpR op_isN (pv 7) pe_non (nomark _)) pss_at pss_at) ?_ ?_
    ·rcases hrv with ⟨hnone, rfl⟩ | ⟨R, tr, m2, hm2, h1, h2, rfl, h4⟩
     ·have hlt' := hnon rfl
      have ec : c' = ⟨c.on, c.tints ++ [colourAt ms (topN c.on)], c.marks⟩ := by
       rw [stepG, hnone] at hst
       have hst : (if c.tints.length < row.length then some (Cfg.mk c.on (c.tints ++ [colourAt ms (topN c.on)]) c.marks) else none) = some c' := hst
       rw [if_pos hlt'] at hst
       exact (Option.some.inj hst).symm
      have ecol : colourAt ms (topN c.on) = md.colour := by rw [colourAt, hmd]
      obtain ⟨ts, hlm, hA⟩ := hL
      obtain ⟨tm, htm, lu, rs, t1, t2, t3⟩ := hA.at hmd
      refine ⟨_, rfl, rfl, _, rfl, ifd (fun _ => ?_) (fun h => absurd rfl h)⟩
      refine @at_one _ _ _ _ _ _ (ps_expr (pe_bm F.plainAttrs_list F.slot_list_append F.type_list_append mt_append (pv 3) (pa_cons (pe_ix ix_tup (pe_ix ix_list (pv 0) (pe_ix ix_list (pv 1) (pe_un un_neg pe_int) (fun _ _ => rfl)) (fun _ _ => rfl)) pe_int (fun _ _ => rfl)) pa_nil))) ⟨_, rfl, .inl ⟨rfl, _, SqL.of ht4⟩, _, rfl, _, rfl, _, rfl, _, _, _, _, rfl, rfl, SqL.of ho4, at_natlast (top_last hok4.1), _, _, _, _, rfl, rfl, SqL.of (s4 _ _ hlm), at_ref htm, _, _, _, _, rfl, rfl, SqT.of (s4 _ _ t1), atI_nat (j := 1) rfl, lt, _, _, rfl, rfl, ht4, sl_lt (by rw [List.length_map]; omega), lt, lo, 1, rfl, ?_, ?_, ?_, ?_, hlt0, hlo0, not_, nok, ntk, ?_, ?_, ?_, ?_, ?_⟩
      ·rw [ec]
       show _ = (((c.tints ++ [colourAt ms (topN c.on)]).length : Nat) : Int)
       rw [List.length_append, List.length_cons, List.length_nil]
       omega
      ·rw [ec, upd_ne not_]; exact ho4
      ·rw [ec, upd_same]
       show _ = some (HO.lst ((c.tints ++ [colourAt ms (topN c.on)]).map V.str))
       rw [List.map_append, ecol]
       rfl
      ·rw [ec]; exact hk4.updL ht4 (Ne.symm ntk)
      ·rw [ec]; exact hok4
      ·rw [ec]
       show (c.tints ++ [colourAt ms (topN c.on)]).length <= _
       rw [List.length_append, List.length_cons, List.length_nil]
       omega
      ·rw [ec]; show c.on.length + m' <= _; omega
      ·rw [ec]; show c.marks.length + m' <= _; omega
      ·intro b o hb
       rw [upd_ne (ne_of_none hb hlt0)]
       exact s4 _ _ hb
     ·have ec : c' = eatC c R row := by
       rw [stepG, h1] at hst
       exact (Option.some.inj hst).symm
      have hmm2 := List.mem_of_getElem? hm2
      have hs := ((W.g.ok m2 hmm2).2 R h2).1
      have hfit : fitsB R row c.tints.length = true := by
       rw [hru] at h1
       unfold ruleM at h1
       cases ef : firstM md.rules row c.tints.length with
       | none => rw [ef] at h1; cases h1
       | some j =>
        rw [ef] at h1
        obtain ⟨_, R', g1, g2, _⟩ := firstF_some ef
        rw [Nat.sub_zero] at g1
        have : R' = R := Option.some.inj (g1.symm.trans h1)
        rw [← this]; exact g2
      have hel := eat_le (R := R) (row := row) hs htl4
      have hdl := deed_len (on := c.on) (d := R.deed) (g := R.goal)
      refine ⟨_, rfl, rfl, _, rfl, ifd (fun h => by cases h) (fun _ => ?_)⟩
      refine @at_cons _ _ _ _ _ _ _ (ps_set (i := 8) sc_q55.nd rfl (Or.inl rfl) (pe_call (ok_q52 T) (hr.mono (by decide)) rfl T.mg_q52 T.F_q52.kp (T.F_q52.binds (by walk_at "3")) .nil pass0 (pa_cons (pv 7) (pa_cons (pv 2) (pa_cons (pv 5) pa_nil))))) ⟨_, rfl, _, rfl, _, rfl, tr, R, row, c.tints.length, rfl, h4, hs, W.sg m2 hmm2 R h2, hrow, htl4, fun H5 s5 => ?_⟩
      rw [due_eat hfit]
      have h5 := h4.same s5
      obtain ⟨z, u1, u2, u3⟩ := id h5
      have ht5 := s5 _ _ ht4
      have ho5 := s5 _ _ ho4
      have hk5 := hk4.same s5
      refine @at_cons _ _ _ _ _ _ _ (ps_set (i := 3) sc_q55.nd rfl (Or.inl rfl) (pe_op op_cat (pv 3) (pe_op op_rep (pe_lst (pa_cons (pe_ix ix_tup (pv 7) pe_int (fun _ _ => rfl)) pa_nil)) (pv 8)))) ⟨_, rfl, _, rfl, _, _, _, _, rfl, rfl, SqT.of u1, atI_nat (j := 2) rfl, by show 1 <= sizeLine; decide, fun l1 hl1 => ⟨_, rfl, l1, _, _, rfl, rfl, upd_same, by omega, by omega, (by rw [Int.toNat_natCast]; exact sl_le (by simp only [List.length_cons, List.length_nil]; omega)), fun l2 hl2 => ?_⟩⟩
      rw [Int.toNat_natCast, rep_flat]
      have s7 : Same H5 (upd (upd H5 l1 (.lst [.str R.colour])) l2 (.lst (List.replicate (eatN R row c.tints.length) (V.str R.colour)))) := (Same.upd hl1).to hl2
      have hl7 : upd (upd H5 l1 (.lst [.str R.colour])) l2 (.lst (List.replicate (eatN R row c.tints.length) (V.str R.colour))) l2 = some (.lst (List.replicate (eatN R row c.tints.length) (V.str R.colour))) := upd_same
      generalize upd (upd H5 l1 (.lst [.str R.colour])) l2 (.lst (List.replicate (eatN R row c.tints.length) (V.str R.colour))) = H7 at s7 hl7
      refine ⟨lt, l2, _, _, rfl, rfl, s7 _ _ ht5, hl7, sl_le (by rw [List.length_map, List.length_replicate]; omega), fun lt' hlt' => ?_⟩
      have s8 : Same H7 (upd H7 lt' (.lst (c.tints.map V.str ++ List.replicate (eatN R row c.tints.length) (V.str R.colour)))) := Same.upd hlt'
      have ht8 : upd H7 lt' (.lst (c.tints.map V.str ++ List.replicate (eatN R row c.tints.length) (V.str R.colour))) lt' = some (.lst ((eatC c R row).tints.map V.str)) := by
       rw [upd_same]
       show _ = some (HO.lst ((c.tints ++ List.replicate (eatN R row c.tints.length) R.colour).map V.str))
       rw [List.map_append, List.map_replicate]
      generalize upd H7 lt' (.lst (c.tints.map V.str ++ List.replicate (eatN R row c.tints.length) (V.str R.colour))) = H8 at s8 ht8
      have s78 := s7.trans s8
      have ho8 := s78 _ _ ho5
      have hk8 := hk5.same s78
      have h8 := h5.same s78
      have no8 : lo ≠ lt' := ne_of_none (s7 _ _ ho5) hlt'
      obtain ⟨ps5, hps5, _⟩ := id hk5
      have nk8 : lk ≠ lt' := ne_of_none (s7 _ _ hps5) hlt'
      have s48 := s4.trans (s5.trans s78)
      have hlt0' : H lt' = none := (s4.trans (s5.trans s7)).free hlt'
      show At _ _ _ [some (.ref lm), some (.ref lo), some (.str row), some (.ref lt'), some (.ref lk), some (.int c.tints.length), some (.int (left - 1)), some (.ref tr), some (natV (eatN R row c.tints.length))] H8
      refine @at_consR _ _ _ _ _ _ _ (fun Z' H' => Z' = [some (.ref lm), some (.ref lo), some (.str row), some (.ref lt'), some (.ref lk), some (.int c.tints.length), some (.int (left - 1)), some (.ref tr), some (natV (eatN R row c.tints.length))] /\ H' lo = some (.lst (c.on.map natV)) /\ H' lt' = some (.lst ((eatC c R row).tints.map V.str)) /\ GM H' lk (eatC c R row).marks /\ LR H' tr R /\ Same H H') (ps_if (pt_cmpR op_ne (pe_ix ix_tup (pv 7) pe_int (fun _ _ => rfl)) pe_str (nomark _)) pss_at pss_at) ?_ ?_
      ·obtain ⟨z8, u8, u9⟩ := id h8
       refine ⟨_, rfl, _, _, _, _, rfl, rfl, SqT.of u8, atI_nat (j := 5) rfl, rfl, _, rfl, ifnd (fun h => ?_) (fun h => at_nil ⟨rfl, ho8, ht8, ?_, h8, s48⟩)⟩
       ·have h : R.fold ≠ "" := fun z => h (by rw [z])
        obtain ⟨ps, hps, hAp⟩ := hk8
        refine @at_one _ _ _ _ _ _ (ps_expr (pe_bm F.plainAttrs_list F.slot_list_append F.type_list_append mt_append (pv 4) (pa_cons (pe_tup (pa_cons (pv 5) (pa_cons (pe_ix ix_tup (pv 7) pe_int (fun _ _ => rfl)) pa_nil))) pa_nil))) ⟨_, rfl, .inl ⟨rfl, _, SqL.of hps⟩, _, rfl, _, rfl, _, _, _, _, rfl, rfl, SqT.of u8, atI_nat (j := 5) rfl, by show 2 <= sizeLine; decide, fun tp htp => ?_⟩
        have s9 : Same H8 (upd H8 tp (.tup [.int c.tints.length, .str R.fold])) := Same.upd htp
        have hp9 : upd H8 tp (.tup [.int c.tints.length, .str R.fold]) tp = some (.tup [.int c.tints.length, .str R.fold]) := upd_same
        generalize upd H8 tp (.tup [.int c.tints.length, .str R.fold]) = H9 at s9 hp9
        have hps9 := s9 _ _ hps
        have hpl : ps.length <= 100000 := by rw [hAp.1]; omega
        refine ⟨lk, _, _, rfl, rfl, hps9, sl_lt (by rw [List.length_map]; omega), rfl, ?_, ?_, ?_, ?_, ?_⟩
        ·rw [upd_ne nok]; exact s9 _ _ ho8
        ·rw [upd_ne (Ne.symm nk8)]; exact s9 _ _ ht8
        ·have em : (eatC c R row).marks = c.marks ++ [(c.tints.length, R.fold)] := if_neg h
         rw [em]
         refine ⟨ps ++ [tp], by rw [upd_same, List.map_append]; rfl, All2.snoc (hAp.mono fun p m e => ?_) ?_⟩
         ·rw [upd_ne (ne_of (s9 _ _ e) hps9 (by intro z; cases z))]; exact s9 _ _ e
         ·rw [upd_ne (ne_of hp9 hps9 (by intro z; cases z))]; exact hp9
        ·exact ⟨z8, by rw [upd_ne (ne_of (s9 _ _ u8) hps9 (by intro z; cases z))]; exact s9 _ _ u8, u9⟩
        ·intro b o hb
         rw [upd_ne (ne_of_none hb hlk0)]
         exact s9 _ _ (s48 _ _ hb)
       ·have h : R.fold = "" := V.str.inj h
        have em : (eatC c R row).marks = c.marks := if_pos h
        rw [em]
        exact hk8
      rintro Z' H9 ⟨rfl, ho9, ht9, hk9, h9, s9⟩
      have hgd : GoodD R := W.g.gd hmm2 h2
      refine @at_one _ _ _ _ _ _ (ps_set (i := 1) sc_q55.nd rfl (Or.inl rfl) (pe_call (ok_q50 T) (hr.mono (by decide)) rfl T.mg_q50 T.F_q50.kp (T.F_q50.binds (by walk_at "2")) .nil pass0 (pa_cons (pv 7) (pa_cons (pv 1) pa_nil)))) ⟨_, rfl, _, rfl, lo, tr, c.on, R, rfl, ho9, h9, W.g.deed m2 hmm2 R h2, hgd, hok4.1, by omega, fun lo' H10 ho10 hor s10 => ?_⟩
      obtain ⟨ps9, hps9, _⟩ := id hk9
      have no1 : lo' ≠ lt' := by
       rcases hor with z | z
       ·rw [z]; exact no8
       ·exact Ne.symm (ne_of_none ht9 z)
      have no2 : lo' ≠ lk := by
       rcases hor with z | z
       ·rw [z]; exact nok
       ·exact Ne.symm (ne_of_none hps9 z)
      have hlo' : lo' = lh ∨ H lo' = none := by
       rcases hor with z | z
       ·rw [z]; exact hlo0
       ·exact .inr (s9.free z)
      refine ⟨lt', lo', ((eatN R row c.tints.length : Nat) : Int), rfl, ?_, ?_, ?_, ?_, hlt0', hlo', no1, no2, Ne.symm nk8, ?_, ?_, ?_, ?_, s9.trans s10⟩
      ·rw [ec]
       show _ = (((c.tints ++ List.replicate _ _).length : Nat) : Int)
       rw [List.length_append, List.length_replicate]
       omega
      ·rw [ec]; exact ho10
      ·rw [ec]; exact s10 _ _ ht9
      ·rw [ec]; exact hk9.same s10
      ·rw [ec]; exact hok4.deed W.g hmm2 h2
      ·rw [ec]
       show (c.tints ++ List.replicate _ _).length <= _
       rw [List.length_append, List.length_replicate]
       exact hel
      ·rw [ec]
       show (deedM c.on R.deed R.goal).length + m' <= _
       omega
      ·rw [ec]
       show (if R.fold = "" then c.marks else c.marks ++ [(c.tints.length, R.fold)]).length + m' <= _
       split
       ·omega
       ·rw [List.length_append, List.length_cons, List.length_nil]; omega
    rintro Z' H5 ⟨lt5, lo5, mn, rfl, hmn, ho5, ht5, hk5, hlt5, hlo5, no5, nok5, ntk5, hok5, htl5, hol5, hml5, s5⟩
    refine @at_cons _ _ _ _ _ _ _ (ps_set (i := 5) sc_q55.nd rfl (Or.inl rfl) (pe_op op_add (pv 5) (pv 8))) ⟨_, rfl, _, rfl, _, _, rfl, rfl, ?_⟩
    show At _ _ _ [some (.ref lm), some (.ref lo5), some (.str row), some (.ref lt5), some (.ref lk), some (.int ((c.tints.length : Int) + mn)), some (.int (left - 1)), some rv, some (.int mn)] H5
    rw [hmn]
    obtain ⟨m5, hm5, hr5⟩ := look (H' := H) hok5
    refine @at_one _ _ _ _ _ _ (ps_set (i := 7) sc_q55.nd rfl (Or.inl rfl) (pe_call (ok_q53 T) (hr.mono (by decide)) rfl T.mg_q53 T.F_q53.kp (T.F_q53.binds (by walk_at "4")) .nil pass0 (pa_cons (pv 0) (pa_cons (pe_ix ix_list (pv 1) (pe_un un_neg pe_int) (fun _ _ => rfl)) (pa_cons (pv 2) (pa_cons (pv 5) pa_nil)))))) ⟨_, rfl, _, rfl, _, rfl, _, _, _, _, rfl, rfl, SqL.of ho5, at_natlast (top_last hok5.1), _, rfl, _, rfl, lm, ms, m5, topN c'.on, c'.tints.length, row, rfl, hL.same s5, W, hm5, hrow, htl5, fun H6 s6 => ⟨fun e => ?_, fun R tr e hR hLR => ?_⟩⟩
    ·exact ⟨m', by omega, c', lt5, lo5, left - 1, .non, _, rfl, s6 _ _ ho5, s6 _ _ ht5, hk5.same s6, hlt5, hlo5, no5, nok5, ntk5, hok5, htl5, hol5, hml5, by omega, hgo5, .inl ⟨by rw [hr5]; exact e, rfl⟩, s5.trans s6⟩
    ·exact ⟨m', by omega, c', lt5, lo5, left - 1, .ref tr, _, rfl, s6 _ _ ho5, s6 _ _ ht5, hk5.same s6, hlt5, hlo5, no5, nok5, ntk5, hok5, htl5, hol5, hml5, by omega, hgo5, .inr ⟨R, tr, m5, hm5, by rw [hr5]; exact e, hR, rfl, hLR.same s6⟩, s5.trans s6⟩
  rintro Z' H4 ⟨lt', lo', x5, x6, x7, x8, rfl, ht, ho, hk, f1, f2, s4⟩
  refine @at_one _ _ _ _ _ _ (ps_ret (pe_tup (pa_cons (pv 3) (pa_cons (pv 1) (pa_cons (pv 4) pa_nil))))) ⟨_, rfl, _, rfl, _, rfl, by show 3 <= sizeLine; decide, fun tp htp => ?_⟩
  exact q tp lt' lo' lk _ ⟨upd_same, Same.upd htp _ _ ht, Same.upd htp _ _ ho, hk.same (Same.upd htp)⟩ f1 hlk0 f2 (s4.to htp)
theorem LetBy.wk {ms : List ModeM} (L : LetBy ms) : Wk ms := by
 obtain ⟨calm, B⟩ := L.b
 refine ⟨B.goodMs, fun m hm R hR hb => ?_⟩
 obtain ⟨k, e⟩ := List.mem_iff_getElem?.mp hm
 obtain ⟨z, hz⟩ := (B.rules k m e).2 R hR
 rw [hz.sg, if_neg hb]
 exact hz.z1
theorem len_wsum {N : Nat} : ∀ {on : List Nat}, (∀ x ∈ on, x < N) -> on.length <= wsum N on
 | [], _ => by simp [wsum]
 | x :: r, h => by
  have := len_wsum (on := r) (fun y hy => h y (List.mem_cons_of_mem _ hy))
  have hx := h x (by simp)
  have e : wsum N (x :: r) = (N - x) + wsum N r := by simp [wsum]
  rw [e, List.length_cons]
  omega
open Classical in
noncomputable def hid (S : Addr -> Prop) (H : Hp) : Hp := fun b => if S b then none else H b
theorem hid_same {S : Addr -> Prop} {H : Hp} : Same (hid S H) H := fun b o h => by
 unfold hid at h
 split at h
 ·cases h
 ·exact h
theorem hid_of {S : Addr -> Prop} {H : Hp} {b : Addr} {o : HO} (h : H b = some o) (n : ¬ S b) : hid S H b = some o := by
 unfold hid
 rw [if_neg n]
 exact h
theorem hid_no {S : Addr -> Prop} {H : Hp} {b : Addr} {o : HO} (h : hid S H b = some o) : ¬ S b := fun z => by
 unfold hid at h
 rw [if_pos z] at h
 cases h
theorem hid_two {S : Addr -> Prop} {H H' : Hp} (s : Same H H') : Same (hid S H) (hid S H') := fun b o h => hid_of (s _ _ (hid_same _ _ h)) (hid_no h)
theorem hid_upd {S : Addr -> Prop} {H : Hp} {l : Addr} {o : HO} (hl : S l) : hid S (upd H l o) = hid S H := by
 funext b
 unfold hid
 split
 ·rfl
 ·rename_i h; rw [upd_ne (fun z => h (by rw [z]; exact hl))]
theorem hid_less {S S' : Addr -> Prop} {H : Hp} (h : ∀ b, S b -> S' b) : Same (hid S' H) (hid S H) := fun b o e => hid_of (hid_same _ _ e) (fun z => hid_no e (h b z))
def Ex (S : Addr -> Prop) (H : Hp) : Prop := ∀ b, S b -> ∃ o, H b = some o
theorem Ex.new {S : Addr -> Prop} {H : Hp} (e : Ex S H) {b : Addr} (h : H b = none) : ¬ S b := fun z => by
 obtain ⟨o, ho⟩ := e b z
 rw [h] at ho
 cases ho
theorem Ex.same {S : Addr -> Prop} {H H' : Hp} (e : Ex S H) (s : Same H H') : Ex S H' := fun b z => let ⟨o, ho⟩ := e b z; ⟨o, s _ _ ho⟩
theorem Ex.none (H : Hp) : Ex (fun _ => False) H := fun _ z => z.elim
def spCpR (t : Adr) : Sp := fun vs H Q _ => ∃ (r : Addr) (S : Addr -> Prop) (R : RuleM), vs = [.ref r] /\ IsRule t (hid S H) r R /\ Ex S H /\ ∀ r' H', IsRule t (hid S H') r' R -> Same H H' -> Q (.ref r') H'
theorem ok_q67 (T : Txt K mg t) : FnOk P w K mg base CX0 3 t.f_q67 t.d_q67 ["rule"] (spCpR t) := by
 refine T.F_q67.ok sc_q67 ?_ ?_
 walk_at "i"
 ·obtain ⟨r, S, R, rfl, ⟨dr, pa, o1', hp⟩, hz, q⟩ := h
  have o1 := hid_same _ _ o1'
  refine @at_one _ _ _ _ _ _ (ps_ret (pe_make T.mk_Rule (ok_q23 T) (hr.mono (by decide)) rfl T.mgc_Rule (T.F_q23.binds (by walk_at "6")) .nil pass0 (pa_cons (pe_fld (pv 0) rfl) (pa_cons (pe_fld (pv 0) rfl) (pa_cons (pe_fld (pv 0) rfl) (pa_cons (pe_fld (pv 0) rfl) (pa_cons (pe_fld (pv 0) rfl) pa_nil))))))) ?_
  refine ⟨_, rfl, _, _, _, _, _, rfl, o1, T.cl_Rule, T.n_Rule_pattern, rfl, ?_⟩
  refine ⟨_, rfl, _, _, _, _, _, rfl, o1, T.cl_Rule, T.n_Rule_colour, rfl, ?_⟩
  refine ⟨_, rfl, _, _, _, _, _, rfl, o1, T.cl_Rule, T.n_Rule_deed, rfl, ?_⟩
  refine ⟨_, rfl, _, _, _, _, _, rfl, o1, T.cl_Rule, T.n_Rule_goal, rfl, ?_⟩
  refine ⟨_, rfl, _, _, _, _, _, rfl, o1, T.cl_Rule, T.n_Rule_fold, rfl, ?_⟩
  refine fun x dx' nx ndx ne => ⟨x, dx', pa, R, rfl, upd_same, rfl, ?_⟩
  exact q x _ ⟨dx', pa, hid_of upd_same (hz.new nx), hp.same (hid_two (mk_same nx ndx))⟩ (mk_same nx ndx)
def spCpM (t : Adr) : Sp := fun vs H Q _ => ∃ (b l dm : Addr) (S : Addr -> Prop) (m : ModeM) (rs : List Addr), vs = [.ref b] /\ hid S H b = some (.ins t.c_Mode dm (mf m l)) /\ hid S H l = some (.lst (rs.map V.ref)) /\ All2 (IsRule t (hid S H)) rs m.rules /\ Ex S H /\ m.rules.length <= 200 /\
 ∀ b' l' dm' rs' H', hid S H' b' = some (.ins t.c_Mode dm' (mf m l')) -> hid S H' l' = some (.lst (rs'.map V.ref)) -> All2 (IsRule t (hid S H')) rs' m.rules -> H l' = none -> Same H H' -> Q (.ref b') H'
theorem ok_q66 (T : Txt K mg t) : FnOk P w K mg base CX0 4 t.f_q66 t.d_q66 ["mode"] (spCpM t) := by
 refine T.F_q66.ok sc_q66 ?_ ?_
 walk_at "i"
 ·obtain ⟨b, l, dm, S, m, rs, rfl, hb', hl', hA, hz, hlen, q⟩ := h
  have hb := hid_same _ _ hb'
  have hl := hid_same _ _ hl'
  refine @at_one _ _ _ _ _ _ (@ps_ret _ _ _ _ (@pe_make _ _ _ _ _ _ _ _ _ _ _ _ _ _ _ _ _ T.mk_Mode (ok_q15 T) (hr.mono (by decide)) rfl T.mgc_Mode (T.F_q15.binds (by walk_at "4")) .nil pass0 (@pa_cons _ _ _ _ _ (@pe_fld _ _ _ _ _ (pv 0) rfl) (@pa_cons _ _ _ _ _ (@pe_fld _ _ _ _ _ (pv 0) rfl) (@pa_cons _ _ _ _ _ (@pe_comp _ (defScope s_q66) _ ["mode"] _ _ ("rule") _ _ [] _ _ (by walk_at "ck") (@pi_list _ _ _ _ (@pe_fld _ _ _ _ _ (pv 0) rfl)) (fun _ _ _ _ => by exact (@pe_call _ _ _ _ _ _ _ _ _ _ _ _ _ _ _ _ (ok_q67 T) (hr.mono (by decide)) rfl T.mg_q67 T.F_q67.kp (T.F_q67.binds (by walk_at "1")) .nil pass0 (@pa_cons _ _ _ _ _ (pv 0) pa_nil (by left)) (by left) (by left) (by left))) (by left) (by left) (by left) (by left)) pa_nil (by left)) (by left)) (by left)) (by left) (by left) (by left))) ?_
  refine ⟨_, rfl, _, _, _, _, _, rfl, hb, T.cl_Mode, T.n_Mode_name, rfl, ?_⟩
  refine ⟨_, rfl, _, _, _, _, _, rfl, hb, T.cl_Mode, T.n_Mode_colour, rfl, ?_⟩
  refine ⟨_, rfl, _, _, _, _, _, rfl, hb, T.cl_Mode, T.n_Mode_rules, rfl, ?_⟩
  refine ⟨l, rfl, ⟨_, SqL.of hl⟩, comp_list (xs := rs.map V.ref) (fun i ys H2 => ∃ rs2 : List Addr, ys = rs2.map V.ref /\ All2 (IsRule t (hid S H2)) rs2 (m.rules.take i) /\ Same H H2) ⟨[], rfl, All2.nil, Same.refl H⟩ (sl_lt (by rw [List.length_map, hA.1]; omega)) ?_ ?_ ?_⟩
  ·rintro i ys H2 _ ⟨_, _, _, s2⟩
   exact SqL.of (s2 _ _ hl)
  ·rintro i xv ys H2 hx hyl ⟨rs2, rfl, hA2, s2⟩
   rw [List.getElem?_map] at hx
   obtain ⟨r, hr0, rfl⟩ := Option.map_eq_some_iff.mp hx
   have hi := (List.getElem?_eq_some_iff.mp hr0).1
   have hRi : m.rules[i]? = some (m.rules[i]'(by rw [← hA.1]; exact hi)) := List.getElem?_eq_getElem _
   have hR := hA.2 i r _ hr0 hRi
   refine ⟨_, rfl, r, S, _, rfl, hR.same (hid_two s2), hz.same s2, fun r' H3 hr3 s3 => comp_turn (by rw [List.length_map]; exact hi) hyl ⟨rs2 ++ [r'], by rw [List.map_append]; rfl, ?_, s2.trans s3⟩⟩
   rw [take_snoc hRi]
   exact All2.snoc (hA2.mono fun _ _ y => y.same (hid_two s3)) hr3
  ·rintro ys H2 hyl ⟨rs2, rfl, hA2, s2⟩ D hD
   rw [List.length_map, hA.1, List.take_length] at hA2
   have s3 : Same H (upd H2 D (.lst (rs2.map V.ref))) := s2.to hD
   have hD3 : upd H2 D (.lst (rs2.map V.ref)) D = some (.lst (rs2.map V.ref)) := upd_same
   have hA3 : All2 (IsRule t (hid S (upd H2 D (.lst (rs2.map V.ref))))) rs2 m.rules := hA2.mono fun _ _ y => y.same (hid_two (Same.upd hD))
   generalize upd H2 D (.lst (rs2.map V.ref)) = H3 at s3 hD3 hA3
   refine fun x dx' nx ndx ne => ⟨x, dx', D, m.name, m.colour, _, rfl, upd_same, mk_same0 nx ndx _ _ hD3, fun l2 H4 e1 e2 e3 e4 => ⟨rfl, ?_⟩⟩
   have s4 : Same H3 H4 := fun b o hb => e4 b o (mk_same0 nx ndx _ _ hb) (ne_of_none hb nx)
   have hz3 := hz.same s3
   have nxz : ¬ S x := hz3.new nx
   have nlz : ¬ S l2 := hz3.new ((mk_same0 nx ndx).free e1)
   exact q x l2 dx' rs2 H4 (hid_of e2 nxz) (hid_of e3 nlz) (hA3.mono fun _ _ y => y.same (hid_two s4)) (s3.free ((mk_same0 nx ndx).free e1)) (s3.trans s4)
def spCpRs (t : Adr) : Sp := fun vs H Q _ => ∃ (a : Addr) (S : Addr -> Prop) (ms : List ModeM), vs = [.ref a] /\ IsRules t (hid S H) a ms /\ Ex S H /\ GoodMs ms /\ ∀ a' H', IsRules t (hid S H') a' ms -> Same H H' -> Q (.ref a') H'
theorem ok_q68 (T : Txt K mg t) : FnOk P w K mg base CX0 5 t.f_q68 t.d_q68 ["rules"] (spCpRs t) := by
 refine T.F_q68.ok sc_q68 ?_ ?_
 walk_at "i"
 ·obtain ⟨a, S, ms, rfl, ⟨dx, lm, as, ls, ha', hlm', hM⟩, hz, G, q⟩ := h
  have ha := hid_same _ _ ha'
  have hlm := hid_same _ _ hlm'
  have hlen := G.len
  refine @at_one _ _ _ _ _ _ (@ps_ret _ _ _ _ (@pe_make _ _ _ _ _ _ _ _ _ _ _ _ _ _ _ _ _ T.mk_Rules (ok_q24 T) (hr.mono (by decide)) rfl T.mgc_Rules (T.F_q24.binds (by walk_at "2")) .nil pass0 (@pa_cons _ _ _ _ _ (@pe_comp _ (defScope s_q68) _ ["rules"] _ _ ("mode") _ _ [] _ _ (by walk_at "ck") (@pi_list _ _ _ _ (@pe_fld _ _ _ _ _ (pv 0) rfl)) (fun _ _ _ _ => by exact (@pe_call _ _ _ _ _ _ _ _ _ _ _ _ _ _ _ _ (ok_q66 T) (hr.mono (by decide)) rfl T.mg_q66 T.F_q66.kp (T.F_q66.binds (by walk_at "1")) .nil pass0 (@pa_cons _ _ _ _ _ (pv 0) pa_nil (by left)) (by left) (by left) (by left))) (by left) (by left) (by left) (by left)) pa_nil (by left)) (by left) (by left) (by left))) ?_
  refine ⟨_, rfl, _, _, _, _, _, rfl, ha, T.cl_Rules, T.n_Rules_modes, rfl, ?_⟩
  refine ⟨lm, rfl, ⟨_, SqL.of hlm⟩, comp_list (xs := as.map V.ref) (fun i ys H2 => ∃ as2 ls2 : List Addr, ys = as2.map V.ref /\ ModesAt t (hid S H2) as2 ls2 (ms.take i) /\ Same H H2) ⟨[], [], rfl, ⟨rfl, rfl, List.nodup_nil, fun i a l m h => by simp at h⟩, Same.refl H⟩ (sl_lt (by rw [List.length_map, hM.la]; omega)) ?_ ?_ ?_⟩
  ·rintro i ys H2 _ ⟨_, _, _, _, s2⟩
   exact SqL.of (s2 _ _ hlm)
  ·rintro i xv ys H2 hx hyl ⟨as2, ls2, rfl, hM2, s2⟩
   rw [List.getElem?_map] at hx
   obtain ⟨b, hb, rfl⟩ := Option.map_eq_some_iff.mp hx
   have hi := (List.getElem?_eq_some_iff.mp hb).1
   have him : i < ms.length := by rw [← hM.la]; exact hi
   have hmi : ms[i]? = some ms[i] := List.getElem?_eq_getElem him
   obtain ⟨l, hl⟩ : ∃ l, ls[i]? = some l := ⟨ls[i]'(by rw [hM.ll]; exact him), List.getElem?_eq_getElem _⟩
   obtain ⟨dm, rs, o1, o2, o3⟩ := hM.ob i b l _ hb hl hmi
   have sh := hid_two (S := S) s2
   refine ⟨_, rfl, b, l, dm, S, ms[i], rs, rfl, sh _ _ o1, sh _ _ o2, o3.mono fun _ _ y => y.same sh, hz.same s2, (G.ok _ (List.getElem_mem him)).1, fun b' l' dm' rs' H3 e1 e2 e3 e4 s3 => comp_turn (by rw [List.length_map]; exact hi) hyl ⟨as2 ++ [b'], ls2 ++ [l'], by rw [List.map_append]; rfl, ?_, s2.trans s3⟩⟩
   have hM3 := hM2.same (hid_two s3)
   rw [take_snoc hmi]
   refine ⟨by rw [List.length_append, List.length_append, hM3.la]; rfl, by rw [List.length_append, List.length_append, hM3.ll]; rfl, ?_, fun j a' l'' m' h1 h2 h3 => ?_⟩
   ·refine List.nodup_append.mpr ⟨hM3.nd, by simp, fun x hx y hy => ?_⟩
    rw [List.mem_singleton.mp hy]
    intro e
    obtain ⟨xs, hxs⟩ := hM2.alive hx
    have hxs := hid_same _ _ hxs
    rw [e, e4] at hxs
    cases hxs
   ·have k1 := hM3.la
    have k2 := hM3.ll
    rcases snoc_get h1 with h1 | ⟨i1, rfl⟩
    ·have := (List.getElem?_eq_some_iff.mp h1).1
     rcases snoc_get h2 with h2 | ⟨i2, rfl⟩
     ·rcases snoc_get h3 with h3 | ⟨i3, rfl⟩
      ·exact hM3.ob j a' l'' m' h1 h2 h3
      ·omega
     ·omega
    ·rcases snoc_get h2 with h2 | ⟨i2, rfl⟩
     ·have := (List.getElem?_eq_some_iff.mp h2).1; omega
     ·rcases snoc_get h3 with h3 | ⟨i3, rfl⟩
      ·have := (List.getElem?_eq_some_iff.mp h3).1; omega
      ·exact ⟨dm', rs', e1, e2, e3⟩
  ·rintro ys H2 hyl ⟨as2, ls2, rfl, hM2, s2⟩ D hD
   rw [List.length_map, hM.la, List.take_length] at hM2
   have s3 : Same H (upd H2 D (.lst (as2.map V.ref))) := s2.to hD
   have hD3 : upd H2 D (.lst (as2.map V.ref)) D = some (.lst (as2.map V.ref)) := upd_same
   have hM3 : ModesAt t (hid S (upd H2 D (.lst (as2.map V.ref)))) as2 ls2 ms := hM2.same (hid_two (Same.upd hD))
   generalize upd H2 D (.lst (as2.map V.ref)) = H3 at s3 hD3 hM3
   refine fun x dx' nx ndx ne => ⟨x, dx', D, _, rfl, upd_same, mk_same0 nx ndx _ _ hD3, fun l2 H4 e1 e2 e3 e4 => ⟨rfl, ?_⟩⟩
   have s4 : Same H3 H4 := fun b o hb => e4 b o (mk_same0 nx ndx _ _ hb) (ne_of_none hb nx)
   have hz3 := hz.same s3
   have nxz : ¬ S x := hz3.new nx
   have nlz : ¬ S l2 := hz3.new ((mk_same0 nx ndx).free e1)
   exact q x H4 ⟨dx', l2, as2, ls2, hid_of e2 nxz, hid_of e3 nlz, hM3.same (hid_two s4)⟩ (s3.trans s4)
def spAskR (t : Adr) : Sp := fun vs H Q _ => ∃ (a : Addr) (ms : List ModeM), vs = [.ref a] /\ IsRules t H a ms /\ GoodMs ms /\ ringM ms = none /\ ∀ H', Same H H' -> Q .non H'
theorem ok_q65 (T : Txt K mg t) : FnOk P w K mg base CX0 6 t.f_q65 t.d_q65 ["rules"] (spAskR t) := by
 refine T.F_q65.ok sc_q65 ?_ ?_
 walk_at "i"
 ·obtain ⟨a, ms, rfl, hR, G, hn, q⟩ := h
  refine @at_cons _ _ _ _ _ _ _ (ps_set (i := 1) sc_q65.nd rfl (Or.inl rfl) (pe_call (ok_q81 T) (hr.mono (by decide)) rfl T.mg_q81 T.F_q81.kp (T.F_q81.binds (by walk_at "1")) .nil pass0 (pa_cons (pv 0) pa_nil))) ⟨_, rfl, a, ms, rfl, hR, G, fun H1 s1 => ⟨fun _ => ?_, (fun ring row p l e => by rw [hn] at e; cases e)⟩⟩
  exact @at_one _ _ _ _ _ _ (ps_if (pt_cmpR op_notN (pv 1) pe_non (nomark _)) pss_at pss_at) ⟨_, rfl, rfl, _, rfl, ifnd (fun h => absurd rfl h) (fun _ => at_nil (q H1 s1))⟩
structure GRow where
 row : Str
 before : List Nat
 d : Cfg
def gf (row : Str) (lb lt lo lk : Addr) : List (Str × V) := [("signs", .str row), ("before", .ref lb), ("tints", .ref lt), ("behind", .ref lo), ("folded", .ref lk)]
structure IsGoneAt (t : Adr) (H : Hp) (g dx lb lt lo lk : Addr) (G : GRow) : Prop where
 ob : H g = some (.ins t.c_GoneRow dx (gf G.row lb lt lo lk))
 lb : H lb = some (.lst (G.before.map natV))
 lt : H lt = some (.lst (G.d.tints.map V.str))
 lo : H lo = some (.lst (G.d.on.map natV))
 lk : GM H lk G.d.marks
def IsGone (t : Adr) (H : Hp) (g : Addr) (G : GRow) : Prop := ∃ dx lb lt lo lk, IsGoneAt t H g dx lb lt lo lk G
theorem IsGone.same {H H' : Hp} {g : Addr} {G : GRow} (h : IsGone t H g G) (s : Same H H') : IsGone t H' g G :=
 let ⟨dx, lb, lt, lo, lk, e⟩ := h; ⟨dx, lb, lt, lo, lk, s _ _ e.ob, s _ _ e.lb, s _ _ e.lt, s _ _ e.lo, e.lk.same s⟩
structure StepG (ms : List ModeM) (G : GRow) : Prop where
 ok : OnOk ms G.before
 len : G.before.length <= 20000
 row : G.row.length <= 1000
 go : ∃ n, n <= 5000 /\ goN ms G.row n ⟨G.before, [], []⟩ = some G.d
 ok2 : OnOk ms G.d.on
 len2 : G.d.on.length <= 20000
 tl : G.d.tints.length = G.row.length
def spGInit (t : Adr) : Sp := fun vs H Q _ => ∃ (x dx a lb : Addr) (S : Addr -> Prop) (ms : List ModeM) (G : GRow), vs = [.ref x, .ref a, .ref lb, .str G.row] /\ H x = some (.ins t.c_GoneRow dx []) /\ IsRules t H a ms /\ GoodMs ms /\ hid S H lb = some (.lst (G.before.map natV)) /\ Ex S H /\ ¬ S x /\ StepG ms G /\
 ∀ lt lo lk H', IsGoneAt t (hid S H') x dx lb lt lo lk G -> Adv H H' x -> Q .non H'
theorem ok_q11 (T : Txt K mg t) : FnOk P w K mg base CX0 4 t.f_q11 t.d_q11 ["self", "rules", "modes", "row"] (spGInit t) := by
 refine T.F_q11.ok sc_q11 ?_ ?_
 walk_at "i"
 ·obtain ⟨x, dx, a, lb, Sh, ms, G, rfl, hx, hR, GM_, hlb', hE, hxS, S, q⟩ := h
  have hlb := hid_same _ _ hlb'
  obtain ⟨n, hn, hgo⟩ := S.go
  have hbl := S.len
  refine @at_cons _ _ _ _ _ _ _ (ps_set (i := 4) sc_q11.nd rfl (Or.inl rfl) (pe_call (ok_q71 T) (hr.mono (by decide)) rfl T.mg_q71 T.F_q71.kp (T.F_q71.binds (by walk_at "3")) .nil pass0 (pa_cons (pv 1) (pa_cons (pv 2) (pa_cons (pv 3) pa_nil))))) ⟨_, rfl, _, rfl, _, rfl, a, lb, ms, G.before, G.row, n, G.d, rfl, hR, GM_, hlb, S.ok, S.row, by omega, by omega, hgo, fun tp lt lo lk H1 D GF1 f1 f2 f3 n1 n2 n3 s1 => ?_⟩
  have hx1 := s1 _ _ hx
  have nx : ∀ {b o}, H1 b = some o -> (∀ C dx fs, o ≠ .ins C dx fs) -> b ≠ x := fun {b o} e h => ne_of e hx1 (fun z => h _ _ _ z)
  have x1 : tp ≠ x := nx D.tp (by intro _ _ _ z; cases z)
  have x2 : lt ≠ x := nx D.lt (by intro _ _ _ z; cases z)
  have x3 : lo ≠ x := nx D.lo (by intro _ _ _ z; cases z)
  have x4 : lb ≠ x := nx (s1 _ _ hlb) (by intro _ _ _ z; cases z)
  refine @at_cons _ _ _ _ _ _ _ (ps_fld (pv 0) (pv 3) rfl) ⟨_, rfl, _, rfl, x, _, dx, [], rfl, hx1, T.cl_GoneRow, T.n_GoneRow_signs, by decide, ?_⟩
  refine @at_cons _ _ _ _ _ _ _ (ps_fld (pv 0) (pv 2) rfl) ⟨_, rfl, _, rfl, x, _, dx, [("signs", .str G.row)], rfl, upd_same, T.cl_GoneRow, T.n_GoneRow_before, by show 1 < 1000; decide, ?_⟩
  refine @at_cons _ _ _ _ _ _ _ (ps_fld (pv 0) (pe_ix ix_tup (pv 4) pe_int (fun _ _ => rfl)) rfl) ⟨_, rfl, _, _, _, _, rfl, rfl, SqT.of (by rw [upd_ne x1, upd_ne x1]; exact D.tp), atI_nat (j := 0) rfl, _, rfl, x, _, dx, [("signs", .str G.row), ("before", .ref lb)], rfl, upd_same, T.cl_GoneRow, T.n_GoneRow_tints, by show 2 < 1000; decide, ?_⟩
  refine @at_cons _ _ _ _ _ _ _ (ps_fld (pv 0) (pe_ix ix_tup (pv 4) pe_int (fun _ _ => rfl)) rfl) ⟨_, rfl, _, _, _, _, rfl, rfl, SqT.of (by rw [upd_ne x1, upd_ne x1, upd_ne x1]; exact D.tp), atI_nat (j := 1) rfl, _, rfl, x, _, dx, [("signs", .str G.row), ("before", .ref lb), ("tints", .ref lt)], rfl, upd_same, T.cl_GoneRow, T.n_GoneRow_behind, by show 3 < 1000; decide, ?_⟩
  refine @at_one _ _ _ _ _ _ (ps_fld (pv 0) (pe_ix ix_tup (pv 4) pe_int (fun _ _ => rfl)) rfl) ⟨_, rfl, _, _, _, _, rfl, rfl, SqT.of (by rw [upd_ne x1, upd_ne x1, upd_ne x1, upd_ne x1]; exact D.tp), atI_nat (j := 2) rfl, _, rfl, x, _, dx, [("signs", .str G.row), ("before", .ref lb), ("tints", .ref lt), ("behind", .ref lo)], rfl, upd_same, T.cl_GoneRow, T.n_GoneRow_folded, by show 4 < 1000; decide, ?_⟩
  rw [upd_upd, upd_upd, upd_upd, upd_upd]
  obtain ⟨ps, k1, k2⟩ := D.lk
  have x5 : lk ≠ x := nx k1 (by intro _ _ _ z; cases z)
  obtain ⟨ps', k1', k2', k3'⟩ := GF1
  refine q lt lo lk _ ⟨hid_of upd_same hxS, ?_, ?_, ?_, ps', ?_, ⟨k2'.1, fun i p m hp hm => ?_⟩⟩ fun b o hb nb => ?_
  ·exact hid_of (by rw [upd_ne x4]; exact s1 _ _ hlb) (hid_no hlb')
  ·exact hid_of (by rw [upd_ne x2]; exact D.lt) (hE.new f1)
  ·exact hid_of (by rw [upd_ne x3]; exact D.lo) (hE.new f2)
  ·exact hid_of (by rw [upd_ne x5]; exact k1') (hE.new f3)
  ·have e := k2'.2 i p m hp hm
   exact hid_of (by rw [upd_ne (nx e (by intro _ _ _ z; cases z))]; exact e) (hE.new (k3' p (List.mem_of_getElem? hp)))
  ·rw [upd_ne nb]; exact s1 _ _ hb
def Chain (ms : List ModeM) : List Nat -> List Str -> List GRow -> Prop
 | _, [], [] => True
 | b, r :: rs, G :: Gs => G.row = r /\ G.before = b /\ StepG ms G /\ Chain ms G.d.on rs Gs
 | _, _, _ => False
theorem Chain.len {ms : List ModeM} : ∀ {b : List Nat} {rs : List Str} {Gs : List GRow}, Chain ms b rs Gs -> Gs.length = rs.length
 | _, [], [], _ => rfl
 | _, _ :: _, _ :: _, h => by simp [h.2.2.2.len]
 | _, [], _ :: _, h => h.elim
 | _, _ :: _, [], h => h.elim
theorem Chain.rows {ms : List ModeM} : ∀ {b : List Nat} {rs : List Str} {Gs : List GRow}, Chain ms b rs Gs -> Gs.map (·.row) = rs
 | _, [], [], _ => rfl
 | _, _ :: _, _ :: _, h => by rw [List.map_cons, h.1, h.2.2.2.rows]
 | _, [], _ :: _, h => h.elim
 | _, _ :: _, [], h => h.elim
def lastOn : List Nat -> List GRow -> List Nat
 | b, [] => b
 | _, G :: Gs => lastOn G.d.on Gs
theorem chain_ex {ms : List ModeM} (L : LetBy ms) : ∀ (rs : List Str) (b : List Nat) (W N : Nat), (∀ r ∈ rs, r.length <= N /\ ∀ c ∈ r.cps.toList, c ∈ sg6) -> N <= 200 -> OnOk ms b -> max (wsum ms.length b) 4 <= W -> W + rs.length * (10 * N + 6) + 19 * N + 20 <= 5000 -> ∃ Gs, Chain ms b rs Gs
 | [], b, W, N, _, _, _, _, _ => ⟨[], trivial⟩
 | r :: rs, b, W, N, hr, hN, hb, hW, hs => by
  obtain ⟨h1, h2⟩ := hr r (by simp)
  obtain ⟨n, d, hgo, hdl, hdok, hn1, hn2⟩ := runs (L.good h2) r.length ⟨b, [], []⟩ (by simp) hb (Nat.zero_le _)
  have hn1 : n + wsum ms.length d.on <= wsum ms.length b + 19 * r.length + 14 := hn1
  have hn2 : wsum ms.length d.on <= max (wsum ms.length b) 4 + 10 * r.length + 6 := hn2
  have hl1 := len_wsum hb.2
  have hl2 := len_wsum hdok.2
  rw [List.length_cons, Nat.succ_mul] at hs
  obtain ⟨Gs, hG⟩ := chain_ex L rs d.on (W + (10 * N + 6)) N (fun x hx => hr x (List.mem_cons_of_mem _ hx)) hN hdok (by omega) (by omega)
  exact ⟨⟨r, b, d⟩ :: Gs, rfl, rfl, ⟨hb, by show b.length <= _; omega, by show r.length <= _; omega, ⟨n, by omega, hgo⟩, hdok, by show d.on.length <= _; omega, hdl⟩, hG⟩
theorem chain_drop {ms : List ModeM} {b : List Nat} {rs : List Str} {Gs : List GRow} {r : Str} {i : Nat} (hc : Chain ms b (rs.drop i) (Gs.drop i)) (hr : rs[i]? = some r) : ∃ G, Gs[i]? = some G /\ G.row = r /\ G.before = b /\ StepG ms G /\ Chain ms G.d.on (rs.drop (i + 1)) (Gs.drop (i + 1)) := by
 rw [drop_at hr] at hc
 cases e : Gs.drop i with
 | nil => rw [e] at hc; exact hc.elim
 | cons G t =>
  rw [e] at hc
  have hG : Gs[i]? = some G := by
   have := congrArg (fun l => l[0]?) e
   simpa [List.getElem?_drop] using this
  have ht : Gs.drop (i + 1) = t := by rw [← List.drop_drop, e]; rfl
  rw [ht]
  exact ⟨G, hG, hc⟩
structure IsTintAt (t : Adr) (H : Hp) (x dx a lg : Addr) (gs : List Addr) (ms : List ModeM) (Gs : List GRow) : Prop where
 ob : H x = some (.ins t.c_Tinted dx [("rules", .ref a), ("gone_rows", .ref lg)])
 ru : IsRules t H a ms
 lg : H lg = some (.lst (gs.map V.ref))
 go : All2 (IsGone t H) gs Gs
theorem IsTintAt.same {H H' : Hp} {x dx a lg : Addr} {gs : List Addr} {ms : List ModeM} {Gs : List GRow} (h : IsTintAt t H x dx a lg gs ms Gs) (s : Same H H') : IsTintAt t H' x dx a lg gs ms Gs := ⟨s _ _ h.ob, h.ru.same s, s _ _ h.lg, h.go.mono fun _ _ z => z.same s⟩
def spGoOver (t : Adr) : Sp := fun vs H Q _ => ∃ (x dx a lb lr : Addr) (S : Addr -> Prop) (fs : List (Str × V)) (ms : List ModeM) (b : List Nat) (rs : List Str) (Gs : List GRow), vs = [.ref x, .ref lb, .ref lr] /\ H x = some (.ins t.c_Tinted dx fs) /\ fs.lookup ("rules" : Str) = some (.ref a) /\ IsRules t H a ms /\ GoodMs ms /\ hid S H lb = some (.lst (b.map natV)) /\ Ex S H /\ H lr = some (.lst (rs.map V.str)) /\ rs.length <= 100000 /\ Chain ms b rs Gs /\
 ∀ lg gs H', H' lg = some (.lst (gs.map V.ref)) -> All2 (IsGone t (hid S H')) gs Gs -> H lg = none -> Same H H' -> Q (.ref lg) H'
theorem ok_q36 (T : Txt K mg t) : FnOk P w K mg base CX0 6 t.f_q36 t.d_q36 ["self", "modes", "rows"] (spGoOver t) := by
 refine T.F_q36.ok sc_q36 ?_ ?_
 walk_at "i"
 ·obtain ⟨x, dx, a, lb, lr, S, fs, ms, b, rs, Gs, rfl, hx, hfs, hR, G, hlb, hE, hlr, hrl, hC, q⟩ := h
  have hGl := hC.len
  refine @at_cons _ _ _ _ _ _ _ (ps_set (i := 3) sc_q36.nd rfl (Or.inl rfl) (pe_lst pa_nil)) ⟨by show 0 <= sizeLine; decide, fun lg hlg => ?_⟩
  have s1 : Same H (upd H lg (.lst [])) := Same.upd hlg
  have hg1 : upd H lg (.lst []) lg = some (.lst []) := upd_same
  generalize upd H lg (.lst []) = H1 at s1 hg1
  obtain ⟨S2, hS2⟩ : ∃ S2 : Addr -> Prop, S2 = fun c => S c ∨ c = lg := ⟨_, rfl⟩
  have hSl : S2 lg := by rw [hS2]; exact .inr rfl
  have hE2 : ∀ {H' : Hp} {xs : List V}, Same H H' -> H' lg = some (.lst xs) -> Ex S2 H' := fun {H' xs} s' h' c hc => by
   rw [hS2] at hc
   rcases hc with hc | hc
   ·exact (hE.same s') c hc
   ·rw [hc]; exact ⟨_, h'⟩
  refine @at_consR _ _ _ _ _ _ _ (fun Z' H' => ∃ gs, (∃ x1 x4 x5, Z' = [some (.ref x), x1, some (.ref lr), some (.ref lg), x4, x5]) /\ H' lg = some (.lst (gs.map V.ref)) /\ All2 (IsGone t (hid S H')) gs Gs /\ Same H H') (ps_forA PassesOwn.never rfl (pi_list (pv 2)) (pg_name (i := 4) sc_q36.nd rfl (Or.inl rfl)) pss_at) ?_ ?_
  ·refine ⟨_, rfl, lr, rfl, ⟨_, SqL.of (s1 _ _ hlr)⟩, forW_list (xs := rs.map V.str) (fun i Z' H' => ∃ (gs : List Addr) (lb : Addr) (b : List Nat), (∃ x4 x5, Z' = [some (.ref x), some (.ref lb), some (.ref lr), some (.ref lg), x4, x5]) /\ H' lg = some (.lst (gs.map V.ref)) /\ All2 (IsGone t (hid S2 H')) gs (Gs.take i) /\ hid S2 H' lb = some (.lst (b.map natV)) /\ Chain ms b (rs.drop i) (Gs.drop i) /\ Same H H') ⟨[], lb, b, ⟨_, _, rfl⟩, hg1, All2.nil, hid_of (s1 _ _ (hid_same _ _ hlb)) (by rw [hS2]; rintro (z | z); (exact hid_no hlb z); (exact ne_of_none (hid_same _ _ hlb) hlg z)), hC, s1⟩ ?_ ?_ ?_⟩
   ·rintro i Z' H' _ ⟨_, _, _, _, _, _, _, _, s2⟩
    exact SqL.of (s2 _ _ hlr)
   ·rintro i xv Z' H2 hxv ⟨gs, lb, b, ⟨x4, x5, rfl⟩, hg2, hA2, hlb2, hC2, s2⟩
    rw [List.getElem?_map] at hxv
    obtain ⟨r, hri, rfl⟩ := Option.map_eq_some_iff.mp hxv
    obtain ⟨Gi, hGi, e1, e2, hS, hC3⟩ := chain_drop hC2 hri
    subst e1 e2
    have hi := (List.getElem?_eq_some_iff.mp hri).1
    have hEx := hE2 s2 hg2
    refine @at_cons _ _ _ _ _ _ _ (ps_set (i := 5) sc_q36.nd rfl (Or.inl rfl) (pe_make T.mk_GoneRow (ok_q11 T) (hr.mono (by decide)) rfl T.mgc_GoneRow (T.F_q11.binds (by walk_at "4")) .nil pass0 (pa_cons (pe_fld (pv 0) rfl) (pa_cons (pv 1) (pa_cons (pv 4) pa_nil))))) (⟨_, rfl, _, _, _, _, _, rfl, (s2 _ _ hx), T.cl_Tinted, T.n_Tinted_rules, hfs, ⟨_, rfl, _, rfl, fun g dg ng ndg ne => ⟨g, dg, a, lb, S2, ms, Gi, rfl, upd_same, (hR.same s2).same (mk_same0 ng ndg), G, (hid_two (mk_same0 ng ndg)) _ _ hlb2, hEx.same (mk_same0 ng ndg), hEx.new ng, hS, fun lt lo lk H3 hG3 a3 => ⟨rfl, ?_⟩⟩⟩⟩)
    have s3 : Same H2 H3 := fun b o hb => a3 b o (mk_same0 ng ndg _ _ hb) (ne_of_none hb ng)
    have hg3 := s3 _ _ hg2
    have hob := hid_same _ _ hG3.ob
    have ngl : g ≠ lg := ne_of hob hg3 (by intro z; cases z)
    have hlen : gs.length <= 100000 := by rw [hA2.1, List.length_take]; omega
    refine @at_cons _ _ _ _ _ _ _ (ps_expr (pe_bm F.plainAttrs_list F.slot_list_append F.type_list_append mt_append (pv 3) (pa_cons (pv 5) pa_nil))) ⟨_, rfl, .inl ⟨rfl, _, SqL.of hg3⟩, _, rfl, lg, _, _, rfl, rfl, hg3, sl_lt (by rw [List.length_map]; omega), ?_⟩
    refine @at_one _ _ _ _ _ _ (ps_set (i := 1) sc_q36.nd rfl (Or.inl rfl) (pe_fld (pv 5) rfl)) ⟨_, rfl, g, t.c_GoneRow, dg, _, _, rfl, (by rw [upd_ne ngl]; exact hob), T.cl_GoneRow, T.n_GoneRow_behind, rfl, ?_⟩
    refine ⟨gs ++ [g], lo, Gi.d.on, ⟨_, _, rfl⟩, by rw [upd_same, List.map_append]; rfl, ?_, ?_, hC3, fun b o hb => ?_⟩
    ·rw [take_snoc hGi, hid_upd hSl]
     exact All2.snoc (hA2.mono fun _ _ z => z.same (hid_two s3)) ⟨dg, lb, lt, lo, lk, hG3⟩
    ·rw [hid_upd hSl]; exact hG3.lo
    ·rw [upd_ne (ne_of_none hb hlg)]; exact s3 _ _ (s2 _ _ hb)
   ·rintro Z' H2 ⟨gs, lb, b, ⟨x4, x5, rfl⟩, hg2, hA2, _, _, s2⟩
    rw [List.length_map, ← hGl, List.take_length] at hA2
    exact ⟨gs, ⟨_, _, _, rfl⟩, hg2, hA2.mono fun _ _ z => z.same (hid_less (fun c hc => by rw [hS2]; exact .inl hc)), s2⟩
  rintro Z' H2 ⟨gs, ⟨x1, x4, x5, rfl⟩, hg2, hA2, s2⟩
  exact @at_one _ _ _ _ _ _ (ps_ret (pv 3)) ⟨_, rfl, q lg gs H2 hg2 hA2 hlg s2⟩
def spTInit (t : Adr) : Sp := fun vs H Q _ => ∃ (x dx a lr : Addr) (S : Addr -> Prop) (ms : List ModeM) (rs : List Str) (Gs : List GRow), vs = [.ref x, .ref a, .ref lr] /\ H x = some (.ins t.c_Tinted dx []) /\ ¬ S x /\ Ex S H /\ IsRules t (hid (fun c => S c ∨ c = x) H) a ms /\ GoodMs ms /\ ringM ms = none /\ H lr = some (.lst (rs.map V.str)) /\ rs.length <= 100000 /\ Chain ms [0] rs Gs /\
 ∀ a' lg gs H', IsTintAt t (hid S H') x dx a' lg gs ms Gs -> H lg = none -> Adv H H' x -> Q .non H'
theorem ok_q26 (T : Txt K mg t) : FnOk P w K mg base CX0 7 t.f_q26 t.d_q26 ["self", "rules", "rows"] (spTInit t) := by
 refine T.F_q26.ok sc_q26 ?_ ?_
 walk_at "i"
 ·obtain ⟨x, dx, a, lr, S, ms, rs, Gs, rfl, hx, hxS, hE, hR, G, hring, hlr, hrl, hC, q⟩ := h
  obtain ⟨S2, hS2⟩ : ∃ S2 : Addr -> Prop, S2 = fun c => S c ∨ c = x := ⟨_, rfl⟩
  rw [← hS2] at hR
  have hSx : S2 x := by rw [hS2]; exact .inr rfl
  have hE2 : Ex S2 H := fun c hc => by
   rw [hS2] at hc
   rcases hc with hc | hc
   ·exact hE c hc
   ·rw [hc]; exact ⟨_, hx⟩
  have hle : ∀ c, S c -> S2 c := fun c hc => by rw [hS2]; exact .inl hc
  refine @at_cons _ _ _ _ _ _ _ (ps_expr (pe_call (ok_q65 T) (hr.mono (by decide)) rfl T.mg_q65 T.F_q65.kp (T.F_q65.binds (by walk_at "1")) .nil pass0 (pa_cons (pv 1) pa_nil))) ⟨_, rfl, a, ms, rfl, hR.same hid_same, G, hring, fun H1 s1 => ?_⟩
  refine @at_cons _ _ _ _ _ _ _ (ps_fld (pv 0) (pe_call (ok_q68 T) (hr.mono (by decide)) rfl T.mg_q68 T.F_q68.kp (T.F_q68.binds (by walk_at "1")) .nil pass0 (pa_cons (pv 1) pa_nil)) rfl) ⟨_, rfl, a, S2, ms, rfl, hR.same (hid_two s1), hE2.same s1, G, fun a' H2 hR2 s2 => ?_⟩
  have s2 := s1.trans s2
  have hx2 := s2 _ _ hx
  refine ⟨_, rfl, x, _, dx, [], rfl, hx2, T.cl_Tinted, T.n_Tinted_rules, by decide, ?_⟩
  have hx3 : upd H2 x (.ins t.c_Tinted dx (putF "rules" (.ref a') [])) x = some (.ins t.c_Tinted dx [("rules", .ref a')]) := upd_same
  have a3 : Adv H (upd H2 x (.ins t.c_Tinted dx (putF "rules" (.ref a') []))) x := s2.adv Adv.upd
  have nl : lr ≠ x := ne_of (s2 _ _ hlr) hx2 (by intro z; cases z)
  have hlr3 : upd H2 x (.ins t.c_Tinted dx (putF "rules" (.ref a') [])) lr = some (.lst (rs.map V.str)) := by rw [upd_ne nl]; exact s2 _ _ hlr
  have hH3 : hid S2 (upd H2 x (.ins t.c_Tinted dx (putF "rules" (.ref a') []))) = hid S2 H2 := hid_upd hSx
  have hE3 : Ex S (upd H2 x (.ins t.c_Tinted dx (putF "rules" (.ref a') []))) := fun c hc => by
   obtain ⟨o, ho⟩ := (hE.same s2) c hc
   exact ⟨o, by rw [upd_ne (fun z => hxS (by rw [← z]; exact hc))]; exact ho⟩
  rw [← hH3] at hR2
  generalize upd H2 x (.ins t.c_Tinted dx (putF "rules" (.ref a') [])) = H3 at hx3 a3 hlr3 hR2 hE3
  refine @at_one _ _ _ _ _ _ (ps_fld (pv 0) (pe_meth (pv 0) T.cl_Tinted T.m_q36 (ok_q36 T) (hr.mono (by decide)) (T.F_q36.binds (by walk_at "3")) .nil pass0 (pa_cons (pe_lst (pa_cons (pe_globE rfl T.mgv_START) pa_nil)) (pa_cons (pv 2) pa_nil))) rfl) ⟨_, rfl, x, dx, _, rfl, hx3, rfl, by show 1 <= sizeLine; decide, fun lb hlb => ⟨_, rfl, x, dx, a', lb, lr, S, _, ms, [0], rs, Gs, rfl, Same.upd hlb _ _ hx3, rfl, (hR2.same hid_same).same (Same.upd hlb), G, hid_of upd_same (hE3.new hlb), hE3.same (Same.upd hlb), Same.upd hlb _ _ hlr3, hrl, hC, fun lg gs H4 hg4 hA4 f4 s4 => ?_⟩⟩
  have s34 : Same H3 H4 := (Same.upd hlb).trans s4
  have hx4 := s34 _ _ hx3
  refine ⟨_, rfl, x, _, dx, [("rules", .ref a')], rfl, hx4, T.cl_Tinted, T.n_Tinted_gone_rows, by show 1 < 1000; decide, ?_⟩
  have h3n : H3 lg = none := (Same.upd hlb).free f4
  have nlg : lg ≠ x := ne_of hg4 hx4 (by intro z; cases z)
  have hlg0 : H lg = none := by
   cases e : H lg with
   | none => rfl
   | some o => have := a3 _ _ e nlg; rw [h3n] at this; cases this
  have sh : Same (hid S2 H4) (hid S (upd H4 x (.ins t.c_Tinted dx (putF "gone_rows" (.ref lg) [("rules", .ref a')])))) := fun b o hb => by
   have hb2 := hid_no hb
   exact hid_of (by rw [upd_ne (fun z => hb2 (by rw [z]; exact hSx))]; exact hid_same _ _ hb) (fun z => hb2 (hle b z))
  refine q a' lg gs _ ⟨hid_of upd_same hxS, (hR2.same (hid_two s34)).same sh, hid_of (by rw [upd_ne nlg]; exact hg4) (hE3.new h3n), hA4.mono fun g Gi hg => ?_⟩ hlg0 ?_
  ·obtain ⟨dg, lb', lt, lo, lk, e⟩ := hg
   have key : ∀ {b o}, hid S H4 b = some o -> b ≠ x -> hid S (upd H4 x (.ins t.c_Tinted dx (putF "gone_rows" (.ref lg) [("rules", .ref a')]))) b = some o := fun {b o} hb h => hid_of (by rw [upd_ne h]; exact hid_same _ _ hb) (hid_no hb)
   have nk : ∀ {b o}, hid S H4 b = some o -> (∀ C d fs, o ≠ .ins C d fs) -> b ≠ x := fun {b o} hb h => ne_of (hid_same _ _ hb) hx4 (fun z => h _ _ _ z)
   obtain ⟨ps, k1, k2⟩ := e.lk
   refine ⟨dg, lb', lt, lo, lk, key e.ob (ne_of (hid_same _ _ e.ob) hx4 (by intro z; injection z with _ _ z; cases z)), key e.lb (nk e.lb (by intro _ _ _ z; cases z)), key e.lt (nk e.lt (by intro _ _ _ z; cases z)), key e.lo (nk e.lo (by intro _ _ _ z; cases z)), ps, key k1 (nk k1 (by intro _ _ _ z; cases z)), k2.mono fun p m h => key h (nk h (by intro _ _ _ z; cases z))⟩
  ·intro b o hb nb
   rw [upd_ne nb]
   exact s34 _ _ (a3 _ _ hb nb)
def spRows (t : Adr) : Sp := fun vs H Q _ => ∃ (x dx a lg : Addr) (gs : List Addr) (ms : List ModeM) (Gs : List GRow), vs = [.ref x] /\ IsTintAt t H x dx a lg gs ms Gs /\ Gs.length <= 100000 /\ ∀ l H', H' l = some (.lst ((Gs.map (·.row)).map V.str)) -> H l = none -> Same H H' -> Q (.ref l) H'
theorem ok_q42 (T : Txt K mg t) : FnOk P w K mg base CX0 1 t.f_q42 t.d_q42 ["self"] (spRows t) := by
 refine T.F_q42.ok sc_q42 ?_ ?_
 walk_at "i"
 ·obtain ⟨x, dx, a, lg, gs, ms, Gs, rfl, I, hl, q⟩ := h
  refine @at_one _ _ _ _ _ _ (@ps_ret _ _ _ _ (@pe_comp _ (defScope s_q42) _ ["self"] _ _ ("gone") _ _ [] _ _ (by walk_at "ck") (@pi_list _ _ _ _ (@pe_fld _ _ _ _ _ (pv 0) rfl)) (fun _ _ _ _ => by exact (@pe_fldK _ K _ _ _ _ (pv 0) rfl (by left))) (by left) (by left) (by left) (by left))) (⟨_, rfl, _, _, _, _, _, rfl, I.ob, T.cl_Tinted, T.n_Tinted_gone_rows, rfl, ⟨lg, rfl, ⟨_, SqL.of I.lg⟩, comp_list (xs := gs.map V.ref) (fun i ys H2 => ys = ((Gs.take i).map (·.row)).map V.str /\ H2 = H) ⟨rfl, rfl⟩ (sl_lt (by rw [List.length_map, I.go.1]; omega)) ?_ ?_ ?_⟩⟩)
  ·rintro i ys H2 _ ⟨_, rfl⟩
   exact SqL.of I.lg
  ·rintro i xv ys H2 hx hyl ⟨rfl, rfl⟩
   rw [List.getElem?_map] at hx
   obtain ⟨g, hg, rfl⟩ := Option.map_eq_some_iff.mp hx
   have hi := (List.getElem?_eq_some_iff.mp hg).1
   have hGi : Gs[i]? = some (Gs[i]'(by rw [← I.go.1]; exact hi)) := List.getElem?_eq_getElem _
   obtain ⟨dg, lb, lt, lo, lk, e⟩ := I.go.2 i g _ hg hGi
   refine ⟨_, rfl, _, _, _, _, _, rfl, e.ob, T.cl_GoneRow, T.n_GoneRow_signs, rfl, (comp_turn (by rw [List.length_map]; exact hi) hyl ⟨?_, rfl⟩)⟩
   rw [take_snoc hGi, List.map_append, List.map_append]
   rfl
  ·rintro ys H2 hyl ⟨rfl, rfl⟩ D hD
   have e5 : Gs.take (gs.map V.ref).length = Gs := by rw [List.length_map, I.go.1, List.take_length]
   rw [e5]
   exact q D _ upd_same hD (Same.upd hD)
def spAskRow (t : Adr) : Sp := fun vs H Q _ => ∃ (x dx a lg : Addr) (gs : List Addr) (ms : List ModeM) (Gs : List GRow) (i : Nat), vs = [.ref x, .int i] /\ IsTintAt t H x dx a lg gs ms Gs /\ i < Gs.length /\ Q .non H
theorem ok_q29 (T : Txt K mg t) : FnOk P w K mg base CX0 1 t.f_q29 t.d_q29 ["self", "row"] (spAskRow t) := by
 refine T.F_q29.ok sc_q29 ?_ ?_
 walk_at "i"
 ·obtain ⟨x, dx, a, lg, gs, ms, Gs, i, rfl, I, hi, q⟩ := h
  have hl := I.go.1
  refine @at_one _ _ _ _ _ _ (ps_if (PW.pt (pw_or (pt_cmpR op_lt (pv 1) pe_int (nomark _)) (pw_or1 (pt_cmpR op_ge (pv 1) (pe_callB call_len_seq (by rfl) T.z_len (by decide +kernel) (pa_cons (pe_fld (pv 0) rfl) pa_nil)) (nomark _))))) pss_at pss_at) ⟨_, rfl, _, _, rfl, rfl, _, rfl, ifd (fun h => absurd h (by omega)) (fun _ => ?_)⟩
  exact ⟨_, rfl, ⟨_, rfl, _, _, _, _, _, rfl, I.ob, T.cl_Tinted, T.n_Tinted_gone_rows, rfl, ⟨_, _, rfl, .inl (SqL.of I.lg), _, _, rfl, rfl, _, rfl, ifd (fun h => absurd h (by rw [List.length_map]; omega)) (fun _ => at_nil q)⟩⟩⟩
def spGoneRow (t : Adr) : Sp := fun vs H Q _ => ∃ (x dx a lg : Addr) (gs : List Addr) (ms : List ModeM) (Gs : List GRow) (G : GRow) (i : Nat), vs = [.ref x, .int i] /\ IsTintAt t H x dx a lg gs ms Gs /\ Gs[i]? = some G /\ ∀ g, IsGone t H g G -> Q (.ref g) H
theorem ok_q37 (T : Txt K mg t) : FnOk P w K mg base CX0 2 t.f_q37 t.d_q37 ["self", "row"] (spGoneRow t) := by
 refine T.F_q37.ok sc_q37 ?_ ?_
 walk_at "i"
 ·obtain ⟨x, dx, a, lg, gs, ms, Gs, G, i, rfl, I, hG, q⟩ := h
  obtain ⟨g, hg, hgo⟩ := I.go.at hG
  refine @at_cons _ _ _ _ _ _ _ (ps_expr (pe_meth (pv 0) T.cl_Tinted T.m_q29 (ok_q29 T) (hr.mono (by decide)) (T.F_q29.binds (by walk_at "2")) .nil pass0 (pa_cons (pv 1) pa_nil))) ⟨_, rfl, x, dx, _, rfl, I.ob, rfl, _, rfl, x, dx, a, lg, gs, ms, Gs, i, rfl, I, (List.getElem?_eq_some_iff.mp hG).1, ?_⟩
  exact @at_one _ _ _ _ _ _ (ps_ret (pe_ix ix_list (pe_fld (pv 0) rfl) (pv 1) (fun _ _ => rfl))) (⟨_, rfl, _, _, _, _, _, rfl, I.ob, T.cl_Tinted, T.n_Tinted_gone_rows, rfl, ⟨_, rfl, _, _, _, _, rfl, rfl, SqL.of I.lg, at_ref hg, q g hgo⟩⟩)
def spTell (t : Adr) (f : GRow -> List V) : Sp := fun vs H Q _ => ∃ (x dx a lg : Addr) (gs : List Addr) (ms : List ModeM) (Gs : List GRow) (G : GRow) (i : Nat), vs = [.ref x, .int i] /\ IsTintAt t H x dx a lg gs ms Gs /\ Gs[i]? = some G /\ ∀ l H', H' l = some (.lst (f G)) -> H l = none -> Same H H' -> Q (.ref l) H'
theorem ok_q31 (T : Txt K mg t) : FnOk P w K mg base CX0 3 t.f_q31 t.d_q31 ["self", "row"] (spTell t fun G => G.before.map natV) := by
 refine T.F_q31.ok sc_q31 ?_ ?_
 walk_at "i"
 ·obtain ⟨x, dx, a, lg, gs, ms, Gs, G, i, rfl, I, hG, q⟩ := h
  refine @at_one _ _ _ _ _ _ (ps_ret (pe_callTy call_list_of (by rfl) T.z_list (by decide +kernel) (pa_cons (pe_fld (pe_meth (pv 0) T.cl_Tinted T.m_q37 (ok_q37 T) (hr.mono (by decide)) (T.F_q37.binds (by walk_at "2")) .nil pass0 (pa_cons (pv 1) pa_nil)) rfl) pa_nil))) ⟨_, rfl, x, dx, _, rfl, I.ob, rfl, _, rfl, x, dx, a, lg, gs, ms, Gs, G, i, rfl, I, hG, fun g ⟨dg, lb, lt, lo, lk, e⟩ => ?_⟩
  exact ⟨g, t.c_GoneRow, dg, _, _, rfl, e.ob, T.cl_GoneRow, T.n_GoneRow_before, rfl, lb, _, rfl, .inl (SqL.of e.lb), fun l hl => q l _ upd_same hl (Same.upd hl)⟩
theorem ok_q33 (T : Txt K mg t) : FnOk P w K mg base CX0 3 t.f_q33 t.d_q33 ["self", "row"] (spTell t fun G => G.d.tints.map V.str) := by
 refine T.F_q33.ok sc_q33 ?_ ?_
 walk_at "i"
 ·obtain ⟨x, dx, a, lg, gs, ms, Gs, G, i, rfl, I, hG, q⟩ := h
  refine @at_one _ _ _ _ _ _ (ps_ret (pe_callTy call_list_of (by rfl) T.z_list (by decide +kernel) (pa_cons (pe_fld (pe_meth (pv 0) T.cl_Tinted T.m_q37 (ok_q37 T) (hr.mono (by decide)) (T.F_q37.binds (by walk_at "2")) .nil pass0 (pa_cons (pv 1) pa_nil)) rfl) pa_nil))) ⟨_, rfl, x, dx, _, rfl, I.ob, rfl, _, rfl, x, dx, a, lg, gs, ms, Gs, G, i, rfl, I, hG, fun g ⟨dg, lb, lt, lo, lk, e⟩ => ?_⟩
  exact ⟨g, t.c_GoneRow, dg, _, _, rfl, e.ob, T.cl_GoneRow, T.n_GoneRow_tints, rfl, lt, _, rfl, .inl (SqL.of e.lt), fun l hl => q l _ upd_same hl (Same.upd hl)⟩
def spMarks (t : Adr) : Sp := fun vs H Q _ => ∃ (x dx a lg : Addr) (gs : List Addr) (ms : List ModeM) (Gs : List GRow) (G : GRow) (i : Nat), vs = [.ref x, .int i] /\ IsTintAt t H x dx a lg gs ms Gs /\ Gs[i]? = some G /\ ∀ l H' ps, H' l = some (.lst (ps.map V.ref)) -> All2 (fun p m => H p = some (.tup [natV m.1, .str m.2])) ps G.d.marks -> H l = none -> Same H H' -> Q (.ref l) H'
theorem ok_q38 (T : Txt K mg t) : FnOk P w K mg base CX0 3 t.f_q38 t.d_q38 ["self", "row"] (spMarks t) := by
 refine T.F_q38.ok sc_q38 ?_ ?_
 walk_at "i"
 ·obtain ⟨x, dx, a, lg, gs, ms, Gs, G, i, rfl, I, hG, q⟩ := h
  refine @at_one _ _ _ _ _ _ (ps_ret (pe_callTy call_list_of (by rfl) T.z_list (by decide +kernel) (pa_cons (pe_fld (pe_meth (pv 0) T.cl_Tinted T.m_q37 (ok_q37 T) (hr.mono (by decide)) (T.F_q37.binds (by walk_at "2")) .nil pass0 (pa_cons (pv 1) pa_nil)) rfl) pa_nil))) ⟨_, rfl, x, dx, _, rfl, I.ob, rfl, _, rfl, x, dx, a, lg, gs, ms, Gs, G, i, rfl, I, hG, fun g ⟨dg, lb, lt, lo, lk, e⟩ => ?_⟩
  obtain ⟨ps, k1, k2⟩ := e.lk
  exact ⟨g, t.c_GoneRow, dg, _, _, rfl, e.ob, T.cl_GoneRow, T.n_GoneRow_folded, rfl, lk, _, rfl, .inl (SqL.of k1), fun l hl => q l _ ps upd_same k2 hl (Same.upd hl)⟩
def KRow (H : Hp) (p : Addr) (G : GRow) : Prop := ∃ lo lt lk, H p = some (.tup [.str G.row, .ref lo, .ref lt, .ref lk]) /\ H lo = some (.lst (G.before.map natV)) /\ H lt = some (.lst (G.d.tints.map V.str)) /\ GM H lk G.d.marks
theorem KRow.same {H H' : Hp} {p : Addr} {G : GRow} (h : KRow H p G) (s : Same H H') : KRow H' p G := let ⟨lo, lt, lk, a, b, c, d⟩ := h; ⟨lo, lt, lk, s _ _ a, s _ _ b, s _ _ c, d.same s⟩
def KP (H : Hp) (l : Addr) (Gs : List GRow) : Prop := ∃ ps : List Addr, H l = some (.lst (ps.map V.ref)) /\ All2 (KRow H) ps Gs
theorem KP.same {H H' : Hp} {l : Addr} {Gs : List GRow} (h : KP H l Gs) (s : Same H H') : KP H' l Gs := let ⟨ps, a, b⟩ := h; ⟨ps, s _ _ a, b.mono fun _ _ z => z.same s⟩
def spWhole : Sp := fun vs H Q _ => ∃ (S : Addr -> Prop) (lm lr : Addr) (ms : List ModeM) (rs : List Str) (Gs : List GRow), vs = [.ref lm, .ref lr] /\ (∀ b, S b -> ∃ xs, H b = some (.lst xs)) /\ LMs H lm ms /\ Wk ms /\ H lr = some (.lst (rs.map V.str)) /\ rs.length <= 1000 /\ Chain ms [0] rs Gs /\ ∀ l H', KP (hid S H') l Gs -> H l = none -> Same H H' -> Q (.ref l) H'
theorem ok_q63 (T : Txt K mg t) : FnOk P w K mg base CX0 4 t.f_q63 t.d_q63 ["_law_modes_here", "_law_rows"] spWhole := by
 refine T.F_q63.ok sc_q63 ?_ ?_
 walk_at "i"
 ·obtain ⟨S, lm, lr, ms, rs, Gs, rfl, hES, hL, W, hlr, hrl, hC, q⟩ := h
  have hGl := hC.len
  have new : ∀ {H' : Hp} {b : Addr}, Same H H' -> H' b = none -> ¬ S b := fun {H' b} s e z => by
   obtain ⟨xs, hx⟩ := hES b z
   rw [s _ _ hx] at e
   cases e
  have tup : ∀ {H' : Hp} {b : Addr} {xs : List V}, Same H H' -> H' b = some (.tup xs) -> ¬ S b := fun {H' b xs} s e z => by
   obtain ⟨xs, hx⟩ := hES b z
   rw [s _ _ hx] at e
   cases e
  refine @at_cons _ _ _ _ _ _ _ (ps_set (i := 2) sc_q63.nd rfl (Or.inl rfl) (pe_lst (pa_cons pe_int pa_nil))) ⟨by show 1 <= sizeLine; decide, fun lo hlo => ?_⟩
  have s1 : Same H (upd H lo (.lst [.int 0])) := Same.upd hlo
  have ho1 : upd H lo (.lst [.int 0]) lo = some (.lst ([0].map natV)) := upd_same
  have nSo := new (Same.refl H) hlo
  generalize upd H lo (.lst [.int 0]) = H1 at s1 ho1
  refine @at_cons _ _ _ _ _ _ _ (ps_set (i := 3) sc_q63.nd rfl (Or.inl rfl) (pe_lst pa_nil)) ⟨by show 0 <= sizeLine; decide, fun lf hlf => ?_⟩
  have s2 : Same H1 (upd H1 lf (.lst [])) := Same.upd hlf
  have hf2 : upd H1 lf (.lst []) lf = some (.lst []) := upd_same
  have ho2 := s2 _ _ ho1
  have nof : lo ≠ lf := ne_of_none ho1 hlf
  have hlf0 : H lf = none := s1.free hlf
  have nSf := new (Same.refl H) hlf0
  generalize upd H1 lf (.lst []) = H2 at s2 hf2 ho2
  have s2 := s1.trans s2
  refine @at_consR _ _ _ _ _ _ _ (fun Z' H' => (∃ x2 x4 x5, Z' = [some (.ref lm), some (.ref lr), x2, some (.ref lf), x4, x5]) /\ KP (hid S H') lf Gs /\ Same H H') (ps_forA PassesOwn.never rfl (pi_list (pv 1)) (pg_name (i := 4) sc_q63.nd rfl (Or.inl rfl)) pss_at) ?_ ?_
  ·refine ⟨_, rfl, lr, rfl, ⟨_, SqL.of (s2 _ _ hlr)⟩, forW_list (xs := rs.map V.str) (fun i Z' H' => ∃ (ps : List Addr) (lo : Addr) (b : List Nat), (∃ x4 x5, Z' = [some (.ref lm), some (.ref lr), some (.ref lo), some (.ref lf), x4, x5]) /\ H' lf = some (.lst (ps.map V.ref)) /\ All2 (KRow (hid (fun c => S c ∨ c = lf) H')) ps (Gs.take i) /\ hid (fun c => S c ∨ c = lf) H' lo = some (.lst (b.map natV)) /\ Chain ms b (rs.drop i) (Gs.drop i) /\ Same H H') ⟨[], lo, [0], ⟨_, _, rfl⟩, hf2, All2.nil, hid_of ho2 (fun z => z.elim nSo nof), hC, s2⟩ ?_ ?_ ?_⟩
   ·rintro i Z' H' _ ⟨_, _, _, _, _, _, _, _, s3⟩
    exact SqL.of (s3 _ _ hlr)
   ·rintro i xv Z' H3 hxv ⟨ps, lo, b, ⟨x4, x5, rfl⟩, hf3, hA3, hlo3, hC3, s3⟩
    rw [List.getElem?_map] at hxv
    obtain ⟨r, hri, rfl⟩ := Option.map_eq_some_iff.mp hxv
    obtain ⟨G, hGi, e1, e2, hS, hC4⟩ := chain_drop hC3 hri
    subst e1 e2
    obtain ⟨n, hn, hgo⟩ := hS.go
    have hbl := hS.len
    have hlo3' := hid_same _ _ hlo3
    have nlo : ¬ (S lo ∨ lo = lf) := hid_no (S := fun c => S c ∨ c = lf) hlo3
    have hplen : ps.length <= 1000 := by rw [hA3.1, List.length_take]; omega
    refine @at_cons _ _ _ _ _ _ _ (ps_set (i := 5) sc_q63.nd rfl (Or.inl rfl) (pe_call (ok_q55 T) (hr.mono (by decide)) rfl T.mg_q55 T.F_q55.kp (T.F_q55.binds (by walk_at "3")) .nil pass0 (pa_cons (pv 0) (pa_cons (pv 2) (pa_cons (pv 4) pa_nil))))) ⟨_, rfl, _, rfl, _, rfl, lm, lo, ms, G.before, G.row, n, G.d, rfl, hL.same s3, W, hlo3', hS.ok, hS.row, by omega, hn, hgo, fun tp lt lo' lk H4 D f1 f2 f3 s4 => ?_⟩
    have hf4 := s4 _ _ hf3
    have n1 : ¬ (S lt ∨ lt = lf) := fun z => z.elim (new s3 f1) (Ne.symm (ne_of_none hf3 f1))
    have n2 : ¬ (S lk ∨ lk = lf) := fun z => z.elim (new s3 f2) (Ne.symm (ne_of_none hf3 f2))
    have n3 : ¬ (S lo' ∨ lo' = lf) := by
     rcases f3 with z | z
     ·rw [z]; exact nlo
     ·exact fun y => y.elim (new s3 z) (Ne.symm (ne_of_none hf3 z))
    refine @at_cons _ _ _ _ _ _ _ (ps_expr (pe_bm F.plainAttrs_list F.slot_list_append F.type_list_append mt_append (pv 3) (pa_cons (pe_tup (pa_cons (pv 4) (pa_cons (pv 2) (pa_cons (pe_ix ix_tup (pv 5) pe_int (fun _ _ => rfl)) (pa_cons (pe_ix ix_tup (pv 5) pe_int (fun _ _ => rfl)) pa_nil))))) pa_nil))) ⟨_, rfl, .inl ⟨rfl, _, SqL.of hf4⟩, _, rfl, _, rfl, _, rfl, _, _, _, _, rfl, rfl, SqT.of D.tp, atI_nat (j := 0) rfl, _, rfl, _, _, _, _, rfl, rfl, SqT.of D.tp, atI_nat (j := 2) rfl, by show 4 <= sizeLine; decide, fun tq htq => ?_⟩
    have s5 : Same H4 (upd H4 tq (.tup [.str G.row, .ref lo, .ref lt, .ref lk])) := Same.upd htq
    have htq5 : upd H4 tq (.tup [.str G.row, .ref lo, .ref lt, .ref lk]) tq = some (.tup [.str G.row, .ref lo, .ref lt, .ref lk]) := upd_same
    generalize upd H4 tq (.tup [.str G.row, .ref lo, .ref lt, .ref lk]) = H5 at s5 htq5
    have hf5 := s5 _ _ hf4
    have D5 := D.same s5
    have s35 := s4.trans s5
    have tp5 : ∀ {b : Addr} {xs : List V}, H5 b = some (.tup xs) -> ¬ (S b ∨ b = lf) := fun {b xs} e z => z.elim (tup (s3.trans s35) e) (ne_of e hf5 (by intro y; cases y))
    have ntp : tp ≠ lf := fun z => tp5 D5.tp (.inr z)
    refine ⟨lf, _, _, rfl, rfl, hf5, sl_lt (by rw [List.length_map]; omega), ?_⟩
    refine @at_one _ _ _ _ _ _ (ps_set (i := 2) sc_q63.nd rfl (Or.inl rfl) (pe_ix ix_tup (pv 5) pe_int (fun _ _ => rfl))) ⟨_, rfl, _, _, _, _, rfl, rfl, SqT.of (by rw [upd_ne ntp]; exact D5.tp), atI_nat (j := 1) rfl, ?_⟩
    refine ⟨ps ++ [tq], lo', G.d.on, ⟨_, _, rfl⟩, by rw [upd_same, List.map_append]; rfl, ?_, ?_, hC4, fun b o hb => ?_⟩
    ·rw [take_snoc hGi, hid_upd (.inr rfl)]
     refine All2.snoc (hA3.mono fun _ _ z => z.same (hid_two s35)) ⟨lo, lt, lk, hid_of htq5 (tp5 htq5), hid_of (s35 _ _ hlo3') nlo, hid_of D5.lt n1, ?_⟩
     obtain ⟨ms', k1, k2⟩ := D5.lk
     exact ⟨ms', hid_of k1 n2, k2.mono fun p m e => hid_of e (tp5 e)⟩
    ·rw [hid_upd (.inr rfl)]; exact hid_of D5.lo n3
    ·rw [upd_ne (ne_of_none hb hlf0)]; exact s35 _ _ (s3 _ _ hb)
   ·rintro Z' H3 ⟨ps, lo, b, ⟨x4, x5, rfl⟩, hf3, hA3, _, _, s3⟩
    rw [List.length_map, ← hGl, List.take_length] at hA3
    exact ⟨⟨_, _, _, rfl⟩, ⟨ps, hid_of hf3 nSf, hA3.mono fun _ _ z => z.same (hid_less fun b y => .inl y)⟩, s3⟩
  rintro Z' H3 ⟨⟨x2, x4, x5, rfl⟩, hK, s3⟩
  exact @at_one _ _ _ _ _ _ (ps_ret (pv 3)) ⟨_, rfl, q lf H3 hK hlf0 s3⟩
theorem alikeR_marks {H : Hp} {ps qs : List Addr} {mk : List (Nat × Str)} (a2 : All2 (fun p (m : Nat × Str) => H p = some (.tup [natV m.1, .str m.2])) ps mk) (b2 : All2 (fun p (m : Nat × Str) => H p = some (.tup [natV m.1, .str m.2])) qs mk) : ∀ (j : Nat) (x y : V), (ps.map V.ref)[j]? = some x -> (qs.map V.ref)[j]? = some y -> AlikeR K H 1 x y := by
 intro j x y hx hy
 rw [List.getElem?_map] at hx hy
 obtain ⟨p, hp, rfl⟩ := Option.map_eq_some_iff.mp hx
 obtain ⟨q, hq, rfl⟩ := Option.map_eq_some_iff.mp hy
 have hj : j < mk.length := by rw [← a2.1]; exact (List.getElem?_eq_some_iff.mp hp).1
 have hm : mk[j]? = some mk[j] := List.getElem?_eq_getElem hj
 have e1 := a2.2 j p _ hp hm
 have e2 := b2.2 j q _ hq hm
 refine .inr ⟨p, q, _, _, rfl, rfl, .inr ⟨SqT.of e1, SqT.of e2⟩, rfl, fun j' x y hx hy => ?_⟩
 rw [hx] at hy
 cases hy
 cases j' with
 | zero => cases hx; exact ⟨rfl, .inl rfl⟩
 | succ j' =>
  cases j' with
  | zero => cases hx; exact ⟨rfl, .inl rfl⟩
  | succ j' => cases hx
def spShows (t : Adr) : Sp := fun vs H Q _ => ∃ (x dx a lg lq : Addr) (gs : List Addr) (ms : List ModeM) (Gs : List GRow), vs = [.ref x, .ref lq] /\ IsTintAt t H x dx a lg gs ms Gs /\ KP H lq Gs /\ Gs.length <= 1000 /\ ∀ H', Same H H' -> Q (.bl true) H'
theorem ok_q60 (T : Txt K mg t) : FnOk P w K mg base CX0 4 t.f_q60 t.d_q60 ["_law_text_here", "_law_kept"] (spShows t) := by
 refine T.F_q60.ok sc_q60 ?_ ?_
 walk_at "i"
 ·obtain ⟨x, dx, a, lg, lq, gs, ms, Gs, rfl, I, ⟨ps, hlq, hK⟩, hl, q⟩ := h
  refine @at_consR _ _ _ _ _ _ _ (fun Z' H' => (∃ y, Z' = [some (.ref x), some (.ref lq), y]) /\ Same H H') (@ps_if _ _ _ _ _ _ _ _ (@pt_cmpR _ _ _ _ _ _ _ _ (op_neLs (Nat.lt_of_succ_lt (hu_of hr))) (@pe_meth0 _ _ _ _ _ _ _ _ _ _ _ _ _ _ _ _ _ (pv 0) T.cl_Tinted T.m_q42 (ok_q42 T) (hr.mono (by decide)) (T.F_q42.binds (by walk_at "1")) .nil pass0 (by left)) (@pe_comp _ (defScope s_q60) _ ["_law_text_here", "_law_kept", "_law_k"] _ _ ("_law_one") _ _ [] _ _ (by walk_at "ck") (@pi_list _ _ _ _ (pv 1)) (fun _ _ _ _ => by exact (@pe_ix _ _ _ _ _ _ _ (ix_tupK (K := K) rfl) (pv 0) pe_int (fun _ _ => rfl))) (by left) (by left) (by left) (by left)) (nomark _)) pss_at pss_at) ?_ ?_
  ·refine ⟨_, rfl, x, dx, _, rfl, I.ob, rfl, x, dx, a, lg, gs, ms, Gs, rfl, I, by omega, fun l H1 hl1 f1 s1 => ⟨_, rfl, lq, rfl, ⟨_, SqL.of (s1 _ _ hlq)⟩, comp_list (xs := ps.map V.ref) (fun i ys H2 => ys = ((Gs.take i).map (·.row)).map V.str /\ H2 = H1) ⟨rfl, rfl⟩ (sl_lt (by rw [List.length_map, hK.1]; omega)) ?_ ?_ ?_⟩⟩
   ·rintro i ys H2 _ ⟨_, rfl⟩
    exact SqL.of (s1 _ _ hlq)
   ·rintro i xv ys H2 hx hyl ⟨rfl, rfl⟩
    rw [List.getElem?_map] at hx
    obtain ⟨p, hp, rfl⟩ := Option.map_eq_some_iff.mp hx
    have hi := (List.getElem?_eq_some_iff.mp hp).1
    have hGi : Gs[i]? = some (Gs[i]'(by rw [← hK.1]; exact hi)) := List.getElem?_eq_getElem _
    obtain ⟨lo, lt, lk, e, _⟩ := hK.2 i p _ hp hGi
    refine ⟨_, rfl, _, _, _, _, rfl, rfl, SqT.of (s1 _ _ e), atI_nat (j := 0) rfl, comp_turn (by rw [List.length_map]; exact hi) hyl ⟨?_, rfl⟩⟩
    rw [take_snoc hGi, List.map_append, List.map_append]
    rfl
   ·rintro ys H2 hyl ⟨rfl, rfl⟩ D hD
    have e5 : Gs.take (ps.map V.ref).length = Gs := by rw [List.length_map, hK.1, List.take_length]
    rw [e5]
    exact ⟨l, D, _, _, rfl, rfl, SqL.of (Same.upd hD _ _ hl1), SqL.of upd_same, plain_strs _ _, _, rfl, ifnd (fun h => absurd rfl h) (fun _ => at_nil ⟨⟨_, rfl⟩, s1.to hD⟩)⟩
  rintro Z' H1 ⟨⟨y, rfl⟩, s1⟩
  refine @at_consR _ _ _ _ _ _ _ (fun Z' H' => (∃ y, Z' = [some (.ref x), some (.ref lq), y]) /\ Same H H') (ps_forA PassesOwn.never rfl (pi_range1 rfl T.z_range (pa_cons (pe_callB call_len_seq (by rfl) T.z_len (by decide +kernel) (pa_cons (pv 1) pa_nil)) pa_nil)) (pg_name (i := 2) sc_q60.nd rfl (Or.inl rfl)) pss_at) ?_ ?_
  ·refine ⟨_, rfl, _, _, rfl, .inl (SqL.of (s1 _ _ hlq)), (ps.length : Int), by rw [List.length_map], by omega, by rw [hK.1]; omega, forW_range (n := ((ps.length : Nat) : Int).toNat) (fun k Z' H' => (∃ y, Z' = [some (.ref x), some (.ref lq), y]) /\ Same H H') ⟨⟨_, rfl⟩, s1⟩ ?_ (fun Z' H' z => z)⟩
   rintro k Z' H2 hk ⟨⟨y, rfl⟩, s2⟩
   have hk' : k < Gs.length := by rw [← hK.1]; omega
   have hGk : Gs[k]? = some Gs[k] := List.getElem?_eq_getElem hk'
   generalize Gs[k] = G at hGk
   obtain ⟨p, hp, lo, lt, lk, e1, e2, e3, qs, e4, e5⟩ := hK.at hGk
   have hat : atI (ps.map V.ref) ((0 : Int) + (k : Int)) = some (.ref p) := by rw [Int.zero_add]; exact at_ref hp
   have I2 := I.same s2
   refine @at_one _ _ _ _ _ _ (ps_if (PW.pt (pw_or (pt_cmpR (op_neLs (Nat.lt_of_succ_lt (hu_of hr))) (pe_meth (pv 0) T.cl_Tinted T.m_q31 (ok_q31 T) (hr.mono (by decide)) (T.F_q31.binds (by walk_at "2")) .nil pass0 (pa_cons (pv 2) pa_nil)) (pe_ix ix_tup (pe_ix ix_list (pv 1) (pv 2) (fun _ _ => rfl)) pe_int (fun _ _ => rfl)) (nomark _)) (pw_or (pt_cmpR (op_neLs (Nat.lt_of_succ_lt (hu_of hr))) (pe_meth (pv 0) T.cl_Tinted T.m_q33 (ok_q33 T) (hr.mono (by decide)) (T.F_q33.binds (by walk_at "2")) .nil pass0 (pa_cons (pv 2) pa_nil)) (pe_ix ix_tup (pe_ix ix_list (pv 1) (pv 2) (fun _ _ => rfl)) pe_int (fun _ _ => rfl)) (nomark _)) (pw_or1 (pt_cmpR (op_neR 1 (Nat.lt_of_le_of_lt (Nat.add_le_add_left (by decide : 2 <= 64) _) hr.units)) (pe_meth (pv 0) T.cl_Tinted T.m_q38 (ok_q38 T) (hr.mono (by decide)) (T.F_q38.binds (by walk_at "2")) .nil pass0 (pa_cons (pv 2) pa_nil)) (pe_ix ix_tup (pe_ix ix_list (pv 1) (pv 2) (fun _ _ => rfl)) pe_int (fun _ _ => rfl)) (nomark _)))))) pss_at pss_at) ⟨_, rfl, x, dx, _, rfl, I2.ob, rfl, _, rfl, x, dx, a, lg, gs, ms, Gs, G, k, (by rw [Int.zero_add]; rfl), I2, hGk, fun l3 H3 h3 f3 s3 => ?_⟩
   have s3' := s2.trans s3
   refine ⟨_, rfl, _, rfl, _, _, _, _, rfl, rfl, SqL.of (s3' _ _ hlq), hat, _, _, _, _, rfl, rfl, SqT.of (s3' _ _ e1), atI_nat (j := 1) rfl, l3, lo, _, _, rfl, rfl, SqL.of h3, SqL.of (s3' _ _ e2), plain_ints _ _ _ _, _, rfl, ifnd (fun h => absurd rfl h) (fun _ => ?_)⟩
   have I3 := I.same s3'
   refine ⟨_, rfl, x, dx, _, rfl, I3.ob, rfl, _, rfl, x, dx, a, lg, gs, ms, Gs, G, k, (by rw [Int.zero_add]; rfl), I3, hGk, fun l4 H4 h4 f4 s4 => ?_⟩
   have s4' := s3'.trans s4
   refine ⟨_, rfl, _, rfl, _, _, _, _, rfl, rfl, SqL.of (s4' _ _ hlq), hat, _, _, _, _, rfl, rfl, SqT.of (s4' _ _ e1), atI_nat (j := 2) rfl, l4, lt, _, _, rfl, rfl, SqL.of h4, SqL.of (s4' _ _ e3), plain_strs _ _, _, rfl, ifnd (fun h => absurd rfl h) (fun _ => ?_)⟩
   have I4 := I.same s4'
   refine ⟨_, rfl, x, dx, _, rfl, I4.ob, rfl, _, rfl, x, dx, a, lg, gs, ms, Gs, G, k, (by rw [Int.zero_add]; rfl), I4, hGk, fun l5 H5 ps5 h5 m5 f5 s5 => ?_⟩
   have s5' := s4'.trans s5
   refine ⟨_, rfl, _, rfl, _, _, _, _, rfl, rfl, SqL.of (s5' _ _ hlq), hat, _, _, _, _, rfl, rfl, SqT.of (s5' _ _ e1), atI_nat (j := 3) rfl, l5, lk, _, _, rfl, rfl, .inl ⟨SqL.of h5, SqL.of (s5' _ _ e4)⟩, (by rw [List.length_map, List.length_map, m5.1, e5.1]), alikeR_marks (m5.mono fun _ _ z => s5 _ _ z) (e5.mono fun _ _ z => s5' _ _ z), _, rfl, iteF (at_nil ⟨⟨_, rfl⟩, s5'⟩)⟩
  rintro Z' H2 ⟨⟨y2, rfl⟩, s2⟩
  exact @at_one _ _ _ _ _ _ (ps_ret pe_bl) (q H2 s2)
def sameN : List Str -> List Str -> Nat
 | x :: xs, y :: ys => if x = y then sameN xs ys + 1 else 0
 | _, _ => 0
theorem sameN_le : ∀ (xs ys : List Str), sameN xs ys <= xs.length /\ sameN xs ys <= ys.length
 | [], ys => ⟨Nat.zero_le _, Nat.zero_le _⟩
 | _ :: _, [] => ⟨Nat.zero_le _, Nat.zero_le _⟩
 | x :: xs, y :: ys => by
  have h := sameN_le xs ys
  rw [sameN]
  by_cases e : x = y
  ·rw [if_pos e, List.length_cons, List.length_cons]; omega
  ·rw [if_neg e]; exact ⟨Nat.zero_le _, Nat.zero_le _⟩
theorem sameN_take : ∀ (xs ys : List Str), xs.take (sameN xs ys) = ys.take (sameN xs ys)
 | [], ys => by simp [sameN]
 | _ :: _, [] => by simp [sameN]
 | x :: xs, y :: ys => by
  rw [sameN]
  by_cases e : x = y
  ·rw [if_pos e, List.take_succ_cons, List.take_succ_cons, sameN_take xs ys, e]
  ·rw [if_neg e]; rfl
theorem sameN_at {xs ys : List Str} {i : Nat} {x y : Str} (h1 : xs[i]? = some x) (h2 : ys[i]? = some y) : sameN (xs.drop i) (ys.drop i) = if x = y then sameN (xs.drop (i + 1)) (ys.drop (i + 1)) + 1 else 0 := by
 rw [drop_at h1, drop_at h2, sameN]
theorem sameN_end {xs ys : List Str} {i : Nat} (h : i = xs.length ∨ i = ys.length) : sameN (xs.drop i) (ys.drop i) = 0 := by
 rcases h with h | h
 ·rw [h, List.drop_length, sameN]; intros; simp_all
 ·rw [h, List.drop_length]
  cases xs.drop ys.length <;> rfl
def spSameA : Sp := fun vs H Q _ => ∃ (a b : Addr) (xs ys : List Str), vs = [.ref a, .ref b] /\ H a = some (.lst (xs.map V.str)) /\ H b = some (.lst (ys.map V.str)) /\ ∀ H', Same H H' -> Q (.int (sameN xs ys : Nat)) H'
theorem ok_q82 (T : Txt K mg t) : FnOk P w K mg base CX0 1 t.f_q82 t.d_q82 ["some", "others"] spSameA := by
 refine T.F_q82.ok sc_q82 ?_ ?_
 walk_at "i"
 ·obtain ⟨a, b, xs, ys, rfl, ha, hb, q⟩ := h
  refine @at_cons _ _ _ _ _ _ _ (ps_set (i := 2) sc_q82.nd rfl (Or.inl rfl) pe_int) ?_
  refine @at_consR _ _ _ _ _ _ _ (fun Z' H' => (∃ x3 x4, Z' = [some (.ref a), some (.ref b), some (.int (sameN xs ys : Nat)), x3, x4]) /\ Same H H') (ps_forA PassesOwn.never rfl (pi_zip rfl T.z_zip (pa_cons (pv 0) (pa_cons (pv 1) pa_nil))) (pg_tup rfl (pgs_cons (pg_name (i := 3) sc_q82.nd rfl (Or.inl rfl)) (pgs_cons (pg_name (i := 4) sc_q82.nd rfl (Or.inl rfl)) pgs_nil))) pss_at) ?_ ?_
  ·refine ⟨_, rfl, _, rfl, a, b, _, _, rfl, SqL.of ha, SqL.of hb, forW_zip (xs := xs.map V.str) (ys := ys.map V.str) (fun i Z' H' => (∃ x3 x4, Z' = [some (.ref a), some (.ref b), some (.int (i : Nat)), x3, x4]) /\ Same H H' /\ sameN xs ys = i + sameN (xs.drop i) (ys.drop i)) ⟨⟨_, _, rfl⟩, Same.refl H, by simp⟩ ?_ ?_ ?_⟩
   ·rintro i Z' H' _ _ ⟨_, s1, _⟩
    exact ⟨SqL.of (s1 _ _ ha), SqL.of (s1 _ _ hb)⟩
   ·rintro i xv yv p Z' H1 hx hy hp ⟨⟨x3, x4, rfl⟩, s1, hn⟩
    rw [List.getElem?_map] at hx hy
    obtain ⟨x, hx1, rfl⟩ := Option.map_eq_some_iff.mp hx
    obtain ⟨y, hy1, rfl⟩ := Option.map_eq_some_iff.mp hy
    rw [sameN_at hx1 hy1] at hn
    have s2 : Same H (upd H1 p (.tup [.str x, .str y])) := s1.trans (Same.upd hp)
    refine ⟨p, [.str x, .str y], rfl, SqT.of upd_same, rfl, _, _, rfl, _, _, rfl, rfl, ?_⟩
    by_cases e : x = y
    ·rw [if_pos e] at hn
     refine @at_cons _ _ _ _ _ _ _ (ps_if (pt_cmpR op_ne (pv 3) (pv 4) (nomark _)) pss_at pss_at) ⟨_, rfl, _, rfl, rfl, _, rfl, ifeq (c := false) (by simp [e]) (at_nil ?_)⟩
     refine @at_one _ _ _ _ _ _ (ps_aug (i := 2) sc_q82.nd rfl (Or.inl rfl) pe_int ip_add) ⟨_, rfl, _, _, rfl, rfl, ⟨_, _, rfl⟩, s2, ?_⟩
     omega
    ·rw [if_neg e] at hn
     refine @at_cons _ _ _ _ _ _ _ (ps_if (pt_cmpR op_ne (pv 3) (pv 4) (nomark _)) pss_at pss_at) ⟨_, rfl, _, rfl, rfl, _, rfl, ifeq (c := true) (by simp [e]) ?_⟩
     refine @at_one _ _ _ _ _ _ (ps_ret (pv 2)) ⟨_, rfl, ?_⟩
     have := q _ s2
     rw [hn] at this
     exact this
   ·rintro i Z' H1 hi h1 h2 ⟨⟨x3, x4, rfl⟩, s1, hn⟩
    rw [List.length_map, List.length_map] at hi
    rw [sameN_end hi] at hn
    exact ⟨⟨_, _, by rw [hn]; rfl⟩, s1⟩
  rintro Z' H1 ⟨⟨x3, x4, rfl⟩, s1⟩
  exact @at_one _ _ _ _ _ _ (ps_ret (pv 2)) ⟨_, rfl, q _ s1⟩
def spSameB : Sp := fun vs H Q _ => ∃ (a b : Addr) (xs ys : List Str), vs = [.ref a, .ref b] /\ H a = some (.lst (xs.map V.str)) /\ H b = some (.lst (ys.map V.str)) /\ ∀ H', Same H H' -> Q (.int (sameN xs.reverse ys.reverse : Nat)) H'
theorem ok_q83 (T : Txt K mg t) : FnOk P w K mg base CX0 2 t.f_q83 t.d_q83 ["some", "others"] spSameB := by
 refine T.F_q83.ok sc_q83 ?_ ?_
 walk_at "i"
 ·obtain ⟨a, b, xs, ys, rfl, ha, hb, q⟩ := h
  refine @at_one _ _ _ _ _ _ (ps_ret (pe_call (ok_q82 T) (hr.mono (by decide)) rfl T.mg_q82 T.F_q82.kp (T.F_q82.binds (by walk_at "2")) .nil pass0 (pa_cons (pe_listRev rfl rfl T.z_list rfl T.z_reversed (pa_cons (pv 0) pa_nil)) (pa_cons (pe_listRev rfl rfl T.z_list rfl T.z_reversed (pa_cons (pv 1) pa_nil)) pa_nil)))) ⟨_, rfl, a, _, rfl, SqL.of ha, fun l1 h1 => ⟨_, rfl, b, _, rfl, SqL.of (Same.upd h1 _ _ hb), fun l2 h2 => ⟨l1, l2, xs.reverse, ys.reverse, rfl, ?_, ?_, fun H' s' => q H' (((Same.upd h1).trans (Same.upd h2)).trans s')⟩⟩⟩
  ·rw [List.map_reverse]
   exact Same.upd h2 _ _ upd_same
  ·rw [List.map_reverse]
   exact upd_same
theorem lastOn_at {b : List Nat} : ∀ {Gs : List GRow} {j : Nat} {G : GRow}, Gs[j]? = some G -> lastOn b (Gs.take (j + 1)) = G.d.on
 | G' :: Gs, 0, G, h => by cases h; rfl
 | G' :: Gs, j + 1, G, h => by
  rw [List.take_succ_cons, lastOn]
  exact lastOn_at (Gs := Gs) (by simpa using h)
def spAhead (t : Adr) : Sp := fun vs H Q _ => ∃ (x dx a lg : Addr) (gs : List Addr) (S : Addr -> Prop) (Gs : List GRow) (i : Nat), vs = [.ref x, .int i] /\ H x = some (.ins t.c_Tinted dx [("rules", .ref a), ("gone_rows", .ref lg)]) /\ H lg = some (.lst (gs.map V.ref)) /\ All2 (IsGone t (hid S H)) gs Gs /\ Ex S H /\ i <= Gs.length /\
 ∀ lb H', hid S H' lb = some (.lst ((lastOn [0] (Gs.take i)).map natV)) -> Same H H' -> Q (.ref lb) H'
theorem ok_q39 (T : Txt K mg t) : FnOk P w K mg base CX0 1 t.f_q39 t.d_q39 ["self", "row"] (spAhead t) := by
 refine T.F_q39.ok sc_q39 ?_ ?_
 walk_at "i"
 ·obtain ⟨x, dx, a, lg, gs, S, Gs, i, rfl, hx, hlg, hA, hE, hi, q⟩ := h
  refine @at_one _ _ _ _ _ _ (ps_ret (pe_ifExp (pt_cmpR op_gt (pv 1) pe_int (nomark _)) (pe_fld (pe_ix ix_list (pe_fld (pv 0) rfl) (pe_op op_sub (pv 1) pe_int) (fun _ _ => rfl)) rfl) (pe_lst (pa_cons (pe_globE rfl T.mgv_START) pa_nil)))) ⟨_, rfl, _, _, rfl, rfl, _, rfl, ifd (fun h => ?_) (fun h => ?_)⟩
  ·obtain ⟨j, rfl⟩ : ∃ j, i = j + 1 := ⟨i - 1, by omega⟩
   obtain ⟨G, hG⟩ : ∃ G, Gs[j]? = some G := ⟨Gs[j]'(by omega), List.getElem?_eq_getElem _⟩
   obtain ⟨g, hg, dg, lb, lt, lo, lk, e⟩ := hA.at hG
   have ej : ((j + 1 : Nat) : Int) - 1 = (j : Int) := by omega
   refine ⟨_, rfl, _, _, _, _, _, rfl, hx, T.cl_Tinted, T.n_Tinted_gone_rows, rfl, ⟨_, rfl, _, _, rfl, rfl, ?_⟩⟩
   show rIxL _ (.ref lg) (.int (((j + 1 : Nat) : Int) - 1)) H _
   rw [ej]
   refine ⟨_, _, _, _, rfl, rfl, SqL.of hlg, at_ref hg, g, t.c_GoneRow, dg, _, _, rfl, hid_same _ _ e.ob, T.cl_GoneRow, T.n_GoneRow_behind, rfl, ?_⟩
   refine q lo H ?_ (Same.refl H)
   rw [lastOn_at hG]
   exact e.lo
  ·have e0 : i = 0 := by omega
   subst e0
   exact ⟨by show 1 <= sizeLine; decide, fun lb hlb => q lb _ (hid_of upd_same (hE.new hlb)) (Same.upd hlb)⟩
def spTaken (t : Adr) : Sp := fun vs H Q _ => ∃ (x dx a lg : Addr) (gs : List Addr) (i k : Nat), vs = [.ref x, .int i, .int k] /\ H x = some (.ins t.c_Tinted dx [("rules", .ref a), ("gone_rows", .ref lg)]) /\ H lg = some (.lst (gs.map V.ref)) /\ i + k <= gs.length /\ Q .non H
theorem ok_q30 (T : Txt K mg t) : FnOk P w K mg base CX0 1 t.f_q30 t.d_q30 ["self", "row", "many"] (spTaken t) := by
 refine T.F_q30.ok sc_q30 ?_ ?_
 walk_at "i"
 ·obtain ⟨x, dx, a, lg, gs, i, k, rfl, hx, hlg, hi, q⟩ := h
  refine @at_one _ _ _ _ _ _ (ps_if (PW.pt (pw_or (pt_cmpR op_lt (pv 1) pe_int (nomark _)) (pw_or (pt_cmpR op_lt (pv 2) pe_int (nomark _)) (pw_or1 (pt_cmpR op_gt (pe_op op_add (pv 1) (pv 2)) (pe_callB call_len_seq (by rfl) T.z_len (by decide +kernel) (pa_cons (pe_fld (pv 0) rfl) pa_nil)) (nomark _)))))) pss_at pss_at) ⟨_, rfl, _, _, rfl, rfl, _, rfl, ifd (fun h => absurd h (by omega)) (fun _ => ?_)⟩
  refine ⟨_, rfl, _, _, rfl, rfl, _, rfl, ifd (fun h => absurd h (by omega)) (fun _ => ?_)⟩
  refine ⟨_, rfl, _, rfl, _, _, rfl, rfl, ⟨_, rfl, _, _, _, _, _, rfl, hx, T.cl_Tinted, T.n_Tinted_gone_rows, rfl, ⟨_, _, rfl, .inl (SqL.of hlg), _, _, rfl, rfl, _, rfl, ifd (fun h => absurd h (by rw [List.length_map]; omega)) (fun _ => at_nil q)⟩⟩⟩
structure GoesOn (ms : List ModeM) (Gs : List GRow) (i k : Nat) (Gs' : List GRow) : Prop where
 len : Gs'.length = Gs.length
 le : i + k <= Gs.length
 pre : ∀ j, j < i -> Gs'[j]? = Gs[j]?
 suf : ∀ j, i + k <= j -> Gs'[j]? = Gs[j]?
 mid : ∀ j, i <= j -> j < i + k -> ∃ G G', Gs[j]? = some G /\ Gs'[j]? = some G' /\ G'.row = G.row /\ G'.before = lastOn [0] (Gs'.take j) /\ G.before ≠ lastOn [0] (Gs'.take j) /\ StepG ms G'
 stop : ∀ G, Gs[i + k]? = some G -> G.before = lastOn [0] (Gs'.take (i + k))
def mixG (Gs Gs' : List GRow) (n : Nat) : List GRow := Gs'.take n ++ Gs.drop n
theorem mix_at {Gs Gs' : List GRow} {n : Nat} (hl : Gs'.length = Gs.length) (h : n <= Gs.length) : (mixG Gs Gs' n)[n]? = Gs[n]? := by
 rw [mixG, List.getElem?_append_right (by rw [List.length_take]; omega), List.length_take, List.getElem?_drop]
 congr 1
 omega
theorem mix_take {Gs Gs' : List GRow} {n : Nat} (hl : Gs'.length = Gs.length) (h : n <= Gs.length) : (mixG Gs Gs' n).take n = Gs'.take n := by
 have e : n = (Gs'.take n).length := by rw [List.length_take]; omega
 rw [mixG]
 conv => lhs; arg 1; rw [e]
 rw [List.take_left]
theorem mix_len {Gs Gs' : List GRow} {n : Nat} (hl : Gs'.length = Gs.length) (h : n <= Gs.length) : (mixG Gs Gs' n).length = Gs.length := by
 rw [mixG, List.length_append, List.length_take, List.length_drop]; omega
theorem mix_set {Gs Gs' : List GRow} {n : Nat} {G' : GRow} (hl : Gs'.length = Gs.length) (h : n < Gs.length) (hG : Gs'[n]? = some G') : (mixG Gs Gs' n).set n G' = mixG Gs Gs' (n + 1) := by
 have e : (Gs'.take n).length = n := by rw [List.length_take]; omega
 rw [mixG, mixG, List.set_append_right _ _ (by rw [e]; exact Nat.le_refl _), e, Nat.sub_self, take_snoc hG, List.append_assoc]
 congr 1
 rw [drop_at (List.getElem?_eq_getElem h)]
 rfl
theorem GoesOn.first {ms : List ModeM} {Gs Gs' : List GRow} {i k : Nat} (h : GoesOn ms Gs i k Gs') : mixG Gs Gs' i = Gs := by
 apply List.ext_getElem?
 intro j
 rw [mixG]
 have := h.le
 have := h.len
 by_cases hj : j < i
 ·rw [List.getElem?_append_left (by rw [List.length_take]; omega), List.getElem?_take, if_pos hj, h.pre j hj]
 ·rw [List.getElem?_append_right (by rw [List.length_take]; omega), List.length_take, List.getElem?_drop]
  congr 1
  omega
theorem GoesOn.last {ms : List ModeM} {Gs Gs' : List GRow} {i k : Nat} (h : GoesOn ms Gs i k Gs') : mixG Gs Gs' (i + k) = Gs' := by
 apply List.ext_getElem?
 intro j
 rw [mixG]
 have := h.le
 have := h.len
 by_cases hj : j < i + k
 ·rw [List.getElem?_append_left (by rw [List.length_take]; omega), List.getElem?_take, if_pos hj]
 ·rw [List.getElem?_append_right (by rw [List.length_take]; omega), List.length_take, List.getElem?_drop, h.suf j (by omega)]
  congr 1
  omega
theorem All2.put {α β : Type} {R : α -> β -> Prop} {xs : List α} {ys : List β} {n : Nat} {x : α} {y : β} (h : All2 R xs ys) (r : R x y) : All2 R (xs.set n x) (ys.set n y) := by
 refine ⟨by rw [List.length_set, List.length_set]; exact h.1, fun i a b ha hb => ?_⟩
 rw [List.getElem?_set] at ha hb
 by_cases e : n = i
 ·rw [if_pos e] at ha hb
  split at ha
  ·split at hb
   ·cases ha; cases hb; exact r
   ·cases hb
  ·cases ha
 ·rw [if_neg e] at ha hb
  exact h.2 i a b ha hb
theorem natV_inj : ∀ {xs ys : List Nat}, xs.map natV = ys.map natV -> xs = ys
 | [], [], _ => rfl
 | [], _ :: _, h => by simp at h
 | _ :: _, [], h => by simp at h
 | x :: xs, y :: ys, h => by
  rw [List.map_cons, List.map_cons] at h
  injection h with h1 h2
  injection h1 with h1
  rw [natV_inj h2, Int.ofNat_inj.mp h1]
theorem plain_nats (xs ys : List Nat) : PlainV (xs.map natV) (ys.map natV) := plain_ints (fun n : Nat => (n : Int)) (fun n : Nat => (n : Int)) xs ys
def spGoOn (t : Adr) : Sp := fun vs H Q _ => ∃ (x dx a lg : Addr) (gs : List Addr) (S : Addr -> Prop) (ms : List ModeM) (Gs Gs' : List GRow) (i k : Nat), vs = [.ref x, .int i] /\ H x = some (.ins t.c_Tinted dx [("rules", .ref a), ("gone_rows", .ref lg)]) /\ IsRules t (hid S H) a ms /\ GoodMs ms /\ H lg = some (.lst (gs.map V.ref)) /\ S lg /\ All2 (IsGone t (hid S H)) gs Gs /\ Ex S H /\ Gs.length <= 100000 /\ GoesOn ms Gs i k Gs' /\
 ∀ gs' H', H' lg = some (.lst (gs'.map V.ref)) -> All2 (IsGone t (hid S H')) gs' Gs' -> Adv H H' lg -> Q (.int (k : Nat)) H'
theorem ok_q35 (T : Txt K mg t) : FnOk P w K mg base CX0 6 t.f_q35 t.d_q35 ["self", "row"] (spGoOn t) := by
 refine T.F_q35.ok sc_q35 ?_ ?_
 walk_at "i"
 ·obtain ⟨x, dx, a, lg, gs, S, ms, Gs, Gs', i, k, rfl, hx, hR, G, hlg, hSl, hA, hE, hlen, O, q⟩ := h
  have hxl : x ≠ lg := ne_of hx hlg (by intro z; cases z)
  have hl := O.len
  have hle := O.le
  refine @at_cons _ _ _ _ _ _ _ (ps_set (i := 2) sc_q35.nd rfl (Or.inl rfl) (pv 1)) ⟨_, rfl, ?_⟩
  refine @at_consR _ _ _ _ _ _ _ (fun Z' H' => ∃ gs', (∃ x2, Z' = [some (.ref x), some (.int i), x2] /\ x2 = some (.int ((i + k : Nat) : Int))) /\ H' lg = some (.lst (gs'.map V.ref)) /\ All2 (IsGone t (hid S H')) gs' Gs' /\ Adv H H' lg) (ps_while PassesOwn.never (PW.pt (pw_and (pt_cmpR op_lt (pv 2) (pe_callB call_len_seq (by rfl) T.z_len (by decide +kernel) (pa_cons (pe_fld (pv 0) rfl) pa_nil)) (nomark _)) (pw_and1 (pt_cmpR (op_neLs (Nat.lt_of_succ_lt (hu_of hr))) (pe_fld (pe_ix ix_list (pe_fld (pv 0) rfl) (pv 2) (fun _ _ => rfl)) rfl) (pe_meth (pv 0) T.cl_Tinted T.m_q39 (ok_q39 T) (hr.mono (by decide)) (T.F_q39.binds (by walk_at "2")) .nil pass0 (pa_cons (pv 2) pa_nil)) (nomark _))))) pss_at) ?_ ?_
  ·refine ⟨fun m Z' H' => ∃ (j : Nat) (gs' : List Addr), Z' = [some (.ref x), some (.int i), some (.int ((i + j : Nat) : Int))] /\ j <= k /\ m = k - j /\ H' lg = some (.lst (gs'.map V.ref)) /\ All2 (IsGone t (hid S H')) gs' (mixG Gs Gs' (i + j)) /\ Adv H H' lg, ⟨k, 0, gs, rfl, Nat.zero_le _, rfl, hlg, (by rw [Nat.add_zero, O.first]; exact hA), Adv.refl H lg⟩, ?_⟩
   rintro m Z' H1 ⟨j, gs1, rfl, hj, rfl, hlg1, hA1, a1⟩
   have hx1 := a1 _ _ hx hxl
   have s1 : Same (hid S H) (hid S H1) := fun b o hb => hid_of (a1 _ _ (hid_same _ _ hb) (fun z => hid_no hb (by rw [z]; exact hSl))) (hid_no hb)
   have hR1 := hR.same s1
   have hE1 : Ex S H1 := fun b hb => by
    by_cases e : b = lg
    ·rw [e]; exact ⟨_, hlg1⟩
    ·obtain ⟨o, ho⟩ := hE b hb
     exact ⟨o, a1 _ _ ho e⟩
   have hg1 : gs1.length = Gs.length := by rw [hA1.1, mix_len hl (by omega)]
   refine ⟨_, rfl, ⟨_, rfl, _, _, _, _, _, rfl, hx1, T.cl_Tinted, T.n_Tinted_gone_rows, rfl, ⟨_, _, rfl, .inl (SqL.of hlg1), _, _, rfl, rfl, _, rfl, ifd (fun h => ?_) (fun h => ?_)⟩⟩⟩
   ·rw [List.length_map] at h
    have hlt : i + j < Gs.length := by omega
    obtain ⟨G0, hG0⟩ : ∃ G0, Gs[i + j]? = some G0 := ⟨Gs[i + j], List.getElem?_eq_getElem hlt⟩
    have hG1 : (mixG Gs Gs' (i + j))[i + j]? = some G0 := by rw [mix_at hl (by omega)]; exact hG0
    obtain ⟨g, hg, dg, lb, lt, lo, lk, e⟩ := hA1.at hG1
    refine ⟨_, rfl, _, _, _, _, _, rfl, hx1, T.cl_Tinted, T.n_Tinted_gone_rows, rfl, ⟨_, rfl, _, _, _, _, rfl, rfl, SqL.of hlg1, at_ref hg, g, t.c_GoneRow, dg, _, _, rfl, hid_same _ _ e.ob, T.cl_GoneRow, T.n_GoneRow_before, rfl, ?_⟩⟩
    refine ⟨_, rfl, x, dx, _, rfl, hx1, rfl, _, rfl, x, dx, a, lg, gs1, S, _, i + j, rfl, hx1, hlg1, hA1, hE1, (by rw [mix_len hl (by omega)]; omega), fun lb2 H2 hb2 s2 => ?_⟩
    rw [mix_take hl (by omega)] at hb2
    refine ⟨lb, lb2, _, _, rfl, rfl, SqL.of (s2 _ _ (hid_same _ _ e.lb)), SqL.of (hid_same _ _ hb2), plain_nats _ _, _, rfl, ?_⟩
    have hlg2 := s2 _ _ hlg1
    have hx2 := s2 _ _ hx1
    have hA2 : All2 (IsGone t (hid S H2)) gs1 (mixG Gs Gs' (i + j)) := hA1.mono fun _ _ z => z.same (hid_two s2)
    have hE2 := hE1.same s2
    have a2 : Adv H H2 lg := a1.same s2
    refine ifnd (fun hne => ?_) (fun heq => ?_)
    ·have hjk : j < k := by
      rcases Nat.lt_or_ge j k with z | z
      ·exact z
      ·exfalso
       have ejk : j = k := by omega
       subst ejk
       exact hne (by rw [O.stop G0 hG0])
     obtain ⟨G1, G', z1, hG', er, eb, _, hSt⟩ := O.mid (i + j) (by omega) (by omega)
     rw [hG0] at z1
     cases z1
     refine ⟨_, fun Z' H' z => z, @at_cons _ _ _ _ _ _ _ (ps_asg (pe_make T.mk_GoneRow (ok_q11 T) (hr.mono (by decide)) rfl T.mgc_GoneRow (T.F_q11.binds (by walk_at "4")) .nil pass0 (pa_cons (pe_fld (pv 0) rfl) (pa_cons (pe_meth (pv 0) T.cl_Tinted T.m_q39 (ok_q39 T) (hr.mono (by decide)) (T.F_q39.binds (by walk_at "2")) .nil pass0 (pa_cons (pv 2) pa_nil)) (pa_cons (pe_fld (pe_ix ix_list (pe_fld (pv 0) rfl) (pv 2) (fun _ _ => rfl)) rfl) pa_nil)))) (pg_sub (pe_fld (pv 0) rfl) (pv 2) set_list)) ?_⟩
     refine ⟨_, rfl, _, _, _, _, _, rfl, hx2, T.cl_Tinted, T.n_Tinted_rules, rfl, ?_⟩
     refine ⟨_, rfl, x, dx, _, rfl, hx2, rfl, _, rfl, x, dx, a, lg, gs1, S, _, i + j, rfl, hx2, hlg2, hA2, hE2, (by rw [mix_len hl (by omega)]; omega), fun lb3 H3 hb3 s3 => ?_⟩
     rw [mix_take hl (by omega), ← eb] at hb3
     have hlg3 := s3 _ _ hlg2
     have hx3 := s3 _ _ hx2
     have hE3 := hE2.same s3
     have s13 : Same H1 H3 := s2.trans s3
     refine ⟨_, rfl, _, _, _, _, _, rfl, hx3, T.cl_Tinted, T.n_Tinted_gone_rows, rfl, ⟨_, rfl, _, _, _, _, rfl, rfl, SqL.of hlg3, at_ref hg, g, t.c_GoneRow, dg, _, _, rfl, s13 _ _ (hid_same _ _ e.ob), T.cl_GoneRow, T.n_GoneRow_signs, rfl, ?_⟩⟩
     refine fun g' dg' ng ndg ne => ⟨g', dg', a, lb3, S, ms, G', (by rw [er]; rfl), upd_same, ((hR1.same hid_same).same s13).same (mk_same0 ng ndg), G, (hid_two (mk_same0 ng ndg)) _ _ hb3, hE3.same (mk_same0 ng ndg), hE3.new ng, hSt, fun lt4 lo4 lk4 H4 hG4 a4 => ⟨rfl, ?_⟩⟩
     have s34 : Same H3 H4 := fun b o hb => a4 b o (mk_same0 ng ndg _ _ hb) (ne_of_none hb ng)
     have hlg4 := s34 _ _ hlg3
     have hx4 := s34 _ _ hx3
     have s14 : Same H1 H4 := s13.trans s34
     refine ⟨_, rfl, _, _, _, _, _, rfl, hx4, T.cl_Tinted, T.n_Tinted_gone_rows, rfl, ⟨_, rfl, lg, _, _, i + j, rfl, rfl, hlg4, ?_, ?_⟩⟩
     ·have hz : (gs1.map V.ref).length = Gs.length := by rw [List.length_map]; exact hg1
      rw [hz, ixN, if_pos (by omega), if_pos (by omega), Int.toNat_natCast]
     refine @at_one _ _ _ _ _ _ (ps_aug (i := 2) sc_q35.nd rfl (Or.inl rfl) pe_int ip_add) ⟨_, rfl, _, _, rfl, rfl, ?_⟩
     refine ⟨k - (j + 1), by omega, j + 1, gs1.set (i + j) g', ?_, by omega, rfl, ?_, ?_, ?_⟩
     ·show [some (V.ref x), some (V.int i), some (V.int (((i + j : Nat) : Int) + 1))] = _
      rw [show (((i + (j + 1) : Nat)) : Int) = ((i + j : Nat) : Int) + 1 by omega]
     ·rw [upd_same, List.map_set]
     ·rw [hid_upd hSl, show i + (j + 1) = i + j + 1 from rfl, ← mix_set hl hlt hG']
      exact (hA1.mono fun _ _ z => z.same (hid_two s14)).put ⟨dg', lb3, lt4, lo4, lk4, hG4⟩
     ·intro b o hb nb
      rw [upd_ne nb]
      exact s14 _ _ (a1 _ _ hb nb)
    ·have ejk : j = k := by
      rcases Nat.lt_or_ge j k with z | z
      ·exfalso
       obtain ⟨G1, G', z1, hG', er, eb, hnb, hSt⟩ := O.mid (i + j) (by omega) (by omega)
       rw [hG0] at z1
       cases z1
       exact hnb (natV_inj heq)
      ·omega
     subst ejk
     rw [O.last] at hA2
     exact ⟨gs1, ⟨_, rfl, rfl⟩, hlg2, hA2, a2⟩
   ·rw [List.length_map] at h
    have ej : j = k := by
     have := O.le
     omega
    subst ej
    rw [O.last] at hA1
    exact ⟨gs1, ⟨_, rfl, rfl⟩, hlg1, hA1, a1⟩
  rintro Z' H1 ⟨gs1, ⟨x2, rfl, rfl⟩, h1, h2, h3⟩
  refine @at_one _ _ _ _ _ _ (ps_ret (pe_op op_sub (pv 2) (pv 1))) ⟨_, rfl, _, rfl, _, _, rfl, rfl, ?_⟩
  have := q gs1 H1 h1 h2 h3
  rw [show (k : Int) = ((i + k : Nat) : Int) - (i : Int) by omega] at this
  exact this
theorem cut_nat {xs : List V} {i j : Nat} (hj : j <= xs.length) (h : i <= j) : cutV xs (some (i : Int)) (some (j : Int)) = (xs.drop i).take (j - i) := by
 rw [cutV, HT.sIx_nat, HT.sIx_nat, Nat.min_eq_left hj, Nat.min_eq_left (Nat.le_trans h hj)]
theorem cut_from {xs : List V} {i : Nat} (h : i <= xs.length) : cutV xs (some (i : Int)) none = xs.drop i := by
 rw [cutV, HT.sIx_nat, HT.sIx_none, Nat.min_eq_left h, List.take_of_length_le (by rw [List.length_drop]; exact Nat.le_refl _)]
theorem ar16 {a n m x s : Nat} (h : n + m + n <= s) : min a n + m + (n - x) <= s := by omega
theorem cut_to {xs : List V} {j : Nat} (hj : j <= xs.length) : cutV xs none (some (j : Int)) = xs.take j := by
 rw [cutV, HT.sIx_nat, HT.sIx_none, Nat.min_eq_left hj]; rfl
theorem apart {H : Hp} {x b : Addr} {o : HO} {C dx : Addr} {fs : List (Str × V)} (hx : H x = some (.ins C dx fs)) (hb : H b = some o) (h : ∀ C' d' fs', o = .ins C' d' fs' -> fs'.length ≠ fs.length) : hid (fun c => c = x) H b = some o := by
 refine hid_of hb fun z => ?_
 rw [z, hx] at hb
 cases hb
 exact h _ _ _ rfl rfl
theorem flOf_len (s z : Str) : (flOf s z).length <= 1 := by
 rw [flOf]
 by_cases b : bare s
 ·rw [if_pos b]; exact Nat.zero_le _
 ·rw [if_neg b]
  by_cases e : s = "word"
  ·rw [if_pos e]; exact Nat.le_refl _
  ·rw [if_neg e]; exact Nat.le_refl _
theorem IsRules.apart {H : Hp} {x a dx a' lg : Addr} {ms : List ModeM} (h : IsRules t H a ms) (hx : H x = some (.ins t.c_Tinted dx [("rules", .ref a'), ("gone_rows", .ref lg)])) : IsRules t (hid (fun c => c = x) H) a ms := by
 obtain ⟨d1, lm, as, ls, h1, h2, h3⟩ := h
 refine ⟨d1, lm, as, ls, K32.apart hx h1 (fun _ _ _ z => by cases z; simp), K32.apart hx h2 (fun _ _ _ z => by cases z), h3.la, h3.ll, h3.nd, fun i a l m e1 e2 e3 => ?_⟩
 obtain ⟨d2, rs, k1, k2, k3⟩ := h3.ob i a l m e1 e2 e3
 refine ⟨d2, rs, K32.apart hx k1 (fun _ _ _ z => by cases z; simp [mf]), K32.apart hx k2 (fun _ _ _ z => by cases z), k3.mono fun r R hr => ?_⟩
 obtain ⟨d3, p, r1, d4, r2⟩ := hr
 refine ⟨d3, p, K32.apart hx r1 (fun _ _ _ z => by cases z; simp [rf]), d4, K32.apart hx r2 (fun _ _ _ z => ?_)⟩
 injection z with _ _ z
 rw [← z]
 have := flOf_len R.sort R.signs
 intro z
 have z : (flOf R.sort R.signs).length = 2 := z
 omega
theorem IsGone.apart {H : Hp} {x g dx a' lg : Addr} {G : GRow} (h : IsGone t H g G) (hx : H x = some (.ins t.c_Tinted dx [("rules", .ref a'), ("gone_rows", .ref lg)])) : IsGone t (hid (fun c => c = x) H) g G := by
 obtain ⟨dg, lb, lt, lo, lk, e⟩ := h
 obtain ⟨ps, k1, k2⟩ := e.lk
 exact ⟨dg, lb, lt, lo, lk, K32.apart hx e.ob (fun _ _ _ z => by cases z; simp [gf]), K32.apart hx e.lb (fun _ _ _ z => by cases z), K32.apart hx e.lt (fun _ _ _ z => by cases z), K32.apart hx e.lo (fun _ _ _ z => by cases z), ps, K32.apart hx k1 (fun _ _ _ z => by cases z), k2.mono fun p m h => K32.apart hx h (fun _ _ _ z => by cases z)⟩
structure Changes (ms : List ModeM) (Gs : List GRow) (i k : Nat) (fs : List Str) (ah bk : Nat) (Gm : List GRow) (c : Nat) (Gs' : List GRow) : Prop where
 le : i + k <= Gs.length
 eah : ah = sameN (((Gs.map (·.row)).drop i).take k) fs
 ebk : bk = sameN ((((Gs.map (·.row)).drop i).take k).drop ah).reverse (fs.drop ah).reverse
 mid : Chain ms (lastOn [0] (Gs.take (i + ah))) ((fs.drop ah).take (fs.length - bk - ah)) Gm
 on : GoesOn ms (Gs.take (i + ah) ++ Gm ++ Gs.drop (i + k - bk)) (i + ah + Gm.length) c Gs'
theorem Changes.small {ms : List ModeM} {Gs : List GRow} {i k : Nat} {fs : List Str} {ah bk : Nat} {Gm : List GRow} {c : Nat} {Gs' : List GRow} (h : Changes ms Gs i k fs ah bk Gm c Gs') : ah <= k /\ ah <= fs.length /\ ah + bk <= k /\ ah + bk <= fs.length /\ Gm.length = fs.length - bk - ah := by
 have h1 := sameN_le (((Gs.map (·.row)).drop i).take k) fs
 have h2 := sameN_le ((((Gs.map (·.row)).drop i).take k).drop ah).reverse (fs.drop ah).reverse
 have h3 := h.mid.len
 have h4 := h.le
 rw [← h.eah, List.length_take, List.length_drop, List.length_map] at h1
 rw [← h.ebk, List.length_reverse, List.length_reverse, List.length_drop, List.length_drop, List.length_take, List.length_drop, List.length_map] at h2
 rw [List.length_take, List.length_drop] at h3
 omega
theorem All2.take {α β : Type} {R : α -> β -> Prop} {xs : List α} {ys : List β} (h : All2 R xs ys) (n : Nat) : All2 R (xs.take n) (ys.take n) := by
 refine ⟨by rw [List.length_take, List.length_take, h.1], fun i a b ha hb => ?_⟩
 rw [List.getElem?_take] at ha hb
 by_cases e : i < n
 ·rw [if_pos e] at ha hb; exact h.2 i a b ha hb
 ·rw [if_neg e] at ha; cases ha
theorem All2.drop {α β : Type} {R : α -> β -> Prop} {xs : List α} {ys : List β} (h : All2 R xs ys) (n : Nat) : All2 R (xs.drop n) (ys.drop n) := by
 refine ⟨by rw [List.length_drop, List.length_drop, h.1], fun i a b ha hb => ?_⟩
 rw [List.getElem?_drop] at ha hb
 exact h.2 _ a b ha hb
theorem All2.append {α β : Type} {R : α -> β -> Prop} {xs xs' : List α} {ys ys' : List β} (h : All2 R xs ys) (h' : All2 R xs' ys') : All2 R (xs ++ xs') (ys ++ ys') := by
 refine ⟨by rw [List.length_append, List.length_append, h.1, h'.1], fun i a b ha hb => ?_⟩
 have e := h.1
 by_cases hi : i < xs.length
 ·rw [List.getElem?_append_left hi] at ha
  rw [List.getElem?_append_left (by omega)] at hb
  exact h.2 i a b ha hb
 ·rw [List.getElem?_append_right (by omega)] at ha
  rw [List.getElem?_append_right (by omega), ← e] at hb
  exact h'.2 _ a b ha hb
theorem hid_hid {S S' : Addr -> Prop} {H : Hp} : Same (hid S' (hid S H)) (hid (fun c => S c ∨ S' c) H) := fun b o h => by
 have h1 := hid_no h
 have h2 := hid_same _ _ h
 exact hid_of (hid_same _ _ h2) (fun z => z.elim (hid_no h2) h1)
def spChange (t : Adr) : Sp := fun vs H Q _ => ∃ (S : Addr -> Prop) (x dx a lg lr : Addr) (gs : List Addr) (ms : List ModeM) (Gs : List GRow) (i k : Nat) (fs : List Str) (ah bk : Nat) (Gm : List GRow) (c : Nat) (Gs' : List GRow), vs = [.ref x, .int i, .int k, .ref lr] /\ Ex S H /\ IsTintAt t (hid S H) x dx a lg gs ms Gs /\ GoodMs ms /\ H lr = some (.lst (fs.map V.str)) /\ Gs.length <= 50000 /\ fs.length <= 50000 /\ (k = Gs.length -> fs ≠ []) /\ Changes ms Gs i k fs ah bk Gm c Gs' /\
 ∀ lg' gs' H', IsTintAt t (hid S H') x dx a lg' gs' ms Gs' -> H lg' = none -> Adv H H' x -> Q (.int ((Gm.length + c : Nat) : Int)) H'
theorem ok_q32 (T : Txt K mg t) : FnOk P w K mg base CX0 8 t.f_q32 t.d_q32 ["self", "row", "many", "rows"] (spChange t) := by
 refine T.F_q32.ok sc_q32 ?_ ?_
 walk_at "i"
 ·obtain ⟨S, x, dx, a, lg, lr, gs, ms, Gs, i, k, fs, ah, bk, Gm, c, Gs', rfl, hES, IS, GM_, hlr, hl1, hl2, hne, C, q⟩ := h
  have I := IS.same hid_same
  have hxS : ¬ S x := hid_no IS.ob
  obtain ⟨b1, b2, b3, b4, b5⟩ := C.small
  have hle := C.le
  have hgl := I.go.1
  refine @at_cons _ _ _ _ _ _ _ (ps_expr (pe_meth (pv 0) T.cl_Tinted T.m_q30 (ok_q30 T) (hr.mono (by decide)) (T.F_q30.binds (by walk_at "3")) .nil pass0 (pa_cons (pv 1) (pa_cons (pv 2) pa_nil)))) ⟨_, rfl, x, dx, _, rfl, I.ob, rfl, _, rfl, _, rfl, x, dx, a, lg, gs, i, k, rfl, I.ob, I.lg, (by omega), ?_⟩
  refine @at_consR _ _ _ _ _ _ _ (fun Z' H' => H' = H /\ Z' = [some (.ref x), some (.int i), some (.int k), some (.ref lr), none, none, none, none, none]) (ps_if (PW.pt (pw_and (pt_cmpR op_eq (pv 2) (pe_callB call_len_seq (by rfl) T.z_len (by decide +kernel) (pa_cons (pe_fld (pv 0) rfl) pa_nil)) (nomark _)) (pw_and1 (pt_not (pt_truth (pv 3) (fun _ => rfl)))))) pss_at pss_at) ?_ ?_
  ·refine ⟨_, rfl, ⟨_, rfl, _, _, _, _, _, rfl, I.ob, T.cl_Tinted, T.n_Tinted_gone_rows, rfl, ⟨_, _, rfl, .inl (SqL.of I.lg), rfl, _, rfl, ifd (fun h => ?_) (fun h => at_nil ⟨rfl, rfl⟩)⟩⟩⟩
   have hk : k = Gs.length := by
    injection h with h
    rw [List.length_map] at h
    omega
   have hf := hne hk
   refine ⟨_, rfl, true, .inl ⟨_, SqL.of hlr, ?_⟩, ifeq (c := false) rfl (at_nil ⟨rfl, rfl⟩)⟩
   cases fs with
   | nil => exact absurd rfl hf
   | cons _ _ => rfl
  rintro Z' H' ⟨eH, eZ⟩
  rw [eH, eZ]
  clear eH eZ Z' H'
  refine @at_cons _ _ _ _ _ _ _ (ps_set (i := 4) sc_q32.nd rfl (Or.inl rfl) (pe_slice sl_list (pe_meth0 (pv 0) T.cl_Tinted T.m_q42 (ok_q42 T) (hr.mono (by decide)) (T.F_q42.binds (by walk_at "1")) .nil pass0) (po_some (pv 1)) (po_some (pe_op op_add (pv 1) (pv 2))))) ⟨_, rfl, x, dx, _, rfl, I.ob, rfl, x, dx, a, lg, gs, ms, Gs, rfl, I, (by omega), fun l1 H1 h1 f1 s1 => ?_⟩
  obtain ⟨tk, htk⟩ : ∃ tk, tk = ((Gs.map (·.row)).drop i).take k := ⟨_, rfl⟩
  have ea : ah = sameN tk fs := by rw [htk]; exact C.eah
  have eb : bk = sameN (tk.drop ah).reverse (fs.drop ah).reverse := by rw [htk]; exact C.ebk
  have htl : tk.length = k := by rw [htk, List.length_take, List.length_drop, List.length_map]; omega
  refine ⟨_, rfl, _, rfl, _, rfl, _, rfl, _, _, rfl, rfl, _, rfl, l1, _, rfl, SqL.of h1, fun l2 f2 => ?_⟩
  have e2 : cutV ((Gs.map (·.row)).map V.str) (some (i : Int)) (some ((i : Int) + (k : Int))) = tk.map V.str := by
   rw [← Int.natCast_add, cut_nat (by rw [List.length_map, List.length_map]; omega) (by omega), htk, List.map_take, List.map_drop]
   congr 1
   omega
  have h2 : upd H1 l2 (.lst (cutV ((Gs.map (·.row)).map V.str) (some (i : Int)) (some ((i : Int) + (k : Int))))) l2 = some (.lst (tk.map V.str)) := by rw [upd_same, e2]
  have s2 : Same H (upd H1 l2 (.lst (cutV ((Gs.map (·.row)).map V.str) (some (i : Int)) (some ((i : Int) + (k : Int)))))) := s1.trans (Same.upd f2)
  generalize upd H1 l2 (.lst (cutV ((Gs.map (·.row)).map V.str) (some (i : Int)) (some ((i : Int) + (k : Int))))) = H2 at h2 s2
  refine @at_cons _ _ _ _ _ _ _ (ps_set (i := 5) sc_q32.nd rfl (Or.inl rfl) (pe_call (ok_q82 T) (hr.mono (by decide)) rfl T.mg_q82 T.F_q82.kp (T.F_q82.binds (by walk_at "2")) .nil pass0 (pa_cons (pv 4) (pa_cons (pv 3) pa_nil)))) ⟨_, rfl, _, rfl, l2, lr, tk, fs, rfl, h2, s2 _ _ hlr, fun H3 s3' => ?_⟩
  rw [← ea]
  have s3 := s2.trans s3'
  refine @at_cons _ _ _ _ _ _ _ (ps_set (i := 6) sc_q32.nd rfl (Or.inl rfl) (pe_call (ok_q83 T) (hr.mono (by decide)) rfl T.mg_q83 T.F_q83.kp (T.F_q83.binds (by walk_at "2")) .nil pass0 (pa_cons (pe_slice sl_list (pv 4) (po_some (pv 5)) po_none) (pa_cons (pe_slice sl_list (pv 3) (po_some (pv 5)) po_none) pa_nil)))) ⟨_, rfl, _, rfl, _, rfl, l2, _, rfl, SqL.of (s3' _ _ h2), fun l4 f4 => ⟨_, rfl, _, rfl, _, rfl, lr, _, rfl, SqL.of (Same.upd f4 _ _ (s3 _ _ hlr)), fun l5 f5 => ⟨l4, l5, tk.drop ah, fs.drop ah, rfl, ?_, ?_, fun H6 s6 => ?_⟩⟩⟩
  ·rw [Same.upd f5 _ _ upd_same, cut_from (by rw [List.length_map]; omega), List.map_drop]
  ·rw [upd_same, cut_from (by rw [List.length_map]; omega), List.map_drop]
  rw [← eb]
  have s6 : Same H H6 := ((s3.trans (Same.upd f4)).trans (Same.upd f5)).trans s6
  refine @at_consR _ _ _ _ _ _ _ (fun Z' H' => H' = H6 /\ Z' = [some (.ref x), some (.int i), some (.int k), some (.ref lr), some (.ref l2), some (.int ah), some (.int bk), some (.int ((i + ah : Nat) : Int)), none]) (ps_set (i := 7) sc_q32.nd rfl (Or.inl rfl) (pe_op op_add (pv 1) (pv 5))) ⟨_, rfl, _, rfl, _, _, rfl, rfl, rfl, rfl⟩ ?_
  rintro Z' H' ⟨eH, eZ⟩
  rw [eH, eZ]
  clear eH eZ Z' H'
  have hx6 := s6 _ _ I.ob
  have hlg6 := s6 _ _ I.lg
  have hlr6 := s6 _ _ hlr
  have hx6S := (hid_two (S := S) s6) _ _ IS.ob
  have hR6 : IsRules t (hid (fun c => S c ∨ c = x) H6) a ms := ((IS.ru.same (hid_two s6)).apart hx6S).same hid_hid
  have hA6 : All2 (IsGone t (hid (fun c => S c ∨ c = x) H6)) gs Gs := IS.go.mono fun _ _ z => ((z.same (hid_two s6)).apart hx6S).same hid_hid
  have hE6 : Ex (fun c => S c ∨ c = x) H6 := fun b hb => by
   rcases hb with hb | hb
   ·exact (hES.same s6) b hb
   ·rw [hb]; exact ⟨_, hx6⟩
  refine @at_cons _ _ _ _ _ _ _ (ps_set (i := 8) sc_q32.nd rfl (Or.inl rfl) (pe_meth (pv 0) T.cl_Tinted T.m_q36 (ok_q36 T) (hr.mono (by decide)) (T.F_q36.binds (by walk_at "3")) .nil pass0 (pa_cons (pe_meth (pv 0) T.cl_Tinted T.m_q39 (ok_q39 T) (hr.mono (by decide)) (T.F_q39.binds (by walk_at "2")) .nil pass0 (pa_cons (pv 7) pa_nil)) (pa_cons (pe_slice sl_list (pv 3) (po_some (pv 5)) (po_some (pe_op op_sub (pe_callB call_len_seq (by rfl) T.z_len (by decide +kernel) (pa_cons (pv 3) pa_nil)) (pv 6)))) pa_nil)))) ⟨_, rfl, x, dx, _, rfl, hx6, rfl, _, rfl, x, dx, _, rfl, hx6, rfl, _, rfl, x, dx, a, lg, gs, fun c => S c ∨ c = x, Gs, i + ah, rfl, hx6, hlg6, hA6, hE6, (by omega), fun lb H7 hb7 s7 => ?_⟩
  refine ⟨_, rfl, _, rfl, _, rfl, _, rfl, _, _, rfl, .inl (SqL.of (s7 _ _ hlr6)), _, rfl, _, _, rfl, rfl, _, rfl, lr, _, rfl, SqL.of (s7 _ _ hlr6), fun l8 f8 => ?_⟩
  have e8 : cutV (fs.map V.str) (some (ah : Int)) (some (((fs.map V.str).length : Int) - (bk : Int))) = ((fs.drop ah).take (fs.length - bk - ah)).map V.str := by
   rw [List.length_map, show ((fs.length : Int) - (bk : Int)) = ((fs.length - bk : Nat) : Int) by omega, cut_nat (by rw [List.length_map]; omega) (by omega), List.map_take, List.map_drop]
  have h8 : upd H7 l8 (.lst (cutV (fs.map V.str) (some (ah : Int)) (some (((fs.map V.str).length : Int) - (bk : Int))))) l8 = some (.lst (((fs.drop ah).take (fs.length - bk - ah)).map V.str)) := by rw [upd_same, e8]
  have s8 : Same H6 (upd H7 l8 (.lst (cutV (fs.map V.str) (some (ah : Int)) (some (((fs.map V.str).length : Int) - (bk : Int)))))) := s7.trans (Same.upd f8)
  have hb8 := (hid_two (S := fun c => S c ∨ c = x) (Same.upd (o := .lst (cutV (fs.map V.str) (some (ah : Int)) (some (((fs.map V.str).length : Int) - (bk : Int))))) f8)) _ _ hb7
  generalize upd H7 l8 (.lst (cutV (fs.map V.str) (some (ah : Int)) (some (((fs.map V.str).length : Int) - (bk : Int))))) = H8 at h8 s8 hb8
  refine ⟨x, dx, a, lb, l8, fun c => S c ∨ c = x, _, ms, _, _, Gm, rfl, s8 _ _ hx6, rfl, (hR6.same hid_same).same s8, GM_, hb8, hE6.same s8, h8, (by rw [List.length_take, List.length_drop]; omega), C.mid, fun lm gm H9 hm9 hA9 f9 s9 => ?_⟩
  have s9 : Same H6 H9 := s8.trans s9
  have hx9 := s9 _ _ hx6
  have hlg9 := s9 _ _ hlg6
  have hgm : gm.length = Gm.length := hA9.1
  refine @at_cons _ _ _ _ _ _ _ (ps_fld (pv 0) (pe_op op_cat (pe_op op_cat (pe_slice sl_list (pe_fld (pv 0) rfl) po_none (po_some (pv 7))) (pv 8)) (pe_slice sl_list (pe_fld (pv 0) rfl) (po_some (pe_op op_sub (pe_op op_add (pv 1) (pv 2)) (pv 6))) po_none)) rfl) (⟨_, rfl, _, _, _, _, _, rfl, hx9, T.cl_Tinted, T.n_Tinted_gone_rows, rfl, ⟨_, rfl, _, rfl, lg, _, rfl, SqL.of hlg9, fun p1 g1 => ?_⟩⟩)
  have z1 : (gs.map V.ref).length = Gs.length := by rw [List.length_map]; exact hgl
  have z2 : (gm.map V.ref).length = Gm.length := by rw [List.length_map]; exact hgm
  have c1 : cutV (gs.map V.ref) none (some ((i + ah : Nat) : Int)) = (gs.take (i + ah)).map V.ref := by
   rw [cut_to (by rw [z1]; omega), List.map_take]
  have c2 : cutV (gs.map V.ref) (some ((i : Int) + (k : Int) - (bk : Int))) none = (gs.drop (i + k - bk)).map V.ref := by
   rw [show ((i : Int) + (k : Int) - (bk : Int)) = ((i + k - bk : Nat) : Int) by omega, cut_from (by rw [z1]; omega), List.map_drop]
  have sz := sizeLine_eq
  refine ⟨_, rfl, p1, lm, _, _, rfl, rfl, upd_same, Same.upd g1 _ _ hm9, (by rw [c1, z2, List.length_map, List.length_take]; omega), fun p2 g2 => ?_⟩
  refine ⟨_, rfl, _, _, _, _, _, rfl, (Same.upd g2 _ _ (Same.upd g1 _ _ hx9)), T.cl_Tinted, T.n_Tinted_gone_rows, rfl, ?_⟩
  refine ⟨_, rfl, _, rfl, _, _, rfl, rfl, _, rfl, _, _, rfl, rfl, _, rfl, lg, _, rfl, SqL.of (Same.upd g2 _ _ (Same.upd g1 _ _ hlg9)), fun p3 g3 => ?_⟩
  refine ⟨p2, p3, _, _, rfl, rfl, Same.upd g3 _ _ upd_same, upd_same, ?_, fun lg' g4 => ?_⟩
  ·rw [List.length_append, c1, c2, z2, List.length_map, List.length_map, List.length_take, List.length_drop]; exact ar16 (by omega)
  have e10 : cutV (gs.map V.ref) none (some ((i + ah : Nat) : Int)) ++ gm.map V.ref ++ cutV (gs.map V.ref) (some ((i : Int) + (k : Int) - (bk : Int))) none = (gs.take (i + ah) ++ gm ++ gs.drop (i + k - bk)).map V.ref := by
   rw [c1, c2, List.map_append, List.map_append]
  have s10 : Same H9 (upd (upd (upd H9 p1 (.lst (cutV (gs.map V.ref) none (some ((i + ah : Nat) : Int))))) p2 (.lst (cutV (gs.map V.ref) none (some ((i + ah : Nat) : Int)) ++ gm.map V.ref))) p3 (.lst (cutV (gs.map V.ref) (some ((i : Int) + (k : Int) - (bk : Int))) none))) := ((Same.upd g1).trans (Same.upd g2)).trans (Same.upd g3)
  revert g4
  show upd (upd (upd H9 p1 (.lst (cutV (gs.map V.ref) none (some ((i + ah : Nat) : Int))))) p2 (.lst (cutV (gs.map V.ref) none (some ((i + ah : Nat) : Int)) ++ gm.map V.ref))) p3 (.lst (cutV (gs.map V.ref) (some ((i : Int) + (k : Int) - (bk : Int))) none)) lg' = none -> _
  generalize upd (upd (upd H9 p1 (.lst (cutV (gs.map V.ref) none (some ((i + ah : Nat) : Int))))) p2 (.lst (cutV (gs.map V.ref) none (some ((i + ah : Nat) : Int)) ++ gm.map V.ref))) p3 (.lst (cutV (gs.map V.ref) (some ((i : Int) + (k : Int) - (bk : Int))) none)) = HA at s10
  intro g4
  have hx10 := s10 _ _ hx9
  refine ⟨_, rfl, x, _, dx, _, rfl, Same.upd g4 _ _ hx10, T.cl_Tinted, T.n_Tinted_gone_rows, (by show 2 < 1000; decide), ?_⟩
  have hxl : x ≠ lg' := ne_of_none hx10 g4
  have hxB : upd (upd HA lg' (.lst (cutV (gs.map V.ref) none (some ((i + ah : Nat) : Int)) ++ gm.map V.ref ++ cutV (gs.map V.ref) (some ((i : Int) + (k : Int) - (bk : Int))) none))) x (.ins t.c_Tinted dx (putF "gone_rows" (.ref lg') [("rules", .ref a), ("gone_rows", .ref lg)])) x = some (.ins t.c_Tinted dx [("rules", .ref a), ("gone_rows", .ref lg')]) := upd_same
  have hlB : upd (upd HA lg' (.lst (cutV (gs.map V.ref) none (some ((i + ah : Nat) : Int)) ++ gm.map V.ref ++ cutV (gs.map V.ref) (some ((i : Int) + (k : Int) - (bk : Int))) none))) x (.ins t.c_Tinted dx (putF "gone_rows" (.ref lg') [("rules", .ref a), ("gone_rows", .ref lg)])) lg' = some (.lst ((gs.take (i + ah) ++ gm ++ gs.drop (i + k - bk)).map V.ref)) := by
   rw [upd_ne (Ne.symm hxl), upd_same, e10]
  have kB : ∀ b o, HA b = some o -> b ≠ x -> upd (upd HA lg' (.lst (cutV (gs.map V.ref) none (some ((i + ah : Nat) : Int)) ++ gm.map V.ref ++ cutV (gs.map V.ref) (some ((i : Int) + (k : Int) - (bk : Int))) none))) x (.ins t.c_Tinted dx (putF "gone_rows" (.ref lg') [("rules", .ref a), ("gone_rows", .ref lg)])) b = some o := fun b o hb nb => by
   rw [upd_ne nb, upd_ne (ne_of_none hb g4)]; exact hb
  show At _ _ _ _ (upd (upd HA lg' (.lst (cutV (gs.map V.ref) none (some ((i + ah : Nat) : Int)) ++ gm.map V.ref ++ cutV (gs.map V.ref) (some ((i : Int) + (k : Int) - (bk : Int))) none))) x (.ins t.c_Tinted dx (putF "gone_rows" (.ref lg') [("rules", .ref a), ("gone_rows", .ref lg)])))
  generalize upd (upd HA lg' (.lst (cutV (gs.map V.ref) none (some ((i + ah : Nat) : Int)) ++ gm.map V.ref ++ cutV (gs.map V.ref) (some ((i : Int) + (k : Int) - (bk : Int))) none))) x (.ins t.c_Tinted dx (putF "gone_rows" (.ref lg') [("rules", .ref a), ("gone_rows", .ref lg)])) = HB at hxB hlB kB
  have s9A : Same H9 HA := s10
  have hmA := s9A _ _ hm9
  have nmx : lm ≠ x := ne_of hm9 hx9 (by intro z; cases z)
  have hmB := kB _ _ hmA nmx
  have sB : Same (hid (fun c => S c ∨ c = x) H9) (hid (fun c => (S c ∨ c = x) ∨ c = lg') HB) := fun b o hb => by
   have nb := hid_no (S := fun c => S c ∨ c = x) hb
   have hbA := s9A _ _ (hid_same _ _ hb)
   refine hid_of (kB b o hbA (fun z => nb (.inr z))) fun z => ?_
   rcases z with z | z
   ·exact nb z
   ·exact ne_of_none hbA g4 z
  have hE : Ex (fun c => (S c ∨ c = x) ∨ c = lg') HB := fun b hb => by
   rcases hb with (z | z) | z
   ·obtain ⟨o, ho⟩ := (((hES.same s6).same s9).same s9A) b z
    exact ⟨o, kB b o ho (fun y => hxS (by rw [← y]; exact z))⟩
   ·rw [z]; exact ⟨_, hxB⟩
   ·rw [z]; exact ⟨_, hlB⟩
  have hR9 : IsRules t (hid (fun c => S c ∨ c = x) H9) a ms := hR6.same (hid_two s9)
  have hG9 : All2 (IsGone t (hid (fun c => S c ∨ c = x) H9)) gs Gs := hA6.mono fun _ _ z => z.same (hid_two s9)
  have hGG : All2 (IsGone t (hid (fun c => (S c ∨ c = x) ∨ c = lg') HB)) (gs.take (i + ah) ++ gm ++ gs.drop (i + k - bk)) (Gs.take (i + ah) ++ Gm ++ Gs.drop (i + k - bk)) :=
   (((hG9.take (i + ah)).append hA9).append (hG9.drop (i + k - bk))).mono fun _ _ z => z.same sB
  refine @at_one _ _ _ _ _ _ (ps_ret (pe_op op_add (pe_callB call_len_seq (by rfl) T.z_len (by decide +kernel) (pa_cons (pv 8) pa_nil)) (pe_meth (pv 0) T.cl_Tinted T.m_q35 (ok_q35 T) (hr.mono (by decide)) (T.F_q35.binds (by walk_at "2")) .nil pass0 (pa_cons (pe_op op_add (pv 7) (pe_callB call_len_seq (by rfl) T.z_len (by decide +kernel) (pa_cons (pv 8) pa_nil))) pa_nil)))) ⟨_, rfl, _, _, rfl, .inl (SqL.of hmB), ?_⟩
  refine ⟨_, rfl, x, dx, _, rfl, hxB, rfl, _, rfl, _, rfl, _, _, rfl, .inl (SqL.of hmB), _, _, rfl, rfl, x, dx, a, lg', _, fun c => (S c ∨ c = x) ∨ c = lg', ms, _, Gs', i + ah + Gm.length, c, ?_, hxB, hR9.same sB, GM_, hlB, .inr rfl, hGG, hE, ?_, C.on, fun gs2 HC h1 h2 a2 => ?_⟩
  ·rw [z2]; rfl
  ·rw [List.length_append, List.length_append, List.length_take, List.length_drop]; omega
  refine ⟨_, _, rfl, rfl, ?_⟩
  have hxC := a2 _ _ hxB hxl
  have hlS : ¬ S lg' := (((hES.same s6).same s9).same s9A).new g4
  have := q lg' gs2 HC ⟨hid_of hxC hxS, (hR9.same sB).same (fun b o hb => hid_of (a2 _ _ (hid_same _ _ hb) (fun z => hid_no hb (.inr z))) (fun z => hid_no hb (.inl (.inl z)))), hid_of h1 hlS, h2.mono fun _ _ z => z.same (hid_less fun c hc => .inl (.inl hc))⟩ ?_ ?_
  ·rw [Int.natCast_add, ← z2] at this
   exact this
  ·exact ((s6.trans s9).trans s9A).free g4
  ·intro b o hb nb
   have hbA := ((s6.trans s9).trans s9A) _ _ hb
   exact a2 _ _ (kB _ _ hbA nb) (ne_of_none hbA g4)
theorem StepG.one {ms : List ModeM} {G G' : GRow} (h : StepG ms G) (h' : StepG ms G') (e1 : G.row = G'.row) (e2 : G.before = G'.before) : G = G' := by
 obtain ⟨n, _, g⟩ := h.go
 obtain ⟨m, _, g'⟩ := h'.go
 rw [← e1, ← e2] at g'
 have x := goN_more (Nat.le_max_left n m) g
 have y := goN_more (Nat.le_max_right n m) g'
 rw [x] at y
 injection y with y
 cases G
 cases G'
 simp_all
theorem Chain.one {ms : List ModeM} : ∀ {b : List Nat} {rs : List Str} {Gs Gs' : List GRow}, Chain ms b rs Gs -> Chain ms b rs Gs' -> Gs = Gs'
 | _, [], [], [], _, _ => rfl
 | b, r :: rs, G :: Gs, G' :: Gs', h, h' => by
  have e := h.2.2.1.one h'.2.2.1 (h.1.trans h'.1.symm) (h.2.1.trans h'.2.1.symm)
  subst e
  rw [Chain.one h.2.2.2 h'.2.2.2]
 | _, [], [], _ :: _, _, h => h.elim
 | _, [], _ :: _, _, h, _ => h.elim
 | _, _ :: _, [], _, h, _ => h.elim
 | _, _ :: _, _ :: _, [], _, h => h.elim
theorem Chain.split {ms : List ModeM} : ∀ {b : List Nat} {rs : List Str} {Gs : List GRow} (n : Nat), Chain ms b rs Gs -> Chain ms b (rs.take n) (Gs.take n) /\ Chain ms (lastOn b (Gs.take n)) (rs.drop n) (Gs.drop n)
 | _, rs, Gs, 0, h => ⟨by rw [List.take_zero, List.take_zero]; trivial, h⟩
 | _, [], [], n + 1, h => ⟨trivial, trivial⟩
 | b, r :: rs, G :: Gs, n + 1, h => by
  obtain ⟨h1, h2, h3, h4⟩ := h
  obtain ⟨k1, k2⟩ := Chain.split n h4
  exact ⟨⟨h1, h2, h3, k1⟩, k2⟩
 | _, [], _ :: _, _ + 1, h => h.elim
 | _, _ :: _, [], _ + 1, h => h.elim
theorem Chain.at {ms : List ModeM} {b : List Nat} {rs : List Str} {Gs : List GRow} {j : Nat} {G : GRow} (h : Chain ms b rs Gs) (hG : Gs[j]? = some G) : rs[j]? = some G.row /\ G.before = lastOn b (Gs.take j) /\ StepG ms G := by
 have k := (h.split j).2
 rw [drop_at hG] at k
 cases e : rs.drop j with
 | nil => rw [e] at k; exact k.elim
 | cons r t =>
  rw [e] at k
  refine ⟨?_, k.2.1, k.2.2.1⟩
  have := congrArg (fun l => l[0]?) e
  simp only [List.getElem?_drop, Nat.add_zero, List.getElem?_cons_zero] at this
  rw [this, k.1]
def difN : List GRow -> List GRow -> Nat
 | A :: As, B :: Bs => if A.before = B.before then 0 else difN As Bs + 1
 | _, _ => 0
theorem difN_le : ∀ (As Bs : List GRow), difN As Bs <= As.length /\ difN As Bs <= Bs.length
 | [], _ => ⟨Nat.zero_le _, Nat.zero_le _⟩
 | _ :: _, [] => ⟨Nat.zero_le _, Nat.zero_le _⟩
 | A :: As, B :: Bs => by
  have h := difN_le As Bs
  rw [difN]
  by_cases e : A.before = B.before
  ·rw [if_pos e]; exact ⟨Nat.zero_le _, Nat.zero_le _⟩
  ·rw [if_neg e, List.length_cons, List.length_cons]; omega
theorem difN_ne : ∀ {As Bs : List GRow} {j : Nat} {A B : GRow}, j < difN As Bs -> As[j]? = some A -> Bs[j]? = some B -> A.before ≠ B.before
 | A :: As, B :: Bs, 0, A', B', h, h1, h2 => by
  cases h1; cases h2
  rw [difN] at h
  intro e
  rw [if_pos e] at h
  exact Nat.lt_irrefl _ h
 | A :: As, B :: Bs, j + 1, A', B', h, h1, h2 => by
  rw [difN] at h
  by_cases e : A.before = B.before
  ·rw [if_pos e] at h; exact absurd h (Nat.not_lt_zero _)
  ·rw [if_neg e] at h
   exact difN_ne (As := As) (Bs := Bs) (j := j) (by omega) (by simpa using h1) (by simpa using h2)
 | [], _, j, _, _, h, _, _ => by rw [difN] at h; exact absurd h (Nat.not_lt_zero _); intros; simp_all
 | _ :: _, [], j, _, _, h, _, _ => by rw [difN] at h; exact absurd h (Nat.not_lt_zero _); intros; simp_all
theorem difN_eq : ∀ {As Bs : List GRow} {A B : GRow}, As[difN As Bs]? = some A -> Bs[difN As Bs]? = some B -> A.before = B.before
 | A :: As, B :: Bs, A', B', h1, h2 => by
  rw [difN] at h1 h2
  by_cases e : A.before = B.before
  ·rw [if_pos e] at h1 h2
   cases h1; cases h2
   exact e
  ·rw [if_neg e] at h1 h2
   exact difN_eq (As := As) (Bs := Bs) (by simpa using h1) (by simpa using h2)
 | [], _, _, _, h1, _ => by simp at h1
 | _ :: _, [], _, _, _, h2 => by simp at h2
theorem difN_drop {ms : List ModeM} {b b' : List Nat} {rs : List Str} {As Bs : List GRow} (hA : Chain ms b rs As) (hB : Chain ms b' rs Bs) : As.drop (difN As Bs) = Bs.drop (difN As Bs) := by
 have l1 := hA.len
 have l2 := hB.len
 by_cases hc : difN As Bs < As.length
 ·obtain ⟨A, eA⟩ : ∃ A, As[difN As Bs]? = some A := ⟨_, List.getElem?_eq_getElem hc⟩
  obtain ⟨B, eB⟩ : ∃ B, Bs[difN As Bs]? = some B := ⟨_, List.getElem?_eq_getElem (by omega)⟩
  have e := difN_eq eA eB
  rw [(hA.at eA).2.1, (hB.at eB).2.1] at e
  have k1 := (hA.split (difN As Bs)).2
  have k2 := (hB.split (difN As Bs)).2
  rw [e] at k1
  exact k1.one k2
 ·rw [List.drop_eq_nil_of_le (by omega), List.drop_eq_nil_of_le (by omega)]
theorem ar11 {i f k b g g' : Nat} (h : i + k <= g) (e : g' = i + f + (g - (i + k))) (hf : b <= f) (hk : b <= k) : g' - (i + f - b) = g - (i + k - b) := by omega
theorem ar13 {i f k b g g' : Nat} (h : i + k <= g) (e : g' = i + f + (g - (i + k))) (hf : b <= f) (hk : b <= k) : g' = i + f - b + (g - (i + k - b)) := by omega
theorem ar2 {a b k : Nat} (h : a + b <= k) : a + (k - a - b) = k - b := by omega
theorem ar3 {i k b : Nat} : i + k - b - i = k - b := by omega
theorem ar4 {i a b f : Nat} (h : a + b <= f) : i + a + (f - b - a) = i + f - b := by omega
theorem ar5 {i a b f n : Nat} (h : a + b <= f) (h2 : i + f <= n) : min (f - b - a) (n - (i + a)) = f - b - a := by omega
theorem changes_of {ms : List ModeM} {Gs Gs' : List GRow} {rs fs : List Str} {i k : Nat} (hC : Chain ms [0] rs Gs) (hle : i + k <= rs.length) (hC' : Chain ms [0] (rs.take i ++ fs ++ rs.drop (i + k)) Gs') :
  ∃ ah bk Gm c, Changes ms Gs i k fs ah bk Gm c Gs' /\ ah = sameN ((rs.drop i).take k) fs /\ bk = sameN (((rs.drop i).take k).drop ah).reverse (fs.drop ah).reverse /\ Gm.length = fs.length - bk - ah /\ c = difN (Gs'.drop (i + fs.length - bk)) (Gs.drop (i + k - bk)) /\ ah + bk <= k /\ ah + bk <= fs.length := by
 have hr := hC.rows
 have hl := hC.len
 have hl' := hC'.len
 obtain ⟨tk, htk⟩ : ∃ tk, tk = (rs.drop i).take k := ⟨_, rfl⟩
 have htl : tk.length = k := by rw [htk, List.length_take, List.length_drop]; omega
 obtain ⟨ah, ea⟩ : ∃ ah, ah = sameN tk fs := ⟨_, rfl⟩
 obtain ⟨bk, eb⟩ : ∃ bk, bk = sameN (tk.drop ah).reverse (fs.drop ah).reverse := ⟨_, rfl⟩
 have a1 := sameN_le tk fs
 have a2 := sameN_le (tk.drop ah).reverse (fs.drop ah).reverse
 rw [← ea] at a1
 rw [← eb, List.length_reverse, List.length_reverse, List.length_drop, List.length_drop] at a2
 have hF : ah + bk <= fs.length := by omega
 have hK : ah + bk <= k := by omega
 have hiK : i + ah <= rs.length := Nat.le_trans (Nat.add_le_add_left (Nat.le_trans (Nat.le_add_right _ _) hK) i) hle
 have t1 : tk.take ah = fs.take ah := by rw [ea]; exact sameN_take tk fs
 have t2 : (tk.drop ah).reverse.take bk = (fs.drop ah).reverse.take bk := by rw [eb]; exact sameN_take _ _
 have t3 : tk.drop (k - bk) = fs.drop (fs.length - bk) := by
  have := congrArg List.reverse t2
  rw [List.reverse_take, List.reverse_take, List.reverse_reverse, List.reverse_reverse, List.length_reverse, List.length_reverse, List.length_drop, List.length_drop, List.drop_drop, List.drop_drop, htl] at this
  rw [show ah + (k - ah - bk) = k - bk from ar2 hK, show ah + (fs.length - ah - bk) = fs.length - bk from ar2 hF] at this
  exact this
 have hdk : (rs.drop i).drop k = rs.drop (i + k) := List.drop_drop
 have hri : rs.drop i = tk ++ rs.drop (i + k) := by rw [htk, ← hdk, List.take_append_drop]
 have hrs : rs = rs.take i ++ (tk ++ rs.drop (i + k)) := by rw [← hri, List.take_append_drop]
 have hil : (rs.take i).length = i := by rw [List.length_take]; omega
 have e1 : (rs.take i ++ fs ++ rs.drop (i + k)).take (i + ah) = rs.take (i + ah) := by
  conv => rhs; rw [hrs]
  rw [List.append_assoc]
  conv => lhs; rw [List.take_append, hil, List.take_of_length_le (by rw [hil]; omega), show i + ah - i = ah by omega, List.take_append_of_le_length a1.2]
  conv => rhs; rw [List.take_append, hil, List.take_of_length_le (by rw [hil]; omega), show i + ah - i = ah by omega, List.take_append_of_le_length (by omega)]
  rw [t1]
 have e2 : (rs.take i ++ fs ++ rs.drop (i + k)).drop (i + fs.length - bk) = rs.drop (i + k - bk) := by
  conv => rhs; rw [hrs]
  rw [List.append_assoc]
  conv => lhs; rw [List.drop_append, hil, List.drop_of_length_le (by rw [hil]; omega), show i + fs.length - bk - i = fs.length - bk from ar3, List.drop_append_of_le_length (by omega)]
  conv => rhs; rw [List.drop_append, hil, List.drop_of_length_le (by rw [hil]; omega), show i + k - bk - i = k - bk from ar3, List.drop_append_of_le_length (by rw [htl]; exact Nat.sub_le _ _)]
  rw [t3]
 have e3 : ((rs.take i ++ fs ++ rs.drop (i + k)).drop (i + ah)).take (fs.length - bk - ah) = (fs.drop ah).take (fs.length - bk - ah) := by
  rw [List.append_assoc, List.drop_append, hil, List.drop_of_length_le (by rw [hil]; exact Nat.le_add_right _ _), show i + ah - i = ah from Nat.add_sub_cancel_left .., List.drop_append_of_le_length a1.2, List.nil_append, List.take_append_of_le_length (by rw [List.length_drop]; omega)]
 obtain ⟨p1, p2⟩ := hC.split (i + ah)
 obtain ⟨p1', p2'⟩ := hC'.split (i + ah)
 rw [e1] at p1'
 have eG := p1.one p1'
 obtain ⟨m1, _⟩ := p2'.split (fs.length - bk - ah)
 rw [e3, ← eG] at m1
 obtain ⟨_, q1⟩ := hC.split (i + k - bk)
 obtain ⟨_, q1'⟩ := hC'.split (i + fs.length - bk)
 rw [e2] at q1'
 have hlr : (rs.take i ++ fs ++ rs.drop (i + k)).length = i + fs.length + (rs.length - (i + k)) := by rw [List.length_append, List.length_append, hil, List.length_drop]
 rw [hlr] at hl'
 have lm : ((Gs'.drop (i + ah)).take (fs.length - bk - ah)).length = fs.length - bk - ah := by rw [List.length_take, List.length_drop]; exact ar5 hF (by rw [hl']; exact Nat.le_add_right _ _)
 have en : i + ah + (fs.length - bk - ah) = i + fs.length - bk := ar4 hF
 have lt : (Gs.take (i + ah)).length = i + ah := by rw [List.length_take]; exact Nat.min_eq_left (by rw [hl]; exact hiK)
 have lG1 : (Gs.take (i + ah) ++ (Gs'.drop (i + ah)).take (fs.length - bk - ah)).length = i + fs.length - bk := by rw [List.length_append, lm, lt]; exact en
 have eG1 : Gs.take (i + ah) ++ (Gs'.drop (i + ah)).take (fs.length - bk - ah) = Gs'.take (i + fs.length - bk) := by
  rw [eG, ← en]
  exact List.take_add.symm
 have dl := difN_le (Gs'.drop (i + fs.length - bk)) (Gs.drop (i + k - bk))
 rw [List.length_drop, List.length_drop] at dl
 have dd := difN_drop q1' q1
 refine ⟨ah, bk, (Gs'.drop (i + ah)).take (fs.length - bk - ah), _, ⟨by rw [hl]; exact hle, by rw [hr, ← htk]; exact ea, by rw [hr, ← htk]; exact eb, m1, ?_⟩, by rw [← htk]; exact ea, by rw [← htk]; exact eb, lm, rfl, hK, hF⟩
 rw [lm, en, eG1]
 have hle2 : i + k <= Gs.length := by rw [hl]; exact hle
 have hl2 : Gs'.length = i + fs.length + (Gs.length - (i + k)) := by rw [hl]; exact hl'
 have hF2 : bk <= fs.length := Nat.le_trans (Nat.le_add_left _ _) hF
 have hK2 : bk <= k := Nat.le_trans (Nat.le_add_left _ _) hK
 have hGl := ar13 hle2 hl2 hF2 hK2
 have hGd := ar11 hle2 hl2 hF2 hK2
 have lT : (Gs'.take (i + fs.length - bk)).length = i + fs.length - bk := by rw [List.length_take]; exact Nat.min_eq_left (by rw [hGl]; exact Nat.le_add_right _ _)
 refine ⟨?_, ?_, fun j hj => ?_, fun j hj => ?_, fun j h1 h2 => ?_, fun G hG => ?_⟩
 ·rw [List.length_append, lT, List.length_drop]; first | exact hGl | exact hGl.symm | omega
 ·rw [List.length_append, lT, List.length_drop]; first | exact hGl | exact hGl.symm | omega
 ·rw [List.getElem?_append_left (by omega), List.getElem?_take, if_pos hj]
 ·rw [List.getElem?_append_right (by omega), lT]
  have := congrArg (fun l => l[j - (i + fs.length - bk) - difN (Gs'.drop (i + fs.length - bk)) (Gs.drop (i + k - bk))]?) dd
  simp only [List.getElem?_drop] at this
  rw [List.getElem?_drop]
  rw [show i + fs.length - bk + (difN (Gs'.drop (i + fs.length - bk)) (Gs.drop (i + k - bk)) + (j - (i + fs.length - bk) - difN (Gs'.drop (i + fs.length - bk)) (Gs.drop (i + k - bk)))) = j by omega] at this
  rw [this]
  congr 1
  omega
 ·obtain ⟨d, rfl⟩ : ∃ d, j = i + fs.length - bk + d := ⟨j - (i + fs.length - bk), by omega⟩
  obtain ⟨A, hA⟩ : ∃ A, Gs'[i + fs.length - bk + d]? = some A := ⟨_, List.getElem?_eq_getElem (by omega)⟩
  obtain ⟨B, hB⟩ : ∃ B, Gs[i + k - bk + d]? = some B := ⟨_, List.getElem?_eq_getElem (by omega)⟩
  have hA2 : (Gs'.drop (i + fs.length - bk))[d]? = some A := by rw [List.getElem?_drop]; exact hA
  have hB2 : (Gs.drop (i + k - bk))[d]? = some B := by rw [List.getElem?_drop]; exact hB
  obtain ⟨x1, x2, x3⟩ := hC'.at hA
  obtain ⟨y1, _, _⟩ := q1.at hB2
  obtain ⟨w1, _, _⟩ := q1'.at hA2
  refine ⟨B, A, ?_, hA, ?_, x2, ?_, x3⟩
  ·rw [List.getElem?_append_right (by rw [lT]; exact Nat.le_add_right _ _), lT, Nat.add_sub_cancel_left]; exact hB2
  ·rw [y1] at w1
   injection w1 with w1
   exact w1.symm
  ·rw [← x2]
   exact fun z => difN_ne (by omega) hA2 hB2 z.symm
 ·rw [List.getElem?_append_right (by omega), lT, Nat.add_sub_cancel_left] at hG
  have hz := (List.getElem?_eq_some_iff.mp hG).1
  rw [List.length_drop] at hz
  obtain ⟨A, hA⟩ : ∃ A, (Gs'.drop (i + fs.length - bk))[difN (Gs'.drop (i + fs.length - bk)) (Gs.drop (i + k - bk))]? = some A := ⟨_, List.getElem?_eq_getElem (by rw [List.length_drop, hGd]; exact hz)⟩
  have e := difN_eq hA hG
  rw [List.getElem?_drop] at hA
  rw [← e]
  exact (hC'.at hA).2.1
theorem at_strs {xs : List Str} {j : Nat} {x : Str} (h : xs[j]? = some x) : atI (xs.map V.str) (j : Int) = some (.str x) := by
 have hj := (List.getElem?_eq_some_iff.mp h).1
 rw [atI, ixN, if_pos (by omega), if_pos (by rw [List.length_map]; omega), Int.toNat_natCast, Option.bind_some, List.getElem?_map, h]
 rfl
theorem at_strs_neg {xs : List Str} {j : Nat} {x : Str} (h : xs[xs.length - 1 - j]? = some x) (hj : j < xs.length) : atI (xs.map V.str) ((-1 : Int) - (j : Int)) = some (.str x) := by
 have e : ((-1 : Int) - (j : Int) + ((xs.length : Nat) : Int)).toNat = xs.length - 1 - j := by omega
 rw [atI, ixN, List.length_map, if_neg (by omega), if_pos (by omega), e, Option.bind_some, List.getElem?_map, h]
 rfl
theorem rev_at {xs : List Str} {a j : Nat} (h : a + j < xs.length) : (xs.drop a).reverse[j]? = xs[xs.length - 1 - j]? := by
 rw [List.getElem?_reverse (by rw [List.length_drop]; omega), List.length_drop, List.getElem?_drop]
 congr 1
 omega
theorem difN_at {As Bs : List GRow} {d : Nat} {A B : GRow} (h1 : As[d]? = some A) (h2 : Bs[d]? = some B) : difN (As.drop d) (Bs.drop d) = if A.before = B.before then 0 else difN (As.drop (d + 1)) (Bs.drop (d + 1)) + 1 := by
 rw [drop_at h1, drop_at h2, difN]
theorem difN_end {As Bs : List GRow} {d : Nat} (h : As.length <= d) : difN (As.drop d) (Bs.drop d) = 0 := by
 rw [List.drop_eq_nil_of_le h, difN]
 intros
 simp_all
theorem ar6 {k a j : Nat} (h : a + j < k) : k - (j + 1) < k - j := by omega
theorem ar7 {b j x : Nat} (h : b = j + (x + 1)) : b = j + 1 + x := by omega
theorem ar8 {a j f l b x : Nat} (e : l = f - a) (h : ¬ ((a : Int) + (j : Int) < (f : Int))) (hb : b <= f - a) (hj : b = j + x) : j = l := by omega
theorem ar10 {f a b : Nat} (h : a + b <= f) : (f : Int) - (a : Int) - (b : Int) = ((f - b - a : Nat) : Int) := by omega
theorem ar14 {x d n : Nat} (h : ((x + d : Nat) : Int) < (n : Int)) : d < n - x := by omega
theorem ar15 {x d n : Nat} (h : ¬ ((x + d : Nat) : Int) < (n : Int)) : n - x <= d := by omega
theorem ar12 {n d : Nat} (h : d < n) : n - (d + 1) < n - d := by omega
theorem ar9 {i k b : Nat} (h : b <= k) : (i : Int) + (k : Int) - (b : Int) = ((i + k - b : Nat) : Int) := by omega
def spCount : Sp := fun vs H Q _ => ∃ (l1 l2 lf : Addr) (Gs Gs' : List GRow) (fs tk : List Str) (i k ah bk : Nat), vs = [.ref l1, .ref l2, .int i, .int k, .ref lf] /\ KP H l1 Gs /\ KP H l2 Gs' /\ H lf = some (.lst (fs.map V.str)) /\ i + k <= Gs.length /\ Gs'.length = i + fs.length + (Gs.length - (i + k)) /\
 tk = ((Gs.map (·.row)).drop i).take k /\ ah = sameN tk fs /\ bk = sameN (tk.drop ah).reverse (fs.drop ah).reverse /\ Q (.int ((fs.length - bk - ah + difN (Gs'.drop (i + fs.length - bk)) (Gs.drop (i + k - bk)) : Nat) : Int)) H
theorem ok_q49 (T : Txt K mg t) : FnOk P w K mg base CX0 1 t.f_q49 t.d_q49 ["_law_former", "_law_kept", "_law_row_here", "_law_many", "_law_fresh_here"] spCount := by
 refine T.F_q49.ok sc_q49 ?_ ?_
 walk_at "i"
 ·obtain ⟨l1, l2, lf, Gs, Gs', fs, tk, i, k, ah, bk, rfl, ⟨ps, hl1, hA1⟩, ⟨ps', hl2, hA2⟩, hlf, hle, hl', htk, ea, eb, q⟩ := h
  have htl : tk.length = k := by rw [htk, List.length_take, List.length_drop, List.length_map]; omega
  have a1 := sameN_le tk fs
  have a2 := sameN_le (tk.drop ah).reverse (fs.drop ah).reverse
  rw [← ea] at a1
  rw [← eb, List.length_reverse, List.length_reverse, List.length_drop, List.length_drop] at a2
  have hbk : bk <= k := by omega
  have hbk2 : bk <= k - ah := by omega
  have hbf : ah + bk <= fs.length := by omega
  have hbf2 : bk <= fs.length := by omega
  have row : ∀ {j : Nat} {x : Str}, tk[j]? = some x -> ∃ p lo lt lk G, ps[i + j]? = some p /\ H p = some (.tup [.str x, .ref lo, .ref lt, .ref lk]) /\ Gs[i + j]? = some G /\ G.row = x := fun {j x} hx => by
   rw [htk, List.getElem?_take] at hx
   by_cases hj : j < k
   ·rw [if_pos hj, List.getElem?_drop, List.getElem?_map] at hx
    obtain ⟨G, hG, rfl⟩ := Option.map_eq_some_iff.mp hx
    obtain ⟨p, hp, lo, lt, lk, e1, _⟩ := hA1.at hG
    exact ⟨p, lo, lt, lk, G, hp, e1, hG, rfl⟩
   ·rw [if_neg hj] at hx; cases hx
  refine @at_cons _ _ _ _ _ _ _ (ps_set (i := 5) sc_q49.nd rfl (Or.inl rfl) pe_int) ?_
  refine @at_consR _ _ _ _ _ _ _ (fun Z' H' => H' = H /\ ∃ x6 x7 x8 x9, Z' = [some (.ref l1), some (.ref l2), some (.int i), some (.int k), some (.ref lf), some (.int ah), x6, x7, x8, x9]) (ps_while PassesOwn.never (PW.pt (pw_and (pt_cmpR op_lt (pv 5) (pv 3) (nomark _)) (pw_and (pt_cmpR op_lt (pv 5) (pe_callB call_len_seq (by rfl) T.z_len (by decide +kernel) (pa_cons (pv 4) pa_nil)) (nomark _)) (pw_and1 (pt_cmpR op_eq (pe_ix ix_tup (pe_ix ix_list (pv 0) (pe_op op_add (pv 2) (pv 5)) (fun _ _ => rfl)) pe_int (fun _ _ => rfl)) (pe_ix ix_list (pv 4) (pv 5) (fun _ _ => rfl)) (nomark _)))))) pss_at) ?_ ?_
  ·refine ⟨fun m Z' H' => ∃ j : Nat, (∃ x6 x7 x8 x9, Z' = [some (.ref l1), some (.ref l2), some (.int i), some (.int k), some (.ref lf), some (.int (j : Nat)), x6, x7, x8, x9]) /\ H' = H /\ m = k - j /\ ah = j + sameN (tk.drop j) (fs.drop j), ⟨_, 0, ⟨_, _, _, _, rfl⟩, rfl, rfl, by rw [List.drop_zero, List.drop_zero, ← ea]; omega⟩, ?_⟩
   rintro m Z' H' ⟨j, ⟨x6, x7, x8, x9, rfl⟩, rfl, rfl, hj⟩
   refine ⟨_, rfl, _, rfl, _, _, rfl, rfl, _, rfl, ifd (fun h1 => ?_) (fun h1 => ?_)⟩
   ·have h1 : j < k := by omega
    refine ⟨_, rfl, _, rfl, _, _, rfl, .inl (SqL.of hlf), _, _, rfl, rfl, _, rfl, ifd (fun h2 => ?_) (fun h2 => ?_)⟩
    ·rw [List.length_map] at h2
     have h2 : j < fs.length := by omega
     obtain ⟨x, hx⟩ : ∃ x, tk[j]? = some x := ⟨_, List.getElem?_eq_getElem (by omega)⟩
     obtain ⟨y, hy⟩ : ∃ y, fs[j]? = some y := ⟨_, List.getElem?_eq_getElem h2⟩
     obtain ⟨p, lo, lt, lk, G, hp, hpt, _, _⟩ := row hx
     rw [sameN_at hx hy] at hj
     refine ⟨_, rfl, _, rfl, _, rfl, _, _, rfl, rfl, _, _, _, _, rfl, rfl, SqL.of hl1, at_ref (k := i + j) hp, _, _, _, _, rfl, rfl, SqT.of hpt, rfl, _, rfl, _, rfl, _, _, _, _, rfl, rfl, SqL.of hlf, at_strs hy, rfl, _, rfl, ifd (fun h3 => ?_) (fun h3 => ?_)⟩
     ·injection h3 with h3
      rw [if_pos h3] at hj
      refine ⟨_, fun Z' H' z => z, @at_one _ _ _ _ _ _ (ps_set (i := 5) sc_q49.nd rfl (Or.inl rfl) (pe_op op_add (pv 5) pe_int)) ⟨_, rfl, _, _, rfl, rfl, k - (j + 1), by omega, j + 1, ⟨_, _, _, _, rfl⟩, rfl, rfl, by omega⟩⟩
     ·rw [if_neg (fun z => h3 (by rw [z]))] at hj
      exact ⟨rfl, _, _, _, _, by rw [show ah = j by omega]⟩
    ·rw [List.length_map] at h2
     rw [sameN_end (.inr (by omega))] at hj
     exact ⟨rfl, _, _, _, _, by rw [show ah = j by omega]⟩
   ·rw [sameN_end (.inl (by omega))] at hj
    exact ⟨rfl, _, _, _, _, by rw [show ah = j by omega]⟩
  rintro Z' H' ⟨rfl, x6, x7, x8, x9, rfl⟩
  obtain ⟨TT, hTT⟩ : ∃ TT, TT = (tk.drop ah).reverse := ⟨_, rfl⟩
  obtain ⟨FF, hFF⟩ : ∃ FF, FF = (fs.drop ah).reverse := ⟨_, rfl⟩
  have lT : TT.length = k - ah := by rw [hTT, List.length_reverse, List.length_drop, htl]
  have lF : FF.length = fs.length - ah := by rw [hFF, List.length_reverse, List.length_drop]
  have eb' : bk = sameN TT FF := by rw [hTT, hFF]; exact eb
  refine @at_cons _ _ _ _ _ _ _ (ps_set (i := 6) sc_q49.nd rfl (Or.inl rfl) pe_int) ?_
  refine @at_consR _ _ _ _ _ _ _ (fun Z' H2 => H2 = H' /\ ∃ x7 x8 x9, Z' = [some (.ref l1), some (.ref l2), some (.int i), some (.int k), some (.ref lf), some (.int ah), some (.int bk), x7, x8, x9]) (ps_while PassesOwn.never (PW.pt (pw_and (pt_cmpR op_lt (pe_op op_add (pv 5) (pv 6)) (pv 3) (nomark _)) (pw_and (pt_cmpR op_lt (pe_op op_add (pv 5) (pv 6)) (pe_callB call_len_seq (by rfl) T.z_len (by decide +kernel) (pa_cons (pv 4) pa_nil)) (nomark _)) (pw_and1 (pt_cmpR op_eq (pe_ix ix_tup (pe_ix ix_list (pv 0) (pe_op op_sub (pe_op op_sub (pe_op op_add (pv 2) (pv 3)) pe_int) (pv 6)) (fun _ _ => rfl)) pe_int (fun _ _ => rfl)) (pe_ix ix_list (pv 4) (pe_op op_sub (pe_un un_neg pe_int) (pv 6)) (fun _ _ => rfl)) (nomark _)))))) pss_at) ?_ ?_
  ·refine ⟨fun m Z' H2 => ∃ j : Nat, (∃ x7 x8 x9, Z' = [some (.ref l1), some (.ref l2), some (.int i), some (.int k), some (.ref lf), some (.int ah), some (.int (j : Nat)), x7, x8, x9]) /\ H2 = H' /\ m = k - j /\ bk = j + sameN (TT.drop j) (FF.drop j), ⟨_, 0, ⟨_, _, _, rfl⟩, rfl, rfl, by rw [List.drop_zero, List.drop_zero, ← eb']; omega⟩, ?_⟩
   rintro m Z' H2 ⟨j, ⟨x7, x8, x9, rfl⟩, rfl, rfl, hj⟩
   refine ⟨_, rfl, _, rfl, _, _, rfl, rfl, _, rfl, _, _, rfl, rfl, _, rfl, ifd (fun h1 => ?_) (fun h1 => ?_)⟩
   ·have h1 : ah + j < k := by omega
    refine ⟨_, rfl, _, rfl, _, _, rfl, rfl, _, rfl, _, _, rfl, .inl (SqL.of hlf), _, _, rfl, rfl, _, rfl, ifd (fun h2 => ?_) (fun h2 => ?_)⟩
    ·rw [List.length_map] at h2
     have h2 : ah + j < fs.length := by omega
     obtain ⟨x, hx⟩ : ∃ x, tk[tk.length - 1 - j]? = some x := ⟨_, List.getElem?_eq_getElem (by omega)⟩
     obtain ⟨y, hy⟩ : ∃ y, fs[fs.length - 1 - j]? = some y := ⟨_, List.getElem?_eq_getElem (by omega)⟩
     have hx' : TT[j]? = some x := by rw [hTT, rev_at (by omega)]; exact hx
     have hy' : FF[j]? = some y := by rw [hFF, rev_at (by omega)]; exact hy
     rw [htl] at hx
     obtain ⟨p, lo, lt, lk, G, hp, hpt, _, _⟩ := row hx
     rw [sameN_at hx' hy'] at hj
     have hat : atI (ps.map V.ref) ((i : Int) + (k : Int) - 1 - (j : Int)) = some (.ref p) := by
      rw [show ((i : Int) + (k : Int) - 1 - (j : Int)) = ((i + (k - 1 - j) : Nat) : Int) by omega]
      exact at_ref hp
     refine ⟨_, rfl, _, rfl, _, rfl, _, _, rfl, rfl, _, _, rfl, rfl, _, rfl, _, _, rfl, rfl, _, _, _, _, rfl, rfl, SqL.of hl1, hat, _, _, _, _, rfl, rfl, SqT.of hpt, rfl, _, rfl, _, rfl, _, rfl, _, _, rfl, rfl, _, _, _, _, rfl, rfl, SqL.of hlf, at_strs_neg hy (by omega), rfl, _, rfl, ifd (fun h3 => ?_) (fun h3 => ?_)⟩
     ·injection h3 with h3
      rw [if_pos h3] at hj
      refine ⟨_, fun Z' H' z => z, @at_one _ _ _ _ _ _ (ps_set (i := 6) sc_q49.nd rfl (Or.inl rfl) (pe_op op_add (pv 6) pe_int)) ⟨_, rfl, _, _, rfl, rfl, k - (j + 1), ar6 h1, j + 1, ⟨_, _, _, rfl⟩, rfl, rfl, ar7 hj⟩⟩
     ·rw [if_neg (fun z => h3 (by rw [z]))] at hj
      exact ⟨rfl, _, _, _, by rw [show bk = j from hj]⟩
    ·rw [List.length_map] at h2
     rw [sameN_end (.inr (ar8 lF h2 a2.2 hj))] at hj
     exact ⟨rfl, _, _, _, by rw [show bk = j from hj]⟩
   ·rw [sameN_end (.inl (ar8 lT h1 hbk2 hj))] at hj
    exact ⟨rfl, _, _, _, by rw [show bk = j from hj]⟩
  rintro Z' H2 ⟨rfl, x7, x8, x9, rfl⟩
  obtain ⟨AA, hAA⟩ : ∃ AA, AA = Gs'.drop (i + fs.length - bk) := ⟨_, rfl⟩
  obtain ⟨BB, hBB⟩ : ∃ BB, BB = Gs.drop (i + k - bk) := ⟨_, rfl⟩
  have lA : AA.length = Gs.length - (i + k - bk) := by rw [hAA, List.length_drop]; exact ar11 hle hl' hbf2 hbk
  have lB : BB.length = Gs.length - (i + k - bk) := by rw [hBB, List.length_drop]
  rw [← hAA, ← hBB] at q
  have hp1 := hA1.1
  have hp2 := hA2.1
  refine @at_consR _ _ _ _ _ _ _ (fun Z' H3 => H3 = H2 /\ ∃ x8 x9, Z' = [some (.ref l1), some (.ref l2), some (.int i), some (.int k), some (.ref lf), some (.int ah), some (.int bk), some (.int ((fs.length - bk - ah : Nat) : Int)), x8, x9]) (ps_set (i := 7) sc_q49.nd rfl (Or.inl rfl) (pe_op op_sub (pe_op op_sub (pe_callB call_len_seq (by rfl) T.z_len (by decide +kernel) (pa_cons (pv 4) pa_nil)) (pv 5)) (pv 6))) ⟨_, rfl, _, _, rfl, .inl (SqL.of hlf), _, rfl, _, _, rfl, rfl, _, rfl, _, _, rfl, rfl, rfl, x8, x9, ?_⟩ ?_
  ·show [_, _, _, _, _, _, _, some (V.int (((fs.map V.str).length : Int) - (ah : Int) - (bk : Int))), _, _] = _
   rw [List.length_map, show ((fs.length : Int) - (ah : Int) - (bk : Int)) = ((fs.length - bk - ah : Nat) : Int) from ar10 hbf]
  rintro Z' H3 ⟨rfl, x8, x9, rfl⟩
  refine @at_consR _ _ _ _ _ _ _ (fun Z' H4 => H4 = H3 /\ ∃ x9, Z' = [some (.ref l1), some (.ref l2), some (.int i), some (.int k), some (.ref lf), some (.int ah), some (.int bk), some (.int ((fs.length - bk - ah : Nat) : Int)), some (.int ((i + k - bk : Nat) : Int)), x9]) (ps_set (i := 8) sc_q49.nd rfl (Or.inl rfl) (pe_op op_sub (pe_op op_add (pv 2) (pv 3)) (pv 6))) ⟨_, rfl, _, rfl, _, _, rfl, rfl, _, rfl, _, _, rfl, rfl, rfl, x9, ?_⟩ ?_
  ·show [_, _, _, _, _, _, _, _, some (V.int ((i : Int) + (k : Int) - (bk : Int))), _] = _
   rw [show ((i : Int) + (k : Int) - (bk : Int)) = ((i + k - bk : Nat) : Int) from ar9 hbk]
  rintro Z' H4 ⟨rfl, x9, rfl⟩
  refine @at_consR _ _ _ _ _ _ _ (fun Z' H5 => H5 = H4 /\ Z' = [some (.ref l1), some (.ref l2), some (.int i), some (.int k), some (.ref lf), some (.int ah), some (.int bk), some (.int ((fs.length - bk - ah : Nat) : Int)), some (.int ((i + k - bk : Nat) : Int)), some (.int ((i + fs.length - bk : Nat) : Int))]) (ps_set (i := 9) sc_q49.nd rfl (Or.inl rfl) (pe_op op_sub (pe_op op_add (pv 2) (pe_callB call_len_seq (by rfl) T.z_len (by decide +kernel) (pa_cons (pv 4) pa_nil))) (pv 6))) ⟨_, rfl, _, rfl, _, _, rfl, .inl (SqL.of hlf), _, _, rfl, rfl, _, rfl, _, _, rfl, rfl, rfl, ?_⟩ ?_
  ·show [_, _, _, _, _, _, _, _, _, some (V.int ((i : Int) + ((fs.map V.str).length : Int) - (bk : Int)))] = _
   rw [List.length_map, show ((i : Int) + (fs.length : Int) - (bk : Int)) = ((i + fs.length - bk : Nat) : Int) from ar9 hbf2]
  rintro Z' H5 ⟨rfl, rfl⟩
  refine @at_consR _ _ _ _ _ _ _ (fun Z' H6 => H6 = H5 /\ ∃ x8 x9, Z' = [some (.ref l1), some (.ref l2), some (.int i), some (.int k), some (.ref lf), some (.int ah), some (.int bk), some (.int ((fs.length - bk - ah + difN AA BB : Nat) : Int)), x8, x9]) (ps_while PassesOwn.never (PW.pt (pw_and (pt_cmpR op_lt (pv 9) (pe_callB call_len_seq (by rfl) T.z_len (by decide +kernel) (pa_cons (pv 1) pa_nil)) (nomark _)) (pw_and1 (pt_cmpR (op_neLs (Nat.lt_of_succ_lt (hu_of hr))) (pe_ix ix_tup (pe_ix ix_list (pv 1) (pv 9) (fun _ _ => rfl)) pe_int (fun _ _ => rfl)) (pe_ix ix_tup (pe_ix ix_list (pv 0) (pv 8) (fun _ _ => rfl)) pe_int (fun _ _ => rfl)) (nomark _))))) pss_at) ?_ ?_
  ·refine ⟨fun m Z' H6 => ∃ d : Nat, Z' = [some (.ref l1), some (.ref l2), some (.int i), some (.int k), some (.ref lf), some (.int ah), some (.int bk), some (.int ((fs.length - bk - ah + d : Nat) : Int)), some (.int ((i + k - bk + d : Nat) : Int)), some (.int ((i + fs.length - bk + d : Nat) : Int))] /\ H6 = H5 /\ m = AA.length - d /\ difN AA BB = d + difN (AA.drop d) (BB.drop d), ⟨_, 0, rfl, rfl, rfl, by rw [List.drop_zero, List.drop_zero]; omega⟩, ?_⟩
   rintro m Z' H6 ⟨d, rfl, rfl, rfl, hd⟩
   have hdl := difN_le AA BB
   refine ⟨_, rfl, _, rfl, _, _, rfl, .inl (SqL.of hl2), _, _, rfl, rfl, _, rfl, ifd (fun h1 => ?_) (fun h1 => ?_)⟩
   ·rw [List.length_map] at h1
    have h1 : d < AA.length := by rw [hAA, List.length_drop, ← hp2]; exact ar14 h1
    obtain ⟨A, hA⟩ : ∃ A, AA[d]? = some A := ⟨_, List.getElem?_eq_getElem h1⟩
    obtain ⟨B, hB⟩ : ∃ B, BB[d]? = some B := ⟨_, List.getElem?_eq_getElem (by rw [lB, ← lA]; exact h1)⟩
    rw [difN_at hA hB] at hd
    rw [hAA, List.getElem?_drop] at hA
    rw [hBB, List.getElem?_drop] at hB
    obtain ⟨p, hp, lo, lt, lk, e1, e2, _⟩ := hA1.at hB
    obtain ⟨p', hp', lo', lt', lk', e1', e2', _⟩ := hA2.at hA
    refine ⟨_, rfl, _, rfl, _, _, _, _, rfl, rfl, SqL.of hl2, at_ref hp', _, _, _, _, rfl, rfl, SqT.of e1', rfl, _, rfl, _, rfl, _, _, _, _, rfl, rfl, SqL.of hl1, at_ref hp, _, _, _, _, rfl, rfl, SqT.of e1, rfl, lo', lo, _, _, rfl, rfl, SqL.of e2', SqL.of e2, plain_nats _ _, _, rfl, ifnd (fun h3 => ?_) (fun h3 => ?_)⟩
    ·rw [if_neg (fun z => h3 (by rw [z]))] at hd
     refine ⟨_, fun Z' H' z => z, @at_cons _ _ _ _ _ _ _ (ps_set (i := 7) sc_q49.nd rfl (Or.inl rfl) (pe_op op_add (pv 7) pe_int)) ⟨_, rfl, _, _, rfl, rfl, @at_cons _ _ _ _ _ _ _ (ps_set (i := 8) sc_q49.nd rfl (Or.inl rfl) (pe_op op_add (pv 8) pe_int)) ⟨_, rfl, _, _, rfl, rfl, @at_one _ _ _ _ _ _ (ps_set (i := 9) sc_q49.nd rfl (Or.inl rfl) (pe_op op_add (pv 9) pe_int)) ⟨_, rfl, _, _, rfl, rfl, AA.length - (d + 1), ar12 h1, d + 1, rfl, rfl, rfl, ar7 hd⟩⟩⟩⟩
    ·rw [if_pos (natV_inj h3)] at hd
     exact ⟨rfl, _, _, by rw [show difN AA BB = d from hd]⟩
   ·rw [List.length_map] at h1
    rw [difN_end (by rw [hAA, List.length_drop, ← hp2]; exact ar15 h1)] at hd
    exact ⟨rfl, _, _, by rw [show difN AA BB = d from hd]⟩
  rintro Z' H6 ⟨rfl, x8, x9, rfl⟩
  exact @at_one _ _ _ _ _ _ (ps_ret (pv 7)) ⟨_, rfl, q⟩
def FineRs (rs : List Str) : Prop := ∀ x ∈ rs, x.length <= 8 /\ ∀ c ∈ x.cps.toList, c ∈ sg6
theorem FineRs.app {rs rs' : List Str} (h : FineRs rs) (h' : FineRs rs') : FineRs (rs ++ rs') := fun x hx => (List.mem_append.mp hx).elim (h x) (h' x)
theorem FineRs.take {rs : List Str} (h : FineRs rs) (n : Nat) : FineRs (rs.take n) := fun x hx => h x (List.mem_of_mem_take hx)
theorem FineRs.drop {rs : List Str} (h : FineRs rs) (n : Nat) : FineRs (rs.drop n) := fun x hx => h x (List.mem_of_mem_drop hx)
def spFresh (K : PySem.W.Frag) : Sp := fun vs H Q _ => ∃ (a : Addr) (ns : List Int) (b : Int) (lr : Addr) (rs : List Str) (i k : Nat), vs = [.ref a, .int b, .ref lr, .int i, .int k] /\ SqL K H a (ns.map V.int) /\ ns.length <= 63 /\ 0 <= b /\ b <= 40000 /\ H lr = some (.lst (rs.map V.str)) /\ FineRs rs /\ i + k <= rs.length /\ rs.length <= 1000 /\
 ∀ lf fs H', H' lf = some (.lst (fs.map V.str)) -> H lf = none -> FineRs fs -> fs.length <= 3 + k -> Same H H' -> Q (.ref lf) H'
theorem ok_q54 (T : Txt K mg t) : FnOk P w K mg base CX0 3 t.f_q54 t.d_q54 ["_law_script", "_law_base", "_law_rows", "_law_row_here", "_law_many"] (spFresh K) := by
 refine T.F_q54.ok sc_q54 ?_ ?_
 walk_at "i"
 ·obtain ⟨a, ns, b, lr, rs, i, k, rfl, hS, hl, hb0, hb1, hlr, hG, hle, hrl, q⟩ := h
  have sz := sizeLine_eq
  refine @at_consR _ _ _ _ _ _ _ (fun Z' H' => ∃ lf fs, Z' = [some (.ref a), some (.int b), some (.ref lr), some (.int i), some (.int k), some (.ref lf), none] /\ H' lf = some (.lst (fs.map V.str)) /\ H lf = none /\ FineRs fs /\ fs.length <= 3 /\ Same H H') (@ps_setC _ 5 _ (defScope s_q54) _ ["_law_script", "_law_base", "_law_rows", "_law_row_here", "_law_many", "_law_fresh_here", "_law_keep"] _ _ ("_law_k") _ _ _ _ [("_law_script", 0), ("_law_base", 1)] _ _ sc_q54.nd rfl (Or.inl rfl) (by walk_at "ck") (@pi_range1 _ _ _ _ _ _ rfl T.z_range (@pa_cons _ _ _ _ _ (@pe_call _ _ _ _ _ _ _ _ _ _ _ _ _ _ _ _ (ok_q51 T) (hr.mono (by decide)) rfl T.mg_q51 T.F_q51.kp (T.F_q51.binds (by walk_at "3")) .nil pass0 (@pa_cons _ _ _ _ _ (pv 0) (@pa_cons _ _ _ _ _ (pv 1) (@pa_cons _ _ _ _ _ pe_int pa_nil (by left)) (by left)) (by left)) (by left) (by left) (by left)) pa_nil (by left)) (by left)) (fun _ _ _ _ => by exact (@pe_call _ _ _ _ _ _ _ _ _ _ _ _ _ _ _ _ (ok_q58 T) (hr.mono (by decide)) rfl T.mg_q58 T.F_q58.kp (T.F_q58.binds (by walk_at "3")) .nil pass0 (@pa_cons _ _ _ _ _ (pv 0) (@pa_cons _ _ _ _ _ (@pe_op _ _ _ _ _ _ _ _ op_add (@pe_op _ _ _ _ _ _ _ _ op_add (pv 1) pe_int) (@pe_op _ _ _ _ _ _ _ _ op_mul pe_int (pv 2))) (@pa_cons _ _ _ _ _ pe_int pa_nil (by left)) (by left)) (by left)) (by left) (by left) (by left))) (by left) (by left) (by left) (by left) (by left) (by left)) ?_ ?_
  ·refine ⟨_, rfl, _, rfl, a, ns, _, _, rfl, hS, hb0, (by omega), (by decide), hl, fun d H1 h0 h1 s1 => ?_⟩
   refine ⟨d, rfl, by omega, by omega, comp_range (n := d.toNat) (fun j ys H2 => ∃ fs : List Str, ys = fs.map V.str /\ FineRs fs /\ Same H H2) ⟨[], rfl, (fun x hx => by simp at hx), s1⟩ (sl_lt (by omega)) ?_ ?_⟩
   ·rintro j ys H2 hj hyl ⟨fs, rfl, hfs, s2⟩
    refine ⟨_, rfl, _, rfl, _, _, rfl, rfl, _, rfl, _, _, rfl, rfl, .inl ⟨by decide, by decide⟩, _, _, rfl, rfl, a, ns, _, 8, rfl, hS.same s2, hl, (by omega), (by omega), (by decide), (by decide), fun z H3 z1 z2 s3 => comp_turn hj hyl ⟨fs ++ [z], by rw [List.map_append]; rfl, ?_, s2.trans s3⟩⟩
    refine hfs.app fun x hx => ?_
    rw [List.mem_singleton.mp hx]; exact ⟨by omega, z2⟩
   ·rintro ys H2 hyl ⟨fs, rfl, hfs, s2⟩ D hD
    rw [List.length_map] at hyl
    exact ⟨D, fs, rfl, upd_same, s2.free hD, hfs, by omega, s2.to hD⟩
  rintro Z' H1 ⟨lf, fs, rfl, hlf, f1, hfs, hfl, s1⟩
  refine @at_cons _ _ _ _ _ _ _ (ps_set (i := 6) sc_q54.nd rfl (Or.inl rfl) (pe_call (ok_q51 T) (hr.mono (by decide)) rfl T.mg_q51 T.F_q51.kp (T.F_q51.binds (by walk_at "3")) .nil pass0 (pa_cons (pv 0) (pa_cons (pe_op op_add (pv 1) pe_int) (pa_cons (pe_op op_add (pv 4) pe_int) pa_nil))))) ⟨_, rfl, _, rfl, _, _, rfl, rfl, _, rfl, _, _, rfl, rfl, a, ns, _, _, rfl, hS.same s1, (by omega), (by omega), (by omega), hl, fun e H2 h0 h1 s2 => ?_⟩
  obtain ⟨kp, rfl⟩ : ∃ kp : Nat, e = kp := ⟨e.toNat, by omega⟩
  have hlf2 := s2 _ _ hlf
  have s2 := s1.trans s2
  clear hlf s1
  refine @at_consR _ _ _ _ _ _ _ (fun Z' H' => ∃ lf fs, Z' = [some (.ref a), some (.int b), some (.ref lr), some (.int i), some (.int k), some (.ref lf), some (.int kp)] /\ H' lf = some (.lst (fs.map V.str)) /\ H lf = none /\ FineRs fs /\ fs.length <= 3 + kp /\ Same H H') (ps_if (pt_cmpR op_eq (pe_call (ok_q51 T) (hr.mono (by decide)) rfl T.mg_q51 T.F_q51.kp (T.F_q51.binds (by walk_at "3")) .nil pass0 (pa_cons (pv 0) (pa_cons (pe_op op_add (pv 1) pe_int) (pa_cons pe_int pa_nil)))) pe_int (nomark _)) pss_at pss_at) ?_ ?_
  ·refine ⟨_, rfl, _, rfl, _, _, rfl, rfl, a, ns, _, _, rfl, hS.same s2, (by omega), (by omega), (by decide), hl, fun d H3 _ _ s3 => ⟨rfl, _, rfl, ifd (fun h => ?_) (fun h => at_nil ⟨lf, fs, rfl, s3 _ _ hlf2, f1, hfs, by omega, s2.trans s3⟩)⟩⟩
   have s3' := s2.trans s3
   refine @at_one _ _ _ _ _ _ (ps_set (i := 5) sc_q54.nd rfl (Or.inl rfl) (pe_op op_cat (pe_slice sl_list (pv 2) (po_some (pv 3)) (po_some (pe_op op_add (pv 3) (pv 6)))) (pv 5))) ⟨_, rfl, _, rfl, _, rfl, _, rfl, _, rfl, _, _, rfl, rfl, _, rfl, lr, _, rfl, SqL.of (s3' _ _ hlr), fun l1 g1 => ⟨_, rfl, l1, lf, _, _, rfl, rfl, upd_same, Same.upd g1 _ _ (s3 _ _ hlf2), ?_, fun l2 g2 => ⟨l2, (rs.drop i).take kp ++ fs, rfl, ?_, (s3'.trans (Same.upd g1)).free g2, (((hG.drop i).take kp).app hfs), ?_, (s3'.trans (Same.upd g1)).to g2⟩⟩⟩
   ·have := cutV_length (rs.map V.str) (some (i : Int)) (some ((i : Int) + (kp : Int)))
    rw [List.length_map] at this
    have h2 : (cutV (rs.map V.str) (some (i : Int)) (some ((i : Int) + (kp : Int)))).length + (fs.map V.str).length <= sizeLine := by rw [List.length_map]; omega
    exact h2
   ·have e2 : cutV (rs.map V.str) (some (i : Int)) (some ((i : Int) + (kp : Int))) = ((rs.drop i).take kp).map V.str := by
     rw [← Int.natCast_add, cut_nat (by rw [List.length_map]; omega) (by omega), List.map_take, List.map_drop]
     congr 1
     omega
    rw [upd_same, List.map_append, ← e2]
   ·rw [List.length_append, List.length_take]; omega
  clear hlf2 f1 hfs hfl
  rintro Z' H3 ⟨lf, fs, rfl, hlf3, f1, hfs, hfl, s3⟩
  refine @at_consR _ _ _ _ _ _ _ (fun Z' H' => ∃ lf fs x6, Z' = [some (.ref a), some (.int b), some (.ref lr), some (.int i), some (.int k), some (.ref lf), x6] /\ H' lf = some (.lst (fs.map V.str)) /\ H lf = none /\ FineRs fs /\ fs.length <= 3 + k /\ Same H H') (ps_if (pt_cmpR op_eq (pe_call (ok_q51 T) (hr.mono (by decide)) rfl T.mg_q51 T.F_q51.kp (T.F_q51.binds (by walk_at "3")) .nil pass0 (pa_cons (pv 0) (pa_cons (pe_op op_add (pv 1) pe_int) (pa_cons pe_int pa_nil)))) pe_int (nomark _)) pss_at pss_at) ?_ ?_
  ·refine ⟨_, rfl, _, rfl, _, _, rfl, rfl, a, ns, _, _, rfl, hS.same s3, (by omega), (by omega), (by decide), hl, fun d H4 _ _ s4 => ⟨rfl, _, rfl, ifd (fun h => ?_) (fun h => at_nil ⟨lf, fs, _, rfl, s4 _ _ hlf3, f1, hfs, by omega, s3.trans s4⟩)⟩⟩
   have s4' := s3.trans s4
   refine @at_one _ _ _ _ _ _ (ps_set (i := 5) sc_q54.nd rfl (Or.inl rfl) (pe_op op_cat (pv 5) (pe_slice sl_list (pv 2) (po_some (pe_op op_add (pv 3) (pv 6))) (po_some (pe_op op_add (pv 3) (pv 4)))))) ⟨_, rfl, _, rfl, _, rfl, _, rfl, _, _, rfl, rfl, _, rfl, _, rfl, _, rfl, _, _, rfl, rfl, _, rfl, lr, _, rfl, SqL.of (s4' _ _ hlr), fun l1 g1 => ⟨lf, l1, _, _, rfl, rfl, Same.upd g1 _ _ (s4 _ _ hlf3), upd_same, ?_, fun l2 g2 => ⟨l2, fs ++ (rs.drop (i + kp)).take (k - kp), _, rfl, ?_, (s4'.trans (Same.upd g1)).free g2, (hfs.app ((hG.drop (i + kp)).take (k - kp))), ?_, (s4'.trans (Same.upd g1)).to g2⟩⟩⟩
   ·have := cutV_length (rs.map V.str) (some ((i : Int) + (kp : Int))) (some ((i : Int) + (k : Int)))
    rw [List.length_map] at this
    have h2 : (fs.map V.str).length + (cutV (rs.map V.str) (some ((i : Int) + (kp : Int))) (some ((i : Int) + (k : Int)))).length <= sizeLine := by rw [List.length_map]; omega
    exact h2
   ·have e2 : cutV (rs.map V.str) (some ((i : Int) + (kp : Int))) (some ((i : Int) + (k : Int))) = ((rs.drop (i + kp)).take (k - kp)).map V.str := by
     rw [← Int.natCast_add, ← Int.natCast_add, cut_nat (by rw [List.length_map]; omega) (by omega), List.map_take, List.map_drop]
     congr 1
     omega
    rw [upd_same, List.map_append, ← e2]
   ·rw [List.length_append, List.length_take]; omega
  rintro Z' H4 ⟨lf, fs, x6, rfl, hlf4, f1, hfs, hfl, s4⟩
  exact @at_one _ _ _ _ _ _ (ps_ret (pv 5)) ⟨_, rfl, q lf fs H4 hlf4 f1 hfs hfl s4⟩
def spLaw (K : PySem.W.Frag) : Sp := fun vs H Q _ => ∃ (a : Addr) (ns : List Int), vs = [.ref a] /\ SqL K H a (ns.map V.int) /\ ns.length <= 63 /\ ∀ H', Q (.bl true) H'
theorem on0 {ms : List ModeM} (h : 0 < ms.length) : OnOk ms [0] := ⟨by simp, fun x hx => by rw [List.mem_singleton.mp hx]; exact h⟩
theorem w0 {ms : List ModeM} (h : ms.length <= 4) : max (wsum ms.length [0]) 4 <= 4 := by rw [wsum_one]; omega
theorem same_hid {S : Addr -> Prop} {G H : Hp} (s : Same G H) (h : ∀ b o, G b = some o -> ¬ S b) : Same G (hid S H) := fun b o e => hid_of (s _ _ e) (h b o e)
theorem KP.apart {H : Hp} {x l C dx : Addr} {fs : List (Str × V)} {Gs : List GRow} (h : KP H l Gs) (hx : H x = some (.ins C dx fs)) : KP (hid (fun c => c = x) H) l Gs := by
 obtain ⟨ps, h1, h2⟩ := h
 refine ⟨ps, K32.apart hx h1 (fun _ _ _ z => by cases z), h2.mono fun p G ⟨lo, lt, lk, e1, e2, e3, ms, e4, e5⟩ => ?_⟩
 exact ⟨lo, lt, lk, K32.apart hx e1 (fun _ _ _ z => by cases z), K32.apart hx e2 (fun _ _ _ z => by cases z), K32.apart hx e3 (fun _ _ _ z => by cases z), ms, K32.apart hx e4 (fun _ _ _ z => by cases z), e5.mono fun p m h => K32.apart hx h (fun _ _ _ z => by cases z)⟩
structure Stand (t : Adr) (K : PySem.W.Frag) (ms : List ModeM) (ns : List Int) (n : Nat) (H : Hp) (a lm lr x dx lq : Addr) (rs : List Str) (Gs : List GRow) : Prop where
 sc : SqL K (hid (fun c => c = x) H) a (ns.map V.int)
 lm : LMs (hid (fun c => c = x) H) lm ms
 lr : hid (fun c => c = x) H lr = some (.lst (rs.map V.str))
 fine : FineRs rs
 pos : rs ≠ []
 len : rs.length <= n
 ti : ∃ a1 lg gs, IsTintAt t H x dx a1 lg gs ms Gs
 ch : Chain ms [0] rs Gs
 kp : KP (hid (fun c => c = x) H) lq Gs
theorem ok_law {f : Addr} {fd : FuncData} (F : Fun K "law" "law" s_law f fd) (T : Txt K mg t) : FnOk P w K mg base CX0 9 f fd ["_law_script"] (spLaw K) := by
 refine F.ok sc_law ?_ ?_
 walk_at "i"
 ·obtain ⟨a, ns, rfl, hS, hl, q⟩ := h
  refine @at_cons _ _ _ _ _ _ _ (ps_set (i := 1) sc_law.nd rfl (Or.inl rfl) (pe_call (ok_q56 T) (hr.mono (by decide)) rfl T.mg_q56 T.F_q56.kp (T.F_q56.binds (by walk_at "2")) .nil pass0 (pa_cons (pv 0) (pa_cons pe_int pa_nil)))) ⟨_, rfl, a, ns, _, rfl, hS, hl, (by decide), (by decide), fun ms lm H1 L hL s1 => ?_⟩
  obtain ⟨calm, B⟩ := L.b
  refine @at_cons _ _ _ _ _ _ _ (ps_set (i := 2) sc_law.nd rfl (Or.inl rfl) (pe_call (ok_q79 T) (hr.mono (by decide)) rfl T.mg_q79 T.F_q79.kp (T.F_q79.binds (by walk_at "1")) .nil pass0 (pa_cons (pe_call (ok_q62 T) (hr.mono (by decide)) rfl T.mg_q62 T.F_q62.kp (T.F_q62.binds (by walk_at "1")) .nil pass0 (pa_cons (pv 1) pa_nil)) pa_nil))) ⟨_, rfl, lm, ms, calm, rfl, hL, B, fun H2 s2 => ⟨itemsOf ms, rfl, B.items, (by have := B.len28; omega), fun r H3 hR s3 => ?_⟩⟩
  rw [fold_items] at hR
  have hL3 := hL.same (s2.trans s3)
  have hS3 := hS.same (s1.trans (s2.trans s3))
  clear hL s1 s2 s3 hS
  show At _ _ _ [some (.ref a), some (.ref lm), some (.ref r), none, none, none, none, none, none, none, none, none, none, none] H3
  refine @at_consR _ _ _ _ _ _ _ (fun Z' H' => ∃ z : Nat, 0 < z /\ z <= 30 /\ Z' = [some (.ref a), some (.ref lm), some (.ref r), some (.int z), none, none, none, none, none, none, none, none, none, none] /\ Same H3 H') (ps_set (i := 3) sc_law.nd rfl (Or.inl rfl) (pe_ix ix_list (pe_lst (pa_cons pe_int (pa_cons pe_int (pa_cons pe_int (pa_cons pe_int pa_nil))))) (pe_call (ok_q51 T) (hr.mono (by decide)) rfl T.mg_q51 T.F_q51.kp (T.F_q51.binds (by walk_at "3")) .nil pass0 (pa_cons (pv 0) (pa_cons pe_int (pa_cons pe_int pa_nil)))) (fun _ _ => rfl))) ?_ ?_
  ·refine ⟨by show 4 <= sizeLine; decide, fun l0 hl0 => ⟨_, rfl, a, ns, _, _, rfl, hS3.same (Same.upd hl0), (by decide), (by decide), (by decide), hl, fun d H4 h0 h1 s4 => ?_⟩⟩
   obtain ⟨dn, rfl⟩ : ∃ dn : Nat, d = dn := ⟨d.toNat, by omega⟩
   have hdn : dn < 4 := by omega
   obtain ⟨z, z0, z1, hz⟩ : ∃ z : Nat, 0 < z /\ z <= 30 /\ atI [V.int 6, V.int 6, V.int 6, V.int 30] (dn : Int) = some (.int (z : Int)) := by
    rcases dn with _ | _ | _ | _ | dn
    ·exact ⟨6, by decide, by decide, rfl⟩
    ·exact ⟨6, by decide, by decide, rfl⟩
    ·exact ⟨6, by decide, by decide, rfl⟩
    ·exact ⟨30, by decide, by decide, rfl⟩
    ·omega
   exact ⟨_, _, _, _, rfl, rfl, SqL.of (s4 _ _ upd_same), hz, z, z0, z1, rfl, (Same.upd hl0).trans s4⟩
  rintro Z' H4 ⟨z, hz0, hz1, rfl, s4⟩
  have hS4 := hS3.same s4
  have hL4 := hL3.same s4
  have hR4 := hR.same s4
  refine @at_consR _ _ _ _ _ _ _ (fun Z' H' => ∃ (rs : List Str) (lr : Addr), rs ≠ [] /\ rs.length <= 30 /\ FineRs rs /\ H' lr = some (.lst (rs.map V.str)) /\ Z' = [some (.ref a), some (.ref lm), some (.ref r), some (.int z), some (.ref lr), none, none, none, none, none, none, none, none, none] /\ Same H4 H') (@ps_setC _ 4 _ (defScope s_law) _ ["_law_script", "_law_modes_here", "_law_rules", "_law_size", "_law_rows", "_law_text_here", "_law_kept", "_law_k", "_law_row_here", "_law_many", "_law_fresh_here", "_law_handed", "_law_count_here", "_law_former"] _ _ ("_law_k") _ _ _ _ [("_law_script", 0)] _ _ sc_law.nd rfl (Or.inl rfl) (by walk_at "ck") (@pi_range1 _ _ _ _ _ _ rfl T.z_range (@pa_cons _ _ _ _ _ (@pe_op _ _ _ _ _ _ _ _ op_add pe_int (@pe_call _ _ _ _ _ _ _ _ _ _ _ _ _ _ _ _ (ok_q51 T) (hr.mono (by decide)) rfl T.mg_q51 T.F_q51.kp (T.F_q51.binds (by walk_at "3")) .nil pass0 (@pa_cons _ _ _ _ _ (pv 0) (@pa_cons _ _ _ _ _ pe_int (@pa_cons _ _ _ _ _ (pv 3) pa_nil (by left)) (by left)) (by left)) (by left) (by left) (by left))) pa_nil (by left)) (by left)) (fun _ _ _ _ => by exact (@pe_call _ _ _ _ _ _ _ _ _ _ _ _ _ _ _ _ (ok_q58 T) (hr.mono (by decide)) rfl T.mg_q58 T.F_q58.kp (T.F_q58.binds (by walk_at "3")) .nil pass0 (@pa_cons _ _ _ _ _ (pv 0) (@pa_cons _ _ _ _ _ (@pe_op _ _ _ _ _ _ _ _ op_add pe_int (@pe_op _ _ _ _ _ _ _ _ op_mul pe_int (pv 1))) (@pa_cons _ _ _ _ _ pe_int pa_nil (by left)) (by left)) (by left)) (by left) (by left) (by left))) (by left) (by left) (by left) (by left) (by left) (by left)) ?_ ?_
  ·refine ⟨_, rfl, _, rfl, a, ns, _, _, rfl, hS4, (by decide), (by decide), (by omega), hl, fun d H5 h0 h1 s5 => ⟨_, _, rfl, rfl, ?_⟩⟩
   refine ⟨1 + d, rfl, by omega, by omega, comp_range (n := (1 + d).toNat) (fun j ys H6 => ∃ rs : List Str, ys = rs.map V.str /\ FineRs rs /\ Same H4 H6) ⟨[], rfl, (fun x hx => by simp at hx), s5⟩ (sl_lt (by omega)) ?_ ?_⟩
   ·rintro j ys H6 hj hyl ⟨rs, rfl, hrs, s6⟩
    refine ⟨_, rfl, _, rfl, _, _, rfl, rfl, .inl ⟨by decide, by decide⟩, _, _, rfl, rfl, a, ns, _, 9, rfl, hS4.same s6, hl, (by omega), (by omega), (by decide), (by decide), fun z H7 z1 z2 s7 => comp_turn hj hyl ⟨rs ++ [z], by rw [List.map_append]; rfl, ?_, s6.trans s7⟩⟩
    refine hrs.app fun x hx => ?_
    rw [List.mem_singleton.mp hx]; exact ⟨by omega, z2⟩
   ·rintro ys H6 hyl ⟨rs, rfl, hrs, s6⟩ D hD
    rw [List.length_map] at hyl
    exact ⟨rs, D, (fun z => by rw [z] at hyl; simp at hyl; omega), by omega, hrs, upd_same, rfl, s6.to hD⟩
  rintro Z' H5 ⟨rs, lr, hne, hrl, hrs, hlr, rfl, s5⟩
  have hS5 := hS4.same s5
  have hL5 := hL4.same s5
  have hR5 := hR4.same s5
  obtain ⟨Gs, hC⟩ := chain_ex L rs [0] 4 8 hrs (by decide) (on0 B.pos) (w0 B.four) (by omega)
  have hGl := hC.len
  refine @at_cons _ _ _ _ _ _ _ (ps_set (i := 5) sc_law.nd rfl (Or.inl rfl) (pe_make T.mk_Tinted (ok_q26 T) (hr.mono (by decide)) rfl T.mgc_Tinted (T.F_q26.binds (by walk_at "3")) .nil pass0 (pa_cons (pv 2) (pa_cons (pv 4) pa_nil)))) ⟨_, rfl, _, rfl, fun x dx nx ndx ne => ⟨x, dx, r, lr, fun _ => False, ms, rs, Gs, rfl, upd_same, (fun z => z), Ex.none _, ?_, B.goodMs, L.ring, mk_same0 nx ndx _ _ hlr, by omega, hC, fun a1 lg gs H6 I6 f6 a6 => ⟨rfl, ?_⟩⟩⟩
  ·exact hR5.same (same_hid (mk_same0 nx ndx) fun b o e z => z.elim (fun z => z) (fun z => ne_of_none e nx z))
  have s6 : Same H5 H6 := fun b o hb => a6 b o (mk_same0 nx ndx _ _ hb) (ne_of_none hb nx)
  have I6 := I6.same hid_same
  refine @at_cons _ _ _ _ _ _ _ (ps_set (i := 6) sc_law.nd rfl (Or.inl rfl) (pe_call (ok_q63 T) (hr.mono (by decide)) rfl T.mg_q63 T.F_q63.kp (T.F_q63.binds (by walk_at "2")) .nil pass0 (pa_cons (pv 1) (pa_cons (pv 4) pa_nil)))) ⟨_, rfl, _, rfl, fun _ => False, lm, lr, ms, rs, Gs, rfl, (fun _ z => z.elim), hL5.same s6, L.wk, s6 _ _ hlr, by omega, hC, fun lq H7 hK7 f7 s7 => ?_⟩
  have hK7 := hK7.same hid_same
  have I7 := I6.same s7
  have s57 : Same H5 (hid (fun c => c = x) H7) := same_hid (s6.trans s7) fun b o e z => ne_of_none e nx z
  have st0 : Stand t K ms ns 30 H7 a lm lr x dx lq rs Gs := ⟨hS5.same s57, hL5.same s57, s57 _ _ hlr, hrs, hne, hrl, ⟨a1, lg, gs, I7⟩, hC, hK7.apart I7.ob⟩
  clear hS5 hL5 hR5 hS4 hL4 hR4 hS3 hL3 hR I6 I7 hK7 s57 s6 s5 s4 s7 hlr hrs hne hrl hC hGl a6 f6 f7
  refine @at_consR _ _ _ _ _ _ _ (fun Z' H' => True) (ps_forA PassesOwn.never rfl (pi_range1 rfl T.z_range (pa_cons pe_int pa_nil)) (pg_name (i := 7) sc_law.nd rfl (Or.inl rfl)) pss_at) ?_ ?_
  ·refine ⟨8, rfl, by decide, by decide, forW_range (n := 8) (fun j Z' H' => ∃ lr lq rs Gs, (∃ x7 x8 x9 x10 x11 x12 x13, Z' = [some (.ref a), some (.ref lm), some (.ref r), some (.int z), some (.ref lr), some (.ref x), some (.ref lq), x7, x8, x9, x10, x11, x12, x13]) /\ Stand t K ms ns (30 + 3 * j) H' a lm lr x dx lq rs Gs) ⟨lr, lq, rs, Gs, ⟨_, _, _, _, _, _, _, rfl⟩, st0⟩ ?_ ?_⟩
   ·rintro j Z' H0 hj ⟨lr, lq, rs, Gs, ⟨x7, x8, x9, x10, x11, x12, x13, rfl⟩, St⟩
    obtain ⟨a1, lg, gs, I⟩ := St.ti
    have hS := St.sc.same hid_same
    have hlr := hid_same _ _ St.lr
    have hlen := St.len
    have hC := St.ch
    have hGl := hC.len
    have hp := List.length_pos_iff.mpr St.pos
    refine @at_cons _ _ _ _ _ _ _ (ps_set (i := 8) sc_law.nd rfl (Or.inl rfl) (pe_call (ok_q51 T) (hr.mono (by decide)) rfl T.mg_q51 T.F_q51.kp (T.F_q51.binds (by walk_at "3")) .nil pass0 (pa_cons (pv 0) (pa_cons (pe_op op_add pe_int (pe_op op_mul pe_int (pv 7))) (pa_cons (pe_op op_add (pe_callB call_len_seq (by rfl) T.z_len (by decide +kernel) (pa_cons (pv 4) pa_nil)) pe_int) pa_nil))))) ⟨_, rfl, _, rfl, _, _, rfl, rfl, .inl ⟨by decide, by decide⟩, _, _, rfl, rfl, _, rfl, _, _, rfl, .inl (SqL.of hlr), _, _, rfl, rfl, a, ns, _, _, rfl, hS, (by omega), (by omega), (by omega), hl, fun d H1 h0 h1 s1 => ?_⟩
    obtain ⟨i, rfl⟩ : ∃ i : Nat, d = i := ⟨d.toNat, by omega⟩
    rw [List.length_map] at h1
    have hi : i <= rs.length := by omega
    refine @at_cons _ _ _ _ _ _ _ (ps_set (i := 9) sc_law.nd rfl (Or.inl rfl) (pe_callB (call_min2 rfl) (by rfl) T.z_min (by decide +kernel) (pa_cons (pe_op op_sub (pe_callB call_len_seq (by rfl) T.z_len (by decide +kernel) (pa_cons (pv 4) pa_nil)) (pv 8)) (pa_cons (pe_call (ok_q51 T) (hr.mono (by decide)) rfl T.mg_q51 T.F_q51.kp (T.F_q51.binds (by walk_at "3")) .nil pass0 (pa_cons (pv 0) (pa_cons (pe_op op_add pe_int (pe_op op_mul pe_int (pv 7))) (pa_cons pe_int pa_nil)))) pa_nil)))) ⟨_, rfl, _, _, rfl, .inl (SqL.of (s1 _ _ hlr)), _, rfl, _, _, rfl, rfl, _, rfl, _, rfl, _, _, rfl, rfl, .inl ⟨by decide, by decide⟩, _, _, rfl, rfl, a, ns, _, _, rfl, hS.same s1, (by omega), (by omega), (by decide), hl, fun d2 H2 h2 h3 s2 => ⟨_, _, rfl, ?_⟩⟩
    obtain ⟨k, hk⟩ : ∃ k : Nat, (if d2 < ((rs.map V.str).length : Int) - (i : Int) then d2 else ((rs.map V.str).length : Int) - (i : Int)) = k := ⟨_, (Int.toNat_of_nonneg (by rw [List.length_map]; split <;> omega)).symm⟩
    have hk1 : i + k <= rs.length /\ k <= 3 := by
     rw [List.length_map] at hk
     split at hk <;> omega
    have s2 := s1.trans s2
    show At _ _ _ [some (.ref a), some (.ref lm), some (.ref r), some (.int z), some (.ref lr), some (.ref x), some (.ref lq), _, some (.int i), some (.int (if d2 < ((rs.map V.str).length : Int) - (i : Int) then d2 else ((rs.map V.str).length : Int) - (i : Int))), _, _, _, _] H2
    rw [hk]
    refine @at_cons _ _ _ _ _ _ _ (ps_set (i := 10) sc_law.nd rfl (Or.inl rfl) (pe_call (ok_q54 T) (hr.mono (by decide)) rfl T.mg_q54 T.F_q54.kp (T.F_q54.binds (by walk_at "5")) .nil pass0 (pa_cons (pv 0) (pa_cons (pe_op op_add pe_int (pe_op op_mul pe_int (pv 7))) (pa_cons (pv 4) (pa_cons (pv 8) (pa_cons (pv 9) pa_nil))))))) ⟨_, rfl, _, rfl, _, _, rfl, rfl, .inl ⟨by decide, by decide⟩, _, _, rfl, rfl, _, rfl, _, rfl, _, rfl, a, ns, _, lr, rs, i, k, rfl, hS.same s2, hl, (by omega), (by omega), s2 _ _ hlr, St.fine, hk1.1, (by omega), fun lf fs H3 hlf f3 hfs hfl s3 => ?_⟩
    have f3 := s2.free f3
    have s3 := s2.trans s3
    refine @at_consR _ _ _ _ _ _ _ (fun Z' H' => ∃ lf fs, (∃ x7 x11 x12 x13, Z' = [some (.ref a), some (.ref lm), some (.ref r), some (.int z), some (.ref lr), some (.ref x), some (.ref lq), x7, some (.int i), some (.int k), some (.ref lf), x11, x12, x13] /\ x7 = some (.int (0 + (j : Int)))) /\ H' lf = some (.lst (fs.map V.str)) /\ H0 lf = none /\ FineRs fs /\ fs.length <= 3 + k /\ (k = rs.length -> fs ≠ []) /\ Same H0 H') (ps_if (pt_cmpR op_eq (pe_op op_add (pe_op op_sub (pe_callB call_len_seq (by rfl) T.z_len (by decide +kernel) (pa_cons (pv 4) pa_nil)) (pv 9)) (pe_callB call_len_seq (by rfl) T.z_len (by decide +kernel) (pa_cons (pv 10) pa_nil))) pe_int (nomark _)) pss_at pss_at) ?_ ?_
    ·refine ⟨_, rfl, _, _, rfl, .inl (SqL.of (s3 _ _ hlr)), _, rfl, _, _, rfl, rfl, _, rfl, _, _, rfl, .inl (SqL.of hlf), _, _, rfl, rfl, rfl, _, rfl, ifd (fun h => ?_) (fun h => ?_)⟩
     ·refine @at_one _ _ _ _ _ _ (ps_set (i := 10) sc_law.nd rfl (Or.inl rfl) (pe_lst (pa_cons pe_str pa_nil))) ⟨by show 1 <= sizeLine; decide, fun l0 hl0 => ⟨l0, [""], ⟨_, _, _, _, rfl, rfl⟩, upd_same, s3.free hl0, (fun y hy => by rw [List.mem_singleton.mp hy]; exact ⟨by decide, by decide⟩), by show 1 <= 3 + k; omega, fun _ => by simp, s3.to hl0⟩⟩
     ·refine at_nil ⟨lf, fs, ⟨_, _, _, _, rfl, rfl⟩, hlf, f3, hfs, hfl, fun e1 e2 => h ?_, s3⟩
      rw [List.length_map, List.length_map, e2, e1]
      show V.int ((rs.length : Int) - (rs.length : Int) + (([] : List Str).length : Int)) = V.int 0
      rw [Int.sub_self]
      rfl
    clear hlf f3 hfs hfl s3
    rintro Z' H4 ⟨lf, fs, ⟨x7, x11, x12, x13, rfl, rfl⟩, hlf, f3, hfs, hfl, hnn, s4⟩
    refine @at_cons _ _ _ _ _ _ _ (ps_set (i := 11) sc_law.nd rfl (Or.inl rfl) (pe_callTy call_list_of (by rfl) T.z_list (by decide +kernel) (pa_cons (pv 10) pa_nil))) ⟨_, rfl, lf, _, rfl, .inl (SqL.of hlf), fun lh hlh => ?_⟩
    have s5 : Same H0 (upd H4 lh (.lst (fs.map V.str))) := s4.to hlh
    have hh5 : upd H4 lh (.lst (fs.map V.str)) lh = some (.lst (fs.map V.str)) := upd_same
    have hlf5 := Same.upd (o := .lst (fs.map V.str)) hlh _ _ hlf
    have nlf : lf ≠ lh := ne_of_none hlf hlh
    have hlh0 : H0 lh = none := s4.free hlh
    generalize upd H4 lh (.lst (fs.map V.str)) = H5 at s5 hh5 hlf5
    have hfine : FineRs (rs.take i ++ fs ++ rs.drop (i + k)) := ((St.fine.take i).app hfs).app (St.fine.drop (i + k))
    have hnl : (rs.take i ++ fs ++ rs.drop (i + k)).length = i + fs.length + (rs.length - (i + k)) := by rw [List.length_append, List.length_append, List.length_take, List.length_drop]; omega
    obtain ⟨Gs', hC'⟩ := chain_ex L _ [0] 4 8 hfine (by decide) (on0 B.pos) (w0 B.four) (by rw [hnl]; omega)
    have hGl' := hC'.len
    rw [hnl] at hGl'
    obtain ⟨ah, bk, Gm, c, CH, ea, eb, eGm, ec, b1, b2⟩ := changes_of hC hk1.1 hC'
    have s5h : Same H0 (hid (fun c => c = lh) H5) := same_hid s5 fun b o e z => ne_of_none e hlh0 z
    refine @at_cons _ _ _ _ _ _ _ (ps_set (i := 12) sc_law.nd rfl (Or.inl rfl) (pe_meth (pv 5) T.cl_Tinted T.m_q32 (ok_q32 T) (hr.mono (by decide)) (T.F_q32.binds (by walk_at "4")) .nil pass0 (pa_cons (pv 8) (pa_cons (pv 9) (pa_cons (pv 11) pa_nil))))) ⟨_, rfl, x, dx, _, rfl, (I.same s5).ob, rfl, _, rfl, _, rfl, _, rfl, fun c => c = lh, x, dx, a1, lg, lh, gs, ms, Gs, i, k, fs, ah, bk, Gm, c, Gs', rfl, (fun b hb => by have hb : b = lh := hb; rw [hb]; exact ⟨_, hh5⟩), I.same s5h, B.goodMs, hh5, by omega, by omega, (fun e => hnn (by omega)), CH, fun lg' gs' H6 I6 f6 a6 => ?_⟩
    have nlx : lh ≠ x := ne_of hh5 (I.same s5).ob (by intro y; cases y)
    have nfx : lf ≠ x := ne_of hlf5 (I.same s5).ob (by intro y; cases y)
    have sX : Same (hid (fun c => c = x) H0) (hid (fun c => c = x) H6) := fun b o hb => hid_of (a6 _ _ (s5 _ _ (hid_same _ _ hb)) (hid_no (S := fun c => c = x) hb)) (hid_no (S := fun c => c = x) hb)
    have hh6 := a6 _ _ hh5 nlx
    have hlf6 := a6 _ _ hlf5 nfx
    have hlr6 := hid_same _ _ (sX _ _ St.lr)
    have hL6 := (St.lm.same sX).same hid_same
    refine @at_cons _ _ _ _ _ _ _ (ps_set (i := 13) sc_law.nd rfl (Or.inl rfl) (pv 6)) ⟨_, rfl, ?_⟩
    have sz := sizeLine_eq
    have c1 : cutV (rs.map V.str) none (some (i : Int)) = (rs.take i).map V.str := by
     rw [cut_to (by rw [List.length_map]; omega), List.map_take]
    have c2 : cutV (rs.map V.str) (some ((i : Int) + (k : Int))) none = (rs.drop (i + k)).map V.str := by
     rw [← Int.natCast_add, cut_from (by rw [List.length_map]; omega), List.map_drop]
    refine @at_consR _ _ _ _ _ _ _ (fun Z' H' => ∃ lr', H' lr' = some (.lst ((rs.take i ++ fs ++ rs.drop (i + k)).map V.str)) /\ H6 lr' = none /\ Z' = [some (.ref a), some (.ref lm), some (.ref r), some (.int z), some (.ref lr'), some (.ref x), some (.ref lq), some (.int (0 + (j : Int))), some (.int i), some (.int k), some (.ref lf), some (.ref lh), some (.int ((Gm.length + c : Nat) : Int)), some (.ref lq)] /\ Same H6 H') (ps_set (i := 4) sc_law.nd rfl (Or.inl rfl) (pe_op op_cat (pe_op op_cat (pe_slice sl_list (pv 4) po_none (po_some (pv 8))) (pv 10)) (pe_slice sl_list (pv 4) (po_some (pe_op op_add (pv 8) (pv 9))) po_none))) ?_ ?_
    ·refine ⟨_, rfl, _, rfl, _, rfl, lr, _, rfl, SqL.of hlr6, fun p1 g1 => ⟨_, rfl, p1, lf, _, _, rfl, rfl, upd_same, Same.upd g1 _ _ hlf6, ?_, fun p2 g2 => ⟨_, rfl, _, rfl, _, rfl, _, _, rfl, rfl, _, rfl, lr, _, rfl, SqL.of (Same.upd g2 _ _ (Same.upd g1 _ _ hlr6)), fun p3 g3 => ⟨p2, p3, _, _, rfl, rfl, Same.upd g3 _ _ upd_same, upd_same, ?_, fun p4 g4 => ⟨p4, ?_, (((Same.upd g1).trans (Same.upd g2)).trans (Same.upd g3)).free g4, rfl, (((Same.upd g1).trans (Same.upd g2)).trans (Same.upd g3)).to g4⟩⟩⟩⟩⟩
     ·rw [c1, List.length_map, List.length_map, List.length_take]; omega
     ·have y : (cutV (rs.map V.str) none (some (i : Int)) ++ fs.map V.str).length + (cutV (rs.map V.str) (some ((i : Int) + (k : Int))) none).length <= sizeLine := by
       rw [List.length_append, c1, c2, List.length_map, List.length_map, List.length_map, List.length_take, List.length_drop]; exact ar16 (by omega)
      exact y
     ·rw [upd_same, List.map_append, List.map_append, ← c1, ← c2]
    rintro Z' H7 ⟨lr', hlr7, f7, rfl, s7⟩
    refine @at_cons _ _ _ _ _ _ _ (ps_set (i := 6) sc_law.nd rfl (Or.inl rfl) (pe_call (ok_q63 T) (hr.mono (by decide)) rfl T.mg_q63 T.F_q63.kp (T.F_q63.binds (by walk_at "2")) .nil pass0 (pa_cons (pv 1) (pa_cons (pv 4) pa_nil)))) ⟨_, rfl, _, rfl, fun c => c = lh, lm, lr', ms, _, Gs', rfl, (fun b hb => by have hb : b = lh := hb; rw [hb]; exact ⟨_, s7 _ _ hh6⟩), hL6.same s7, L.wk, hlr7, by rw [hnl]; omega, hC', fun lq' H8 hK8 f8 s8 => ?_⟩
    have s78 := s7.trans s8
    have hh8 := s78 _ _ hh6
    have hlf8 := s78 _ _ hlf6
    have hlr8 := s8 _ _ hlr7
    refine @at_consR _ _ _ _ _ _ _ (fun Z' H' => H' = H8 /\ Z' = [some (.ref a), some (.ref lm), some (.ref r), some (.int z), some (.ref lr'), some (.ref x), some (.ref lq'), some (.int (0 + (j : Int))), some (.int i), some (.int k), some (.ref lf), some (.ref lh), some (.int ((Gm.length + c : Nat) : Int)), some (.ref lq)]) (ps_if (PW.pt (pw_or (pt_cmpR (op_neLs (Nat.lt_of_succ_lt (hu_of hr))) (pv 11) (pv 10) (nomark _)) (pw_or (pt_not (pt_val (pe_callB call_isi (by rfl) T.z_isinstance (by decide +kernel) (pa_cons (pv 12) (pa_cons (pe_bltn (v := V.ty "int") (u := Value.type "int") rfl T.z_int (by decide +kernel) rfl) pa_nil))))) (pw_or1 (pt_val (pe_callB call_isi (by rfl) T.z_isinstance (by decide +kernel) (pa_cons (pv 12) (pa_cons (pe_bltn (v := V.ty "bool") (u := Value.type "bool") rfl T.z_bool (by decide +kernel) rfl) pa_nil)))))))) pss_at pss_at) ?_ ?_
    ·refine ⟨_, rfl, _, rfl, lh, lf, _, _, rfl, rfl, SqL.of hh8, SqL.of hlf8, plain_strs _ _, _, rfl, ifnd (fun h => absurd rfl h) (fun _ => ?_)⟩
     refine ⟨_, rfl, _, _, _, _, true, rfl, .inl rfl, .int _, T.kb_int_int, true, rfl, iteF ⟨_, rfl, _, _, _, _, false, rfl, .inl rfl, .int _, T.kb_int_bool, false, rfl, iteF (at_nil ⟨rfl, rfl⟩)⟩⟩
    rintro Z' H8' ⟨rfl, rfl⟩
    have I6' := I6.same hid_same
    have hrow := hC.rows
    have hGk : i + k <= Gs.length := by omega
    have hk6 := (St.kp.same sX).same hid_same
    refine @at_consR _ _ _ _ _ _ _ (fun Z' H' => Same H8' H' /\ Z' = [some (.ref a), some (.ref lm), some (.ref r), some (.int z), some (.ref lr'), some (.ref x), some (.ref lq'), some (.int (0 + (j : Int))), some (.int i), some (.int k), some (.ref lf), some (.ref lh), some (.int ((Gm.length + c : Nat) : Int)), some (.ref lq)]) (ps_if (PW.pt (pw_or (pt_cmpR op_ne (pv 12) (pe_call (ok_q49 T) (hr.mono (by decide)) rfl T.mg_q49 T.F_q49.kp (T.F_q49.binds (by walk_at "5")) .nil pass0 (pa_cons (pv 13) (pa_cons (pv 6) (pa_cons (pv 8) (pa_cons (pv 9) (pa_cons (pv 10) pa_nil)))))) (nomark _)) (pw_or1 (pt_not (pt_val (pe_call (ok_q60 T) (hr.mono (by decide)) rfl T.mg_q60 T.F_q60.kp (T.F_q60.binds (by walk_at "2")) .nil pass0 (pa_cons (pv 5) (pa_cons (pv 6) pa_nil)))))))) pss_at pss_at) ?_ ?_
    ·refine ⟨_, rfl, _, rfl, _, rfl, _, rfl, _, rfl, _, rfl, lq, lq', lf, Gs, Gs', fs, _, i, k, ah, bk, rfl, hk6.same s78, hK8.same hid_same, hlf8, hGk, by rw [hGl', hGl], (by rw [hrow]), ea, eb, rfl, _, rfl, ifnd (fun h => absurd ?_ h) (fun _ => ?_)⟩
     ·rw [eGm, ec]
     ·exact ⟨_, rfl, _, rfl, x, dx, a1, lg', lq', gs', ms, Gs', rfl, I6'.same s78, hK8.same hid_same, by omega, fun H9 s9 => ⟨true, rfl, iteF (at_nil ⟨s9, rfl⟩)⟩⟩
    rintro Z' H9 ⟨s9, rfl⟩
    have hh9 := s9 _ _ hh8
    refine @at_one _ _ _ _ _ _ (ps_expr (pe_bm0 PySem.F.plainAttrs_list PySem.F.slot_list_clear PySem.F.type_list_clear mt_clear (pv 11))) ⟨_, rfl, .inl ⟨rfl, _, SqL.of hh9⟩, lh, _, rfl, rfl, hh9, ?_⟩
    have kp9 : ∀ {b o}, H9 b = some o -> b ≠ lh -> upd H9 lh (.lst []) b = some o := fun {b o} e n => by rw [upd_ne n]; exact e
    have s0 : Same (hid (fun c => c = x) H0) (hid (fun c => c = x) (upd H9 lh (.lst []))) := fun b o e => hid_of (kp9 (s9 _ _ (s78 _ _ (hid_same _ _ (sX _ _ e)))) (ne_of_none (hid_same _ _ e) hlh0)) (hid_no (S := fun c => c = x) e)
    have sI : Same (hid (fun c => c = lh) H6) (upd H9 lh (.lst [])) := fun b o e => kp9 (s9 _ _ (s78 _ _ (hid_same _ _ e))) (hid_no (S := fun c => c = lh) e)
    have sK : Same (hid (fun c => c = lh) H8') (upd H9 lh (.lst [])) := fun b o e => kp9 (s9 _ _ (hid_same _ _ e)) (hid_no (S := fun c => c = lh) e)
    have I9 := I6.same sI
    refine ⟨lr', lq', _, Gs', ⟨_, _, _, _, _, _, _, rfl⟩, ⟨St.sc.same s0, St.lm.same s0, hid_of (kp9 (s9 _ _ hlr8) ?_) ?_, hfine, ?_, by rw [hnl]; omega, ⟨a1, lg', gs', I9⟩, hC', (hK8.same sK).apart I9.ob⟩⟩
    ·exact Ne.symm (ne_of_none hh6 f7)
    ·exact Ne.symm (ne_of_none I6'.ob f7)
    ·intro e
     rw [e] at hnl
     have h0 : i + fs.length + (rs.length - (i + k)) = 0 := by rw [← hnl]; rfl
     exact hnn (by omega) (List.length_eq_zero_iff.mp (by omega))
   ·intros; trivial
  rintro Z' H8 _
  exact @at_one _ _ _ _ _ _ (ps_ret pe_bl) (q H8)
end
theorem all_mk {l : W.OpenLaw} {w : World} {K : W.Frag} {h : Heap} {mg : Str -> Option Value} {fa c_TintError c_NoRules c_Rings c_NoPlace c_Pattern c_Word c_One c_Without c_Many c_Any c_Still c_End c_Rule c_Mode c_Rules c_GoneRow c_Tinted c_Cursor f_q20 f_q21 f_q46 f_q47 f_q48 f_q17 f_q18 f_q19 f_q43 f_q44 f_q45 f_q12 f_q13 f_q14 f_q0 f_q1 f_q25 f_q10 f_q23 f_q15 f_q24 f_q11 f_q26 f_q42 f_q31 f_q33 f_q38 f_q32 f_q36 f_q35 f_q39 f_q37 f_q29 f_q30 f_q2 f_q4 f_q5 f_q3 f_q6 f_q7 f_q8 f_q9 f_q73 f_q68 f_q66 f_q67 f_q70 f_q69 f_q65 f_q81 f_q84 f_q80 f_q72 f_q71 f_q82 f_q83 f_q79 f_q74 f_q76 f_q78 f_q77 f_q75 f_q51 f_q61 f_q59 f_q57 f_q62 f_q56 f_q52 f_q53 f_q50 f_q55 f_q58 f_q63 f_q60 f_q49 f_q54 f_law g_PATTERNS g_DEEDS g_GOING g_FOLDS : Addr} {d_q20 d_q21 d_q46 d_q47 d_q48 d_q17 d_q18 d_q19 d_q43 d_q44 d_q45 d_q12 d_q13 d_q14 d_q0 d_q1 d_q25 d_q10 d_q23 d_q15 d_q24 d_q11 d_q26 d_q42 d_q31 d_q33 d_q38 d_q32 d_q36 d_q35 d_q39 d_q37 d_q29 d_q30 d_q2 d_q4 d_q5 d_q3 d_q6 d_q7 d_q8 d_q9 d_q73 d_q68 d_q66 d_q67 d_q70 d_q69 d_q65 d_q81 d_q84 d_q80 d_q72 d_q71 d_q82 d_q83 d_q79 d_q74 d_q76 d_q78 d_q77 d_q75 d_q51 d_q61 d_q59 d_q57 d_q62 d_q56 d_q52 d_q53 d_q50 d_q55 d_q58 d_q63 d_q60 d_q49 d_q54 d_law : FuncData} {u_LETTERS u_LONGEST_NAME u_START u_SIGNS u_MOST_MODES u_MOST_RULES u0_PATTERNS u1_PATTERNS u2_PATTERNS u3_PATTERNS u4_PATTERNS u5_PATTERNS u6_PATTERNS u0_DEEDS u1_DEEDS u2_DEEDS u3_DEEDS u0_GOING u1_GOING u0_FOLDS u1_FOLDS : Tok} {od_PATTERNS od_DEEDS od_GOING od_FOLDS : Option Addr} {n_PATTERNS n_DEEDS n_GOING n_FOLDS : Nat} {sl_PATTERNS sl_DEEDS sl_GOING sl_FOLDS : Array (Option Value)} (X : K.In h) (G : h.Ns mainGlobals mg) (hfa : mg "law" = some (.ref fa))
  (a_TintError : W.nsIn K mainGlobals "TintError" = some (some (.ref c_TintError)))
  (a_NoRules : W.nsIn K mainGlobals "NoRules" = some (some (.ref c_NoRules)))
  (a_Rings : W.nsIn K mainGlobals "Rings" = some (some (.ref c_Rings)))
  (a_NoPlace : W.nsIn K mainGlobals "NoPlace" = some (some (.ref c_NoPlace)))
  (a_Pattern : W.nsIn K mainGlobals "Pattern" = some (some (.ref c_Pattern)))
  (a_Word : W.nsIn K mainGlobals "Word" = some (some (.ref c_Word)))
  (a_One : W.nsIn K mainGlobals "One" = some (some (.ref c_One)))
  (a_Without : W.nsIn K mainGlobals "Without" = some (some (.ref c_Without)))
  (a_Many : W.nsIn K mainGlobals "Many" = some (some (.ref c_Many)))
  (a_Any : W.nsIn K mainGlobals "Any" = some (some (.ref c_Any)))
  (a_Still : W.nsIn K mainGlobals "Still" = some (some (.ref c_Still)))
  (a_End : W.nsIn K mainGlobals "End" = some (some (.ref c_End)))
  (a_Rule : W.nsIn K mainGlobals "Rule" = some (some (.ref c_Rule)))
  (a_Mode : W.nsIn K mainGlobals "Mode" = some (some (.ref c_Mode)))
  (a_Rules : W.nsIn K mainGlobals "Rules" = some (some (.ref c_Rules)))
  (a_GoneRow : W.nsIn K mainGlobals "GoneRow" = some (some (.ref c_GoneRow)))
  (a_Tinted : W.nsIn K mainGlobals "Tinted" = some (some (.ref c_Tinted)))
  (a_Cursor : W.nsIn K mainGlobals "Cursor" = some (some (.ref c_Cursor)))
  (a_q20 : W.findIn K (.ref c_Pattern) "eaten" = some (some (.ref f_q20)))
  (i_q20 : W.isFn K (.ref f_q20) = true)
  (F_q20 : Fun K "eaten" "Pattern.eaten" s_q20 f_q20 d_q20)
  (a_q21 : W.findIn K (.ref c_Pattern) "eats" = some (some (.ref f_q21)))
  (i_q21 : W.isFn K (.ref f_q21) = true)
  (F_q21 : Fun K "eats" "Pattern.eats" s_q21 f_q21 d_q21)
  (a_q46 : W.findIn K (.ref c_Word) "__init__" = some (some (.ref f_q46)))
  (i_q46 : W.isFn K (.ref f_q46) = true)
  (F_q46 : Fun K "__init__" "Word.__init__" s_q46 f_q46 d_q46)
  (a_q47 : W.findIn K (.ref c_Word) "eaten" = some (some (.ref f_q47)))
  (i_q47 : W.isFn K (.ref f_q47) = true)
  (F_q47 : Fun K "eaten" "Word.eaten" s_q47 f_q47 d_q47)
  (a_q48 : W.findIn K (.ref c_Word) "eats" = some (some (.ref f_q48)))
  (i_q48 : W.isFn K (.ref f_q48) = true)
  (F_q48 : Fun K "eats" "Word.eats" s_q48 f_q48 d_q48)
  (a_q17 : W.findIn K (.ref c_One) "__init__" = some (some (.ref f_q17)))
  (i_q17 : W.isFn K (.ref f_q17) = true)
  (F_q17 : Fun K "__init__" "One.__init__" s_q17 f_q17 d_q17)
  (a_q18 : W.findIn K (.ref c_One) "eaten" = some (some (.ref f_q18)))
  (i_q18 : W.isFn K (.ref f_q18) = true)
  (F_q18 : Fun K "eaten" "One.eaten" s_q18 f_q18 d_q18)
  (a_q19 : W.findIn K (.ref c_One) "eats" = some (some (.ref f_q19)))
  (i_q19 : W.isFn K (.ref f_q19) = true)
  (F_q19 : Fun K "eats" "One.eats" s_q19 f_q19 d_q19)
  (a_q43 : W.findIn K (.ref c_Without) "__init__" = some (some (.ref f_q43)))
  (i_q43 : W.isFn K (.ref f_q43) = true)
  (F_q43 : Fun K "__init__" "Without.__init__" s_q43 f_q43 d_q43)
  (a_q44 : W.findIn K (.ref c_Without) "eaten" = some (some (.ref f_q44)))
  (i_q44 : W.isFn K (.ref f_q44) = true)
  (F_q44 : Fun K "eaten" "Without.eaten" s_q44 f_q44 d_q44)
  (a_q45 : W.findIn K (.ref c_Without) "eats" = some (some (.ref f_q45)))
  (i_q45 : W.isFn K (.ref f_q45) = true)
  (F_q45 : Fun K "eats" "Without.eats" s_q45 f_q45 d_q45)
  (a_q12 : W.findIn K (.ref c_Many) "__init__" = some (some (.ref f_q12)))
  (i_q12 : W.isFn K (.ref f_q12) = true)
  (F_q12 : Fun K "__init__" "Many.__init__" s_q12 f_q12 d_q12)
  (a_q13 : W.findIn K (.ref c_Many) "eaten" = some (some (.ref f_q13)))
  (i_q13 : W.isFn K (.ref f_q13) = true)
  (F_q13 : Fun K "eaten" "Many.eaten" s_q13 f_q13 d_q13)
  (a_q14 : W.findIn K (.ref c_Many) "eats" = some (some (.ref f_q14)))
  (i_q14 : W.isFn K (.ref f_q14) = true)
  (F_q14 : Fun K "eats" "Many.eats" s_q14 f_q14 d_q14)
  (a_q0 : W.findIn K (.ref c_Any) "eaten" = some (some (.ref f_q0)))
  (i_q0 : W.isFn K (.ref f_q0) = true)
  (F_q0 : Fun K "eaten" "Any.eaten" s_q0 f_q0 d_q0)
  (a_q1 : W.findIn K (.ref c_Any) "eats" = some (some (.ref f_q1)))
  (i_q1 : W.isFn K (.ref f_q1) = true)
  (F_q1 : Fun K "eats" "Any.eats" s_q1 f_q1 d_q1)
  (a_q25 : W.findIn K (.ref c_Still) "eaten" = some (some (.ref f_q25)))
  (i_q25 : W.isFn K (.ref f_q25) = true)
  (F_q25 : Fun K "eaten" "Still.eaten" s_q25 f_q25 d_q25)
  (a_q10 : W.findIn K (.ref c_End) "eaten" = some (some (.ref f_q10)))
  (i_q10 : W.isFn K (.ref f_q10) = true)
  (F_q10 : Fun K "eaten" "End.eaten" s_q10 f_q10 d_q10)
  (a_q23 : W.findIn K (.ref c_Rule) "__init__" = some (some (.ref f_q23)))
  (i_q23 : W.isFn K (.ref f_q23) = true)
  (F_q23 : Fun K "__init__" "Rule.__init__" s_q23 f_q23 d_q23)
  (a_q15 : W.findIn K (.ref c_Mode) "__init__" = some (some (.ref f_q15)))
  (i_q15 : W.isFn K (.ref f_q15) = true)
  (F_q15 : Fun K "__init__" "Mode.__init__" s_q15 f_q15 d_q15)
  (a_q24 : W.findIn K (.ref c_Rules) "__init__" = some (some (.ref f_q24)))
  (i_q24 : W.isFn K (.ref f_q24) = true)
  (F_q24 : Fun K "__init__" "Rules.__init__" s_q24 f_q24 d_q24)
  (a_q11 : W.findIn K (.ref c_GoneRow) "__init__" = some (some (.ref f_q11)))
  (i_q11 : W.isFn K (.ref f_q11) = true)
  (F_q11 : Fun K "__init__" "GoneRow.__init__" s_q11 f_q11 d_q11)
  (a_q26 : W.findIn K (.ref c_Tinted) "__init__" = some (some (.ref f_q26)))
  (i_q26 : W.isFn K (.ref f_q26) = true)
  (F_q26 : Fun K "__init__" "Tinted.__init__" s_q26 f_q26 d_q26)
  (a_q42 : W.findIn K (.ref c_Tinted) "rows" = some (some (.ref f_q42)))
  (i_q42 : W.isFn K (.ref f_q42) = true)
  (F_q42 : Fun K "rows" "Tinted.rows" s_q42 f_q42 d_q42)
  (a_q31 : W.findIn K (.ref c_Tinted) "begin" = some (some (.ref f_q31)))
  (i_q31 : W.isFn K (.ref f_q31) = true)
  (F_q31 : Fun K "begin" "Tinted.begin" s_q31 f_q31 d_q31)
  (a_q33 : W.findIn K (.ref c_Tinted) "colours" = some (some (.ref f_q33)))
  (i_q33 : W.isFn K (.ref f_q33) = true)
  (F_q33 : Fun K "colours" "Tinted.colours" s_q33 f_q33 d_q33)
  (a_q38 : W.findIn K (.ref c_Tinted) "marks" = some (some (.ref f_q38)))
  (i_q38 : W.isFn K (.ref f_q38) = true)
  (F_q38 : Fun K "marks" "Tinted.marks" s_q38 f_q38 d_q38)
  (a_q32 : W.findIn K (.ref c_Tinted) "change" = some (some (.ref f_q32)))
  (i_q32 : W.isFn K (.ref f_q32) = true)
  (F_q32 : Fun K "change" "Tinted.change" s_q32 f_q32 d_q32)
  (a_q36 : W.findIn K (.ref c_Tinted) "go_over" = some (some (.ref f_q36)))
  (i_q36 : W.isFn K (.ref f_q36) = true)
  (F_q36 : Fun K "go_over" "Tinted.go_over" s_q36 f_q36 d_q36)
  (a_q35 : W.findIn K (.ref c_Tinted) "go_on" = some (some (.ref f_q35)))
  (i_q35 : W.isFn K (.ref f_q35) = true)
  (F_q35 : Fun K "go_on" "Tinted.go_on" s_q35 f_q35 d_q35)
  (a_q39 : W.findIn K (.ref c_Tinted) "modes_ahead" = some (some (.ref f_q39)))
  (i_q39 : W.isFn K (.ref f_q39) = true)
  (F_q39 : Fun K "modes_ahead" "Tinted.modes_ahead" s_q39 f_q39 d_q39)
  (a_q37 : W.findIn K (.ref c_Tinted) "gone_row" = some (some (.ref f_q37)))
  (i_q37 : W.isFn K (.ref f_q37) = true)
  (F_q37 : Fun K "gone_row" "Tinted.gone_row" s_q37 f_q37 d_q37)
  (a_q29 : W.findIn K (.ref c_Tinted) "ask_row" = some (some (.ref f_q29)))
  (i_q29 : W.isFn K (.ref f_q29) = true)
  (F_q29 : Fun K "ask_row" "Tinted.ask_row" s_q29 f_q29 d_q29)
  (a_q30 : W.findIn K (.ref c_Tinted) "ask_taken" = some (some (.ref f_q30)))
  (i_q30 : W.isFn K (.ref f_q30) = true)
  (F_q30 : Fun K "ask_taken" "Tinted.ask_taken" s_q30 f_q30 d_q30)
  (a_q2 : W.findIn K (.ref c_Cursor) "__init__" = some (some (.ref f_q2)))
  (i_q2 : W.isFn K (.ref f_q2) = true)
  (F_q2 : Fun K "__init__" "Cursor.__init__" s_q2 f_q2 d_q2)
  (a_q4 : W.findIn K (.ref c_Cursor) "more" = some (some (.ref f_q4)))
  (i_q4 : W.isFn K (.ref f_q4) = true)
  (F_q4 : Fun K "more" "Cursor.more" s_q4 f_q4 d_q4)
  (a_q5 : W.findIn K (.ref c_Cursor) "peek" = some (some (.ref f_q5)))
  (i_q5 : W.isFn K (.ref f_q5) = true)
  (F_q5 : Fun K "peek" "Cursor.peek" s_q5 f_q5 d_q5)
  (a_q3 : W.findIn K (.ref c_Cursor) "ask" = some (some (.ref f_q3)))
  (i_q3 : W.isFn K (.ref f_q3) = true)
  (F_q3 : Fun K "ask" "Cursor.ask" s_q3 f_q3 d_q3)
  (a_q6 : W.findIn K (.ref c_Cursor) "take" = some (some (.ref f_q6)))
  (i_q6 : W.isFn K (.ref f_q6) = true)
  (F_q6 : Fun K "take" "Cursor.take" s_q6 f_q6 d_q6)
  (a_q7 : W.findIn K (.ref c_Cursor) "take_choice" = some (some (.ref f_q7)))
  (i_q7 : W.isFn K (.ref f_q7) = true)
  (F_q7 : Fun K "take_choice" "Cursor.take_choice" s_q7 f_q7 d_q7)
  (a_q8 : W.findIn K (.ref c_Cursor) "take_name" = some (some (.ref f_q8)))
  (i_q8 : W.isFn K (.ref f_q8) = true)
  (F_q8 : Fun K "take_name" "Cursor.take_name" s_q8 f_q8 d_q8)
  (a_q9 : W.findIn K (.ref c_Cursor) "take_signs" = some (some (.ref f_q9)))
  (i_q9 : W.isFn K (.ref f_q9) = true)
  (F_q9 : Fun K "take_signs" "Cursor.take_signs" s_q9 f_q9 d_q9)
  (a_q73 : W.nsIn K mainGlobals "is_name" = some (some (.ref f_q73)))
  (F_q73 : Fun K "is_name" "is_name" s_q73 f_q73 d_q73)
  (a_q68 : W.nsIn K mainGlobals "copied_rules" = some (some (.ref f_q68)))
  (F_q68 : Fun K "copied_rules" "copied_rules" s_q68 f_q68 d_q68)
  (a_q66 : W.nsIn K mainGlobals "copied_mode" = some (some (.ref f_q66)))
  (F_q66 : Fun K "copied_mode" "copied_mode" s_q66 f_q66 d_q66)
  (a_q67 : W.nsIn K mainGlobals "copied_rule" = some (some (.ref f_q67)))
  (F_q67 : Fun K "copied_rule" "copied_rule" s_q67 f_q67 d_q67)
  (a_q70 : W.nsIn K mainGlobals "first_rule" = some (some (.ref f_q70)))
  (F_q70 : Fun K "first_rule" "first_rule" s_q70 f_q70 d_q70)
  (a_q69 : W.nsIn K mainGlobals "do_deed" = some (some (.ref f_q69)))
  (F_q69 : Fun K "do_deed" "do_deed" s_q69 f_q69 d_q69)
  (a_q65 : W.nsIn K mainGlobals "ask_rings" = some (some (.ref f_q65)))
  (F_q65 : Fun K "ask_rings" "ask_rings" s_q65 f_q65 d_q65)
  (a_q81 : W.nsIn K mainGlobals "ring_of" = some (some (.ref f_q81)))
  (F_q81 : Fun K "ring_of" "ring_of" s_q81 f_q81 d_q81)
  (a_q84 : W.nsIn K mainGlobals "short_rows" = some (some (.ref f_q84)))
  (F_q84 : Fun K "short_rows" "short_rows" s_q84 f_q84 d_q84)
  (a_q80 : W.nsIn K mainGlobals "ring_from" = some (some (.ref f_q80)))
  (F_q80 : Fun K "ring_from" "ring_from" s_q80 f_q80 d_q80)
  (a_q72 : W.nsIn K mainGlobals "idle_rule" = some (some (.ref f_q72)))
  (F_q72 : Fun K "idle_rule" "idle_rule" s_q72 f_q72 d_q72)
  (a_q71 : W.nsIn K mainGlobals "gone_over" = some (some (.ref f_q71)))
  (F_q71 : Fun K "gone_over" "gone_over" s_q71 f_q71 d_q71)
  (a_q82 : W.nsIn K mainGlobals "same_ahead" = some (some (.ref f_q82)))
  (F_q82 : Fun K "same_ahead" "same_ahead" s_q82 f_q82 d_q82)
  (a_q83 : W.nsIn K mainGlobals "same_back" = some (some (.ref f_q83)))
  (F_q83 : Fun K "same_back" "same_back" s_q83 f_q83 d_q83)
  (a_q79 : W.nsIn K mainGlobals "read_rules" = some (some (.ref f_q79)))
  (F_q79 : Fun K "read_rules" "read_rules" s_q79 f_q79 d_q79)
  (a_q74 : W.nsIn K mainGlobals "mode_numbers" = some (some (.ref f_q74)))
  (F_q74 : Fun K "mode_numbers" "mode_numbers" s_q74 f_q74 d_q74)
  (a_q76 : W.nsIn K mainGlobals "read_mode" = some (some (.ref f_q76)))
  (F_q76 : Fun K "read_mode" "read_mode" s_q76 f_q76 d_q76)
  (a_q78 : W.nsIn K mainGlobals "read_rule" = some (some (.ref f_q78)))
  (F_q78 : Fun K "read_rule" "read_rule" s_q78 f_q78 d_q78)
  (a_q77 : W.nsIn K mainGlobals "read_pattern" = some (some (.ref f_q77)))
  (F_q77 : Fun K "read_pattern" "read_pattern" s_q77 f_q77 d_q77)
  (a_q75 : W.nsIn K mainGlobals "read_goal" = some (some (.ref f_q75)))
  (F_q75 : Fun K "read_goal" "read_goal" s_q75 f_q75 d_q75)
  (a_q51 : W.nsIn K mainGlobals "_law_draw" = some (some (.ref f_q51)))
  (F_q51 : Fun K "_law_draw" "_law_draw" s_q51 f_q51 d_q51)
  (a_q61 : W.nsIn K mainGlobals "_law_signs" = some (some (.ref f_q61)))
  (F_q61 : Fun K "_law_signs" "_law_signs" s_q61 f_q61 d_q61)
  (a_q59 : W.nsIn K mainGlobals "_law_rule" = some (some (.ref f_q59)))
  (F_q59 : Fun K "_law_rule" "_law_rule" s_q59 f_q59 d_q59)
  (a_q57 : W.nsIn K mainGlobals "_law_modes" = some (some (.ref f_q57)))
  (F_q57 : Fun K "_law_modes" "_law_modes" s_q57 f_q57 d_q57)
  (a_q62 : W.nsIn K mainGlobals "_law_text" = some (some (.ref f_q62)))
  (F_q62 : Fun K "_law_text" "_law_text" s_q62 f_q62 d_q62)
  (a_q56 : W.nsIn K mainGlobals "_law_let_by" = some (some (.ref f_q56)))
  (F_q56 : Fun K "_law_let_by" "_law_let_by" s_q56 f_q56 d_q56)
  (a_q52 : W.nsIn K mainGlobals "_law_eaten" = some (some (.ref f_q52)))
  (F_q52 : Fun K "_law_eaten" "_law_eaten" s_q52 f_q52 d_q52)
  (a_q53 : W.nsIn K mainGlobals "_law_first" = some (some (.ref f_q53)))
  (F_q53 : Fun K "_law_first" "_law_first" s_q53 f_q53 d_q53)
  (a_q50 : W.nsIn K mainGlobals "_law_deed" = some (some (.ref f_q50)))
  (F_q50 : Fun K "_law_deed" "_law_deed" s_q50 f_q50 d_q50)
  (a_q55 : W.nsIn K mainGlobals "_law_gone" = some (some (.ref f_q55)))
  (F_q55 : Fun K "_law_gone" "_law_gone" s_q55 f_q55 d_q55)
  (a_q58 : W.nsIn K mainGlobals "_law_row" = some (some (.ref f_q58)))
  (F_q58 : Fun K "_law_row" "_law_row" s_q58 f_q58 d_q58)
  (a_q63 : W.nsIn K mainGlobals "_law_whole" = some (some (.ref f_q63)))
  (F_q63 : Fun K "_law_whole" "_law_whole" s_q63 f_q63 d_q63)
  (a_q60 : W.nsIn K mainGlobals "_law_shows" = some (some (.ref f_q60)))
  (F_q60 : Fun K "_law_shows" "_law_shows" s_q60 f_q60 d_q60)
  (a_q49 : W.nsIn K mainGlobals "_law_count" = some (some (.ref f_q49)))
  (F_q49 : Fun K "_law_count" "_law_count" s_q49 f_q49 d_q49)
  (a_q54 : W.nsIn K mainGlobals "_law_fresh" = some (some (.ref f_q54)))
  (F_q54 : Fun K "_law_fresh" "_law_fresh" s_q54 f_q54 d_q54)
  (a_law : W.nsIn K mainGlobals "law" = some (some (.ref f_law)))
  (F_law : Fun K "law" "law" s_law f_law d_law)
  (pg_Word : W.plainGet K c_Word Str.empty = true)
  (hd_Word : W.hasDictIn K c_Word = true)
  (po_Word : W.plainOver K c_Word = true)
  (sa_Word : W.findIn K (.ref c_Word) "__setattr__" = some (some (.builtin "object.__setattr__")))
  (mk_Word : W.makesIn K c_Word = true)
  (kc_Word : W.keepIn K (.ref c_Word) = true)
  (n_Word_wanted : W.findIn K (.ref c_Word) "wanted" = some none)
  (pg_One : W.plainGet K c_One Str.empty = true)
  (hd_One : W.hasDictIn K c_One = true)
  (po_One : W.plainOver K c_One = true)
  (sa_One : W.findIn K (.ref c_One) "__setattr__" = some (some (.builtin "object.__setattr__")))
  (mk_One : W.makesIn K c_One = true)
  (kc_One : W.keepIn K (.ref c_One) = true)
  (n_One_signs : W.findIn K (.ref c_One) "signs" = some none)
  (pg_Without : W.plainGet K c_Without Str.empty = true)
  (hd_Without : W.hasDictIn K c_Without = true)
  (po_Without : W.plainOver K c_Without = true)
  (sa_Without : W.findIn K (.ref c_Without) "__setattr__" = some (some (.builtin "object.__setattr__")))
  (mk_Without : W.makesIn K c_Without = true)
  (kc_Without : W.keepIn K (.ref c_Without) = true)
  (n_Without_signs : W.findIn K (.ref c_Without) "signs" = some none)
  (pg_Many : W.plainGet K c_Many Str.empty = true)
  (hd_Many : W.hasDictIn K c_Many = true)
  (po_Many : W.plainOver K c_Many = true)
  (sa_Many : W.findIn K (.ref c_Many) "__setattr__" = some (some (.builtin "object.__setattr__")))
  (mk_Many : W.makesIn K c_Many = true)
  (kc_Many : W.keepIn K (.ref c_Many) = true)
  (n_Many_signs : W.findIn K (.ref c_Many) "signs" = some none)
  (pg_Any : W.plainGet K c_Any Str.empty = true)
  (hd_Any : W.hasDictIn K c_Any = true)
  (po_Any : W.plainOver K c_Any = true)
  (sa_Any : W.findIn K (.ref c_Any) "__setattr__" = some (some (.builtin "object.__setattr__")))
  (mk_Any : W.makesIn K c_Any = true)
  (kc_Any : W.keepIn K (.ref c_Any) = true)
  (oi_Any : W.findIn K (.ref c_Any) "__init__" = some (some (.builtin "object.__init__")))
  (pg_Still : W.plainGet K c_Still Str.empty = true)
  (hd_Still : W.hasDictIn K c_Still = true)
  (po_Still : W.plainOver K c_Still = true)
  (sa_Still : W.findIn K (.ref c_Still) "__setattr__" = some (some (.builtin "object.__setattr__")))
  (mk_Still : W.makesIn K c_Still = true)
  (kc_Still : W.keepIn K (.ref c_Still) = true)
  (oi_Still : W.findIn K (.ref c_Still) "__init__" = some (some (.builtin "object.__init__")))
  (h_Still_eats : W.findIn K (.ref c_Still) "eats" = some (some (.ref f_q21)))
  (pg_End : W.plainGet K c_End Str.empty = true)
  (hd_End : W.hasDictIn K c_End = true)
  (po_End : W.plainOver K c_End = true)
  (sa_End : W.findIn K (.ref c_End) "__setattr__" = some (some (.builtin "object.__setattr__")))
  (mk_End : W.makesIn K c_End = true)
  (kc_End : W.keepIn K (.ref c_End) = true)
  (oi_End : W.findIn K (.ref c_End) "__init__" = some (some (.builtin "object.__init__")))
  (h_End_eats : W.findIn K (.ref c_End) "eats" = some (some (.ref f_q21)))
  (pg_Rule : W.plainGet K c_Rule Str.empty = true)
  (hd_Rule : W.hasDictIn K c_Rule = true)
  (po_Rule : W.plainOver K c_Rule = true)
  (sa_Rule : W.findIn K (.ref c_Rule) "__setattr__" = some (some (.builtin "object.__setattr__")))
  (mk_Rule : W.makesIn K c_Rule = true)
  (kc_Rule : W.keepIn K (.ref c_Rule) = true)
  (n_Rule_pattern : W.findIn K (.ref c_Rule) "pattern" = some none)
  (n_Rule_colour : W.findIn K (.ref c_Rule) "colour" = some none)
  (n_Rule_deed : W.findIn K (.ref c_Rule) "deed" = some none)
  (n_Rule_goal : W.findIn K (.ref c_Rule) "goal" = some none)
  (n_Rule_fold : W.findIn K (.ref c_Rule) "fold" = some none)
  (pg_Mode : W.plainGet K c_Mode Str.empty = true)
  (hd_Mode : W.hasDictIn K c_Mode = true)
  (po_Mode : W.plainOver K c_Mode = true)
  (sa_Mode : W.findIn K (.ref c_Mode) "__setattr__" = some (some (.builtin "object.__setattr__")))
  (mk_Mode : W.makesIn K c_Mode = true)
  (kc_Mode : W.keepIn K (.ref c_Mode) = true)
  (n_Mode_name : W.findIn K (.ref c_Mode) "name" = some none)
  (n_Mode_colour : W.findIn K (.ref c_Mode) "colour" = some none)
  (n_Mode_rules : W.findIn K (.ref c_Mode) "rules" = some none)
  (pg_Rules : W.plainGet K c_Rules Str.empty = true)
  (hd_Rules : W.hasDictIn K c_Rules = true)
  (po_Rules : W.plainOver K c_Rules = true)
  (sa_Rules : W.findIn K (.ref c_Rules) "__setattr__" = some (some (.builtin "object.__setattr__")))
  (mk_Rules : W.makesIn K c_Rules = true)
  (kc_Rules : W.keepIn K (.ref c_Rules) = true)
  (n_Rules_modes : W.findIn K (.ref c_Rules) "modes" = some none)
  (pg_Cursor : W.plainGet K c_Cursor Str.empty = true)
  (hd_Cursor : W.hasDictIn K c_Cursor = true)
  (po_Cursor : W.plainOver K c_Cursor = true)
  (sa_Cursor : W.findIn K (.ref c_Cursor) "__setattr__" = some (some (.builtin "object.__setattr__")))
  (mk_Cursor : W.makesIn K c_Cursor = true)
  (kc_Cursor : W.keepIn K (.ref c_Cursor) = true)
  (n_Cursor_row : W.findIn K (.ref c_Cursor) "row" = some none)
  (n_Cursor_words : W.findIn K (.ref c_Cursor) "words" = some none)
  (n_Cursor_at : W.findIn K (.ref c_Cursor) "at" = some none)
  (pg_GoneRow : W.plainGet K c_GoneRow Str.empty = true)
  (hd_GoneRow : W.hasDictIn K c_GoneRow = true)
  (po_GoneRow : W.plainOver K c_GoneRow = true)
  (sa_GoneRow : W.findIn K (.ref c_GoneRow) "__setattr__" = some (some (.builtin "object.__setattr__")))
  (mk_GoneRow : W.makesIn K c_GoneRow = true)
  (kc_GoneRow : W.keepIn K (.ref c_GoneRow) = true)
  (n_GoneRow_signs : W.findIn K (.ref c_GoneRow) "signs" = some none)
  (n_GoneRow_before : W.findIn K (.ref c_GoneRow) "before" = some none)
  (n_GoneRow_tints : W.findIn K (.ref c_GoneRow) "tints" = some none)
  (n_GoneRow_behind : W.findIn K (.ref c_GoneRow) "behind" = some none)
  (n_GoneRow_folded : W.findIn K (.ref c_GoneRow) "folded" = some none)
  (pg_Tinted : W.plainGet K c_Tinted Str.empty = true)
  (hd_Tinted : W.hasDictIn K c_Tinted = true)
  (po_Tinted : W.plainOver K c_Tinted = true)
  (sa_Tinted : W.findIn K (.ref c_Tinted) "__setattr__" = some (some (.builtin "object.__setattr__")))
  (mk_Tinted : W.makesIn K c_Tinted = true)
  (kc_Tinted : W.keepIn K (.ref c_Tinted) = true)
  (n_Tinted_rules : W.findIn K (.ref c_Tinted) "rules" = some none)
  (n_Tinted_gone_rows : W.findIn K (.ref c_Tinted) "gone_rows" = some none)
  (cg : W.specialIn K (.builtin "object.__class__") "__get__" = some (some (.builtin "getset_descriptor.__get__")))
  (ct : W.takesIn K (.builtin "object.__class__") = some true)
  (ty_Word : W.findIn K (.ref c_Word) "__class__" = some (some (.builtin "object.__class__")))
  (mr_Word : W.mroIn K c_Word (.type "object") = some true)
  (ty_One : W.findIn K (.ref c_One) "__class__" = some (some (.builtin "object.__class__")))
  (mr_One : W.mroIn K c_One (.type "object") = some true)
  (ty_Without : W.findIn K (.ref c_Without) "__class__" = some (some (.builtin "object.__class__")))
  (mr_Without : W.mroIn K c_Without (.type "object") = some true)
  (ty_Many : W.findIn K (.ref c_Many) "__class__" = some (some (.builtin "object.__class__")))
  (mr_Many : W.mroIn K c_Many (.type "object") = some true)
  (ty_Any : W.findIn K (.ref c_Any) "__class__" = some (some (.builtin "object.__class__")))
  (mr_Any : W.mroIn K c_Any (.type "object") = some true)
  (ty_Still : W.findIn K (.ref c_Still) "__class__" = some (some (.builtin "object.__class__")))
  (mr_Still : W.mroIn K c_Still (.type "object") = some true)
  (ty_End : W.findIn K (.ref c_End) "__class__" = some (some (.builtin "object.__class__")))
  (mr_End : W.mroIn K c_End (.type "object") = some true)
  (kit_Word_Word : W.kitOne K (.ref c_Word) (.ref c_Word) = some true)
  (kit_One_One : W.kitOne K (.ref c_One) (.ref c_One) = some true)
  (kit_Without_Without : W.kitOne K (.ref c_Without) (.ref c_Without) = some true)
  (kit_Many_Many : W.kitOne K (.ref c_Many) (.ref c_Many) = some true)
  (kit_Any_Any : W.kitOne K (.ref c_Any) (.ref c_Any) = some true)
  (kit_Still_Still : W.kitOne K (.ref c_Still) (.ref c_Still) = some true)
  (kit_End_End : W.kitOne K (.ref c_End) (.ref c_End) = some true)
  (kb_int_int : W.kitOne K (.type "int") (.type "int") = some true)
  (kb_int_bool : W.kitOne K (.type "int") (.type "bool") = some false)
  (v_LETTERS : W.nsIn K mainGlobals "LETTERS" = some (some (.str "abcdefghijklmnopqrstuvwxyz" u_LETTERS)))
  (v_LONGEST_NAME : W.nsIn K mainGlobals "LONGEST_NAME" = some (some (.int 8 u_LONGEST_NAME)))
  (v_START : W.nsIn K mainGlobals "START" = some (some (.int 0 u_START)))
  (v_SIGNS : W.nsIn K mainGlobals "SIGNS" = some (some (.str " !\"#$&'()*+,-./0123456789:;<=>?@ABCDEFGHIJKLMNOPQRSTUVWXYZ[\\]^_`abcdefghijklmnopqrstuvwxyz{|}~" u_SIGNS)))
  (v_MOST_MODES : W.nsIn K mainGlobals "MOST_MODES" = some (some (.int 12 u_MOST_MODES)))
  (v_MOST_RULES : W.nsIn K mainGlobals "MOST_RULES" = some (some (.int 12 u_MOST_RULES)))
  (v_PATTERNS : W.nsIn K mainGlobals "PATTERNS" = some (some (.ref g_PATTERNS)))
  (o_PATTERNS : K.lookup g_PATTERNS = some ⟨.type "tuple", od_PATTERNS, .seq #[.str "word" u0_PATTERNS, .str "one" u1_PATTERNS, .str "none" u2_PATTERNS, .str "many" u3_PATTERNS, .str "any" u4_PATTERNS, .str "still" u5_PATTERNS, .str "end" u6_PATTERNS] n_PATTERNS, sl_PATTERNS⟩)
  (v_DEEDS : W.nsIn K mainGlobals "DEEDS" = some (some (.ref g_DEEDS)))
  (o_DEEDS : K.lookup g_DEEDS = some ⟨.type "tuple", od_DEEDS, .seq #[.str "stay" u0_DEEDS, .str "push" u1_DEEDS, .str "pop" u2_DEEDS, .str "into" u3_DEEDS] n_DEEDS, sl_DEEDS⟩)
  (v_GOING : W.nsIn K mainGlobals "GOING" = some (some (.ref g_GOING)))
  (o_GOING : K.lookup g_GOING = some ⟨.type "tuple", od_GOING, .seq #[.str "push" u0_GOING, .str "into" u1_GOING] n_GOING, sl_GOING⟩)
  (v_FOLDS : W.nsIn K mainGlobals "FOLDS" = some (some (.ref g_FOLDS)))
  (o_FOLDS : K.lookup g_FOLDS = some ⟨.type "tuple", od_FOLDS, .seq #[.str "open" u0_FOLDS, .str "close" u1_FOLDS] n_FOLDS, sl_FOLDS⟩)
  (z_all : W.nsIn K mainGlobals "all" = some none)
  (z_bool : W.nsIn K mainGlobals "bool" = some none)
  (z_enumerate : W.nsIn K mainGlobals "enumerate" = some none)
  (z_int : W.nsIn K mainGlobals "int" = some none)
  (z_isinstance : W.nsIn K mainGlobals "isinstance" = some none)
  (z_len : W.nsIn K mainGlobals "len" = some none)
  (z_list : W.nsIn K mainGlobals "list" = some none)
  (z_min : W.nsIn K mainGlobals "min" = some none)
  (z_range : W.nsIn K mainGlobals "range" = some none)
  (z_reversed : W.nsIn K mainGlobals "reversed" = some none)
  (z_tuple : W.nsIn K mainGlobals "tuple" = some none)
  (z_zip : W.nsIn K mainGlobals "zip" = some none)
  : ∃ fd : FuncData, (∀ (s : Shared) (v : Value), BindsTo s fd ⟨[v], []⟩ [("_law_script", v)]) /\ ∀ base : Heap, K.In base -> base.Ns mainGlobals mg -> FnOk l.prog w K mg base CX0 9 fa fd ["_law_script"] (spLaw K) := by
 have e := hfa.symm.trans (W.mg_of X G a_law)
 cases e
 let t : Adr := ⟨c_TintError, c_NoRules, c_Rings, c_NoPlace, c_Pattern, c_Word, c_One, c_Without, c_Many, c_Any, c_Still, c_End, c_Rule, c_Mode, c_Rules, c_GoneRow, c_Tinted, c_Cursor, f_q20, d_q20, f_q21, d_q21, f_q46, d_q46, f_q47, d_q47, f_q48, d_q48, f_q17, d_q17, f_q18, d_q18, f_q19, d_q19, f_q43, d_q43, f_q44, d_q44, f_q45, d_q45, f_q12, d_q12, f_q13, d_q13, f_q14, d_q14, f_q0, d_q0, f_q1, d_q1, f_q25, d_q25, f_q10, d_q10, f_q73, d_q73, f_q23, d_q23, f_q15, d_q15, f_q24, d_q24, f_q68, d_q68, f_q66, d_q66, f_q67, d_q67, f_q70, d_q70, f_q69, d_q69, f_q65, d_q65, f_q81, d_q81, f_q84, d_q84, f_q80, d_q80, f_q72, d_q72, f_q71, d_q71, f_q11, d_q11, f_q26, d_q26, f_q42, d_q42, f_q31, d_q31, f_q33, d_q33, f_q38, d_q38, f_q32, d_q32, f_q36, d_q36, f_q35, d_q35, f_q39, d_q39, f_q37, d_q37, f_q29, d_q29, f_q30, d_q30, f_q82, d_q82, f_q83, d_q83, f_q2, d_q2, f_q4, d_q4, f_q5, d_q5, f_q3, d_q3, f_q6, d_q6, f_q7, d_q7, f_q8, d_q8, f_q9, d_q9, f_q79, d_q79, f_q74, d_q74, f_q76, d_q76, f_q78, d_q78, f_q77, d_q77, f_q75, d_q75, f_q51, d_q51, f_q61, d_q61, f_q59, d_q59, f_q57, d_q57, f_q62, d_q62, f_q56, d_q56, f_q52, d_q52, f_q53, d_q53, f_q50, d_q50, f_q55, d_q55, f_q58, d_q58, f_q63, d_q63, f_q60, d_q60, f_q49, d_q49, f_q54, d_q54, g_PATTERNS, g_DEEDS, g_GOING, g_FOLDS⟩
 have T : Txt K mg t := ⟨W.mg_of X G a_TintError, W.mg_of X G a_NoRules, W.mg_of X G a_Rings, W.mg_of X G a_NoPlace, W.mg_of X G a_Pattern, W.mg_of X G a_Word, W.mg_of X G a_One, W.mg_of X G a_Without, W.mg_of X G a_Many, W.mg_of X G a_Any, W.mg_of X G a_Still, W.mg_of X G a_End, W.mg_of X G a_Rule, W.mg_of X G a_Mode, W.mg_of X G a_Rules, W.mg_of X G a_GoneRow, W.mg_of X G a_Tinted, W.mg_of X G a_Cursor, F_q20, F_q21, F_q46, F_q47, F_q48, F_q17, F_q18, F_q19, F_q43, F_q44, F_q45, F_q12, F_q13, F_q14, F_q0, F_q1, F_q25, F_q10, F_q23, F_q15, F_q24, F_q11, F_q26, F_q42, F_q31, F_q33, F_q38, F_q32, F_q36, F_q35, F_q39, F_q37, F_q29, F_q30, F_q2, F_q4, F_q5, F_q3, F_q6, F_q7, F_q8, F_q9, F_q73, W.mg_of X G a_q73, F_q68, W.mg_of X G a_q68, F_q66, W.mg_of X G a_q66, F_q67, W.mg_of X G a_q67, F_q70, W.mg_of X G a_q70, F_q69, W.mg_of X G a_q69, F_q65, W.mg_of X G a_q65, F_q81, W.mg_of X G a_q81, F_q84, W.mg_of X G a_q84, F_q80, W.mg_of X G a_q80, F_q72, W.mg_of X G a_q72, F_q71, W.mg_of X G a_q71, F_q82, W.mg_of X G a_q82, F_q83, W.mg_of X G a_q83, F_q79, W.mg_of X G a_q79, F_q74, W.mg_of X G a_q74, F_q76, W.mg_of X G a_q76, F_q78, W.mg_of X G a_q78, F_q77, W.mg_of X G a_q77, F_q75, W.mg_of X G a_q75, F_q51, W.mg_of X G a_q51, F_q61, W.mg_of X G a_q61, F_q59, W.mg_of X G a_q59, F_q57, W.mg_of X G a_q57, F_q62, W.mg_of X G a_q62, F_q56, W.mg_of X G a_q56, F_q52, W.mg_of X G a_q52, F_q53, W.mg_of X G a_q53, F_q50, W.mg_of X G a_q50, F_q55, W.mg_of X G a_q55, F_q58, W.mg_of X G a_q58, F_q63, W.mg_of X G a_q63, F_q60, W.mg_of X G a_q60, F_q49, W.mg_of X G a_q49, F_q54, W.mg_of X G a_q54, ⟨pg_Word, hd_Word, po_Word, sa_Word⟩, ⟨mk_Word, a_q46, i_q46, kc_Word⟩, n_Word_wanted, ⟨a_q47, i_q47, F_q47.kp⟩, ⟨a_q48, i_q48, F_q48.kp⟩, ⟨pg_One, hd_One, po_One, sa_One⟩, ⟨mk_One, a_q17, i_q17, kc_One⟩, n_One_signs, ⟨a_q18, i_q18, F_q18.kp⟩, ⟨a_q19, i_q19, F_q19.kp⟩, ⟨pg_Without, hd_Without, po_Without, sa_Without⟩, ⟨mk_Without, a_q43, i_q43, kc_Without⟩, n_Without_signs, ⟨a_q44, i_q44, F_q44.kp⟩, ⟨a_q45, i_q45, F_q45.kp⟩, ⟨pg_Many, hd_Many, po_Many, sa_Many⟩, ⟨mk_Many, a_q12, i_q12, kc_Many⟩, n_Many_signs, ⟨a_q13, i_q13, F_q13.kp⟩, ⟨a_q14, i_q14, F_q14.kp⟩, ⟨pg_Any, hd_Any, po_Any, sa_Any⟩, ⟨mk_Any, oi_Any, kc_Any⟩, ⟨a_q0, i_q0, F_q0.kp⟩, ⟨a_q1, i_q1, F_q1.kp⟩, ⟨pg_Still, hd_Still, po_Still, sa_Still⟩, ⟨mk_Still, oi_Still, kc_Still⟩, ⟨a_q25, i_q25, F_q25.kp⟩, ⟨h_Still_eats, i_q21, F_q21.kp⟩, ⟨pg_End, hd_End, po_End, sa_End⟩, ⟨mk_End, oi_End, kc_End⟩, ⟨a_q10, i_q10, F_q10.kp⟩, ⟨h_End_eats, i_q21, F_q21.kp⟩, ⟨pg_Rule, hd_Rule, po_Rule, sa_Rule⟩, ⟨mk_Rule, a_q23, i_q23, kc_Rule⟩, n_Rule_pattern, n_Rule_colour, n_Rule_deed, n_Rule_goal, n_Rule_fold, ⟨pg_Mode, hd_Mode, po_Mode, sa_Mode⟩, ⟨mk_Mode, a_q15, i_q15, kc_Mode⟩, n_Mode_name, n_Mode_colour, n_Mode_rules, ⟨pg_Rules, hd_Rules, po_Rules, sa_Rules⟩, ⟨mk_Rules, a_q24, i_q24, kc_Rules⟩, n_Rules_modes, ⟨pg_Cursor, hd_Cursor, po_Cursor, sa_Cursor⟩, ⟨mk_Cursor, a_q2, i_q2, kc_Cursor⟩, n_Cursor_row, n_Cursor_words, n_Cursor_at, ⟨a_q4, i_q4, F_q4.kp⟩, ⟨a_q5, i_q5, F_q5.kp⟩, ⟨a_q3, i_q3, F_q3.kp⟩, ⟨a_q6, i_q6, F_q6.kp⟩, ⟨a_q7, i_q7, F_q7.kp⟩, ⟨a_q8, i_q8, F_q8.kp⟩, ⟨a_q9, i_q9, F_q9.kp⟩, ⟨pg_GoneRow, hd_GoneRow, po_GoneRow, sa_GoneRow⟩, ⟨mk_GoneRow, a_q11, i_q11, kc_GoneRow⟩, n_GoneRow_signs, n_GoneRow_before, n_GoneRow_tints, n_GoneRow_behind, n_GoneRow_folded, ⟨pg_Tinted, hd_Tinted, po_Tinted, sa_Tinted⟩, ⟨mk_Tinted, a_q26, i_q26, kc_Tinted⟩, n_Tinted_rules, n_Tinted_gone_rows, ⟨a_q42, i_q42, F_q42.kp⟩, ⟨a_q31, i_q31, F_q31.kp⟩, ⟨a_q33, i_q33, F_q33.kp⟩, ⟨a_q38, i_q38, F_q38.kp⟩, ⟨a_q32, i_q32, F_q32.kp⟩, ⟨a_q36, i_q36, F_q36.kp⟩, ⟨a_q35, i_q35, F_q35.kp⟩, ⟨a_q39, i_q39, F_q39.kp⟩, ⟨a_q37, i_q37, F_q37.kp⟩, ⟨a_q29, i_q29, F_q29.kp⟩, ⟨a_q30, i_q30, F_q30.kp⟩, cg, ct, ty_Word, mr_Word, ty_One, mr_One, ty_Without, mr_Without, ty_Many, mr_Many, ty_Any, mr_Any, ty_Still, mr_Still, ty_End, mr_End, kit_Word_Word, kit_One_One, kit_Without_Without, kit_Many_Many, kit_Any_Any, kit_Still_Still, kit_End_End, kb_int_int, kb_int_bool, ⟨_, W.mg_of X G v_LETTERS, ⟨_, rfl⟩⟩, ⟨_, W.mg_of X G v_LONGEST_NAME, ⟨_, rfl⟩⟩, ⟨_, W.mg_of X G v_START, ⟨_, rfl⟩⟩, ⟨_, W.mg_of X G v_SIGNS, ⟨_, rfl⟩⟩, ⟨_, W.mg_of X G v_MOST_MODES, ⟨_, rfl⟩⟩, ⟨_, W.mg_of X G v_MOST_RULES, ⟨_, rfl⟩⟩, W.mg_of X G v_PATTERNS, fun H => .inr ⟨_, _, _, o_PATTERNS, rfl, rfl, by show 7 <= sizeLine; decide, .cons ⟨_, rfl⟩ (.cons ⟨_, rfl⟩ (.cons ⟨_, rfl⟩ (.cons ⟨_, rfl⟩ (.cons ⟨_, rfl⟩ (.cons ⟨_, rfl⟩ (.cons ⟨_, rfl⟩ (.nil)))))))⟩, W.mg_of X G v_DEEDS, fun H => .inr ⟨_, _, _, o_DEEDS, rfl, rfl, by show 4 <= sizeLine; decide, .cons ⟨_, rfl⟩ (.cons ⟨_, rfl⟩ (.cons ⟨_, rfl⟩ (.cons ⟨_, rfl⟩ (.nil))))⟩, W.mg_of X G v_GOING, fun H => .inr ⟨_, _, _, o_GOING, rfl, rfl, by show 2 <= sizeLine; decide, .cons ⟨_, rfl⟩ (.cons ⟨_, rfl⟩ (.nil))⟩, W.mg_of X G v_FOLDS, fun H => .inr ⟨_, _, _, o_FOLDS, rfl, rfl, by show 2 <= sizeLine; decide, .cons ⟨_, rfl⟩ (.cons ⟨_, rfl⟩ (.nil))⟩, W.mg_none_of X G z_all, W.mg_none_of X G z_bool, W.mg_none_of X G z_enumerate, W.mg_none_of X G z_int, W.mg_none_of X G z_isinstance, W.mg_none_of X G z_len, W.mg_none_of X G z_list, W.mg_none_of X G z_min, W.mg_none_of X G z_range, W.mg_none_of X G z_reversed, W.mg_none_of X G z_tuple, W.mg_none_of X G z_zip⟩
 exact ⟨d_law, (by obtain ⟨_, _, _, _, _, _, _, _, _, e, _⟩ := F_law.ex; rw [e]; exact fun s v => .of_eq rfl), fun base _ _ => ok_law F_law T⟩
theorem walk {l : W.OpenLaw} {q : Program} {loose : List Str} {XP : (Str -> Option Value) -> Heap -> Prop} {YP : World -> Heap -> Prop} {d : DefRec} {K : Params -> W.Frag} (hn : l.most = some 63) (hdf : d.params.defaults = [])
  (hY : ∀ (w : World) (h : Heap), YP w h -> (K w.params).In h)
  (F : ∀ (w : World) (mg : Str -> Option Value) (fa : Addr) (h : Heap), (K w.params).In h -> h.Ns mainGlobals mg -> mg d.name = some (.ref fa) ->
   ∃ fd : FuncData, (∀ (s : Shared) (u : Value), BindsTo s fd ⟨[u], []⟩ [("_law_script", u)]) /\ ∀ base : Heap, (K w.params).In base -> base.Ns mainGlobals mg -> FnOk l.prog w (K w.params) mg base CX0 9 fa fd ["_law_script"] (spLaw (K w.params))) :
  W.WalkO q loose XP YP l.row.toRowW d [] (fun f vs => PySem.call f vs) :=
 L2.walk_of (n := 63) (k := 9) (x := "_law_script") (CX := fun _ => CX0) (sp := fun w => spLaw (K w.params)) hn (by decide) hdf ⟨rfl, by decide, by decide⟩ hY F (fun _ _ a ns hl _ hS => ⟨a, ns, rfl, hS, hl, fun _ => rfl⟩) fun _ _ _ _ _ z => z
end K32
open PySem PySem.W PyProof.Rows
set_option maxRecDepth 100000 in
set_option maxHeartbeats 0 in
theorem PySem.Challenge.cw_tintrow_k32_whole_changed_rows_holds : PySem.Challenge.rw_tintrow_k32_whole_changed_rows.Holds := by
 w_on; o_law; k_head; (case hw => w_witness2)
 k_fill
 refine K32.walk (l := PySem.Challenge.rw_tintrow_k32_whole_changed_rows) rfl rfl (fun w h Y => PySem.W.kIn_of Y) ?F
 case F =>
  intro w mg fa h KX G hmg
  apply K32.all_mk KX G hmg
  all_goals first | (show PySem.W.kitOne _ _ _ = _; kit_is) | k_is | (apply L2.fun_mk <;> k_is)
