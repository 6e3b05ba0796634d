import PyProof.Rows.All
import Wide.All
import OpenK.AllK
import Wide.FinOn
import PyProof.EqAt
import PyProof.EqKinds
import PyProof.TupleCall
import PyProof.ListStr
import PyProof.EnumFor
import PyProof.EnumMake
import PyProof.EnumStmt
import PyProof.StrLawsTight
import PyProof.StrLawsReplace
import PyProof.StrCalls6
import PyProof.ToksMono
import PyProof.StationsW
import PyProof.RulesTry
import PyProof.ExcInit
import PyProof.ExcClass3
import OpenK.KOwn
import PyProof.ExcBaseAll.ValueError
import PyProof.RulesAs
import PyProof.NsDelKeeps
import KE.KIsAll
import PyProof.ExcArgsOwn
import PyProof.InstStoreFacts
import KE.KIntText
import PyProof.FString
import PyProof.CompMap
import KE.KListMore
import PyProof.ListRange
import PySem.Challenge.RW_tintrow_k34_no_place
set_option Elab.async false
set_option linter.all false
set_option maxRecDepth 100000
namespace L2
open PySem PySem.Spec PyProof.Rows
abbrev Key:=Sum Int Str
def t6:Key -> Value -> Bool
 | .inl k,v=>Value.isInt k v
 | .inr x,v=>Value.isStrOf x v
def O9 (w:World):Key -> Int
 | .inl k=>hashInt k
 | .inr x=>hashStr w x
theorem dH:∀ {k:Key} {v:Value},t6 k v = true -> (∃ i t,k = Sum.inl i /\ v = Value.int i t) ∨ (∃ x t,k = Sum.inr x /\ v = Value.str x t)
 | .inl i,v,h=>by
  obtain ⟨t,e⟩:=Value.isInt_shape (k:=i) (v:=v) h
  exact .inl ⟨i,t,rfl,e⟩
 | .inr x,v,h=>by
  obtain ⟨t,e⟩:=Value.isStrOf_shape (x:=x) (v:=v) h
  exact .inr ⟨x,t,rfl,e⟩
theorem CN (i:Int) (t:Tok):t6 (.inl i) (.int i t) = true:=by simp [t6,Value.isInt]
theorem BZ (x:Str) (t:Tok):t6 (.inr x) (.str x t) = true:=by simp [t6,Value.isStrOf]
theorem K5 (a b:Int):decide ((Sum.inl a:Key) = Sum.inl b) = (a == b):=by
 by_cases e:a = b
 ·subst e;simp
 ·have h:¬ (Sum.inl a:Key) = Sum.inl b:=λq=>e (Sum.inl.inj q)
  rw [decide_eq_false h]
  exact (beq_eq_false_iff_ne.mpr e).symm
theorem LV (a b:Str):decide ((Sum.inr a:Key) = Sum.inr b) = decide (a = b):=by
 by_cases e:a = b
 ·subst e;simp
 ·have h:¬ (Sum.inr a:Key) = Sum.inr b:=λq=>e (Sum.inr.inj q)
  rw [decide_eq_false h,decide_eq_false e]
theorem MW (a:Int) (b:Str):decide ((Sum.inl a:Key) = Sum.inr b) = false:=decide_eq_false (λq=>nomatch q)
theorem MG (a:Str) (b:Int):decide ((Sum.inr a:Key) = Sum.inl b) = false:=decide_eq_false (λq=>nomatch q)
def dN (prog:Program) (w:World):PySem.KeyKind prog w Key where
 is:=t6
 hash:=O9 w
 inj:=λv a b ha hb=>by
  rcases dH ha with ⟨i,t,rfl,rfl⟩ | ⟨x,t,rfl,rfl⟩
  ·rcases dH hb with ⟨j,u,rfl,e⟩ | ⟨y,u,rfl,e⟩
   ·injection e with e1 _;rw [e1]
   ·exact nomatch e
  ·rcases dH hb with ⟨j,u,rfl,e⟩ | ⟨y,u,rfl,e⟩
   ·exact nomatch e
   ·injection e with e1 _;rw [e1]
 byValue:=λk v h=>by
  rcases dH h with ⟨i,t,rfl,rfl⟩ | ⟨x,t,rfl,rfl⟩ <;> rfl
 pyHash:=λhv h=>by
  rcases dH hv with ⟨i,t,rfl,rfl⟩ | ⟨x,t,rfl,rfl⟩
  ·exact wpAny_pyHash_int h
  ·exact wpAny_pyHash_str h
 eqBool:=λhu hv h=>by
  rcases dH hu with ⟨i,t,rfl,rfl⟩ | ⟨x,t,rfl,rfl⟩
  ·rcases dH hv with ⟨j,u,rfl,rfl⟩ | ⟨y,u,rfl,rfl⟩
   ·rw [K5] at h;exact wpAny_eqBool_int h
   ·rw [MW] at h;exact SeqAt.EqAt.int_str i t y u _ _ _ _ h
  ·rcases dH hv with ⟨j,u,rfl,rfl⟩ | ⟨y,u,rfl,rfl⟩
   ·rw [MG] at h;exact SeqAt.EqAt.str_int x t j u _ _ _ _ h
   ·rw [LV] at h;exact wpAny_eqBool_str h
 «strs»:=λk x t v h=>by
  rcases dH h with ⟨i,u,rfl,e⟩ | ⟨y,u,rfl,e⟩
  ·exact nomatch e
  ·injection e with e1 _
   subst e1
   cases v <;> rfl
theorem wG (prog:Program) (w:World) (i:Int) (t:Tok):(dN prog w).is (.inl i) (.int i t) = true:=CN i t
theorem xg (prog:Program) (w:World) (x:Str) (t:Tok):(dN prog w).is (.inr x) (.str x t) = true:=BZ x t
end L2
namespace L2
open PySem PySem.Spec PyProof.Rows
inductive V where
 | cM | bl (b:Bool) | int (i:Int) | str (x:Str) | byt (b:Array UInt8) | flt (b:UInt64) | ref (a:Addr) | ty (n:String)
 deriving DecidableEq
def RelV:V -> Value -> Prop
 | .cM,u=>u = Value.none
 | .bl b,u=>u = Value.bool b
 | .int i,u=>∃ t,u = Value.int i t
 | .str x,u=>∃ t,u = Value.str x t
 | .byt b,u=>∃ t,u = Value.bytes b t
 | .flt b,u=>∃ t,u = Value.float b t
 | .ref a,u=>u = Value.ref a
 | .ty n,u=>u = Value.type n
abbrev Vals:List V -> List Value -> Prop:=Paired RelV
theorem Vals.length {xs:List V} {us:List Value} (r:Vals xs us):xs.length = us.length:=Paired.length r
theorem Vals.get:∀ {xs:List V} {us:List Value} {i:Nat} {x:V},Vals xs us -> xs[i]? = some x -> ∃ u,us[i]? = some u /\ RelV x u
 | _,_,_,_,.nil,e=>by simp at e
 | _,_,0,_,.cons r _,e=>by simp at e;subst e;exact ⟨_,rfl,r⟩
 | _,_,i + 1,x,.cons _ t,e=>by
  obtain ⟨u,h1,h2⟩:=Vals.get (i:=i) (x:=x) t (by simpa using e)
  exact ⟨u,by simpa using h1,h2⟩
theorem Vals.set {x:V} {u:Value} (r:RelV x u):∀ {xs:List V} {us:List Value} (i:Nat),Vals xs us -> Vals (xs.set i x) (us.set i u)
 | _,_,_,.nil=>.nil
 | _,_,0,.cons _ t=>.cons r t
 | _,_,i + 1,.cons q t=>.cons q (Vals.set r i t)
theorem Vals.append:∀ {xs ys:List V} {us ws:List Value},Vals xs us -> Vals ys ws -> Vals (xs ++ ys) (us ++ ws)
 | _,_,_,_,.nil,s=>s
 | _,_,_,_,.cons r t,s=>.cons r (Vals.append t s)
theorem Vals.take:∀ {xs:List V} {us:List Value} (n:Nat),Vals xs us -> Vals (xs.take n) (us.take n)
 | _,_,0,_=>.nil
 | _,_,_ + 1,.nil=>.nil
 | _,_,n + 1,.cons r t=>.cons r (Vals.take n t)
theorem Vals.drop:∀ {xs:List V} {us:List Value} (n:Nat),Vals xs us -> Vals (xs.drop n) (us.drop n)
 | _,_,0,r=>r
 | _,_,_ + 1,.nil=>.nil
 | _,_,n + 1,.cons _ t=>Vals.drop n t
def jI:Option V -> Option Value -> Prop
 | some v,some u=>RelV v u
 | none,none=>True
 | _,_=>False
def KV {κ:Type}:List (κ × V) -> List (κ × Value) -> Prop:=Paired λ(p:κ × V) (q:κ × Value)=>p.1 = q.1 /\ RelV p.2 q.2
def kV:Key -> V
 | .inl i=>.int i
 | .inr x=>.str x
inductive HO where
  | lst (xs:List V)
  | tup (xs:List V)
  | dK (kvs:List (Key × V)) | dT (kvs:List (List Key × V))
  | set (S:Int -> Bool) (n:Nat)
  | ins (C dx:Addr) (fs:List (Str × V))
  | own (x:Addr)
  | xd (fs:List (Str × V))
  | met (f x:Addr)
  | OU (lo hi:Int)
  | De (o:Obj) (u:HO)
  | II (ps:Array Value)
  | ext (φ:Heap -> Prop)
abbrev Hp:=Addr -> Option HO
def upd (H:Hp) (a:Addr) (o:HO):Hp:=λb=>if b = a then some o else H b
theorem af {H:Hp} {a:Addr} {o:HO}:upd H a o a = some o:=by unfold upd;rw [if_pos rfl]
theorem aj {H:Hp} {a b:Addr} {o:HO} (h:b ≠ a):upd H a o b = H b:=by unfold upd;rw [if_neg h]
theorem iR {H:Hp} {a:Addr} {o u:HO}:upd (upd H a o) a u = upd H a u:=by
 funext b;unfold upd;split <;> rfl
theorem cQ {H:Hp} {a b:Addr} {o u:HO} (h:H a = some o) (h':H b = some u) (d:o ≠ u):a ≠ b:=by
 intro e;subst e;rw [h] at h';exact d (Option.some.inj h')
theorem aq {H:Hp} {a b:Addr} {o:HO} (h:H a = some o) (h':H b = none):a ≠ b:=by
 intro e;subst e;rw [h] at h';cases h'
section
variable (P:Program) (w:World)
def di (H:Hp) (h:Heap) (a:Addr):HO -> Prop
 | .lst xs=>xs.length <= sizeLine /\ ∃ (its:List Value) (n:Nat),Vals xs its /\ h.get? a = some { cls:=.type "list",data:=.seq its.toArray n }
 | .tup xs=>xs.length <= sizeLine /\ ∃ its:List Value,Vals xs its /\ IsTup h a its.toArray
 | .dK kvs=>kvs.length <= sizeLine /\ (a == sysModules) = false /\ ∃ vs,KV kvs vs /\ h.DictOf (dN P w) a vs
 | .dT kvs=>kvs.length <= sizeLine /\ (a == sysModules) = false /\ ∃ xs:List (List Key × Addr × Value),
   Paired (λ(p:List Key × V) (q:List Key × Addr × Value)=>p.1 = q.1 /\ H q.2.1 = some (.tup (p.1.map kV)) /\ RelV p.2 q.2.2) kvs xs /\
   ∃ o es ep,h.get? a = some o /\ o.ExactDict /\ o.data = .dict es ep /\ es.toList = xs.map (entryOfKey (tupleKind (dN P w))) /\ (xs.map (·.1)).Nodup
 | .set S n=>h.SetOf (intKind P w) a S n
 | .ins C dx fs=>H dx = some (.own a) /\ fs.length <= 1000 /\ dx ≠ a /\ h.get? a = some (PySem.W.instObj C dx) /\
   ∃ mA,h.Ns1 dx mA /\ (∀ f,jI (fs.lookup f) (mA f)) /\ PySem.Within mA (fs.map (·.1))
 | .own _=>∃ o,h.get? a = some o
 | .xd fs=>∃ mA,h.Ns1 a mA /\ ∀ f,jI (fs.lookup f) (mA f)
 | .OU lo hi=>∃ t u v,h.get? a = some { cls:=.type "range",data:=.fields #[.int lo t,.int hi u,.int 1 v] }
 | .De o u=>h.get? a = some o /\ di H h a u
 | .II ps=>h.get? a = some { cls:=.none,data:=.fields ps }
 | .met f x=>h.get? a = some (PySem.W.methodObj (.ref f) (.ref x))
 | .ext φ=>φ h /\ (∃ o,h.get? a = some o) /\ ∀ h1 h2:Heap,φ h1 -> (∀ o,h1.get? a = some o -> h2.get? a = some o) -> φ h2
def jP (H:Hp) (h:Heap):Prop:=∀ a o,H a = some o -> di P w H h a o
end
section
variable {P:Program} {w:World} {H H':Hp} {h h':Heap} {a:Addr} {o:HO}
theorem di.lt (x:di P w H h a o):a < h.objs.size:=by
 cases o with
 | lst xs=>obtain ⟨_,_,_,_,e⟩:=x;exact Heap.lt_size e
 | tup xs=>obtain ⟨_,_,_,p⟩:=x;exact p.lt
 | dK kvs=>obtain ⟨_,_,_,_,o,_,_,e,_⟩:=x;exact Heap.lt_size e
 | dT kvs=>obtain ⟨_,_,_,_,o,_,_,e,_⟩:=x;exact Heap.lt_size e
 | set S n=>obtain ⟨o,_,_,_,e,_⟩:=x;exact Heap.lt_size e
 | ins C dx fs=>obtain ⟨_,_,_,e,_⟩:=x;exact Heap.lt_size e
 | own y=>obtain ⟨_,e⟩:=x;exact Heap.lt_size e
 | xd fs=>obtain ⟨_,⟨_,_,_,e,_⟩,_⟩:=x;exact Heap.lt_size e
 | OU lo hi=>obtain ⟨_,_,_,e⟩:=x;exact Heap.lt_size e
 | De ob u=>obtain ⟨e,_⟩:=x;exact Heap.lt_size e
 | II ps=>exact Heap.lt_size (show h.get? a = some _ from x)
 | met f y=>exact Heap.lt_size (show h.get? a = some _ from x)
 | ext φ=>obtain ⟨_,⟨_,e⟩,_⟩:=x;exact Heap.lt_size e
theorem Paired.LP {α β:Type} {F G:α -> β -> Prop}:∀ {l₁:List α} {l₂:List β},Paired F l₁ l₂ -> (∀ a b,F a b -> G a b) -> Paired G l₁ l₂
 | _,_,.nil,_=>.nil
 | _,_,.cons r t,f=>.cons (f _ _ r) (Paired.LP t f)
theorem di.stay (x:di P w H h a o) (k:∀ b u,(b = a ∨ H b = some (.own a)) -> h.get? b = some u -> h'.get? b = some u)
  (ho:∀ b,H b = some (.own a) -> H' b = some (.own a)) (ht:∀ b xs,H b = some (.tup xs) -> H' b = some (.tup xs)):di P w H' h' a o:=by
 induction o with
 | lst xs=>obtain ⟨z,its,n,r,e⟩:=x;exact ⟨z,its,n,r,k _ _ (.inl rfl) e⟩
 | tup xs=>obtain ⟨z,its,r,ob,e,c⟩:=x;exact ⟨z,its,r,ob,k _ _ (.inl rfl) e,c⟩
 | dK kvs=>obtain ⟨z,y,vs,r,ob,es,ep,e,c⟩:=x;exact ⟨z,y,vs,r,ob,es,ep,k _ _ (.inl rfl) e,c⟩
 | dT kvs =>
  obtain ⟨z,y,xs,r,ob,es,ep,e,c⟩:=x
  exact ⟨z,y,xs,Paired.LP r λp q z=>⟨z.1,ht _ _ z.2.1,z.2.2⟩,ob,es,ep,k _ _ (.inl rfl) e,c⟩
 | set S n=>obtain ⟨ob,es,ep,t,e,c⟩:=x;exact ⟨ob,es,ep,t,k _ _ (.inl rfl) e,c⟩
 | ins C dx fs =>
  obtain ⟨d,z,ne,e,mA,⟨od,es,ep,e2,c⟩,r⟩:=x
  exact ⟨ho _ d,z,ne,k _ _ (.inl rfl) e,mA,⟨od,es,ep,k _ _ (.inr d) e2,c⟩,r⟩
 | own y=>obtain ⟨ob,e⟩:=x;exact ⟨ob,k _ _ (.inl rfl) e⟩
 | xd fs=>obtain ⟨mA,⟨od,es,ep,e,c⟩,r⟩:=x;exact ⟨mA,⟨od,es,ep,k _ _ (.inl rfl) e,c⟩,r⟩
 | OU lo hi=>obtain ⟨t,u,v,e⟩:=x;exact ⟨t,u,v,k _ _ (.inl rfl) e⟩
 | De ob u ih=>obtain ⟨e,q⟩:=x;exact ⟨k _ _ (.inl rfl) e,ih q⟩
 | II ps =>
  have e:h.get? a = some { cls:=.none,data:=.fields ps }:=x
  show h'.get? a = some { cls:=.none,data:=.fields ps }
  exact k a _ (.inl rfl) e
 | met f y =>
  have e:h.get? a = some (PySem.W.methodObj (.ref f) (.ref y)):=x
  show h'.get? a = some (PySem.W.methodObj (.ref f) (.ref y))
  exact k a _ (.inl rfl) e
 | ext φ=>obtain ⟨p,⟨o,e⟩,st⟩:=x;exact ⟨st _ _ p λo q=>k _ _ (.inl rfl) q,⟨o,k _ _ (.inl rfl) e⟩,st⟩
theorem jP.lt (x:jP P w H h) (e:H a = some o):a < h.objs.size:=(x a o e).lt
theorem jP.fresh (x:jP P w H h) (e:h.objs.size <= a):H a = none:=by
 cases q:H a with
 | none=>rfl
 | some u=>exact absurd (Nat.lt_of_lt_of_le (x.lt q) e) (Nat.lt_irrefl _)
theorem jP.kept (x:jP P w H h) (k:∀ b u,h.get? b = some u -> h'.get? b = some u):jP P w H h':=λa o e =>
 (x a o e).stay (λb u _ q=>k b u q) (λ_ q=>q) λ_ _ q=>q
theorem jP.laid (x:jP P w H h) (k:∀ b u,h.get? b = some u -> h'.get? b = some u) (hp:h.objs.size <= a) (new:di P w (upd H a o) h' a o):jP P w (upd H a o) h':=λb u e=>by
 have hn:=x.fresh hp
 by_cases hb:b = a
 ·subst hb;rw [af] at e;cases e;exact new
 ·rw [aj hb] at e
  exact (x b u e).stay (λc v _ q=>k c v q) (λc q=>by rw [aj (aq q hn)];exact q) λc xs q=>by rw [aj (aq q hn)];exact q
end
noncomputable def Rd (H:Hp) (a:Addr) (u:HO):Prop:=H a = some u ∨ ∃ o,H a = some (.De o u)
theorem Rd.ok {P:Program} {w:World} {H:Hp} {h:Heap} {a:Addr} {u:HO} (r:Rd H a u) (x:jP P w H h):di P w H h a u:=by
 rcases r with r | ⟨o,r⟩
 ·exact x a u r
 ·obtain ⟨_,q⟩:=x a _ r
  exact q
def Oh:Option HO -> Prop
 | some (.lst _)=>True
 | some (.dK _)=>True
 | some (.dT _)=>True
 | some (.set _ _)=>True
 | some (.ins _ _ _)=>True
 | some (.ext _)=>True
 | _=>False
section
variable {P:Program} {w:World} {H:Hp} {h h':Heap} {x e:Addr} {o':HO}
theorem jP.write (ok:jP P w H h) (mu:Oh (H x)) (he:e = x ∨ H e = some (.own x)) (k:∀ b u,b ≠ e -> h.get? b = some u -> h'.get? b = some u) (heo:∃ u,h'.get? e = some u)
  (new:di P w (upd H x o') h' x o'):jP P w (upd H x o') h':=λb u q=>by
 have nown:∀ c y,H c = some (.own y) -> c ≠ x:=λc y r z=>by subst z;rw [r] at mu;exact mu
 have ntup:∀ c xs,H c = some (.tup xs) -> c ≠ x:=λc xs r z=>by subst z;rw [r] at mu;exact mu
 by_cases hb:b = x
 ·subst hb;rw [af] at q;cases q;exact new
 ·rw [aj hb] at q
  by_cases hbe:b = e
  ·have q':H b = some (.own x):=by
    rcases he with z | z
    ·exact absurd (hbe.trans z) hb
    ·rw [hbe];exact z
   rw [q] at q';cases q'
   obtain ⟨v,hv⟩:=heo
   exact ⟨v,by rw [hbe];exact hv⟩
  ·refine (ok b u q).stay (λc v hc r=>k c v ?_ r) (λc r=>by rw [aj (nown c b r)];exact r) λc xs r=>by rw [aj (ntup c xs r)];exact r
   rcases hc with rfl | hc
   ·exact hbe
   ·rintro rfl
    rcases he with z | z
    ·exact nown c b hc z
    ·rw [hc] at z;cases z;exact hb rfl
end
structure Un (fs ex:List Addr) (H H':Hp) (h h':Heap):Prop where
 keep:∀ b o,h.get? b = some o -> H b = none -> b ∉ fs -> b ∉ ex -> h'.get? b = some o
 slot:∀ b o,h.get? b = some o -> H b = none -> b ∈ fs -> b ∉ ex -> ∃ sl,h'.get? b = some { o with slots:=sl }
 free:∀ b o,h.get? b = some o -> H b = none -> b ∉ ex -> H' b = none
 there:∀ b o,h.get? b = some o -> b ∉ ex -> ∃ o',h'.get? b = some o'
 tups:∀ b xs,H b = some (.tup xs) -> H' b = some (.tup xs)
 oJ:∀ b o u,H b = some (.De o u) -> H' b = some (.De o u)
 qE:∀ b ps,H b = some (.II ps) -> ∃ more,H' b = some (.II (ps ++ more))
section
variable {fs fs' ex ex':List Addr} {H H1 H2:Hp} {h h1 h2 h':Heap} {a x e:Addr} {o:HO}
theorem Un.any (u:Un fs ex H H1 h h1) {b:Addr} {ob:Obj} (q:h.get? b = some ob) (n:H b = none) (hx:b ∉ ex):∃ sl,h1.get? b = some { ob with slots:=sl }:=by
 by_cases hb:b ∈ fs
 ·exact u.slot b ob q n hb hx
 ·exact ⟨ob.slots,u.keep b ob q n hb hx⟩
theorem Un.kept (k:∀ b u,h.get? b = some u -> h'.get? b = some u):Un fs ex H H h h' :=
 ⟨λb ob q _ _ _=>k b ob q,λb ob q _ _ _=>⟨ob.slots,k b ob q⟩,λ_ _ _ n _=>n,λb ob q _=>⟨ob,k b ob q⟩,λ_ _ q=>q,λ_ _ _ q=>q,λ_ ps q=>⟨#[],by rw [q];simp⟩⟩
theorem Un.refl:Un fs ex H H h h:=Un.kept λ_ _ q=>q
theorem Un.laid (k:∀ b u,h.get? b = some u -> h'.get? b = some u) (hp:h.objs.size <= a) (hn:H a = none):Un fs ex H (upd H a o) h h' where
 keep:=λb u q _ _ _=>k b u q
 slot:=λb u q _ _ _=>⟨u.slots,k b u q⟩
 free:=λb u q n _=>by rw [aj (Nat.ne_of_lt (Nat.lt_of_lt_of_le (Heap.lt_size q) hp))];exact n
 there:=λb u q _=>⟨u,k b u q⟩
 tups:=λb xs q=>by rw [aj (aq q hn)];exact q
 oJ:=λb u xs q=>by rw [aj (aq q hn)];exact q
 qE:=λb ps q=>⟨#[],by rw [aj (aq q hn),q];simp⟩
theorem Un.write (mu:Oh (H x)) (he:e = x ∨ H e = some (.own x)) (k:∀ b u,b ≠ e -> h.get? b = some u -> h'.get? b = some u) (heo:∃ u,h'.get? e = some u):Un fs ex H (upd H x o) h h':=by
 have hx:∀ b,H b = none -> b ≠ x:=λb n z=>by subst z;rw [n] at mu;exact mu
 have hb:∀ b,H b = none -> b ≠ e:=λb n z=>by
  subst z
  rcases he with r | r
  ·exact hx b n r
  ·rw [n] at r;cases r
 have hm:∀ b u,H b = some u -> ¬ Oh (some u) -> b ≠ x:=λb u q nm z=>by subst z;rw [q] at mu;exact nm mu
 refine ⟨λb u q n _ _=>k b u (hb b n) q,λb u q n _ _=>⟨u.slots,k b u (hb b n) q⟩,λb u q n _=>by rw [aj (hx b n)];exact n,λb u q _=>?_,
  λb xs q=>by rw [aj (hm b _ q λz=>z)];exact q,λb u xs q=>by rw [aj (hm b _ q λz=>z)];exact q,λb ps q=>⟨#[],by rw [aj (hm b _ q λz=>z),q];simp⟩⟩
 by_cases hbe:b = e
 ·subst hbe;exact heo
 ·exact ⟨u,k b u hbe q⟩
end
def OT (h:Heap) (H:Hp):List Addr:=(List.range h.objs.size).filter λa=>(H a).isSome
def uR (h:Heap) (H:Hp):Heap:=PySem.W.hideAll h (OT h H)
theorem Cm (h:Heap) (H:Hp):(uR h H).objs.size = h.objs.size:=PySem.W.hideAll_size _ _
theorem Gj {h:Heap} {H:Hp} {b:Addr} {o:Obj} (e:h.get? b = some o) (n:H b = none):(uR h H).get? b = some o :=
 PySem.W.hideAll_get _ e λhm=>by
  have q:(H b).isSome = true:=(List.mem_filter.mp hm).2
  rw [n] at q;simp at q
theorem Hr {h:Heap} {H:Hp} {b:Addr} {o:Obj} (e:(uR h H).get? b = some o):h.get? b = some o /\ H b = none:=by
 have e':h.get? b = some o:=PySem.W.of_hideAll (OT h H) e
 refine ⟨e',?_⟩
 cases q:H b with
 | none=>rfl
 | some x =>
  have hm:b ∈ OT h H:=List.mem_filter.mpr ⟨List.mem_range.mpr (Heap.lt_size e'),by simp [q]⟩
  have z:(uR h H).get? b = none:=PySem.W.hideAll_none (OT h H) hm
  rw [z] at e;cases e
end L2
namespace L2
open PySem PySem.Spec PyProof.Rows
structure Mod (K:PySem.W.Frag) (mg:Str -> Option Value) (base:Heap):Prop where
 nO:K.In base
 glob:base.Ns mainGlobals mg
 blt:∃ mb,base.Ns builtinsNs mb /\ ∀ x:Str,x ≠ "__name__" -> mb x = bootBuiltins x
 nolimit:base.NoLimit
structure Cx where
 prog:Program
 w:World
 K:PySem.W.Frag
 mg:Str -> Option Value
 base:Heap
 A:Around
 N:List Str
 s₀:Shared
 H₀:Hp
 env:Env
 outer:List Env
 stack:List Env
 ex:List Addr
 fn:Str -> Bool
 calm:Bool
 pn:List (Addr × Obj)
 xe:Value -> Shared -> Prop
def frs (l:List Env):List Addr:=l.filterMap (·.frame)
abbrev Cx.fs (X:Cx):List Addr:=frs X.outer
noncomputable def NG (sc:Scope) (x:Str):Prop:=sc.names.lookup x = some .local ∨ sc.names.lookup x = some .cell ∨ sc.names.lookup x = some .free
noncomputable def Loc (sc:Scope) (x:Str):Prop:=sc.names.lookup x = some .local ∨ sc.names.lookup x = some .cell
noncomputable def Look (env:Env) (h:Heap) (m:Str -> Option Value) (x:Str) (u:Value):Prop :=
 (env.kindOf x = some .local /\ m x = some u) ∨ ((env.kindOf x = some .cell ∨ env.kindOf x = some .free) /\ ∃ c,env.cells.lookup x = some c /\ h.IsCell c (some u))
structure Cx.Ok (X:Cx):Prop where
 mod:Mod X.K X.mg X.base
 kind:X.env.scope.kind = .function
 glob:X.env.globals = mainGlobals
 blt:X.env.builtins = builtinsNs
 above:X.s₀.heap.objs.size <= X.env.locals
 inj:∀ x y c,X.env.cells.lookup x = some c -> X.env.cells.lookup y = some c -> x = y
 has:∀ x,(X.env.kindOf x = some .cell ∨ X.env.kindOf x = some .free) -> ∃ c,X.env.cells.lookup x = some c
 M4:∀ x c,X.fn x = true -> X.env.cells.lookup x = some c -> X.s₀.heap.objs.size <= c
 hd:X.calm = true -> X.A.handled = none
 frames:X.A.frames = some X.stack
 stk:X.stack = X.outer ∨ (X.stack = X.env :: X.outer /\ X.env.frame = some X.env.locals)
 O8:∀ b ∈ X.ex,b ≠ X.env.locals /\ ∀ x c,X.env.cells.lookup x = some c -> c ≠ b
 bs:∀ b o,X.base.get? b = some o -> X.s₀.heap.get? b = some o /\ X.H₀ b = none
 HN:X.base.objs.size <= X.s₀.heap.objs.size
 CC:∀ b o,X.base.get? b = some o -> b ∉ X.ex
 DI:∀ b ∈ X.ex,b ∉ X.fs
 nE:X.s₀.heap.FunFrames X.base X.outer
 Ji:∀ b ∈ X.fs,X.H₀ b = none
structure Inv (X:Cx) (pins:List (Addr × Obj)) (Z:List (Option V)) (H:Hp) (s:Shared):Prop where
 ok:X.Ok
 os:s.os = X.s₀.os
 bare:AllBare s.gens
 base:Un X.fs X.ex X.H₀ H X.s₀.heap s.heap
 loc:∃ m,s.heap.Ns X.env.locals m /\ ∀ (i:Nat) (x:Str) (v:V),X.N[i]? = some x -> Z[i]? = some (some v) -> NG X.env.scope x -> ∃ u,RelV v u /\ Look X.env s.heap m x u
 cell:∀ x c,X.env.cells.lookup x = some c -> ∃ v,s.heap.IsCell c v
 free:H X.env.locals = none
 iJ:∀ x c,X.env.cells.lookup x = some c -> H c = none
 pin:∀ p ∈ X.pn ++ pins,s.heap.get? p.1 = some p.2 /\ H p.1 = none /\ p.1 ≠ X.env.locals /\ p.1 ∉ X.fs /\ ∀ v,p.2.data ≠ .cell v
 hok:jP X.prog X.w H s.heap
 len:Z.length = X.N.length
section
variable {X:Cx} {pins:List (Addr × Obj)} {Z:List (Option V)} {H H':Hp} {s:Shared} {h':Heap}
theorem Cx.Ok.Pz (ok:X.Ok) {b:Addr} {o:Obj} (e:X.base.get? b = some o):b ∉ X.fs:=λhb=>by
 have:=(ok.nE.mem hb).1
 rw [e] at this;cases this
theorem Inv.bs (I:Inv X pins Z H s):∀ b o,X.base.get? b = some o -> s.heap.get? b = some o /\ H b = none:=λb o e =>
 ⟨I.base.keep b o (I.ok.bs b o e).1 (I.ok.bs b o e).2 (I.ok.Pz e) (I.ok.CC b o e),I.base.free b o (I.ok.bs b o e).1 (I.ok.bs b o e).2 (I.ok.CC b o e)⟩
theorem Inv.bk (I:Inv X pins Z H s):∀ b o,X.base.get? b = some o -> s.heap.get? b = some o:=λb o e=>(I.bs b o e).1
theorem Inv.mod (I:Inv X pins Z H s):Mod X.K X.mg X.base:=I.ok.mod
theorem Inv.jA (I:Inv X pins Z H s):X.K.In s.heap:=I.ok.mod.nO.keeps I.bk
theorem Inv.lt (I:Inv X pins Z H s):X.env.locals < s.heap.objs.size:=let ⟨_,hn,_⟩:=I.loc;hn.lt
theorem Inv.sz (I:Inv X pins Z H s):X.s₀.heap.objs.size <= s.heap.objs.size:=Nat.le_trans I.ok.above (Nat.le_of_lt I.lt)
theorem Inv.Nq (I:Inv X pins Z H s) {a:Addr} (h:s.heap.objs.size <= a):a ∉ X.fs:=λhb=>by
 obtain ⟨_,o,ho,_⟩:=I.ok.nE.mem hb
 exact absurd (Nat.lt_of_lt_of_le (Heap.lt_size ho) (Nat.le_trans I.sz h)) (Nat.lt_irrefl _)
theorem Inv.GV (I:Inv X pins Z H s):∀ x c,X.env.cells.lookup x = some c -> c ≠ X.env.locals:=λx c e z=>by
 obtain ⟨v,o,ho,hd⟩:=I.cell x c e
 obtain ⟨m,⟨o',es,ep,ho',hd',_⟩,_⟩:=I.loc
 rw [z,ho'] at ho;cases ho;rw [hd'] at hd;cases hd
theorem Inv.nE (I:Inv X pins Z H s):s.heap.FunFrames X.base X.outer:=by
 have all:∀ (l:List Env),(∀ b ∈ frs l,b ∈ X.fs) -> X.s₀.heap.FunFrames X.base l -> s.heap.FunFrames X.base l:=by
  intro l
  induction l with
  | nil=>intro _ _;trivial
  | cons env r ih =>
   intro hs hl
   obtain ⟨hk,⟨L,o,hf,hn,ho,hd⟩,hr⟩:=hl
   have hL:L ∈ X.fs:=hs L (by unfold frs;rw [List.filterMap_cons,hf];exact List.mem_cons_self)
   obtain ⟨sl,e⟩:=I.base.slot L o ho (I.ok.Ji L hL) hL λz=>I.ok.DI L z hL
   exact ⟨hk,⟨L,_,hf,hn,e,hd⟩,ih (λb hb=>hs b (by unfold frs;rw [List.filterMap_cons,hf];exact List.mem_cons_of_mem _ hb)) hr⟩
 exact all X.outer (λ_ hb=>hb) I.ok.nE
theorem Inv.stack (I:Inv X pins Z H s):s.heap.FunFrames X.base X.stack:=by
 rcases I.ok.stk with e | ⟨e,hf⟩
 ·rw [e];exact I.nE
 ·rw [e]
  obtain ⟨m,hn,_⟩:=I.loc
  refine .cons (by rw [I.ok.kind];decide) hf hn ?_ I.nE
  exact Heap.get?_none_of_le (Nat.le_trans I.ok.HN I.ok.above)
theorem Inv.mZ (I:Inv X pins Z H s):∀ b ∈ frs X.stack,b ∈ X.env.locals :: X.fs:=λb hb=>by
 rcases I.ok.stk with e | ⟨e,hf⟩
 ·rw [e] at hb;exact List.mem_cons_of_mem _ hb
 ·rw [e] at hb
  unfold frs at hb
  rw [List.filterMap_cons,hf] at hb
  exact hb
theorem Inv.oV (I:Inv X pins Z H s):∀ b ∈ frs X.stack,H b = none:=λb hb=>by
 rcases List.mem_cons.mp (I.mZ b hb) with e | hb
 ·rw [e];exact I.free
 ·obtain ⟨_,o,ho,_⟩:=I.ok.nE.mem hb
  exact I.base.free b o ho (I.ok.Ji b hb) λz=>I.ok.DI b z hb
theorem Inv.step {g':Array GenState} {t':Nat} {d':Drawn} {ch:List Addr} (I:Inv X pins Z H s)
  (hch:∀ b ∈ ch,(b ∈ X.ex ∨ X.s₀.heap.objs.size <= b) /\ b ≠ X.env.locals /\ (∀ x c,X.env.cells.lookup x = some c -> c ≠ b) /\ ∀ p ∈ X.pn ++ pins,p.1 ≠ b)
  (keep:∀ b o,b ≠ X.env.locals -> b ∉ X.fs -> b ∉ ch -> s.heap.get? b = some o -> H b = none -> h'.get? b = some o)
  (slot:∀ b o,b ≠ X.env.locals -> b ∈ X.fs -> b ∉ ch -> s.heap.get? b = some o -> H b = none -> ∃ sl,h'.get? b = some { o with slots:=sl }) (free:∀ b o,b ∉ ch -> s.heap.get? b = some o -> H b = none -> H' b = none)
  (there:∀ b o,b ∉ ch -> s.heap.get? b = some o -> ∃ o',h'.get? b = some o')
  (tups:∀ b xs,H b = some (.tup xs) -> H' b = some (.tup xs)) (oJ:∀ b o u,H b = some (.De o u) -> H' b = some (.De o u)) (qE:∀ b ps,H b = some (.II ps) -> ∃ more,H' b = some (.II (ps ++ more)))
  (ns:∀ m,s.heap.Ns X.env.locals m -> h'.Ns X.env.locals m) (hok:jP X.prog X.w H' h') (hg:AllBare g') :
  Inv X pins Z H' { s with heap:=h',gens:=g',drawn:=d',toks:=t' }:=by
 have neL:∀ b o,X.s₀.heap.get? b = some o -> b ≠ X.env.locals:=λb o e=>Nat.ne_of_lt (Nat.lt_of_lt_of_le (Heap.lt_size e) I.ok.above)
 have neC:∀ b o,X.s₀.heap.get? b = some o -> b ∉ X.ex -> b ∉ ch:=λb o e hx hb=>by
  rcases (hch b hb).1 with z | z
  ·exact hx z
  ·exact absurd (Nat.lt_of_lt_of_le (Heap.lt_size e) z) (Nat.lt_irrefl _)
 have cellK:∀ x c,X.env.cells.lookup x = some c -> ∀ v,s.heap.IsCell c v -> h'.IsCell c v:=λx c e v ⟨o,ho,hd⟩=>by
  have nch:c ∉ ch:=λz=>(hch c z).2.2.1 x c e rfl
  by_cases hc:c ∈ X.fs
  ·obtain ⟨sl,q⟩:=slot c o (I.GV x c e) hc nch ho (I.iJ x c e)
   exact ⟨_,q,hd⟩
  ·exact ⟨o,keep c o (I.GV x c e) hc nch ho (I.iJ x c e),hd⟩
 refine ⟨I.ok,I.os,hg,⟨λb o e n hb hx=>?_,λb o e n hb hx=>?_,λb o e n hx=>?_,λb o e hx=>?_,λb xs e=>tups b xs (I.base.tups b xs e),λb o xs e=>oJ b o xs (I.base.oJ b o xs e),λb ps e=>?_⟩,?_,λx c e=>?_,?_,λx c e=>?_,λp hp=>?_,hok,I.len⟩
 ·exact keep b o (neL b o e) hb (neC b o e hx) (I.base.keep b o e n hb hx) (I.base.free b o e n hx)
 ·obtain ⟨sl,e1⟩:=I.base.slot b o e n hb hx
  obtain ⟨sl',e2⟩:=slot b _ (neL b o e) hb (neC b o e hx) e1 (I.base.free b o e n hx)
  exact ⟨sl',e2⟩
 ·obtain ⟨o',e1⟩:=I.base.there b o e hx
  exact free b o' (neC b o e hx) e1 (I.base.free b o e n hx)
 ·obtain ⟨o',e1⟩:=I.base.there b o e hx
  exact there b o' (neC b o e hx) e1
 ·obtain ⟨m1,e1⟩:=I.base.qE b ps e
  obtain ⟨m2,e2⟩:=qE b _ e1
  exact ⟨m1 ++ m2,by rw [e2,Array.append_assoc]⟩
 ·obtain ⟨m,hn,hl⟩:=I.loc
  refine ⟨m,ns m hn,λi x v e1 e2 e3=>?_⟩
  obtain ⟨u,r,l⟩:=hl i x v e1 e2 e3
  refine ⟨u,r,?_⟩
  rcases l with l | ⟨k,c,e,z⟩
  ·exact .inl l
  ·exact .inr ⟨k,c,e,cellK x c e _ z⟩
 ·obtain ⟨v,z⟩:=I.cell x c e
  exact ⟨v,cellK x c e v z⟩
 ·obtain ⟨m,⟨o,_,_,ho,_⟩,_⟩:=I.loc
  exact free _ o (λz=>(hch _ z).2.1 rfl) ho I.free
 ·obtain ⟨v,o,ho,hd⟩:=I.cell x c e
  exact free c o (λz=>(hch c z).2.2.1 x c e rfl) ho (I.iJ x c e)
 ·obtain ⟨e,n,ne,nf,d⟩:=I.pin p hp
  have nch:p.1 ∉ ch:=λz=>(hch p.1 z).2.2.2 p hp rfl
  exact ⟨keep p.1 p.2 ne nf nch e n,free p.1 p.2 nch e n,ne,nf,d⟩
theorem Inv.un {t':Nat} (I:Inv X pins Z H s) (u:Un X.fs [] H H' s.heap h') (hok:jP X.prog X.w H' h'):Inv X pins Z H' { s with heap:=h',toks:=t' }:=by
 obtain ⟨m,⟨o,es,ep,ho,r⟩,_⟩:=id I.loc
 obtain ⟨sl,hL⟩:=u.any ho I.free (by simp)
 exact I.step (g':=s.gens) (d':=s.drawn) (ch:=[]) (λ_ z=>nomatch z) (λb o _ hb _ e n=>u.keep b o e n hb (by simp)) (λb o _ hb _ e n=>u.slot b o e n hb (by simp)) (λb o _ e n=>u.free b o e n (by simp)) (λb o _ e=>u.there b o e (by simp)) u.tups u.oJ u.qE (λm' hm=>by
  obtain ⟨o',es',ep',ho',r'⟩:=hm
  rw [ho] at ho';cases ho'
  exact ⟨_,es',ep',hL,r'⟩) hok I.bare
theorem Inv.call {g':Array GenState} {t':Nat} {d':Drawn} {ch:List Addr} (I:Inv X pins Z H s) (u:Un (frs X.stack) ch H H' s.heap h') (hok:jP X.prog X.w H' h') (hg:AllBare g')
  (hch:∀ b ∈ ch,(b ∈ X.ex ∨ X.s₀.heap.objs.size <= b) /\ b ≠ X.env.locals /\ (∀ x c,X.env.cells.lookup x = some c -> c ≠ b) /\ ∀ p ∈ X.pn ++ pins,p.1 ≠ b) :
  Inv X pins Z H' { s with heap:=h',gens:=g',drawn:=d',toks:=t' }:=by
 obtain ⟨m,⟨o,es,ep,ho,r⟩,_⟩:=id I.loc
 obtain ⟨sl,hL⟩:=u.any ho I.free λz=>(hch _ z).2.1 rfl
 exact I.step (ch:=ch) hch (λb o hL hb hc e n=>u.keep b o e n (λz=>(List.mem_cons.mp (I.mZ b z)).elim hL hb) hc) (λb o _ _ hc e n=>u.any e n hc) (λb o hc e n=>u.free b o e n hc) (λb o hc e=>u.there b o e hc) u.tups u.oJ u.qE (λm' hm=>by
  obtain ⟨o',es',ep',ho',r'⟩:=hm
  rw [ho] at ho';cases ho'
  exact ⟨_,es',ep',hL,r'⟩) hok hg
theorem Inv.turned {t':Nat} {it:Addr} (I:Inv X pins Z H s) (k:∀ b o,b ≠ it -> s.heap.get? b = some o -> h'.get? b = some o) (hn:H it = none) (hL:it ≠ X.env.locals)
  (h1:it ∈ X.ex ∨ X.s₀.heap.objs.size <= it) (h2:∀ x c,X.env.cells.lookup x = some c -> c ≠ it) (h3:∀ p ∈ X.pn ++ pins,p.1 ≠ it):Inv X pins Z H { s with heap:=h',toks:=t' }:=by
 have nit:∀ b u,H b = some u -> b ≠ it:=λb u e z=>by rw [z,hn] at e;cases e
 refine I.step (g':=s.gens) (d':=s.drawn) (ch:=[it]) (λb hb=>?_) (λb o _ _ hc e _=>k b o (λz=>hc (by simp [z])) e) (λb o _ _ hc e _=>⟨o.slots,k b o (λz=>hc (by simp [z])) e⟩) (λ_ _ _ _ n=>n)
  (λb o hc e=>⟨o,k b o (λz=>hc (by simp [z])) e⟩) (λ_ _ e=>e) (λ_ _ _ e=>e) (λb ps e=>⟨#[],by rw [e];simp⟩) (λm hm=>?_) (λb u e=>?_) I.bare
 ·have e:b = it:=by simpa using hb
  subst e
  exact ⟨h1,hL,h2,h3⟩
 ·obtain ⟨o,es,ep,ho,r⟩:=hm
  exact ⟨o,es,ep,k _ o (Ne.symm hL) ho,r⟩
 ·refine (I.hok b u e).stay (λc v hc q=>k c v ?_ q) (λ_ q=>q) λ_ _ q=>q
  rcases hc with z | z
  ·rw [z];exact nit b u e
  ·exact nit c _ z
theorem Inv.tok (I:Inv X pins Z H s) (t:Nat):Inv X pins Z H { s with toks:=t }:=I.un (h':=s.heap) (t':=t) Un.refl I.hok
theorem Inv.kept {t':Nat} (I:Inv X pins Z H s) (k:∀ b u,s.heap.get? b = some u -> h'.get? b = some u):Inv X pins Z H { s with heap:=h',toks:=t' }:=I.un (Un.kept k) (I.hok.kept k)
theorem Inv.laid {a:Addr} {o:HO} {t':Nat} (I:Inv X pins Z H s) (k:∀ b u,s.heap.get? b = some u -> h'.get? b = some u) (hp:s.heap.objs.size <= a) (new:di X.prog X.w (upd H a o) h' a o) :
  Inv X pins Z (upd H a o) { s with heap:=h',toks:=t' }:=I.un (Un.laid k hp (I.hok.fresh hp)) (I.hok.laid k hp new)
theorem Inv.write {x e:Addr} {o:HO} {t':Nat} (I:Inv X pins Z H s) (mu:Oh (H x)) (he:e = x ∨ H e = some (.own x)) (k:∀ b u,b ≠ e -> s.heap.get? b = some u -> h'.get? b = some u) (heo:∃ u,h'.get? e = some u)
  (new:di X.prog X.w (upd H x o) h' x o):Inv X pins Z (upd H x o) { s with heap:=h',toks:=t' }:=I.un (Un.write mu he k heo) (I.hok.write mu he k heo new)
theorem Inv.gT {pins':List (Addr × Obj)} (I:Inv X pins Z H s) (h:∀ p ∈ pins',s.heap.get? p.1 = some p.2 /\ H p.1 = none /\ p.1 ≠ X.env.locals /\ p.1 ∉ X.fs /\ ∀ v,p.2.data ≠ .cell v):Inv X pins' Z H s :=
 ⟨I.ok,I.os,I.bare,I.base,I.loc,I.cell,I.free,I.iJ,λp hp=>(List.mem_append.mp hp).elim (λz=>I.pin p (List.mem_append_left _ z)) (h p),I.hok,I.len⟩
theorem qA {N:List Str} (hN:N.Nodup) {i j:Nat} {x:Str} (a:N[i]? = some x) (b:N[j]? = some x):i = j:=by
 obtain ⟨h1,e1⟩:=List.getElem?_eq_some_iff.mp a
 obtain ⟨h2,e2⟩:=List.getElem?_eq_some_iff.mp b
 exact (List.getElem_inj hN).mp (e1.trans e2.symm)
theorem Co {M:Model} {A:Around} {E:Value -> Shared -> Prop} {i:Nat} {x:Str} {v:V} {u:Value} {Q:Unit -> Shared -> Prop} (I:Inv X pins Z H s) (hN:X.N.Nodup) (hi:X.N[i]? = some x) (hx:Loc X.env.scope x) (r:RelV v u)
  (h:∀ s',Inv X pins (Z.set i (some v)) H s' -> (∃ a,Heap.SameBut a s.heap s'.heap /\ (a = X.env.locals ∨ X.env.cells.lookup x = some a)) -> Q () s') (hf:X.fn x = true ∨ X.env.scope.names.lookup x = some .local:=by first | exact .inl rfl | exact .inr rfl | assumption):wpAny M A (storeName X.env x u) Q E s:=by
 obtain ⟨m,hn,hl⟩:=id I.loc
 have hcls:(X.env.scope.kind == .class || (X.env.scope.kind == .module && X.env.locals != X.env.globals)) = false:=by rw [I.ok.kind];rfl
 have hiZ:i < Z.length:=by rw [I.len];exact (List.getElem?_eq_some_iff.mp hi).1
 have GV:=I.GV
 have tracked:∀ {a:Addr} {h':Heap},(∃ o,s.heap.get? a = some o /\ H a = none) -> Heap.SameBut a s.heap h' -> jP X.prog X.w H h':=λ{a h'} ha hs b ob e=>by
  obtain ⟨_,_,hfree⟩:=ha
  refine (I.hok b ob e).stay (λc w' hc q=>(hs.2 c ?_).trans q) (λ_ q=>q) λ_ _ q=>q
  rintro rfl
  rcases hc with rfl | hc
  ·rw [hfree] at e;cases e
  ·rw [hfree] at hc;cases hc
 rcases hx with hk | hk
 ·refine wpAny_storeName_local hk hn (λh' hn' hs=>?_) hcls
  obtain ⟨oL,_,_,hoL,_⟩:=id hn
  refine h _ ⟨I.ok,I.os,I.bare,⟨λb o e n hb hx=>?_,λb o e n hb hx=>?_,I.base.free,λb o e hx=>?_,I.base.tups,I.base.oJ,I.base.qE⟩,⟨_,hn',λj y v' e1 e2 e3=>?_⟩,λy c e=>?_,I.free,I.iJ,λp hp=>?_,tracked ⟨oL,hoL,I.free⟩ hs,by simpa using I.len⟩ ⟨_,hs,.inl rfl⟩
  ·exact (hs.2 b (Nat.ne_of_lt (Nat.lt_of_lt_of_le (Heap.lt_size e) I.ok.above))).trans (I.base.keep b o e n hb hx)
  ·obtain ⟨sl,e1⟩:=I.base.slot b o e n hb hx
   exact ⟨sl,(hs.2 b (Nat.ne_of_lt (Nat.lt_of_lt_of_le (Heap.lt_size e) I.ok.above))).trans e1⟩
  ·obtain ⟨o',e1⟩:=I.base.there b o e hx
   exact ⟨o',(hs.2 b (Nat.ne_of_lt (Nat.lt_of_lt_of_le (Heap.lt_size e) I.ok.above))).trans e1⟩
  ·by_cases hj:j = i
   ·subst hj
    rw [hi] at e1;cases e1
    rw [List.getElem?_set_self hiZ] at e2
    cases e2
    exact ⟨u,r,.inl ⟨hk,by simp⟩⟩
   ·rw [List.getElem?_set_ne (Ne.symm hj)] at e2
    obtain ⟨u',r',q⟩:=hl j y v' e1 e2 e3
    refine ⟨u',r',?_⟩
    rcases q with ⟨k,e⟩ | ⟨k,c,e,z⟩
    ·refine .inl ⟨k,?_⟩
     have:y ≠ x:=λe=>hj (qA hN e1 (e ▸ hi))
     simp [this,e]
    ·exact .inr ⟨k,c,e,z.sameBut hs (GV y c e)⟩
  ·obtain ⟨w',z⟩:=I.cell y c e
   exact ⟨w',z.sameBut hs (GV y c e)⟩
  ·obtain ⟨e,n,ne,nf,d⟩:=I.pin p hp
   exact ⟨(hs.2 p.1 ne).trans e,n,ne,nf,d⟩
 ·have hfn:X.fn x = true:=by
   rcases hf with z | z
   ·exact z
   ·rw [z] at hk;cases hk
  obtain ⟨c,hc⟩:=I.ok.has x (.inl hk)
  obtain ⟨w',z⟩:=I.cell x c hc
  refine wpAny_storeName_cell I.ok.kind hk hc z (λh' hc' hs=>?_)
  obtain ⟨oc,hoc,hocd⟩:=id z
  refine h { s with heap:=h' } ⟨I.ok,I.os,I.bare,⟨λb o e n hb hx=>?_,λb o e n hb hx=>?_,I.base.free,λb o e hx=>?_,I.base.tups,I.base.oJ,I.base.qE⟩,⟨m,hn.sameBut hs (Ne.symm (GV x c hc)),λj y v' e1 e2 e3=>?_⟩,λy c' e=>?_,I.free,I.iJ,λp hp=>?_,tracked ⟨oc,hoc,I.iJ x c hc⟩ hs,by simpa using I.len⟩ ⟨c,hs,.inr hc⟩
  ·exact (hs.2 b (Nat.ne_of_lt (Nat.lt_of_lt_of_le (Heap.lt_size e) (I.ok.M4 x c hfn hc)))).trans (I.base.keep b o e n hb hx)
  ·obtain ⟨sl,e1⟩:=I.base.slot b o e n hb hx
   exact ⟨sl,(hs.2 b (Nat.ne_of_lt (Nat.lt_of_lt_of_le (Heap.lt_size e) (I.ok.M4 x c hfn hc)))).trans e1⟩
  ·obtain ⟨o',e1⟩:=I.base.there b o e hx
   exact ⟨o',(hs.2 b (Nat.ne_of_lt (Nat.lt_of_lt_of_le (Heap.lt_size e) (I.ok.M4 x c hfn hc)))).trans e1⟩
  ·by_cases hj:j = i
   ·subst hj
    rw [hi] at e1;cases e1
    rw [List.getElem?_set_self hiZ] at e2
    cases e2
    exact ⟨u,r,.inr ⟨.inl hk,c,hc,hc'⟩⟩
   ·rw [List.getElem?_set_ne (Ne.symm hj)] at e2
    obtain ⟨u',r',q⟩:=hl j y v' e1 e2 e3
    refine ⟨u',r',?_⟩
    rcases q with q | ⟨k,c',e,z'⟩
    ·exact .inl q
    ·refine .inr ⟨k,c',e,z'.sameBut hs ?_⟩
     rintro rfl
     exact hj (qA hN e1 (I.ok.inj _ _ _ e hc ▸ hi))
  ·by_cases hcc:c' = c
   ·subst hcc;exact ⟨_,hc'⟩
   ·obtain ⟨w2,z2⟩:=I.cell y c' e
    exact ⟨w2,z2.sameBut hs hcc⟩
  ·obtain ⟨e,n,ne,nf,d⟩:=I.pin p hp
   refine ⟨(hs.2 p.1 ?_).trans e,n,ne,nf,d⟩
   intro q
   rw [q,hoc] at e
   have q':oc = p.2:=Option.some.inj e
   exact d w' (by rw [← q'];exact hocd)
theorem mF {M:Model} {A:Around} {E:Value -> Shared -> Prop} {i:Nat} {x:Str} {v:V} {u:Value} {Q:Unit -> Shared -> Prop} (I:Inv X pins Z H s) (hN:X.N.Nodup) (hi:X.N[i]? = some x) (hx:Loc X.env.scope x) (r:RelV v u)
  (h:∀ s',Inv X pins (Z.set i (some v)) H s' -> Q () s') (hf:X.fn x = true ∨ X.env.scope.names.lookup x = some .local:=by first | exact .inl rfl | exact .inr rfl | assumption):wpAny M A (storeName X.env x u) Q E s :=
 Co I hN hi hx r (λs' I' _=>h s' I') hf
theorem Inv.vW {s':Shared} {ch:List Addr} (I:Inv X pins Z H s) (ho:s'.os = s.os) (u:Un (frs X.stack) ch H H' s.heap s'.heap) (hok:jP X.prog X.w H' s'.heap) (hg:AllBare s'.gens)
  (hch:∀ b ∈ ch,(b ∈ X.ex ∨ X.s₀.heap.objs.size <= b) /\ b ≠ X.env.locals /\ (∀ x c,X.env.cells.lookup x = some c -> c ≠ b) /\ ∀ p ∈ X.pn ++ pins,p.1 ≠ b):Inv X pins Z H' s':=by
 obtain ⟨h',g',d',t',o'⟩:=s'
 have e:o' = s.os:=ho
 subst e
 exact I.call (g':=g') (t':=t') (d':=d') u hok hg hch
end
abbrev XK:=Value -> Option Addr -> Hp -> Prop
abbrev St:=List (Option V)
abbrev VK:=V -> Hp -> Prop
abbrev TE:=St -> Hp -> VK -> Prop
abbrev TT:=St -> Hp -> (Bool -> Hp -> Prop) -> Prop
abbrev TA:=St -> Hp -> (List V -> Hp -> Prop) -> Prop
structure Ends where
 nx:St -> Hp -> Prop
 rt:VK
 bk:St -> Hp -> Prop:=λ_ _=>False
 ct:St -> Hp -> Prop:=λ_ _=>False
abbrev TS:=Ends -> St -> Hp -> Prop
noncomputable def EP (X:Cx) (pins:List (Addr × Obj)) (Z:St) (Q:VK) (u:Value) (s':Shared):Prop:=∃ v H',Inv X pins Z H' s' /\ RelV v u /\ Q v H'
noncomputable def TP (X:Cx) (pins:List (Addr × Obj)) (Z:St) (Q:Bool -> Hp -> Prop) (b:Bool) (s':Shared):Prop:=∃ H',Inv X pins Z H' s' /\ Q b H'
noncomputable def AP (X:Cx) (pins:List (Addr × Obj)) (Z:St) (Q:List V -> Hp -> Prop) (us:List Value) (s':Shared):Prop:=∃ vs H',Inv X pins Z H' s' /\ Vals vs us /\ Q vs H'
noncomputable def SP (X:Cx) (pins:List (Addr × Obj)) (D:Ends) (f:Flow) (s':Shared):Prop :=
 match f with
 | .next=>∃ Z' H',Inv X pins Z' H' s' /\ D.nx Z' H'
 | .brk=>∃ Z' H',Inv X pins Z' H' s' /\ D.bk Z' H'
 | .cont=>∃ Z' H',Inv X pins Z' H' s' /\ D.ct Z' H'
 | .ret u=>∃ v Z' H',Inv X pins Z' H' s' /\ RelV v u /\ D.rt v H'
noncomputable def PE (X:Cx) (e:Expr) (t:TE):Prop :=
 ∀ (pins:List (Addr × Obj)) (s:Shared) (Z:St) (H:Hp) (Q:VK),Inv X pins Z H s -> t Z H Q -> wpAny (model X.prog X.w) X.A (eval e X.env) (EP X pins Z Q) X.xe s
noncomputable def PT (X:Cx) (e:Expr) (t:TT):Prop :=
 ∀ (pins:List (Addr × Obj)) (s:Shared) (Z:St) (H:Hp) (Q:Bool -> Hp -> Prop),Inv X pins Z H s -> t Z H Q -> wpAny (model X.prog X.w) X.A (isTrue e X.env (eval e X.env)) (TP X pins Z Q) X.xe s
noncomputable def PW (X:Cx) (e:Expr) (t:TT):Prop :=
 ∀ (whole:Sem Value) (pins:List (Addr × Obj)) (s:Shared) (Z:St) (H:Hp) (Q:Bool -> Hp -> Prop),Inv X pins Z H s -> t Z H Q -> wpAny (model X.prog X.w) X.A (isTrue e X.env whole) (TP X pins Z Q) X.xe s
theorem PW.pt {X:Cx} {e:Expr} {t:TT} (h:PW X e t):PT X e t:=h _
noncomputable def PA (X:Cx) (es:List Expr) (t:TA):Prop :=
 ∀ (pos:Pos) (pins:List (Addr × Obj)) (s:Shared) (Z:St) (H:Hp) (Q:List V -> Hp -> Prop),Inv X pins Z H s -> t Z H Q -> wpAny (model X.prog X.w) X.A (spliced (backTo pos (starEach es X.env))) (AP X pins Z Q) X.xe s
noncomputable def PS (X:Cx) (st:Stmt) (t:TS):Prop :=
 ∀ (pins:List (Addr × Obj)) (s:Shared) (Z:St) (H:Hp) (D:Ends),Inv X pins Z H s -> t D Z H -> wpAny (model X.prog X.w) X.A (exec st X.env) (SP X pins D) X.xe s
noncomputable def AQ (X:Cx) (st:List Stmt) (t:TS):Prop :=
 ∀ (pins:List (Addr × Obj)) (s:Shared) (Z:St) (H:Hp) (D:Ends),Inv X pins Z H s -> t D Z H -> wpAny (model X.prog X.w) X.A (execs st X.env) (SP X pins D) X.xe s
theorem cS {α:Type} {t:Sem α} {Q Q':α -> Shared -> Prop} {M:Model} {A:Around} {E:Value -> Shared -> Prop} {s:Shared} (h:wpAny M A t Q E s) (hQ:∀ a s,Q a s -> Q' a s):wpAny M A t Q' E s:=wpAny_mono h hQ λ_ _ x=>x
end L2
namespace L2
open PySem PySem.Spec PyProof.Rows
section
variable {X:Cx}
noncomputable def HQ (i:Nat):TE:=λZ H Q=>∃ v,Z[i]? = some (some v) /\ Q v H
noncomputable def tC (v:V):TE:=λ_ H Q=>Q v H
theorem J2 {i:Nat} {x:Str} {pos:Pos} (hN:X.N[i]? = some x) (hv:NG X.env.scope x) (hd:(x == ("__debug__" : Str)) = false:=by decide) (hcd:(x == ("__classdict__" : Str)) = false:=by decide):PE X (.Name x pos) (HQ i):=by
 intro pins s Z H Q I h
 obtain ⟨v,e,h⟩:=h
 obtain ⟨m,hn,hl⟩:=I.loc
 obtain ⟨u,r,l⟩:=hl i x v hN e hv
 have fin:EP X pins Z Q u s:=⟨v,H,I,r,h⟩
 rcases l with ⟨hk,hm⟩ | ⟨hk,c,hc,hcell⟩
 ·exact wpAny_Name (wpAny_loadName_local I.ok.kind hk hn hm fin) hd
 ·rcases hk with hk | hk
  ·exact wpAny_Name (wpAny_loadName_cell I.ok.kind hk hc hcell fin) hd
  ·exact wpAny_Name (wpAny_loadName_free I.ok.kind hk hc hcell fin hcd) hd
theorem ai {i j pos}:PE X (.Constant (.int i) j pos) (tC (.int i)):=λ_ _ _ H _ I h=>wpAny_Constant_int ⟨.int i,H,I.tok _,⟨_,rfl⟩,h⟩
theorem jS {b j pos}:PE X (.Constant (.bool b) j pos) (tC (.bl b)):=λ_ _ _ H _ I h=>Constant_bool ⟨.bl b,H,I,rfl,h⟩
theorem bL {j pos}:PE X (.Constant .none j pos) (tC .cM):=λ_ _ _ H _ I h=>Constant_none ⟨.cM,H,I,rfl,h⟩
theorem aM {x j pos}:PE X (.Constant (.str x) j pos) (tC (.str x)):=λ_ _ _ H _ I h=>Calls.Constant_str ⟨.str x,H,I.tok _,⟨_,rfl⟩,h⟩
noncomputable def Gl (X:Cx) (x:Str):Prop:=X.env.kindOf x = some .globalImplicit
theorem gQ {E:Value -> Shared -> Prop} {pins:List (Addr × Obj)} {s:Shared} {Z:St} {H:Hp} {x:Str} {u:Value} {pos:Pos} {Q:Value -> Shared -> Prop} (I:Inv X pins Z H s) (hg:Gl X x) (hm:X.mg x = some u) (h:Q u s)
  (hd:(x == ("__debug__" : Str)) = false:=by decide):wpAny (model X.prog X.w) X.A (eval (.Name x pos) X.env) Q E s :=
 Calls.Name_function_global I.ok.kind hg (Calls.loadGlobal_global (by rw [I.ok.glob];exact I.mod.glob.keeps I.bk) hm h) hd
theorem qB {E:Value -> Shared -> Prop} {pins:List (Addr × Obj)} {s:Shared} {Z:St} {H:Hp} {x:Str} {u:Value} {pos:Pos} {Q:Value -> Shared -> Prop} (I:Inv X pins Z H s) (hg:Gl X x) (hm:X.mg x = none) (hv:bootBuiltins x = some u) (h:Q u s)
  (hn:x ≠ "__name__" := by decide) (hd:(x == ("__debug__" : Str)) = false:=by decide):wpAny (model X.prog X.w) X.A (eval (.Name x pos) X.env) Q E s:=by
 obtain ⟨mb,h1,h2⟩:=I.mod.blt
 exact Calls.Name_function_global I.ok.kind hg (Calls.loadGlobal_builtin (by rw [I.ok.glob];exact I.mod.glob.keeps I.bk) hm (by rw [I.ok.blt];exact h1.keeps I.bk) ((h2 x hn).trans hv) h) hd
theorem eG {x:Str} {v:V} {u:Value} {pos:Pos} (hg:Gl X x) (hm:X.mg x = some u) (r:RelV v u) (hd:(x == ("__debug__" : Str)) = false:=by decide):PE X (.Name x pos) (tC v) :=
 λ_ _ _ H _ I h=>gQ I hg hm ⟨v,H,I,r,h⟩ hd
theorem Hs {x:Str} {v:V} {u:Value} {pos:Pos} (hg:Gl X x) (hm:X.mg x = none) (hv:bootBuiltins x = some u) (r:RelV v u) (hn:x ≠ "__name__" := by decide) (hd:(x == ("__debug__" : Str)) = false:=by decide):PE X (.Name x pos) (tC v) :=
 λ_ _ _ H _ I h=>qB I hg hm hv ⟨v,H,I,r,h⟩ hn hd
variable {a b:Expr} {ta tb:TE} {pos:Pos}
noncomputable def PC (X:Cx) (op:CmpOp) (a b:Expr) (t:TE):Prop :=
 ∀ (pins:List (Addr × Obj)) (s:Shared) (Z:St) (H:Hp) (Q:VK),Inv X pins Z H s -> t Z H Q ->
  wpAny (model X.prog X.w) X.A (eval a X.env) (λv s₁=>wpAny (model X.prog X.w) X.A (eval b X.env) (λu s₂=>wpAny (model X.prog X.w) X.A (compareOp op v u) (EP X pins Z Q) X.xe s₂) X.xe s₁) X.xe s
theorem xZ (b:Expr) {op:CmpOp} (h:op ≠ .In) (h2:op ≠ .NotIn):behindInMarks op b = false:=by
 have e1:(op == CmpOp.In) = false:=by cases op <;> first | rfl | exact absurd rfl h
 have e2:(op == CmpOp.NotIn) = false:=by cases op <;> first | rfl | exact absurd rfl h2
 cases b <;> simp [behindInMarks,e1,e2]
noncomputable def tB (t:TE):TT:=λZ H Q=>t Z H λx H1=>∃ c,x = .bl c /\ Q c H1
theorem MC {op:CmpOp} {t:TE} (h:PC X op a b t) (h1:behindInMarks op b = false:=by first | exact xZ _ (by decide) (by decide) | rfl):PT X (.Compare a [op] [b] pos) (tB t):=by
 intro pins s Z H Q I hw
 refine wpAny_isTrue_Compare1 (cS (h pins s Z H _ I hw) λv s1 h1=>cS h1 λu s2 h2=>cS h2 λc s3 ⟨x,H1,I1,r1,q1⟩=>?_) h1
 obtain ⟨d,rfl,q⟩:=q1
 cases r1
 exact wpAny_truthy_bool ⟨H1,I1,q⟩
theorem gG {e:Expr} {t:TE} (h:PE X e t) (he:∀ whole,isTrue e X.env whole = (do let v ← whole;standAt e.pos;holding [v] (truthy v)):=by intro _;rfl):PT X e (tB t):=by
 intro pins s Z H Q I hw
 refine isTrue_plain (cS (h pins s Z H _ I hw) λv s1 ⟨x,H1,I1,r1,q1⟩=>?_) (he _)
 obtain ⟨d,rfl,q⟩:=q1
 cases r1
 exact wpAny_truthy_bool ⟨H1,I1,q⟩
variable {tA tB':TT} {rest:List Expr}
noncomputable def NI (t u:TT):TT:=λZ H Q=>t Z H λc H1=>if c = true then u Z H1 Q else Q false H1
noncomputable def tOr (t u:TT):TT:=λZ H Q=>t Z H λc H1=>if c = true then Q true H1 else u Z H1 Q
noncomputable def Ov (t:TT):TT:=λZ H Q=>t Z H λc H1=>Q (!c) H1
theorem fj (ha:PT X a tA):PW X (.BoolOp .And [a] pos) tA:=by
 intro wh pins s Z H Q I h
 refine isTrue_and (cS (ha pins s Z H Q I h) λc s1 e=>?_)
 cases c with
 | true=>exact isTrue_and_nil e
 | false=>exact e
theorem iG (ha:PT X a tA):PW X (.BoolOp .Or [a] pos) tA:=by
 intro wh pins s Z H Q I h
 refine isTrue_or (cS (ha pins s Z H Q I h) λc s1 e=>?_)
 cases c with
 | false=>exact isTrue_or_nil e
 | true=>exact e
theorem fR (ha:PT X a tA) (hb:PW X (.BoolOp .And (b :: rest) pos) tB'):PW X (.BoolOp .And (a :: b :: rest) pos) (NI tA tB'):=by
 intro wh pins s Z H Q I h
 refine isTrue_and (cS (ha pins s Z H _ I h) λc s1 ⟨H1,I1,q1⟩=>?_)
 cases c with
 | true=>exact hb wh pins s1 Z H1 Q I1 q1
 | false=>exact ⟨H1,I1,q1⟩
theorem i9 (ha:PT X a tA) (hb:PW X (.BoolOp .Or (b :: rest) pos) tB'):PW X (.BoolOp .Or (a :: b :: rest) pos) (tOr tA tB'):=by
 intro wh pins s Z H Q I h
 refine isTrue_or (cS (ha pins s Z H _ I h) λc s1 ⟨H1,I1,q1⟩=>?_)
 cases c with
 | true=>exact ⟨H1,I1,q1⟩
 | false=>exact hb wh pins s1 Z H1 Q I1 q1
theorem kU (ha:PT X a tA):PT X (.UnaryOp .Not a pos) (Ov tA):=by
 intro pins s Z H Q I h
 exact isTrue_not (ha pins s Z H (λc H1=>Q (!c) H1) I h)
noncomputable def IX (ta tb:TE):TE:=λZ H Q=>ta Z H λx H1=>∃ c,x = .bl c /\ if c = true then tb Z H1 Q else Q (.bl false) H1
noncomputable def Pa (ta tb:TE):TE:=λZ H Q=>ta Z H λx H1=>∃ c,x = .bl c /\ if c = true then Q (.bl true) H1 else tb Z H1 Q
noncomputable def Jd (ta:TE):TE:=λZ H Q=>ta Z H λx H1=>∃ c,x = .bl c /\ Q (.bl (!c)) H1
theorem MX {op} {t:TE} (h:PE X a t):PE X (.BoolOp op [a] pos) t:=λpins s Z H Q I hw=>BoolOp_one (h pins s Z H Q I hw)
theorem JC (ha:PE X a ta) (hb:PE X (.BoolOp .And (b :: rest) pos) tb):PE X (.BoolOp .And (a :: b :: rest) pos) (IX ta tb):=by
 intro pins s Z H Q I h
 refine BoolOp_and (cS (ha pins s Z H _ I h) λv s1 ⟨x,H1,I1,r1,q1⟩=>?_)
 obtain ⟨c,rfl,q1⟩:=q1
 cases r1
 refine wpAny_truthy_bool ?_
 cases c with
 | true=>exact hb pins s1 Z H1 Q I1 q1
 | false=>exact ⟨.bl false,H1,I1,rfl,q1⟩
theorem G3 (ha:PE X a ta):PE X (.UnaryOp .Not a pos) (Jd ta):=by
 intro pins s Z H Q I h
 refine UnaryOp_ (cS (ha pins s Z H _ I h) λv s1 ⟨x,H1,I1,r1,q1⟩=>?_)
 obtain ⟨c,rfl,q1⟩:=q1
 cases r1
 exact not_of (wpAny_truthy_bool ⟨.bl (!c),H1,I1,rfl,q1⟩)
noncomputable def tIf (t:TT) (ta tb:TE):TE:=λZ H Q=>t Z H λc H1=>if c = true then ta Z H1 Q else tb Z H1 Q
theorem dh {c:Expr} (hc:PT X c tA) (ha:PE X a ta) (hb:PE X b tb):PE X (.IfExp c a b pos) (tIf tA ta tb):=by
 intro pins s Z H Q I h
 refine wpAny_IfExp (cS (hc pins s Z H _ I h) λd s1 ⟨H1,I1,q1⟩=>?_)
 cases d with
 | true=>exact ha pins s1 Z H1 Q I1 q1
 | false=>exact hb pins s1 Z H1 Q I1 q1
end
end L2
namespace L2
open PySem PySem.Spec PyProof.Rows
def bB (K:PySem.W.Frag) (H:Hp) (a:Addr) (xs:List V):Prop :=
 Rd H a (.lst xs) ∨
  ∃ (o:Obj) (its:Array Value) (n:Nat),K.lookup a = some o /\ o.cls = .type "list" /\ o.dict = none /\ o.data = .seq its n /\ its.size <= sizeLine /\ Vals xs its.toList
def fY (K:PySem.W.Frag) (H:Hp) (a:Addr) (xs:List V):Prop :=
 Rd H a (.tup xs) ∨
  ∃ (o:Obj) (its:Array Value) (n:Nat),K.lookup a = some o /\ o.cls = .type "tuple" /\ o.data = .seq its n /\ its.size <= sizeLine /\ Vals xs its.toList
def Pk:Value -> Option V
 | .none=>some .cM
 | .bool b=>some (.bl b)
 | .int i _=>some (.int i)
 | .str x _=>some (.str x)
 | .bytes b _=>some (.byt b)
 | .float b _=>some (.flt b)
 | .ref a=>some (.ref a)
 | .type n=>some (.ty n)
 | _=>none
theorem RelV.abs {x:V} {u:Value} (r:RelV x u):Pk u = some x:=by
 cases x with
 | cM=>cases r;rfl
 | bl _=>cases r;rfl
 | int _=>obtain ⟨t,rfl⟩:=r;rfl
 | str _=>obtain ⟨t,rfl⟩:=r;rfl
 | byt _=>obtain ⟨t,rfl⟩:=r;rfl
 | flt _=>obtain ⟨t,rfl⟩:=r;rfl
 | ref _=>cases r;rfl
 | ty _=>cases r;rfl
theorem RelV.inj {x y:V} {u:Value} (r:RelV x u) (q:RelV y u):x = y:=Option.some.inj (r.abs.symm.trans q.abs)
theorem Vals.inj:∀ {xs ys:List V} {us:List Value},Vals xs us -> Vals ys us -> xs = ys
 | _,_,_,.nil,.nil=>rfl
 | _,_,_,.cons r t,.cons r' t'=>by rw [r.inj r',Vals.inj t t']
section
variable {X:Cx} {pins:List (Addr × Obj)} {Z:St} {H:Hp} {s:Shared} {a:Addr} {xs ys:List V}
theorem bB.of {K:PySem.W.Frag} (h:H a = some (.lst xs)):bB K H a xs:=.inl (.inl h)
theorem fY.of {K:PySem.W.Frag} (h:H a = some (.tup xs)):fY K H a xs:=.inl (.inl h)
theorem Inv.list (I:Inv X pins Z H s) (h:bB X.K H a xs):∃ its:List Value,Vals xs its /\ PlainL s.heap a its.toArray /\ xs.length <= sizeLine:=by
 rcases h with h | ⟨o,its,n,hk,hc,hd,hs,hz,r⟩
 ·obtain ⟨z,its,n,r,e⟩:=h.ok I.hok
  exact ⟨its,r,⟨_,n,e,rfl,rfl,rfl⟩,z⟩
 ·refine ⟨its.toList,r,⟨o,n,I.jA a o hk,hc,hd,by simpa using hs⟩,?_⟩
  have e:=r.length
  simp only [Array.length_toList] at e
  omega
theorem Inv.tuple (I:Inv X pins Z H s) (h:fY X.K H a xs):∃ its:List Value,Vals xs its /\ IsTup s.heap a its.toArray /\ xs.length <= sizeLine:=by
 rcases h with h | ⟨o,its,n,hk,hc,hs,hz,r⟩
 ·obtain ⟨z,its,r,p⟩:=h.ok I.hok
  exact ⟨its,r,p,z⟩
 ·refine ⟨its.toList,r,⟨o,I.jA a o hk,hc,n,by simpa using hs⟩,?_⟩
  have e:=r.length
  simp only [Array.length_toList] at e
  omega
theorem Inv.vS (I:Inv X pins Z H s) (h:bB X.K H a xs) (h':bB X.K H a ys):xs = ys:=by
 obtain ⟨its,r,⟨o,n,e,_,_,d⟩,_⟩:=I.list h
 obtain ⟨its',r',⟨o',n',e',_,_,d'⟩,_⟩:=I.list h'
 rw [e] at e';cases e'
 rw [d] at d'
 injection d' with d1 _
 have:its = its':=by simpa using congrArg Array.toList d1
 subst this
 exact r.inj r'
end
abbrev Cx.sA (X:Cx) (E:Value -> Shared -> Prop):Cx:={ X with xe:=E }
abbrev Cx.ON (X:Cx):Cx:=X.sA λ_ _=>False
theorem Cx.Ok.sA {X:Cx} (ok:X.Ok) (E:Value -> Shared -> Prop):(X.sA E).Ok :=
 ⟨ok.mod,ok.kind,ok.glob,ok.blt,ok.above,ok.inj,ok.has,ok.M4,ok.hd,ok.frames,ok.stk,ok.O8,ok.bs,ok.HN,ok.CC,ok.DI,ok.nE,ok.Ji⟩
theorem Cx.Ok.jU {X:Cx} {E:Value -> Shared -> Prop} (ok:(X.sA E).Ok):X.Ok :=
 ⟨ok.mod,ok.kind,ok.glob,ok.blt,ok.above,ok.inj,ok.has,ok.M4,ok.hd,ok.frames,ok.stk,ok.O8,ok.bs,ok.HN,ok.CC,ok.DI,ok.nE,ok.Ji⟩
section
variable {X:Cx} {pins:List (Addr × Obj)} {Z:St} {H:Hp} {s:Shared} {E:Value -> Shared -> Prop}
theorem Inv.sA (I:Inv X pins Z H s) (E:Value -> Shared -> Prop):Inv (X.sA E) pins Z H s:=⟨I.ok.sA E,I.os,I.bare,I.base,I.loc,I.cell,I.free,I.iJ,I.pin,I.hok,I.len⟩
theorem Inv.jU (I:Inv (X.sA E) pins Z H s):Inv X pins Z H s:=⟨I.ok.jU,I.os,I.bare,I.base,I.loc,I.cell,I.free,I.iJ,I.pin,I.hok,I.len⟩
theorem SP.jU {D:Ends} {f:Flow} {s':Shared} (h:SP (X.sA E) pins D f s'):SP X pins D f s':=by
 cases f with
 | next=>obtain ⟨Z',H',I,q⟩:=h;exact ⟨Z',H',I.jU,q⟩
 | brk=>obtain ⟨Z',H',I,q⟩:=h;exact ⟨Z',H',I.jU,q⟩
 | cont=>obtain ⟨Z',H',I,q⟩:=h;exact ⟨Z',H',I.jU,q⟩
 | ret u=>obtain ⟨v,Z',H',I,r,q⟩:=h;exact ⟨v,Z',H',I.jU,r,q⟩
theorem AQ.ON {st:List Stmt} {t:TS} (h:AQ X.ON st t):AQ X st t:=λpins s Z H D I hw =>
 wpAny_mono (h pins s Z H D (I.sA _) hw) (λ_ _ q=>q.jU) λ_ _ z=>False.elim z
end
section
variable {X:Cx} {st:Stmt} {rest:List Stmt} {t u:TS} {e:Expr} {te:TE} {pos:Pos}
noncomputable def Ob:TS:=λD Z H=>D.nx Z H
noncomputable def M8 (t u:TS):TS:=λD Z H=>t { D with nx:=u D } Z H
theorem yQ (h1:PS X st t) (h2:AQ X rest u):AQ X (st :: rest) (M8 t u):=by
 intro pins s Z H D I h
 refine wpAny_execs_cons (cS (h1 pins s Z H { D with nx:=u D } I h) λf s1 q=>?_)
 cases f with
 | next =>
  obtain ⟨Z',H',I',q⟩:=q
  exact h2 pins s1 Z' H' D I' q
 | ret v=>exact q
 | brk=>exact q
 | cont=>exact q
theorem Ih (h1:PS X st t):AQ X [st] t:=by
 intro pins s Z H D I h
 refine wpAny_execs_cons (cS (h1 pins s Z H D I h) λf s1 q=>?_)
 cases f with
 | next=>exact wpAny_execs_nil q
 | ret v=>exact q
 | brk=>exact q
 | cont=>exact q
theorem Inv.quiet {pins:List (Addr × Obj)} {Z:St} {H:Hp} {s:Shared} (I:Inv X pins Z H s):interactive X.env = false:=by simp [interactive,I.ok.kind]
noncomputable def IW (te:TE):TS:=λD Z H=>te Z H λ_ H1=>D.nx Z H1
theorem aR (he:PE X e te) (hs:swapsWith e none pos.line X.env = pure false:=by rfl):PS X (.Expr e pos) (IW te):=by
 intro pins s Z H D I h
 exact wpAny_Expr_any (cS (he pins s Z H _ I h) λv s1 ⟨x,H1,I1,r1,q1⟩=>⟨Z,H1,I1,q1⟩) I.quiet hs
noncomputable def J8 (te:TE):TS:=λD Z H=>te Z H D.rt
theorem aH (he:PE X e te):PS X (.Return (some e) pos) (J8 te):=by
 intro pins s Z H D I h
 exact wpAny_Return_some (cS (he pins s Z H _ I h) λv s1 ⟨x,H1,I1,r1,q1⟩=>⟨x,Z,H1,I1,r1,q1⟩)
noncomputable def NP (c:TT) (t u:TS):TS:=λD Z H=>c Z H λb H1=>if b = true then t D Z H1 else u D Z H1
theorem aP {c:Expr} {a b:List Stmt} {tc:TT} (hc:PT X c tc) (ha:AQ X a t) (hb:AQ X b u):PS X (.If c a b pos) (NP tc t u):=by
 intro pins s Z H D I h
 refine wpAny_If (cS (hc pins s Z H _ I h) λd s1 ⟨H1,I1,q1⟩=>?_)
 cases d with
 | true=>exact ha pins s1 Z H1 D I1 q1
 | false=>exact hb pins s1 Z H1 D I1 q1
end
abbrev TG:=V -> St -> Hp -> (St -> Hp -> Prop) -> Prop
abbrev Lc:=List V -> St -> Hp -> (St -> Hp -> Prop) -> Prop
noncomputable def PG (X:Cx) (target:Expr) (t:TG):Prop :=
 ∀ (pins:List (Addr × Obj)) (s:Shared) (Z:St) (H:Hp) (v:V) (u:Value) (Q:St -> Hp -> Prop),Inv X pins Z H s -> RelV v u -> t v Z H Q ->
  wpAny (model X.prog X.w) X.A (assign target X.env u) (λ_ s'=>∃ Z' H',Inv X pins Z' H' s' /\ Q Z' H') X.xe s
noncomputable def OL (X:Cx) (ts:List Expr) (t:Lc):Prop :=
 ∀ (pins:List (Addr × Obj)) (s:Shared) (Z:St) (H:Hp) (vs:List V) (us:List Value) (Q:St -> Hp -> Prop),Inv X pins Z H s -> Vals vs us -> t vs Z H Q ->
  wpAny (model X.prog X.w) X.A (assignInOrder ((assignEach ts X.env).map (·.2)) us) (λ_ s'=>∃ Z' H',Inv X pins Z' H' s' /\ Q Z' H') X.xe s
abbrev Lm:=V -> V -> V -> Hp -> (Hp -> Prop) -> Prop
noncomputable def NN (X:Cx) (t:Lm):Prop :=
 ∀ (pins:List (Addr × Obj)) (s:Shared) (Z:St) (H:Hp) (o i v:V) (ov iv u:Value) (Q:Hp -> Prop),Inv X pins Z H s -> RelV o ov -> RelV i iv -> RelV v u -> t o i v H Q ->
  wpAny (model X.prog X.w) X.A (setItem ov iv u) (λ_ s'=>∃ H',Inv X pins Z H' s' /\ Q H') X.xe s
abbrev OS:=V -> V -> Hp -> VK -> Prop
noncomputable def PIp (X:Cx) (op:Operator) (t:OS):Prop :=
 ∀ (pins:List (Addr × Obj)) (s:Shared) (Z:St) (H:Hp) (x y:V) (v u:Value) (Q:VK),Inv X pins Z H s -> RelV x v -> RelV y u -> t x y H Q ->
  wpAny (model X.prog X.w) X.A (inplaceOp op v u) (EP X pins Z Q) X.xe s
section
variable {X:Cx} {pos:Pos}
noncomputable def sY (i:Nat):TG:=λv Z H Q=>Q (Z.set i (some v)) H
theorem bK {i:Nat} {x:Str} (hN:X.N.Nodup) (hi:X.N[i]? = some x) (hx:Loc X.env.scope x) (hf:X.fn x = true ∨ X.env.scope.names.lookup x = some .local:=by first | exact .inl rfl | exact .inr rfl | assumption):PG X (.Name x pos) (sY i):=by
 intro pins s Z H v u Q I r h
 exact wpAny_assign_Name (mF I hN hi hx r (λs' I'=>⟨_,H,I',h⟩) hf)
def O2:Lc:=λvs Z H Q=>vs = [] /\ Q Z H
def Ox (t:TG) (u:Lc):Lc:=λvs Z H Q=>∃ v r,vs = v :: r /\ t v Z H λZ' H'=>u r Z' H' Q
theorem mQ:OL X [] O2:=by
 intro pins s Z H vs us Q I r h
 obtain ⟨e,h⟩:=h
 subst e
 cases r
 exact assignInOrder_nil ⟨Z,H,I,h⟩
theorem cE {e:Expr} {es:List Expr} {t:TG} {u:Lc} (h1:PG X e t) (h2:OL X es u)
  (hs:(assignEach (e :: es) X.env).map (·.2) = assign e X.env :: (assignEach es X.env).map (·.2):=by rfl):OL X (e :: es) (Ox t u):=by
 intro pins s Z H vs us Q I r h
 obtain ⟨v,vr,e1,h⟩:=h
 subst e1
 cases r with
 | cons r rr =>
  rw [hs]
  refine assignInOrder_cons (cS (h1 pins s Z H _ _ _ I r h) λ_ s1 ⟨Z1,H1,I1,q1⟩=>?_)
  exact h2 pins s1 Z1 H1 _ _ Q I1 rr q1
noncomputable def PB (K:PySem.W.Frag) (n:Nat) (t:Lc):TG:=λv Z H Q=>∃ a xs,v = .ref a /\ fY K H a xs /\ xs.length = n /\ t xs Z H Q
theorem pJ {es:List Expr} {k:Nat} {t:Lc} {n:Nat} (hc:X.calm = true) (h:OL X es t)
  (hn:(assignEach es X.env).length = n:=by rfl) (hst:(assignEach es X.env).findIdx? (·.1) = none:=by rfl):PG X (.Tuple es k pos) (PB X.K n t):=by
 intro pins s Z H v u Q I r hw
 obtain ⟨a,xs,e1,hq,hl,hw⟩:=hw
 subst e1
 cases r
 obtain ⟨its,rv,ht,hz⟩:=I.tuple hq
 refine assign_Tuple_tuple (I.ok.hd hc) ht (by simp [hn,← hl,rv.length]) hst λh' hx=>?_
 have I1:Inv X pins Z H { s with heap:=h' }:=I.kept (t':=s.toks) λb o e=>hx b o (Nat.ne_of_lt (Heap.lt_size e)) e
 exact h pins _ Z H xs _ Q I1 (by simpa using rv) hw
noncomputable def OW (to ti:TE) (t:Lm):TG:=λv Z H Q=>to Z H λo H1=>ti Z H1 λi H2=>t o i v H2 λH3=>Q Z H3
theorem ME {o i:Expr} {to ti:TE} {t:Lm} (ho:PE X o to) (hi:PE X i ti) (hs:NN X t)
  (ha:∀ v,assign (.Subscript o i pos) X.env v = (do
   let ov ← holding [v] (eval o X.env)
   let iv ← holding [v,ov] (eval i X.env)
   standAt pos
   holding [v,ov,iv] (setItem ov iv v)
   release [v,ov,iv] []):=by intro _;rfl):PG X (.Subscript o i pos) (OW to ti t):=by
 intro pins s Z H v u Q I r h
 rw [ha]
 refine wpAny_bind (wpAny_holding (cS (ho pins s Z H _ I h) λov s1 ⟨x,H1,I1,r1,q1⟩=>?_))
 refine wpAny_bind (wpAny_holding (cS (hi pins s1 Z H1 _ I1 q1) λiv s2 ⟨y,H2,I2,r2,q2⟩=>?_))
 refine wpAny_bind (wpAny_standAt (wpAny_bind (wpAny_holding (cS (hs pins s2 Z H2 x y v ov iv u _ I2 r1 r2 r q2) λ_ s3 ⟨H3,I3,q3⟩=>?_))))
 exact wpAny_release ⟨Z,H3,I3,q3⟩
noncomputable def HX (te:TE) (g:TG):TS:=λD Z H=>te Z H λx H1=>g x Z H1 D.nx
theorem LJ {tg e:Expr} {te:TE} {g:TG} (he:PE X e te) (hg:PG X tg g) (hs:swapsWithSole [tg] e pos.line X.env = pure false:=by rfl) (hw:swappedStores [tg] e X.env = pure none:=by rfl)
  (h1:(assignEach [tg] X.env).map (·.2) = [assign tg X.env]:=by rfl):PS X (.Assign [tg] e pos) (HX te g):=by
 intro pins s Z H D I h
 refine wpAny_Assign_stores (cS (he pins s Z H _ I h) λv s1 ⟨x,H1,I1,r1,q1⟩=>?_) hs hw
 rw [h1]
 exact cS (hg pins s1 Z H1 x v _ I1 r1 q1) λ_ s2 q=>q
theorem aC {i:Nat} {x:Str} {e:Expr} {te:TE} {pos':Pos} (hN:X.N.Nodup) (hi:X.N[i]? = some x) (hx:Loc X.env.scope x) (he:PE X e te) (hs:swapsWith e (some (.Name x pos')) pos.line X.env = pure false:=by rfl) (hf:X.fn x = true ∨ X.env.scope.names.lookup x = some .local:=by first | exact .inl rfl | exact .inr rfl | assumption) :
  PS X (.Assign [.Name x pos'] e pos) (HX te (sY i)):=by
 intro pins s Z H D I h
 refine wpAny_Assign_Name (cS (he pins s Z H _ I h) λv s1 ⟨y,H1,I1,r1,q1⟩=>?_) hs
 exact mF I1 hN hi hx r1 (λs2 I2=>⟨_,H1,I2,q1⟩) hf
noncomputable def NT (i:Nat) (te:TE) (ti:OS):TS:=λD Z H=>∃ x,Z[i]? = some (some x) /\ te Z H λy H1=>ti x y H1 λz H2=>D.nx (Z.set i (some z)) H2
theorem J0 {i:Nat} {x:Str} {e:Expr} {te:TE} {op:Operator} {ti:OS} {pos':Pos} (hN:X.N.Nodup) (hi:X.N[i]? = some x) (hx:Loc X.env.scope x) (he:PE X e te) (ho:PIp X op ti) (hf:X.fn x = true ∨ X.env.scope.names.lookup x = some .local:=by first | exact .inl rfl | exact .inr rfl | assumption) :
  PS X (.AugAssign (.Name x pos') op e pos) (NT i te ti):=by
 intro pins s Z H D I h
 obtain ⟨v,e1,h⟩:=h
 obtain ⟨m,hn,hl⟩:=I.loc
 have vis:NG X.env.scope x:=by rcases hx with k | k;exact .inl k;exact .inr (.inl k)
 obtain ⟨u,r,l⟩:=hl i x v hi e1 vis
 refine wpAny_AugAssign_Name ?_
 have go:wpAny (model X.prog X.w) X.A (eval e X.env) (λw s₂=>wpAny (model X.prog X.w) X.A (inplaceOp op u w) (λr s₃=>wpAny (model X.prog X.w) X.A (storeName X.env x r) (λ_=>SP X pins D .next) X.xe s₃) X.xe s₂) X.xe s:=by
  refine cS (he pins s Z H _ I h) λw s1 ⟨y,H1,I1,r1,q1⟩=>?_
  refine cS (ho pins s1 Z H1 v y u w _ I1 r r1 q1) λz s2 ⟨zv,H2,I2,r2,q2⟩=>?_
  exact mF I2 hN hi hx r2 (λs3 I3=>⟨_,H2,I3,q2⟩) hf
 rcases l with ⟨hk,hm⟩ | ⟨hk,c,hc,hcell⟩
 ·exact wpAny_loadName_local I.ok.kind hk hn hm go
 ·rcases hk with hk | hk
  ·exact wpAny_loadName_cell I.ok.kind hk hc hcell go
  ·rcases hx with k | k
   ·have:X.env.scope.names.lookup x = some .free:=hk
    rw [k] at this;cases this
   ·have:X.env.scope.names.lookup x = some .free:=hk
    rw [k] at this;cases this
def ipI (f:Int -> Int -> Int):OS:=λx y H Q=>∃ i j,x = .int i /\ y = .int j /\ Q (.int (f i j)) H
theorem J5:PIp X .Add (ipI λi j=>i + j):=by
 intro pins s Z H x y v u Q I r1 r2 h
 obtain ⟨i,j,e1,e2,q⟩:=h
 subst e1;subst e2
 obtain ⟨t,rfl⟩:=r1
 obtain ⟨t',rfl⟩:=r2
 exact iadd_int ⟨.int _,H,I.tok _,⟨_,rfl⟩,q⟩
end
section
variable {X:Cx} {pos:Pos}
noncomputable def Mp (c:TT) (tb:TS):TS:=λD Z H=>∃ W:Nat -> St -> Hp -> Prop,(∃ m,W m Z H) /\ ∀ m Z H,W m Z H ->
 c Z H λb H1=>if b = true then ∃ N:St -> Hp -> Prop,(∀ Z' H',N Z' H' -> ∃ m',m' < m /\ W m' Z' H') /\ tb { D with nx:=N,ct:=N,bk:=D.nx } Z H1 else D.nx Z H1
theorem kg {c:Expr} {body:List Stmt} {tc:TT} {tb:TS} (hp:PassesOwn (model X.prog X.w) X.A X.env X.xe) (hc:PT X c tc) (hb:AQ X body tb):PS X (.While c body [] pos) (Mp tc tb):=by
 intro pins s Z H D I h
 obtain ⟨W,⟨m0,w0⟩,turn⟩:=h
 refine wpAny_While (codeAny_whileLoop (λn s'=>∃ Z' H',Inv X pins Z' H' s' /\ W n Z' H') ?_ m0 ⟨Z,H,I,w0⟩)
 rintro n s1 ⟨Z1,H1,I1,w1⟩
 refine wpAny_passesOwn hp (cS (hc pins s1 Z1 H1 _ I1 (turn n Z1 H1 w1)) λb s2 ⟨H2,I2,q2⟩=>?_)
 cases b with
 | true =>
  obtain ⟨N,hN,q2⟩:=q2
  rw [if_pos rfl]
  refine wpAny_passesOwn hp (cS (hb pins s2 Z1 H2 _ I2 q2) λf s3 q3=>?_)
  cases f with
  | next =>
   obtain ⟨Z3,H3,I3,n3⟩:=q3
   obtain ⟨m',hm,w3⟩:=hN Z3 H3 n3
   exact ⟨m',hm,Z3,H3,I3,w3⟩
  | cont =>
   obtain ⟨Z3,H3,I3,n3⟩:=q3
   obtain ⟨m',hm,w3⟩:=hN Z3 H3 n3
   exact ⟨m',hm,Z3,H3,I3,w3⟩
  | brk=>exact q3
  | ret v=>exact q3
 | false =>
  rw [if_neg Bool.false_ne_true]
  exact wpAny_execs_nil ⟨Z1,H2,I2,q2⟩
end
structure It where
 go:Nat -> Hp -> Prop
 M6:Nat -> Hp -> V -> Hp -> Prop
 stop:Nat -> Hp -> Prop
noncomputable def se (X:Cx) (pins:List (Addr × Obj)) (H:Hp) (b:Addr):Prop :=
 H b = none /\ b ≠ X.env.locals /\ b ∉ X.fs /\ (b ∈ X.ex ∨ X.s₀.heap.objs.size <= b) /\ (∀ x c,X.env.cells.lookup x = some c -> c ≠ b) /\ ∀ p ∈ X.pn ++ pins,p.1 ≠ b
theorem Inv.Ht {X:Cx} {pins:List (Addr × Obj)} {Z:St} {H H':Hp} {s:Shared} {b:Addr} (I:Inv X pins Z H s) (hb:s.heap.objs.size <= b) (hn:H' b = none):se X pins H' b:=by
 refine ⟨hn,Nat.ne_of_gt (Nat.lt_of_lt_of_le I.lt hb),I.Nq hb,.inr (Nat.le_trans I.sz hb),λx c e z=>?_,λp hp z=>?_⟩
 ·obtain ⟨v,q⟩:=I.cell x c e
  exact absurd (Nat.lt_of_lt_of_le q.lt (by rw [z];exact hb)) (Nat.lt_irrefl _)
 ·exact absurd (Nat.lt_of_lt_of_le (Heap.lt_size (I.pin p hp).1) (by rw [z];exact hb)) (Nat.lt_irrefl _)
structure Turn (P:Program) (w:World) (K:PySem.W.Frag) (tg:Expr) (J:It) (fp:List Addr) (it:Addr) (tn:Nat -> Heap -> Prop):Prop where
 mem:it ∈ fp
 obj:∀ i h,tn i h -> ∀ b ∈ fp,∃ o,h.get? b = some o /\ ∀ v,o.data ≠ .cell v
 keep:∀ i h h',tn i h -> (∀ b ∈ fp,∀ o,h.get? b = some o -> h'.get? b = some o) -> tn i h'
 item:∀ (X:Cx),X.prog = P -> X.w = w -> X.K = K -> X.calm = true -> ∀ (i:Nat) (pins:List (Addr × Obj)) (s:Shared) (Z:St) (H:Hp) (E:Value -> Shared -> Prop),Inv X pins Z H s -> (∀ b ∈ fp,se X pins H b) -> tn i s.heap -> J.go i H ->
  wpAny (model P w) X.A (pyNext (.ref it)) (λr s1=>∃ u,r = some u /\
   wpAny (model P w) X.A (letOwnedTupleGo tg (.ref it) u) (λ_ s2=>∃ x H',Inv X pins Z H' s2 /\ RelV x u /\ J.M6 i H x H' /\ tn (i + 1) s2.heap /\ ∀ b ∈ fp,H' b = none) E s1) E s
 done:∀ (X:Cx),X.prog = P -> X.w = w -> X.K = K -> X.calm = true -> ∀ (i:Nat) (pins:List (Addr × Obj)) (s:Shared) (Z:St) (H:Hp) (E:Value -> Shared -> Prop),Inv X pins Z H s -> (∀ b ∈ fp,se X pins H b) -> tn i s.heap -> J.stop i H ->
  wpAny (model P w) X.A (pyNext (.ref it)) (λr s1=>r = none /\ Inv X pins Z H s1) E s
 self:∀ (A:Around) (i:Nat) (s:Shared) (Q:Value -> Shared -> Prop) (E:Value -> Shared -> Prop),tn i s.heap -> Q (.ref it) s -> wpAny (model P w) A (pyIter (.ref it)) Q E s
abbrev TI:=St -> Hp -> (It -> Hp -> Prop) -> Prop
noncomputable def O0 (X:Cx) (pins:List (Addr × Obj)) (Z:St) (tg:Expr) (R:It -> Hp -> Prop) (itv:Value) (s2:Shared):Prop :=
 ∃ (it:Addr) (fp:List Addr) (tn:Nat -> Heap -> Prop) (J:It) (H':Hp),itv = .ref it /\ Inv X pins Z H' s2 /\ Turn X.prog X.w X.K tg J fp it tn /\ tn 0 s2.heap /\ (∀ b ∈ fp,se X pins H' b) /\ R J H'
noncomputable def PI (X:Cx) (tg iter:Expr) (wi:TI):Prop :=
 ∀ (pins:List (Addr × Obj)) (s:Shared) (Z:St) (H:Hp) (R:It -> Hp -> Prop),Inv X pins Z H s -> wi Z H R ->
  wpAny (model X.prog X.w) X.A (eval iter X.env) (λv s1=>wpAny (model X.prog X.w) X.A (pyIter v) (O0 X pins Z tg R) X.xe s1) X.xe s
theorem Jf {M:Model} {A:Around} {E:Value -> Shared -> Prop} {s:Shared} {tg:Expr} {it:Addr} {u:Value} {o:Obj} {n:String} {vs:Array Value} {Q:Unit -> Shared -> Prop} (ho:s.heap.get? it = some o) (hc:o.cls = .type n) (hd:o.data = .fields vs)
  (hn:["enumerate","zip","dict_itemiterator","dict_reverseitemiterator","odict_iterator","itertools.zip_longest","itertools.pairwise"].contains n = false) (hQ:Q () s):wpAny M A (letOwnedTupleGo tg (.ref it) u) Q E s:=by
 unfold letOwnedTupleGo
 cases tg <;> first
  | exact wpAny_pure hQ
  | (cases u <;> first
    | exact wpAny_pure hQ
    | (refine wpAny_bind (wpAny_load ho ?_)
       rw [hc,hd]
       show wpAny M A (if (["enumerate","zip","dict_itemiterator","dict_reverseitemiterator","odict_iterator","itertools.zip_longest","itertools.pairwise"].contains n && vs[0]? == some (rawInt _)) = true then _ else _) Q E s
       rw [if_neg (by intro h;rw [hn,Bool.false_and] at h;cases h)]
       exact wpAny_pure hQ))
def LD (K:PySem.W.Frag) (a:Addr):It :=
 ⟨λi H=>∃ xs x,bB K H a xs /\ xs[i]? = some x,λi H x H'=>H' = H /\ ∀ xs,bB K H a xs -> xs[i]? = some x,λi H=>∃ xs,bB K H a xs /\ xs.length <= i⟩
def Je (lo:Int) (n:Nat):It:=⟨λi _=>i < n,λi H x H'=>H' = H /\ x = .int (lo + i),λi _=>n <= i⟩
theorem CA {P:Program} {w:World} {K:PySem.W.Frag} {tg:Expr} (a it:Addr):Turn P w K tg (LD K a) [it] it (λi h=>h.IsListIter it a i) where
 mem:=by simp
 obj:=λi h st b hb=>by
  have e:b = it:=by simpa using hb
  subst e
  obtain ⟨o,e,c,d⟩:=st
  exact ⟨o,e,λv z=>by rw [d] at z;cases z⟩
 keep:=λi h h' st k=>st.at λo e=>k it (by simp) o e
 item:=by
  intro X hP hw hK hc i pins s Z H E I hf st hg
  subst hP hw hK
  obtain ⟨xs,x,hq,hx⟩:=hg
  obtain ⟨its,rv,p,hz⟩:=I.list hq
  obtain ⟨u,hu,ru⟩:=rv.get hx
  obtain ⟨f0,f1,f2,f3,f4,f5⟩:=hf it (by simp)
  refine wpAny_pyNext_list_item st p.isList (x:=u) (by simpa using hu) λh' st' sb=>?_
  have I1:Inv X pins Z H { s with heap:=h' }:=I.turned (t':=s.toks) (λb o hb e=>(sb.2 b hb).trans e) f0 f1 f3 f4 f5
  obtain ⟨o,e,c,d⟩:=id st'
  exact ⟨u,rfl,Jf (s:={ s with heap:=h' }) e c d (by decide) ⟨x,H,I1,ru,⟨rfl,λys hy=>by rw [I.vS hy hq];exact hx⟩,st',λb hb=>(hf b hb).1⟩⟩
 done:=by
  intro X hP hw hK hc i pins s Z H E I hf st hg
  subst hP hw hK
  obtain ⟨xs,hq,hx⟩:=hg
  obtain ⟨its,rv,p,hz⟩:=I.list hq
  obtain ⟨f0,f1,f2,f3,f4,f5⟩:=hf it (by simp)
  have hl:=rv.length
  exact wpAny_pyNext_list_end (I.ok.hd hc) st p.isList (by simp;omega) λh' eb=>⟨rfl,I.turned (t':=s.toks) (λb o hb e=>eb b o hb e) f0 f1 f3 f4 f5⟩
 self:=λ_ _ _ _ _ st h=>wpAny_pyIter_listiter st h
theorem AM {P:Program} {w:World} {K:PySem.W.Frag} {tg:Expr} (it:Addr) (lo:Int) (n:Nat):Turn P w K tg (Je lo n) [it] it (λi h=>IsRangeIter h it (lo + (i:Nat) * 1) ((n:Int) - (i:Nat)) 1) where
 mem:=by simp
 obj:=λi h st b hb=>by
  have e:b = it:=by simpa using hb
  subst e
  exact ⟨_,st,λv z=>by
   have z':Data.fields _ = Data.cell v:=z
   cases z'⟩
 keep:=λi h h' st k=>k it (by simp) _ st
 item:=by
  intro X hP hw hK hc i pins s Z H E I hf st hg
  subst hP hw hK
  obtain ⟨f0,f1,f2,f3,f4,f5⟩:=hf it (by simp)
  have W:=Walks.range (prog:=X.prog) (w:=X.w) (I.ok.hd hc) it lo 1 n
  refine W.item i s _ _ hg st λv h' tk hv st' kk=>?_
  obtain ⟨t,rfl⟩:=hv
  have I1:Inv X pins Z H { s with heap:=h',toks:=tk }:=I.turned (λb o hb e=>kk b o (by simpa using hb) e) f0 f1 f3 f4 f5
  refine ⟨_,rfl,Jf (s:={ s with heap:=h',toks:=tk }) (n:="range_iterator") st' rfl rfl (by decide) ⟨.int (lo + i),H,I1,⟨t,?_⟩,⟨rfl,rfl⟩,st',λb hb=>(hf b hb).1⟩⟩
  rw [Int.mul_one]
 done:=by
  intro X hP hw hK hc i pins s Z H E I hf st hg
  subst hP hw hK
  obtain ⟨f0,f1,f2,f3,f4,f5⟩:=hf it (by simp)
  exact wpAny_pyNext_range_end (I.ok.hd hc) st (by have:n <= i:=hg;omega) λh' eb=>⟨rfl,I.turned (t':=s.toks) (λb o hb e=>eb b o hb e) f0 f1 f3 f4 f5⟩
 self:=λ_ _ _ _ _ st h=>wpAny_pyIter_rangeiter st h
end L2
namespace L2
open PySem PySem.Spec PyProof.Rows
section
variable {X:Cx} {tg:Expr}
noncomputable def OG (K:PySem.W.Frag) (tl:TE):TI:=λZ H R=>tl Z H λx H1=>∃ a,x = .ref a /\ (∃ xs,bB K H1 a xs) /\ R (LD K a) H1
theorem dZ {l:Expr} {tl:TE} (hl:PE X l tl):PI X tg l (OG X.K tl):=by
 intro pins s Z H R I h
 refine cS (hl pins s Z H _ I h) λv s1 ⟨x,H1,I1,r1,q1⟩=>?_
 obtain ⟨a,e,⟨xs,hq⟩,q⟩:=q1
 subst e
 cases r1
 obtain ⟨its,rv,p,hz⟩:=I1.list hq
 refine wpAny_pyIter_list p.isList ?_
 refine ⟨s1.heap.objs.size,[s1.heap.objs.size],_,_,H1,rfl,I1.kept (t':=s1.toks) λb o e=>Heap.get?_push_of_some _ e,CA a _,⟨_,Heap.get?_push_size _ rfl,rfl,rfl⟩,λb hb=>?_,q⟩
 have e:b = s1.heap.objs.size:=by simpa using hb
 subst e
 exact I1.Ht (Nat.le_refl _) (I1.hok.fresh (Nat.le_refl _))
theorem DT {pins:List (Addr × Obj)} {Z:St} {H:Hp} {s:Shared} {R:It -> Hp -> Prop} {E:Value -> Shared -> Prop} {lo hi:Int} {t u v:Tok} {tk:Nat} (I:Inv X pins Z H s) (h1:-(2 ^ 62) <= lo) (h2:lo < 2 ^ 62) (h3:-(2 ^ 62) <= hi) (h4:hi < 2 ^ 62)
  (q:R (Je lo (hi - lo).toNat) H):wpAny (model X.prog X.w) X.A (pyIter (.ref s.heap.objs.size)) (O0 X pins Z tg R) E { s with heap:=s.heap.push { cls:=.type "range",data:=.fields #[.int lo t,.int hi u,.int 1 v] },toks:=tk }:=by
 refine wpAny_pyIter_range (IsRange.new ..) (small_one h1 h2 h3 h4) ?_
 have I1:Inv X pins Z H { s with heap:=s.heap.push { cls:=.type "range",data:=.fields #[.int lo t,.int hi u,.int 1 v] },toks:=tk }:=I.kept λb o e=>Heap.get?_push_of_some _ e
 refine ⟨(s.heap.push { cls:=.type "range",data:=.fields #[.int lo t,.int hi u,.int 1 v] }).objs.size,[(s.heap.push { cls:=.type "range",data:=.fields #[.int lo t,.int hi u,.int 1 v] }).objs.size],_,_,H,rfl,
  I1.kept (t':=tk) λb o e=>Heap.get?_push_of_some _ e,AM _ lo (hi - lo).toNat,?_,λb hb=>?_,q⟩
 ·have e1:lo + ((0:Nat):Int) * 1 = lo:=by simp
  have e2:(((hi - lo).toNat:Nat):Int) - ((0:Nat):Int) = Builtin.Range.rangeSize lo hi 1:=by rw [rangeSize_one];split <;> omega
  show IsRangeIter _ _ (lo + ((0:Nat):Int) * 1) ((((hi - lo).toNat:Nat):Int) - ((0:Nat):Int)) 1
  rw [e1,e2]
  exact Heap.get?_push_size _ rfl
 ·have e:b = (s.heap.push { cls:=.type "range",data:=.fields #[.int lo t,.int hi u,.int 1 v] }).objs.size:=by simpa using hb
  subst e
  exact I1.Ht (Nat.le_refl _) (I1.hok.fresh (Nat.le_refl _))
noncomputable def OC (ta:TA):TI:=λZ H R=>ta Z H λvs H1=>∃ j:Int,vs = [.int j] /\ -(2 ^ 62) <= j /\ j < 2 ^ 62 /\ R (Je 0 j.toNat) H1
theorem gi {a:Expr} {ta:TA} {p pos:Pos} (hg:Gl X "range") (hm:X.mg "range" = none) (ha:PA X [a] ta) (hs:starEach [a] X.env = [(false,eval a X.env)]:=by rfl):PI X tg (.Call (.Name "range" p) [a] [] pos) (OC ta):=by
 intro pins s Z H R I h
 refine Call_ (qB I hg hm boot_range (PyProof.Rows.callWith_type1 (cS (ha pos pins s Z H _ I h) λus s1 ⟨vs,H1,I1,r1,q1⟩=>?_) hs rfl))
 obtain ⟨j,e,q1,q2,q⟩:=q1
 subst e
 cases r1 with
 | cons r rr =>
  cases rr
  obtain ⟨t,rfl⟩:=r
  exact call_range_1 (DT I1 (by omega) (by omega) q1 q2 (by simpa using q))
noncomputable def O1 (wi:TI) (g:TG) (tb:TS):TS:=λD Z H=>wi Z H λJ H1=>∃ W:Nat -> Nat -> St -> Hp -> Prop,(∃ m,W 0 m Z H1) /\ ∀ i m Z H,W i m Z H ->
 (J.stop i H /\ D.nx Z H) ∨ (J.go i H /\ ∃ N:St -> Hp -> Prop,(∀ Z' H',N Z' H' -> ∃ m',m' < m /\ W (i + 1) m' Z' H') /\ ∀ x H',J.M6 i H x H' -> g x Z H' λZ2 H2=>tb { D with nx:=N,ct:=N,bk:=D.nx } Z2 H2)
def kq (fp:List Addr) (h:Heap):List (Addr × Obj):=fp.filterMap λb=>(h.get? b).map λo=>(b,o)
theorem gM {fp:List Addr} {h:Heap} {b:Addr} {o:Obj} (hb:b ∈ fp) (e:h.get? b = some o):(b,o) ∈ kq fp h:=List.mem_filterMap.mpr ⟨b,hb,by rw [e];rfl⟩
theorem nA {fp:List Addr} {h:Heap} {p:Addr × Obj} (hp:p ∈ kq fp h):p.1 ∈ fp /\ h.get? p.1 = some p.2:=by
 obtain ⟨b,hb,e⟩:=List.mem_filterMap.mp hp
 cases q:h.get? b with
 | none=>rw [q] at e;cases e
 | some o =>
  rw [q] at e
  have e':(b,o) = p:=Option.some.inj e
  subst e'
  exact ⟨hb,q⟩
theorem Inv.pinned {pins:List (Addr × Obj)} {Z:St} {H:Hp} {s:Shared} {fp:List Addr} (I:Inv X pins Z H s) (hf:∀ b ∈ fp,se X pins H b) (ho:∀ b ∈ fp,∃ o,s.heap.get? b = some o /\ ∀ v,o.data ≠ .cell v):Inv X (pins ++ kq fp s.heap) Z H s :=
 I.gT λp hp=>(List.mem_append.mp hp).elim (λz=>I.pin p (List.mem_append_right _ z)) λz=>by
  obtain ⟨hb,e⟩:=nA z
  obtain ⟨f0,f1,f2,_⟩:=hf p.1 hb
  obtain ⟨o,e',d⟩:=ho p.1 hb
  rw [e] at e';cases e'
  exact ⟨e,f0,f1,f2,d⟩
theorem Inv.pH {pins pl:List (Addr × Obj)} {Z:St} {H:Hp} {s:Shared} (I:Inv X (pins ++ pl) Z H s):Inv X pins Z H s:=I.gT λp hp=>I.pin p (List.mem_append_right _ (List.mem_append_left _ hp))
theorem MZ {iter:Expr} {body:List Stmt} {wi:TI} {g:TG} {tb:TS} {pos:Pos} (hp:PassesOwn (model X.prog X.w) X.A X.env X.xe) (hc:X.calm = true) (hi:PI X tg iter wi) (hg:PG X tg g) (hb:AQ X body tb)
  (hs:∀ x,foldedSetIterable iter X.env x = pure x:=by intro _;rfl):PS X (.For tg iter body [] pos) (O1 wi g tb):=by
 intro pins s Z H D I h
 refine wpAny_For (cS (hi pins s Z H _ I h) λv s1 h1=>cS h1 λitv s2 h2=>?_) hs
 obtain ⟨it,fp,tn,J,H2,e,I2,T,st2,f2,W,⟨m0,w0⟩,turn⟩:=h2
 subst e
 have stat:∀ {H':Hp},(∀ b ∈ fp,H' b = none) -> ∀ b ∈ fp,se X pins H' b:=λhn b hb=>⟨hn b hb,(f2 b hb).2⟩
 refine codeAny_forLoop_any (λn s'=>∃ i Z' H',Inv X pins Z' H' s' /\ tn i s'.heap /\ (∀ b ∈ fp,H' b = none) /\ W i n Z' H') ?_ m0 ⟨0,Z,H2,I2,st2,λb hb=>(f2 b hb).1,w0⟩
 rintro n s3 ⟨i,Z3,H3,I3,st3,fr3,w3⟩
 rcases turn i n Z3 H3 w3 with ⟨stop,qn⟩ | ⟨go,N,hN,step⟩
 ·refine wpAny_passesOwn hp (cS (T.done X rfl rfl rfl hc i pins s3 Z3 H3 X.xe I3 (stat fr3) st3 stop) λr s4 ⟨hr,I4⟩=>?_)
  subst hr
  exact wpAny_execs_nil ⟨Z3,H3,I4,qn⟩
 ·refine wpAny_passesOwn hp (cS (T.item X rfl rfl rfl hc i pins s3 Z3 H3 X.xe I3 (stat fr3) st3 go) λr s4 ⟨u,hr,h4⟩=>?_)
  subst hr
  refine wpAny_passesOwn hp (cS h4 λ_ s5 ⟨x,H5,I5,r5,y5,st5,fr5⟩=>?_)
  have I5':=I5.pinned (stat fr5) (T.obj _ _ st5)
  refine wpAny_passesOwn hp (cS (hg _ s5 Z3 H5 x u _ I5' r5 (step x H5 y5)) λ_ s6 ⟨Z6,H6,I6,q6⟩=>?_)
  refine wpAny_passesOwn hp (cS (hb _ s6 Z6 H6 _ I6 q6) λf s7 q7=>?_)
  have again:∀ {Z7:St} {H7:Hp},Inv X (pins ++ kq fp s5.heap) Z7 H7 s7 -> N Z7 H7 -> ∃ m,m < n /\ ∃ i Z' H',Inv X pins Z' H' s7 /\ tn i s7.heap /\ (∀ b ∈ fp,H' b = none) /\ W i m Z' H':=λ{Z7 H7} I7 n7=>by
   obtain ⟨m',hm,w7⟩:=hN Z7 H7 n7
   refine ⟨m',hm,i + 1,Z7,H7,I7.pH,T.keep _ _ _ st5 λb hb o e=>(I7.pin (b,o) (List.mem_append_right _ (List.mem_append_right _ (gM hb e)))).1,λb hb=>?_,w7⟩
   obtain ⟨o,e,d⟩:=T.obj _ _ st5 b hb
   exact (I7.pin (b,o) (List.mem_append_right _ (List.mem_append_right _ (gM hb e)))).2.1
  cases f with
  | next=>obtain ⟨Z7,H7,I7,n7⟩:=q7;exact again I7 n7
  | cont=>obtain ⟨Z7,H7,I7,n7⟩:=q7;exact again I7 n7
  | brk=>obtain ⟨Z7,H7,I7,q7⟩:=q7;exact ⟨Z7,H7,I7.pH,q7⟩
  | ret v=>obtain ⟨x7,Z7,H7,I7,r7,q7⟩:=q7;exact ⟨x7,Z7,H7,I7.pH,r7,q7⟩
end
theorem FJ {K:PySem.W.Frag} {a:Addr} {xs:List V} {g:TG} {tb:TS} {D:Ends} {Z:St} {H:Hp} (Pv:Nat -> St -> Hp -> Prop) (h0:Pv 0 Z H) (hl:∀ i Z H,i <= xs.length -> Pv i Z H -> bB K H a xs)
  (hs:∀ i x Z H,xs[i]? = some x -> Pv i Z H -> g x Z H λZ2 H2=>tb { D with nx:=Pv (i + 1),ct:=Pv (i + 1),bk:=D.nx } Z2 H2) (hd:∀ Z H,Pv xs.length Z H -> D.nx Z H) :
  ∃ W:Nat -> Nat -> St -> Hp -> Prop,(∃ m,W 0 m Z H) /\ ∀ i m Z H,W i m Z H ->
   ((LD K a).stop i H /\ D.nx Z H) ∨ ((LD K a).go i H /\ ∃ N:St -> Hp -> Prop,(∀ Z' H',N Z' H' -> ∃ m',m' < m /\ W (i + 1) m' Z' H') /\ ∀ x H',(LD K a).M6 i H x H' -> g x Z H' λZ2 H2=>tb { D with nx:=N,ct:=N,bk:=D.nx } Z2 H2):=by
 refine ⟨λi m Z H=>m = xs.length - i /\ i <= xs.length /\ Pv i Z H,⟨xs.length,by simp,Nat.zero_le _,h0⟩,?_⟩
 rintro i m Z H ⟨rfl,hi,p⟩
 have q:=hl i Z H hi p
 by_cases hlt:i < xs.length
 ·refine .inr ⟨⟨xs,xs[i],q,by simp [hlt]⟩,Pv (i + 1),λZ' H' p'=>⟨xs.length - (i + 1),by omega,rfl,hlt,p'⟩,λx H' y=>?_⟩
  obtain ⟨e,y⟩:=y
  subst e
  exact hs i x Z _ (y xs q) p
 ·have e:i = xs.length:=by omega
  subst e
  exact .inl ⟨⟨xs,q,Nat.le_refl _⟩,hd Z H p⟩
theorem CP {lo:Int} {n:Nat} {g:TG} {tb:TS} {D:Ends} {Z:St} {H:Hp} (Pv:Nat -> St -> Hp -> Prop) (h0:Pv 0 Z H)
  (hs:∀ i Z H,i < n -> Pv i Z H -> g (.int (lo + i)) Z H λZ2 H2=>tb { D with nx:=Pv (i + 1),ct:=Pv (i + 1),bk:=D.nx } Z2 H2) (hd:∀ Z H,Pv n Z H -> D.nx Z H) :
  ∃ W:Nat -> Nat -> St -> Hp -> Prop,(∃ m,W 0 m Z H) /\ ∀ i m Z H,W i m Z H ->
   ((Je lo n).stop i H /\ D.nx Z H) ∨ ((Je lo n).go i H /\ ∃ N:St -> Hp -> Prop,(∀ Z' H',N Z' H' -> ∃ m',m' < m /\ W (i + 1) m' Z' H') /\ ∀ x H',(Je lo n).M6 i H x H' -> g x Z H' λZ2 H2=>tb { D with nx:=N,ct:=N,bk:=D.nx } Z2 H2):=by
 refine ⟨λi m Z H=>m = n - i /\ i <= n /\ Pv i Z H,⟨n,by simp,Nat.zero_le _,h0⟩,?_⟩
 rintro i m Z H ⟨rfl,hi,p⟩
 by_cases hlt:i < n
 ·refine .inr ⟨hlt,Pv (i + 1),λZ' H' p'=>⟨n - (i + 1),by omega,rfl,hlt,p'⟩,λx H' y=>?_⟩
  obtain ⟨e,y⟩:=y
  subst e y
  exact hs i Z _ hlt p
 ·have e:i = n:=by omega
  subst e
  exact .inl ⟨Nat.le_refl _,hd Z H p⟩
end L2
namespace L2
open PySem PySem.Spec PyProof.Rows
abbrev R2:=V -> V -> Hp -> VK -> Prop
noncomputable def lP (X:Cx) (f:Value -> Value -> Sem Value) (r:R2):Prop :=
 ∀ (pins:List (Addr × Obj)) (s:Shared) (Z:St) (H:Hp) (x y:V) (v u:Value) (Q:VK),Inv X pins Z H s -> RelV x v -> RelV y u -> r x y H Q ->
  wpAny (model X.prog X.w) X.A (f v u) (EP X pins Z Q) X.xe s
noncomputable def Pe (X:Cx) (f:Value -> Sem Value) (r:V -> Hp -> VK -> Prop):Prop :=
 ∀ (pins:List (Addr × Obj)) (s:Shared) (Z:St) (H:Hp) (x:V) (v:Value) (Q:VK),Inv X pins Z H s -> RelV x v -> r x H Q ->
  wpAny (model X.prog X.w) X.A (f v) (EP X pins Z Q) X.xe s
noncomputable def ju (X:Cx) (f:Value) (r:List V -> Hp -> VK -> Prop):Prop :=
 ∀ (pins:List (Addr × Obj)) (s:Shared) (Z:St) (H:Hp) (xs:List V) (us:List Value) (Q:VK),Inv X pins Z H s -> Vals xs us -> r xs H Q ->
  wpAny (model X.prog X.w) X.A (call f us) (EP X pins Z Q) X.xe s
noncomputable def OV (X:Cx) (r:V -> Hp -> (Bool -> Hp -> Prop) -> Prop):Prop :=
 ∀ (pins:List (Addr × Obj)) (s:Shared) (Z:St) (H:Hp) (x:V) (v:Value) (Q:Bool -> Hp -> Prop),Inv X pins Z H s -> RelV x v -> r x H Q ->
  wpAny (model X.prog X.w) X.A (truthy v) (TP X pins Z Q) X.xe s
noncomputable def M5 (r:R2) (ta tb:TE):TE:=λZ H Q=>ta Z H λx H1=>tb Z H1 λy H2=>r x y H2 Q
noncomputable def tUn (r:V -> Hp -> VK -> Prop) (ta:TE):TE:=λZ H Q=>ta Z H λx H1=>r x H1 Q
def rI (C:Int -> Int -> Prop) (g:Int -> Int -> V):R2:=λx y H Q=>∃ i j,x = .int i /\ y = .int j /\ C i j /\ Q (g i j) H
def Jh (g:Int -> Int -> V):R2:=λx y H Q=>∃ i j,x = .int i /\ y = .int j /\ Q (g i j) H
def rU (g:Int -> V):V -> Hp -> VK -> Prop:=λx H Q=>∃ i,x = .int i /\ Q (g i) H
section
variable {X:Cx} {a b c:Expr} {ta tb tc:TE} {pos:Pos}
theorem KU (ha:PE X a ta) (hb:PE X b tb) {pins:List (Addr × Obj)} {s:Shared} {Z:St} {H:Hp} {R:V -> V -> Hp -> Prop} (I:Inv X pins Z H s)
  (h:ta Z H λx H1=>tb Z H1 λy H2=>R x y H2) {Q:Value -> Shared -> Prop} {f:Value -> Value -> Sem Value}
  (hf:∀ v u s2 x y H2,Inv X pins Z H2 s2 -> RelV x v -> RelV y u -> R x y H2 -> wpAny (model X.prog X.w) X.A (f v u) Q X.xe s2) :
  wpAny (model X.prog X.w) X.A (eval a X.env) (λv s₁=>wpAny (model X.prog X.w) X.A (eval b X.env) (λu s₂=>wpAny (model X.prog X.w) X.A (f v u) Q X.xe s₂) X.xe s₁) X.xe s:=by
 refine cS (ha pins s Z H _ I h) λv s1 ⟨x,H1,I1,r1,q1⟩=>?_
 refine cS (hb pins s1 Z H1 _ I1 q1) λu s2 ⟨y,H2,I2,r2,q2⟩=>?_
 exact hf v u s2 x y H2 I2 r1 r2 q2
theorem aQ {op:Operator} {r:R2} (ho:lP X (binaryOp op) r) (ha:PE X a ta) (hb:PE X b tb):PE X (.BinOp a op b pos) (M5 r ta tb):=by
 intro pins s Z H Q I h
 exact wpAny_BinOp (KU ha hb I h λv u s2 x y H2 I2 rx ry q=>ho pins s2 Z H2 x y v u Q I2 rx ry q)
theorem jh {op:UnaryOp} {r:V -> Hp -> VK -> Prop} (ho:Pe X (unaryOp op) r) (ha:PE X a ta):PE X (.UnaryOp op a pos) (tUn r ta):=by
 intro pins s Z H Q I h
 exact UnaryOp_ (cS (ha pins s Z H _ I h) λv s1 ⟨x,H1,I1,r1,q1⟩=>ho pins s1 Z H1 x v Q I1 r1 q1)
theorem OQ {f:Value -> Value -> Sem Value} {C:Int -> Int -> Prop} {g:Int -> Int -> Int}
  (rule:∀ (i j:Int) (t u:Tok) (s:Shared) (Q:Value -> Shared -> Prop) (E:Value -> Shared -> Prop),C i j -> Q (.int (g i j) s.toks) { s with toks:=s.toks + 1 } -> wpAny (model X.prog X.w) X.A (f (.int i t) (.int j u)) Q E s) :
  lP X f (rI C λi j=>.int (g i j)):=by
 intro pins s Z H x y v u Q I rx ry h
 obtain ⟨i,j,rfl,rfl,hc,q⟩:=h
 obtain ⟨t,rfl⟩:=rx
 obtain ⟨t',rfl⟩:=ry
 exact rule i j t t' s _ _ hc ⟨.int (g i j),H,I.tok _,⟨_,rfl⟩,q⟩
theorem NO {f:Value -> Value -> Sem Value} {g:Int -> Int -> Int}
  (rule:∀ (i j:Int) (t u:Tok) (s:Shared) (Q:Value -> Shared -> Prop) (E:Value -> Shared -> Prop),Q (.int (g i j) s.toks) { s with toks:=s.toks + 1 } -> wpAny (model X.prog X.w) X.A (f (.int i t) (.int j u)) Q E s) :
  lP X f (Jh λi j=>.int (g i j)):=by
 intro pins s Z H x y v u Q I rx ry h
 obtain ⟨i,j,rfl,rfl,q⟩:=h
 obtain ⟨t,rfl⟩:=rx
 obtain ⟨t',rfl⟩:=ry
 exact rule i j t t' s _ _ ⟨.int (g i j),H,I.tok _,⟨_,rfl⟩,q⟩
theorem J9 {f:Value -> Value -> Sem Value} {g:Int -> Int -> Bool}
  (rule:∀ (i j:Int) (t u:Tok) (s:Shared) (Q:Value -> Shared -> Prop) (E:Value -> Shared -> Prop),Q (.bool (g i j)) s -> wpAny (model X.prog X.w) X.A (f (.int i t) (.int j u)) Q E s) :
  lP X f (Jh λi j=>.bl (g i j)):=by
 intro pins s Z H x y v u Q I rx ry h
 obtain ⟨i,j,rfl,rfl,q⟩:=h
 obtain ⟨t,rfl⟩:=rx
 obtain ⟨t',rfl⟩:=ry
 exact rule i j t t' s _ _ ⟨.bl (g i j),H,I,rfl,q⟩
noncomputable def Pf (i j:Int):Prop:=0 < j /\ j < 1073741824
noncomputable def Pc (i j:Int):Prop:=0 <= j /\ j <= 1000000 /\ i.natAbs < 2 ^ 64
noncomputable def MD (i j:Int):Prop:=(-(2 ^ 64) < i /\ i < 2 ^ 64) ∨ (-(2 ^ 64) < j /\ j < 2 ^ 64)
theorem MD.ok {i j:Int} (h:MD i j):IntMulOk i j:=by
 rcases h with ⟨h1,h2⟩ | ⟨h1,h2⟩
 ·exact .of_left (intBits_le_64 h1 h2)
 ·exact .of_right (intBits_le_64 h1 h2)
theorem bM:lP X (binaryOp .Add) (Jh λi j=>.int (i + j)):=NO λ_ _ _ _ _ _ _ q=>add_int q
theorem jo:lP X (binaryOp .Sub) (Jh λi j=>.int (i - j)):=NO λ_ _ _ _ _ _ _ q=>sub_int q
theorem lB:lP X (binaryOp .Mult) (rI MD λi j=>.int (i * j)):=OQ λ_ _ _ _ _ _ _ hc q=>mul_int q hc.ok
theorem uP:lP X (binaryOp .FloorDiv) (rI Pf λi j=>.int (i / j)):=OQ λi j _ _ _ _ _ hc q=>by
 have h1:(0:Int) < j:=hc.1
 have h2:j < 1073741824:=hc.2
 exact floordiv_int (by omega) (by rw [Int.fdiv_eq_ediv_of_nonneg i (by omega)];exact q) (.inl (PyProof.noPylong_small (by omega)))
theorem iy:lP X (binaryOp .Mod) (rI (λ_ j=>0 < j) λi j=>.int (i % j)):=OQ λi j _ _ _ _ _ hc q=>by
 have h1:(0:Int) < j:=hc
 exact mod_int' (by omega) (by rw [Int.fmod_eq_emod_of_nonneg i (by omega)];exact q)
theorem JP:lP X (binaryOp .Pow) (rI Pc λi j=>.int (i ^ j.toNat)):=OQ λ_ _ _ _ _ _ _ hc q=>pow_int_small hc.1 hc.2.1 hc.2.2 q
theorem unI {f:Value -> Sem Value} {g:Int -> Int}
  (rule:∀ (i:Int) (t:Tok) (s:Shared) (Q:Value -> Shared -> Prop) (E:Value -> Shared -> Prop),Q (.int (g i) s.toks) { s with toks:=s.toks + 1 } -> wpAny (model X.prog X.w) X.A (f (.int i t)) Q E s) :
  Pe X f (rU λi=>.int (g i)):=by
 intro pins s Z H x v Q I rx h
 obtain ⟨i,rfl,q⟩:=h
 obtain ⟨t,rfl⟩:=rx
 exact rule i t s _ _ ⟨.int (g i),H,I.tok _,⟨_,rfl⟩,q⟩
theorem gA:Pe X (unaryOp .USub) (rU λi=>.int (-i)):=unI λ_ _ _ _ _ q=>neg_int q
end
def N9:V -> V -> Bool
 | .cM,.cM=>true | .cM,.int _=>true | .int _,.cM=>true | .cM,.bl _=>true | .bl _,.cM=>true | .cM,.str _=>true | .str _,.cM=>true
 | .int _,.int _=>true | .bl _,.bl _=>true | .str _,.str _=>true | .byt _,.byt _=>true
 | .int _,.str _=>true | .str _,.int _=>true | .bl _,.str _=>true | .str _,.bl _=>true
 | _,_=>false
def rEq:R2:=λx y H Q=>N9 x y = true /\ Q (.bl (decide (x = y))) H
def rNe:R2:=λx y H Q=>N9 x y = true /\ Q (.bl (!decide (x = y))) H
theorem BN {i j:Int}:decide (V.int i = V.int j) = (i == j):=by
 rw [Bool.eq_iff_iff]
 simp
theorem EK {i j:Bool}:decide (V.bl i = V.bl j) = (i == j):=by
 rw [Bool.eq_iff_iff]
 simp
theorem A0 {i j:Str}:decide (V.str i = V.str j) = (i == j):=by
 rw [Bool.eq_iff_iff]
 simp
theorem AZ {i j:Array UInt8}:decide (V.byt i = V.byt j) = (i.toList == j.toList):=by
 rw [Bool.eq_iff_iff]
 cases i
 cases j
 simp
section
variable {X:Cx} {a b c:Expr} {ta tb tc:TE} {pos:Pos}
theorem bT {pins:List (Addr × Obj)} {Z:St} {H:Hp} {s:Shared} {Q:VK} {k k':Bool} (I:Inv X pins Z H s) (q:Q (.bl k) H) (e:k = k'):EP X pins Z Q (.bool k') s:=by
 subst e
 exact ⟨.bl k,H,I,rfl,q⟩
theorem bE:lP X (compareOp .Eq) rEq:=by
 intro pins s Z H x y v u Q I rx ry h
 obtain ⟨hs,q⟩:=h
 cases x with
 | cM =>
  cases rx
  cases y with
  | cM=>cases ry;exact PySem.EqNone.eq_none_none (bT I q (by simp))
  | bl j=>cases ry;exact PySem.EqNone.eq_none_bool (bT I q (by simp))
  | int j=>obtain ⟨t',rfl⟩:=ry;exact PySem.EqNone.eq_none_int (bT I q (by simp))
  | str j=>obtain ⟨t',rfl⟩:=ry;exact PySem.EqNone.eq_none_str (bT I q (by simp))
  | _=>exact absurd (show false = true from hs) Bool.false_ne_true
 | bl i =>
  cases rx
  cases y with
  | cM=>cases ry;exact PySem.EqNone.eq_bool_none (bT I q (by simp))
  | bl j=>cases ry;exact eq_bool (bT I q EK)
  | str j=>obtain ⟨t',rfl⟩:=ry;exact PySem.EqMixed.eq_bool_str (bT I q (by simp))
  | _=>exact absurd (show false = true from hs) Bool.false_ne_true
 | int i =>
  obtain ⟨t,rfl⟩:=rx
  cases y with
  | cM=>cases ry;exact PySem.EqNone.eq_int_none (bT I q (by simp))
  | int j=>obtain ⟨t',rfl⟩:=ry;exact eq_int (bT I q BN)
  | str j=>obtain ⟨t',rfl⟩:=ry;exact PySem.EqMixed.eq_int_str (bT I q (by simp))
  | _=>exact absurd (show false = true from hs) Bool.false_ne_true
 | str i =>
  obtain ⟨t,rfl⟩:=rx
  cases y with
  | cM=>cases ry;exact PySem.EqNone.eq_str_none (bT I q (by simp))
  | bl j=>cases ry;exact PySem.EqMixed.eq_str_bool (bT I q (by simp))
  | int j=>obtain ⟨t',rfl⟩:=ry;exact PySem.EqMixed.eq_str_int (bT I q (by simp))
  | str j=>obtain ⟨t',rfl⟩:=ry;exact eq_str (bT I q A0)
  | _=>exact absurd (show false = true from hs) Bool.false_ne_true
 | byt i =>
  obtain ⟨t,rfl⟩:=rx
  cases y with
  | byt j=>obtain ⟨t',rfl⟩:=ry;exact PySem.W.eq_bytes (bT I q AZ)
  | _=>exact absurd (show false = true from hs) Bool.false_ne_true
 | _=>cases y <;> exact absurd (show false = true from hs) Bool.false_ne_true
theorem t8:lP X (compareOp .NotEq) rNe:=by
 intro pins s Z H x y v u Q I rx ry h
 obtain ⟨hs,q⟩:=h
 cases x with
 | cM =>
  cases rx
  cases y with
  | cM=>cases ry;exact PySem.EqNone.ne_none_none (bT I q (by simp))
  | bl j=>cases ry;exact PySem.EqNone.ne_none_bool (bT I q (by simp))
  | int j=>obtain ⟨t',rfl⟩:=ry;exact PySem.EqNone.ne_none_int (bT I q (by simp))
  | str j=>obtain ⟨t',rfl⟩:=ry;exact PySem.EqNone.ne_none_str (bT I q (by simp))
  | _=>exact absurd (show false = true from hs) Bool.false_ne_true
 | bl i =>
  cases rx
  cases y with
  | cM=>cases ry;exact PySem.EqNone.ne_bool_none (bT I q (by simp))
  | bl j=>cases ry;exact ne_bool (bT I q (congrArg not EK))
  | str j=>obtain ⟨t',rfl⟩:=ry;exact PySem.EqMixed.ne_bool_str (bT I q (by simp))
  | _=>exact absurd (show false = true from hs) Bool.false_ne_true
 | int i =>
  obtain ⟨t,rfl⟩:=rx
  cases y with
  | cM=>cases ry;exact PySem.EqNone.ne_int_none (bT I q (by simp))
  | int j=>obtain ⟨t',rfl⟩:=ry;exact ne_int (bT I q (congrArg not BN))
  | str j=>obtain ⟨t',rfl⟩:=ry;exact PySem.EqMixed.ne_int_str (bT I q (by simp))
  | _=>exact absurd (show false = true from hs) Bool.false_ne_true
 | str i =>
  obtain ⟨t,rfl⟩:=rx
  cases y with
  | cM=>cases ry;exact PySem.EqNone.ne_str_none (bT I q (by simp))
  | bl j=>cases ry;exact PySem.EqMixed.ne_str_bool (bT I q (by simp))
  | int j=>obtain ⟨t',rfl⟩:=ry;exact PySem.EqMixed.ne_str_int (bT I q (by simp))
  | str j=>obtain ⟨t',rfl⟩:=ry;exact ne_str (bT I q (congrArg not A0))
  | _=>exact absurd (show false = true from hs) Bool.false_ne_true
 | byt i =>
  obtain ⟨t,rfl⟩:=rx
  cases y with
  | byt j=>obtain ⟨t',rfl⟩:=ry;exact PySem.W.ne_bytes (bT I q (congrArg not AZ))
  | _=>exact absurd (show false = true from hs) Bool.false_ne_true
 | _=>cases y <;> exact absurd (show false = true from hs) Bool.false_ne_true
theorem gC:lP X (compareOp .Lt) (Jh λi j=>.bl (decide (i < j))):=J9 λ_ _ _ _ _ _ _ q=>lt_int q
theorem iY:lP X (compareOp .Gt) (Jh λi j=>.bl (decide (j < i))):=J9 λ_ _ _ _ _ _ _ q=>gt_int q
theorem Jg:lP X (compareOp .GtE) (Jh λi j=>.bl (decide (j <= i))):=J9 λ_ _ _ _ _ _ _ q=>ge_int q
theorem jv:lP X (compareOp .In) (λx y H Q=>∃ i j,x = .str i /\ y = .str j /\ Q (.bl (!(Builtin.Str.occurrences j i 0 j.length 1).isEmpty)) H):=by
 intro pins s Z H x y v u Q I rx ry h
 obtain ⟨i,j,rfl,rfl,q⟩:=h
 obtain ⟨t,rfl⟩:=rx
 obtain ⟨t',rfl⟩:=ry
 exact in_str (bT I q rfl)
theorem qq:lP X (compareOp .Is) (λx y H Q=>y = .cM /\ Q (.bl (decide (x = .cM))) H):=by
 intro pins s Z H x y v u Q I rx ry h
 obtain ⟨rfl,q⟩:=h
 cases ry
 refine is_none_gen (bT I q ?_)
 cases x <;> first
  | (cases rx;rfl)
  | (obtain ⟨t,rfl⟩:=rx;rfl)
theorem fJ:lP X (compareOp .IsNot) (λx y H Q=>y = .cM /\ Q (.bl (!decide (x = .cM))) H):=by
 intro pins s Z H x y v u Q I rx ry h
 obtain ⟨rfl,q⟩:=h
 cases ry
 refine isnot_none_gen (bT I q ?_)
 cases x <;> first
  | (cases rx;rfl)
  | (obtain ⟨t,rfl⟩:=rx;rfl)
theorem vd:lP X (compareOp .NotIn) (λx y H Q=>∃ i j,x = .str i /\ y = .str j /\ Q (.bl (!(!(Builtin.Str.occurrences j i 0 j.length 1).isEmpty))) H):=by
 intro pins s Z H x y v u Q I rx ry h
 obtain ⟨i,j,rfl,rfl,q⟩:=h
 obtain ⟨t,rfl⟩:=rx
 obtain ⟨t',rfl⟩:=ry
 exact notIn_str (bT I q rfl)
theorem aA (b:Expr) {op:CmpOp} (h:op ≠ .In:=by decide) (h2:op ≠ .NotIn:=by decide):behindInMarks op b = false:=by
 have e1:(op == CmpOp.In) = false:=by cases op <;> first | rfl | exact absurd rfl h
 have e2:(op == CmpOp.NotIn) = false:=by cases op <;> first | rfl | exact absurd rfl h2
 cases b <;> simp [behindInMarks,e1,e2]
theorem gv {op:CmpOp} {r:R2} (ho:lP X (compareOp op) r) (ha:PE X a ta) (hb:PE X b tb) (hm:behindInMarks op b = false):PE X (.Compare a [op] [b] pos) (M5 r ta tb):=by
 intro pins s Z H Q I h
 exact wpAny_Compare1 (KU ha hb I h λv u s2 x y H2 I2 rx ry q=>ho pins s2 Z H2 x y v u Q I2 rx ry q) hm
noncomputable def Jc (t:TE):TT:=λZ H Q=>t Z H λx H'=>∃ k,x = .bl k /\ Q k H'
theorem az {op:CmpOp} {r:R2} (ho:lP X (compareOp op) r) (ha:PE X a ta) (hb:PE X b tb) (hm:behindInMarks op b = false):PT X (.Compare a [op] [b] pos) (Jc (M5 r ta tb)):=by
 intro pins s Z H Q I h
 refine wpAny_isTrue_Compare1 (cS (ha pins s Z H _ I h) λv s1 ⟨x,H1,I1,r1,q1⟩=>cS (hb pins s1 Z H1 _ I1 q1) λu s2 ⟨y,H2,I2,r2,q2⟩ =>
  cS (ho pins s2 Z H2 x y v u _ I2 r1 r2 q2) λc s3 ⟨z,H3,I3,r3,k,e,q3⟩=>?_) hm
 subst e
 cases r3
 exact wpAny_truthy_bool ⟨H3,I3,q3⟩
noncomputable def NW (K:PySem.W.Frag) (x:V) (H:Hp) (k:Bool):Prop :=
 match x with
 | .cM=>k = false
 | .bl b=>k = b
 | .int i=>k = (i != 0)
 | .str y=>y.length <= sizeLine /\ k = ((y.length:Int) != 0)
 | .byt y=>y.size <= sizeLine /\ k = ((y.size:Int) != 0)
 | .ref p=>(∃ xs,bB K H p xs /\ k = !xs.isEmpty) ∨ (∃ xs,fY K H p xs /\ k = !xs.isEmpty) ∨ ∃ kvs,H p = some (.dK kvs) /\ k = !kvs.isEmpty
 | _=>False
theorem Aw {κ:Type} {kvs:List (κ × V)} {vs:List (κ × Value)} (r:KV kvs vs):(!vs.isEmpty) = !kvs.isEmpty:=by
 cases r <;> rfl
theorem rR {xs:List V} {its:List Value} (r:Vals xs its):(!its.toArray.isEmpty) = !xs.isEmpty:=by
 cases r <;> simp
theorem k8:(sizeLine:Nat) < 2 ^ 63:=by rw [sizeLine_eq];decide
theorem MR:OV X (λx H Q=>∃ k,NW X.K x H k /\ Q k H):=by
 intro pins s Z H x v Q I rx h
 obtain ⟨k,e,q⟩:=h
 have hl:=k8
 have hs:sizeLine = 16777216:=sizeLine_eq
 cases x with
 | cM =>
  cases rx
  have e':k = false:=e
  subst e'
  exact truthy_none ⟨H,I,q⟩
 | bl b =>
  cases rx
  have e':k = b:=e
  subst e'
  exact wpAny_truthy_bool ⟨H,I,q⟩
 | int i =>
  obtain ⟨t,rfl⟩:=rx
  have e':k = (i != 0):=e
  subst e'
  exact PySem.P.truthy_int ⟨H,I,q⟩
 | str y =>
  obtain ⟨t,rfl⟩:=rx
  obtain ⟨hy,e'⟩:y.length <= sizeLine /\ k = ((y.length:Int) != 0):=e
  subst e'
  exact PySem.P.truthy_str (by omega) ⟨H,I.tok _,q⟩
 | byt y =>
  obtain ⟨t,rfl⟩:=rx
  obtain ⟨hy,e'⟩:y.size <= sizeLine /\ k = ((y.size:Int) != 0):=e
  subst e'
  exact PySem.W.truthy_bytes (by omega) ⟨H,I.tok _,q⟩
 | ref p =>
  cases rx
  have e':(∃ xs,bB X.K H p xs /\ k = !xs.isEmpty) ∨ (∃ xs,fY X.K H p xs /\ k = !xs.isEmpty) ∨ ∃ kvs,H p = some (.dK kvs) /\ k = !kvs.isEmpty:=e
  rcases e' with ⟨xs,hx,e'⟩ | ⟨xs,hx,e'⟩ | ⟨kvs,hx,e'⟩
  ·subst e'
   obtain ⟨its,r,pl,hz⟩:=I.list hx
   have hlen:=r.length
   exact wpAny_truthy_list pl.isList (by simp only [List.size_toArray];omega) ⟨H,I.tok _,by rw [rR r];exact q⟩
  ·subst e'
   obtain ⟨its,r,pl,hz⟩:=I.tuple hx
   have hlen:=r.length
   exact truthy_tuple pl (by simp only [List.size_toArray];omega) ⟨H,I.tok _,by rw [rR r];exact q⟩
  ·subst e'
   obtain ⟨hz,hS,vs,r,m⟩:kvs.length <= sizeLine /\ (p == sysModules) = false /\ ∃ vs,KV kvs vs /\ s.heap.DictOf (dN X.prog X.w) p vs:=I.hok p _ hx
   have hlen:kvs.length = vs.length:=Paired.length r
   exact wpAny_truthy_dict hS m (by omega) ⟨H,I.tok _,by rw [Aw r];exact q⟩
 | _=>exact (show False from e).elim
theorem jt (ha:PE X a ta) (he:∀ whole,isTrue a X.env whole = (do let v ← whole;standAt a.pos;holding [v] (truthy v))) :
  PT X a (λZ H Q=>ta Z H λx H'=>∃ k,NW X.K x H' k /\ Q k H'):=by
 intro pins s Z H Q I h
 exact isTrue_plain (cS (ha pins s Z H _ I h) λv s1 ⟨x,H1,I1,r1,q1⟩=>MR pins s1 Z H1 x v Q I1 r1 q1) (he _)
theorem ek:lP X (binaryOp .Add) (λx y H Q=>∃ i j,x = .str i /\ y = .str j /\ i.length + j.length <= sizeLine /\ Q (.str (i ++ j)) H):=by
 intro pins s Z H x y v u Q I rx ry h
 obtain ⟨i,j,rfl,rfl,hz,q⟩:=h
 obtain ⟨t,rfl⟩:=rx
 obtain ⟨t',rfl⟩:=ry
 exact add_str (λt' tk=>⟨.str (i ++ j),H,I.tok _,⟨_,rfl⟩,q⟩) hz
theorem vals1 {x:V} {us:List Value} (r:Vals [x] us):∃ u,us = [u] /\ RelV x u:=by
 cases r with
 | cons r1 r2=>cases r2;exact ⟨_,rfl,r1⟩
theorem vals2 {x y:V} {us:List Value} (r:Vals [x,y] us):∃ u w',us = [u,w'] /\ RelV x u /\ RelV y w':=by
 cases r with
 | cons r1 r2 =>
  cases r2 with
  | cons r3 r4=>cases r4;exact ⟨_,_,rfl,r1,r3⟩
theorem kD:ju X (.type "int") (λxs H Q=>(∃ i,xs = [.int i] /\ Q (.int i) H) ∨ ∃ k,xs = [.bl k] /\ Q (.int (if k then 1 else 0)) H):=by
 intro pins s Z H xs us Q I r h
 rcases h with ⟨i,rfl,q⟩ | ⟨k,rfl,q⟩
 ·obtain ⟨u,rfl,t,rfl⟩:=vals1 r
  exact call_int_int ⟨.int i,H,I,⟨_,rfl⟩,q⟩
 ·obtain ⟨u,rfl,r1⟩:=vals1 r
  cases r1
  exact call_int_bool ⟨.int (if k then 1 else 0),H,I.tok _,⟨_,rfl⟩,q⟩
end
end L2
namespace L2
open PySem PySem.Spec PyProof.Rows
structure AU (h:Heap) (x dx C:Addr) (mA:Str -> Option Value):Prop where
 obj:h.get? x = some (PySem.W.instObj C dx)
 ns:h.Ns1 dx mA
 ne:dx ≠ x
theorem kE {h:Heap} {dx:Addr} {mA:Str -> Option Value} (n:h.Ns1 dx mA):∃ od,h.get? dx = some od /\ ∀ name,PySem.W.lookIn name od = some (mA name):=by
 obtain ⟨o,es,ep,ho,hd,hk,_,hm⟩:=n
 refine ⟨o,ho,λname=>?_⟩
 have e:=hm name
 unfold nsFind findBy at e
 rw [← Array.find?_toList] at e
 unfold PySem.W.lookIn
 rw [hd]
 dsimp only
 split
 ·rename_i y q
  rw [q] at e
  exact congrArg some e
 ·rename_i q
  rw [q] at e
  have a:es.toList.any (·.refKey) = false:=by
   rw [List.any_eq_false]
   intro y hy
   obtain ⟨z,t,hkey⟩:=hk y (Array.mem_toList_iff.mp hy)
   simp [DictEntry.refKey,hkey]
  have a':¬ es.toList.any (·.refKey) = true:=by rw [a];exact Bool.false_ne_true
  rw [if_neg a']
  exact congrArg some e
theorem AU.look {h:Heap} {x dx C:Addr} {mA:Str -> Option Value} (I:AU h x dx C mA):∃ od,PySem.W.InstAt h x (PySem.W.instObj C dx) C (some od) /\ ∀ name,PySem.W.lookIn name od = some (mA name) :=
 let ⟨od,ho,hl⟩:=kE I.ns
 ⟨od,⟨I.obj,rfl,rfl,ho⟩,hl⟩
section
variable {prog:Program} {w:World} {A:Around} {E:Value -> Shared -> Prop} {s:Shared} {K:PySem.W.Frag} {x dx C f:Addr} {mA:Str -> Option Value} {name:Str} {v:Value}
theorem get_map {expr:Bool} {Q:Value -> Shared -> Prop} (X:K.In s.heap) (I:AU s.heap x dx C mA) (hg:PySem.W.plainGet K C name = true) (hh:PySem.W.hasDictIn K C = true)
  (ha:PySem.W.findIn K (.ref C) name = some none) (hv:mA name = some v) (hv':PySem.W.handedIn v = true) (h:Q v { s with toks:=s.toks + 1 }) :
  wpAny (model prog w) A (getAttr (.ref x) name expr) Q E s:=by
 obtain ⟨od,J,hl⟩:=I.look
 exact PySem.W.get_value X J (PySem.W.plainGet_of hg).1 (PySem.W.findObj_own hh ha rfl (by rw [hl,hv])) hv' h
theorem E9 {pl:Sem Bool} {Q:Value × List Value -> Shared -> Prop} (X:K.In s.heap) (I:AU s.heap x dx C mA) (hg:PySem.W.plainGet K C name = true)
  (hf:PySem.W.findIn K (.ref C) name = some (some (.ref f))) (ht:PySem.W.isFn K (.ref f) = true) (hv:mA name = none) (h:Q (.ref f,[.ref x]) s) :
  wpAny (model prog w) A (getMethod (.ref x) name pl) Q E s:=by
 obtain ⟨od,J,hl⟩:=I.look
 exact PySem.W.method_fn X J (PySem.W.plainGet_of hg).1 (PySem.W.plainGet_of hg).2 hf (beq_iff_eq.mp ht) (by show (PySem.W.lookIn name od).map (·.isSome) = some false;rw [hl,hv];rfl) h
theorem HV {ns:List Str} {Q:Unit -> Shared -> Prop} (X:K.In s.heap) (I:AU s.heap x dx C mA)
  (hs:PySem.W.findIn K (.ref C) "__setattr__" = some (some (.builtin "object.__setattr__"))) (hp:PySem.W.plainOver K C = true) (ht:PySem.W.takerIn K C name = some none) (hh:PySem.W.hasDictIn K C = true)
  (hw:PySem.Within mA ns) (hsz:ns.length <= sizeLine)
  (h:∀ h',AU h' x dx C (λy=>if y = name then some v else mA y) -> Heap.SameBut dx s.heap h' -> Q () { s with heap:=h',toks:=s.toks + 2 }) :
  wpAny (model prog w) A (setAttr (.ref x) name v) Q E s:=by
 obtain ⟨od,J,hl⟩:=I.look
 refine PySem.W.set_plain X J hs (PySem.W.osa_open (s:={ s with toks:=s.toks + 1 }) (r:=none) X J hp ht λb=>?_)
 obtain ⟨cd,hc,hd'⟩:=PySem.W.any_some hh
 have hx:s.heap.get? x = some ⟨.ref C,some dx,.plain,#[]⟩:=I.obj
 refine wpAny_bind (wpAny_pure (wpAny_bind (wpAny_bind (wpAny_loadPart hx (wpAny_bind (PySem.W.Looks.here (s:={ s with toks:=s.toks + 1 }) (PySem.W.looks_clsIn X hc) ?_))))))
 rw [hd']
 refine wpAny_pure (a:=some dx) (wpAny_bind (wpAny_pure (wpAny_bind ?_)))
 refine wpAny_nsSet1 (s:={ s with toks:=s.toks + 1 }) I.ns λh' hn2 hs2=>?_
 obtain ⟨oD,esD,epD,hoD,hdD,hcD⟩:=hn2.count (PySem.Within.cons name v hw)
 refine wpAny_bind (wpAny_lookBehind hoD (by rw [hdD];exact pastItsLine_dict (Nat.le_trans hcD (by rw [List.length_cons];omega))) ?_)
 exact wpAny_pure (h _ ⟨(hs2.2 _ (Ne.symm I.ne)).trans I.obj,hn2,I.ne⟩ hs2)
theorem xJ {R:Result -> Shared -> Prop} {vs:List Value} {kw:List (Str × Value)} (X:K.In s.heap) (hm:PySem.W.makesIn K C = true)
  (hi:PySem.W.findIn K (.ref C) "__init__" = some (some (.ref f))) (hf:PySem.W.typeIn K (.ref f) = some (.type "function"))
  (h:codeAny (model prog w) (A.under (.builtin "type.__call__" ⟨.ref C :: vs,kw⟩)) (.call (.ref f) ⟨.ref (s.heap.objs.size + 1) :: vs,kw⟩) (PySem.W.InitBack (s.heap.objs.size + 1) R)
   { s with heap:=(s.heap.push PySem.W.emptyDict).push (PySem.W.instObj C s.heap.objs.size) }) :
  codeAny (model prog w) A (.call (.ref C) ⟨vs,kw⟩) R s:=by
 obtain ⟨hh,g,d,t,os⟩:=s
 exact PySem.W.make_core (PySem.W.makes_of X hm) (PySem.W.looks_findIn X hi) (λself=>PySem.W.bind_fn X self hf) (.inl rfl) h
theorem CT {R:Result -> Shared -> Prop} (X:K.In s.heap) (hm:PySem.W.makesIn K C = true)
  (hi:PySem.W.findIn K (.ref C) "__init__" = some (some (.builtin "object.__init__")))
  (hb:∀ self,PySem.W.Looks (model prog w) s.heap (bindSpecial (.builtin "object.__init__") self) (.builtin "object.__init__",[self]))
  (h:codeAny (model prog w) (A.under (.builtin "type.__call__" ⟨[.ref C],[]⟩)) (.call (.builtin "object.__init__") ⟨[.ref (s.heap.objs.size + 1)],[]⟩) (PySem.W.InitBack (s.heap.objs.size + 1) R)
   { s with heap:=(s.heap.push PySem.W.emptyDict).push (PySem.W.instObj C s.heap.objs.size) }) :
  codeAny (model prog w) A (.call (.ref C) ⟨[],[]⟩) R s:=by
 obtain ⟨hh,g,d,t,os⟩:=s
 exact PySem.W.make_core (PySem.W.makes_of X hm) (PySem.W.looks_findIn X hi) hb (.inr ⟨rfl,rfl⟩) h
end
def iz (f:Str) (v:V):List (Str × V) -> List (Str × V)
 | []=>[(f,v)]
 | (g,x) :: r=>if g = f then (g,v) :: r else (g,x) :: iz f v r
theorem oH (f g:Str) (v:V):∀ fs:List (Str × V),(iz f v fs).lookup g = if g = f then some v else fs.lookup g
 | []=>by
  show List.lookup g [(f,v)] = _
  by_cases h:g = f
  ·have hb:(g == f) = true:=beq_iff_eq.mpr h
   simp only [List.lookup,hb,if_pos h]
  ·have hb:(g == f) = false:=beq_eq_false_iff_ne.mpr h
   simp only [List.lookup,hb,if_neg h]
 | (k,x) :: r=>by
  have ih:=oH f g v r
  rw [show iz f v ((k,x) :: r) = (if k = f then (k,v) :: r else (k,x) :: iz f v r) from rfl]
  by_cases hk:k = f
  ·rw [if_pos hk]
   by_cases h:g = k
   ·have hb:(g == k) = true:=beq_iff_eq.mpr h
    simp only [List.lookup,hb,if_pos (h.trans hk)]
   ·have hb:(g == k) = false:=beq_eq_false_iff_ne.mpr h
    simp only [List.lookup,hb,if_neg (λe:g = f=>h (e.trans hk.symm))]
  ·rw [if_neg hk]
   by_cases h:g = k
   ·have hb:(g == k) = true:=beq_iff_eq.mpr h
    simp only [List.lookup,hb,if_neg (λe:g = f=>hk (h.symm.trans e))]
   ·have hb:(g == k) = false:=beq_eq_false_iff_ne.mpr h
    simp only [List.lookup,hb]
    exact ih
theorem m6 (f:Str) (v:V):∀ fs:List (Str × V),f ∈ (iz f v fs).map (·.1) /\ ∀ g,g ∈ fs.map (·.1) -> g ∈ (iz f v fs).map (·.1)
 | []=>⟨by simp [iz],λg h=>by simp at h⟩
 | (k,x) :: r=>by
  obtain ⟨i1,i2⟩:=m6 f v r
  rw [show iz f v ((k,x) :: r) = (if k = f then (k,v) :: r else (k,x) :: iz f v r) from rfl]
  by_cases hk:k = f
  ·rw [if_pos hk]
   subst hk
   exact ⟨by simp,λg h=>by simpa using h⟩
  ·rw [if_neg hk]
   refine ⟨?_,λg h=>?_⟩
   ·rw [List.map_cons]
    exact List.mem_cons_of_mem _ i1
   ·rw [List.map_cons] at h ⊢
    rcases List.mem_cons.mp h with e | e
    ·exact List.mem_cons.mpr (.inl e)
    ·exact List.mem_cons_of_mem _ (i2 g e)
theorem nQ (f:Str) (v:V):∀ fs:List (Str × V),(iz f v fs).length <= fs.length + 1
 | []=>by simp [iz]
 | (k,x) :: r=>by
  have ih:=nQ f v r
  rw [show iz f v ((k,x) :: r) = (if k = f then (k,v) :: r else (k,x) :: iz f v r) from rfl]
  by_cases hk:k = f
  ·rw [if_pos hk,List.length_cons,List.length_cons];omega
  ·rw [if_neg hk,List.length_cons,List.length_cons];omega
theorem jI.some_of {v:V} {o:Option Value} (r:jI (some v) o):∃ u,o = some u /\ RelV v u:=by
 cases o with
 | none=>exact (show False from r).elim
 | some u=>exact ⟨u,rfl,r⟩
theorem jI.none_of {o:Option Value} (r:jI none o):o = none:=by
 cases o with
 | none=>rfl
 | some u=>exact (show False from r).elim
theorem CO {v:V} {u:Value} (r:RelV v u):PySem.W.handedIn u = true:=by
 cases v with
 | cM=>cases (show u = Value.none from r);rfl
 | bl b=>cases (show u = Value.bool b from r);rfl
 | int i=>obtain ⟨t,e⟩:=(show ∃ t,u = Value.int i t from r);cases e;rfl
 | str x=>obtain ⟨t,e⟩:=(show ∃ t,u = Value.str x t from r);cases e;rfl
 | byt b=>obtain ⟨t,e⟩:=(show ∃ t,u = Value.bytes b t from r);cases e;rfl
 | flt b=>obtain ⟨t,e⟩:=(show ∃ t,u = Value.float b t from r);cases e;rfl
 | ref a=>cases (show u = Value.ref a from r);rfl
 | ty n=>cases (show u = Value.type n from r);rfl
section
variable {P:Program} {w:World} {H H':Hp} {h h':Heap} {a C dx:Addr} {fs fs':List (Str × V)}
theorem uG (hok:jP P w H h) (e:H a = some (.ins C dx fs)):∃ mA,AU h a dx C mA /\ (∀ f,jI (fs.lookup f) (mA f)) /\ PySem.Within mA (fs.map (·.1)) /\ fs.length <= 1000 /\ H dx = some (.own a):=by
 obtain ⟨d,z,ne,ob,mA,n,r,q⟩:=(show di P w H h a (.ins C dx fs) from hok a _ e)
 exact ⟨mA,⟨ob,n,ne⟩,r,q,z,d⟩
end
structure oi (K:PySem.W.Frag) (C:Addr):Prop where
 pg:PySem.W.plainGet K C Str.empty = true
 hd:PySem.W.hasDictIn K C = true
 po:PySem.W.plainOver K C = true
 sa:PySem.W.findIn K (.ref C) "__setattr__" = some (some (.builtin "object.__setattr__"))
theorem oi.get {K:PySem.W.Frag} {C:Addr} (c:oi K C) (f:Str):PySem.W.plainGet K C f = true:=c.pg
noncomputable def bQ (K:PySem.W.Frag) (C:Addr) (f:Str):Prop:=PySem.W.findIn K (.ref C) f = some none
theorem bQ.Oi {K:PySem.W.Frag} {C:Addr} {f:Str} (n:bQ K C f):PySem.W.takerIn K C f = some none:=by
 unfold PySem.W.takerIn
 rw [show PySem.W.findIn K (.ref C) f = some none from n]
 rfl
structure Meth (K:PySem.W.Frag) (C:Addr) (m:Str) (f:Addr):Prop where
 at_:PySem.W.findIn K (.ref C) m = some (some (.ref f))
 fn:PySem.W.isFn K (.ref f) = true
 kp:PySem.W.keepIn K (.ref f) = true
section
variable {X:Cx} {pins:List (Addr × Obj)} {Z:St} {H:Hp} {s:Shared} {a C dx:Addr} {fs:List (Str × V)} {f:Str} {v:V} {A:Around} {E:Value -> Shared -> Prop}
theorem pY {b:Bool} {Q:Value -> Shared -> Prop} (I:Inv X pins Z H s) (e:H a = some (.ins C dx fs)) (c:oi X.K C) (n:bQ X.K C f) (l:fs.lookup f = some v)
  (h:∀ u s',Inv X pins Z H s' -> RelV v u -> Q u s'):wpAny (model X.prog X.w) A (getAttr (.ref a) f b) Q E s:=by
 obtain ⟨mA,O,r,_,_,_⟩:=uG I.hok e
 obtain ⟨u,hu,ru⟩:=jI.some_of (v:=v) (o:=mA f) (by rw [← l];exact r f)
 exact get_map I.jA O (c.get f) c.hd n hu (CO ru) (h u _ (I.tok _) ru)
theorem lF {m:Str} {g:Addr} {pl:Sem Bool} {Q:Value × List Value -> Shared -> Prop} (I:Inv X pins Z H s) (e:H a = some (.ins C dx fs)) (c:oi X.K C) (k:Meth X.K C m g) (l:fs.lookup m = none)
  (h:Q (.ref g,[.ref a]) s):wpAny (model X.prog X.w) A (getMethod (.ref a) m pl) Q E s:=by
 obtain ⟨mA,O,r,_,_,_⟩:=uG I.hok e
 have hn:mA m = none:=jI.none_of (by rw [← l];exact r m)
 exact E9 I.jA O (c.get m) k.at_ k.fn hn h
theorem qa {y:V} {u:Value} {Q:Unit -> Shared -> Prop} (I:Inv X pins Z H s) (e:H a = some (.ins C dx fs)) (c:oi X.K C) (n:bQ X.K C f) (hl:fs.length < 1000) (ry:RelV y u)
  (h:∀ s',Inv X pins Z (upd H a (.ins C dx (iz f y fs))) s' -> Q () s'):wpAny (model X.prog X.w) A (setAttr (.ref a) f u) Q E s:=by
 obtain ⟨mA,O,r,wi,_,ho⟩:=uG I.hok e
 have hz:(fs.map (·.1)).length <= sizeLine:=by rw [List.length_map,sizeLine_eq];omega
 refine HV I.jA O c.sa c.po n.Oi c.hd wi hz λh' O' sb=>h _ ?_
 have hd:∃ o,h'.get? dx = some o:=let ⟨o,_,_,e',_⟩:=O'.ns;⟨o,e'⟩
 refine I.write (x:=a) (e:=dx) (by rw [e];exact True.intro) (.inr ho) (λb q hb z=>(sb.2 b hb).trans z) hd ?_
 refine ⟨by rw [aj O.ne];exact ho,?_,O.ne,O'.obj,_,O'.ns,λg=>?_,λg hg=>?_⟩
 ·have:=nQ f y fs;omega
 ·show jI ((iz f y fs).lookup g) (if g = f then some u else mA g)
  rw [oH]
  by_cases q:g = f
  ·rw [if_pos q,if_pos q];exact ry
  ·rw [if_neg q,if_neg q];exact r g
 ·by_cases q:g = f
  ·rw [q];exact (m6 f y fs).1
  ·refine (m6 f y fs).2 g (wi g λz=>hg ?_)
   show (if g = f then some u else mA g) = none
   rw [if_neg q];exact z
theorem Inv.made (I:Inv X pins Z H s):Inv X pins Z (upd (upd H s.heap.objs.size (.own (s.heap.objs.size + 1))) (s.heap.objs.size + 1) (.ins C s.heap.objs.size []))
  { s with heap:=(s.heap.push PySem.W.emptyDict).push (PySem.W.instObj C s.heap.objs.size) }:=by
 have e1:(s.heap.push PySem.W.emptyDict).get? s.heap.objs.size = some PySem.W.emptyDict:=Heap.get?_push_size s.heap rfl
 have e2:((s.heap.push PySem.W.emptyDict).push (PySem.W.instObj C s.heap.objs.size)).get? (s.heap.objs.size + 1) = some (PySem.W.instObj C s.heap.objs.size):=by
  have:=Heap.get?_push_size (s.heap.push PySem.W.emptyDict) (o:=PySem.W.instObj C s.heap.objs.size) rfl
  rwa [Heap.size_push] at this
 have e3:(s.heap.push PySem.W.emptyDict).Ns s.heap.objs.size (λ_=>none):=⟨PySem.W.emptyDict,#[],_,e1,rfl,(λe he=>absurd he (by simp)),λ_=>rfl⟩
 have I1:=I.laid (a:=s.heap.objs.size) (o:=.own (s.heap.objs.size + 1)) (h':=s.heap.push PySem.W.emptyDict) (t':=s.toks) (λb u q=>Heap.get?_push_of_some _ q) (Nat.le_refl _) ⟨_,e1⟩
 refine I1.laid (a:=s.heap.objs.size + 1) (o:=.ins C s.heap.objs.size []) (t':=s.toks) (λb u q=>Heap.get?_push_of_some _ q) (Nat.le_of_eq (Heap.size_push _ _)) ?_
 have ne:s.heap.objs.size ≠ s.heap.objs.size + 1:=Nat.ne_of_lt (Nat.lt_succ_self _)
 refine ⟨by rw [aj ne,af],Nat.zero_le _,ne,e2,λ_=>none,(Heap.Ns1.of_empty e3).at λo q=>Heap.get?_push_of_some _ q,λ_=>True.intro,λy hy=>absurd rfl hy⟩
theorem Hx {prog:Program} {w:World} {env:Env} {e:Expr} {f:Str} {pos:Pos} {s:Shared} {Q:Value -> Shared -> Prop} (hb:attributeBase e f env (eval e env) = eval e env)
  (h:wpAny (model prog w) A (eval e env) (λo s₁=>wpAny (model prog w) A (getAttr o f true) Q E s₁) E s):wpAny (model prog w) A (eval (.Attribute e f pos) env) Q E s :=
 Attribute_any_ h (by rw [arm_eval_Attribute,hb])
end
noncomputable def KW (K:PySem.W.Frag) (ta:TE) (f:Str):TE:=λZ H Q=>ta Z H λx H1=>∃ a C dx fs v,x = .ref a /\ H1 a = some (.ins C dx fs) /\ oi K C /\ bQ K C f /\ fs.lookup f = some v /\ Q v H1
noncomputable def Pp (K:PySem.W.Frag) (ta tv:TE) (f:Str):TS:=λD Z H=>tv Z H λy H1=>ta Z H1 λx H2=>∃ a C dx fs,x = .ref a /\ H2 a = some (.ins C dx fs) /\ oi K C /\ bQ K C f /\ fs.length < 1000 /\
 D.nx Z (upd H2 a (.ins C dx (iz f y fs)))
noncomputable def N7 (X:Cx) (op:Operator) (rd:V -> V -> Hp -> VK -> Prop):Prop :=
 ∀ (pins:List (Addr × Obj)) (s:Shared) (Z:St) (H:Hp) (x y:V) (u v:Value) (Q:VK),Inv X pins Z H s -> RelV x u -> RelV y v -> rd x y H Q -> wpAny (model X.prog X.w) X.A (inplaceOp op u v) (EP X pins Z Q) X.xe s
noncomputable def Hj (K:PySem.W.Frag) (ta tv:TE) (rd:V -> V -> Hp -> VK -> Prop) (f:Str):TS:=λD Z H=>ta Z H λx H1=>∃ a C dx fs v,x = .ref a /\ H1 a = some (.ins C dx fs) /\ oi K C /\ bQ K C f /\ fs.lookup f = some v /\
 tv Z H1 λy H2=>rd v y H2 λz H3=>∃ dx' fs',H3 a = some (.ins C dx' fs') /\ fs'.length < 1000 /\ D.nx Z (upd H3 a (.ins C dx' (iz f z fs')))
section
variable {X:Cx} {o e value:Expr} {f:Str} {pos pos' tpos:Pos} {ta tv:TE}
theorem aZ (he:PE X e ta) (hb:attributeBase e f X.env (eval e X.env) = eval e X.env):PE X (.Attribute e f pos) (KW X.K ta f):=by
 intro pins s Z H Q I h
 refine Hx hb (cS (he pins s Z H _ I h) λu s1 ⟨x,H1,I1,rx,a,C,dx,fs,v,ex,ea,c,n,l,q⟩=>?_)
 subst ex
 obtain rfl:u = Value.ref a:=rx
 exact pY I1 ea c n l λu' s2 I2 ru=>⟨v,H1,I2,ru,q⟩
theorem cZ (ha:PE X o ta) (hv:PE X value tv) (hs:swapsWith value (some (.Attribute o f pos')) pos.line X.env = pure false):PS X (.Assign [.Attribute o f pos'] value pos) (Pp X.K ta tv f):=by
 intro pins s Z H D I h
 refine plainObj_wpAny_Assign_Attribute (cS (hv pins s Z H _ I h) λu s1 ⟨y,H1,I1,ry,q⟩=>cS (ha pins s1 Z H1 _ I1 q) λov s2 ⟨x,H2,I2,rx,a,C,dx,fs,ex,ea,c,n,l,q2⟩=>?_) hs
 subst ex
 obtain rfl:ov = Value.ref a:=rx
 exact qa I2 ea c n l ry λs3 I3=>⟨Z,_,I3,q2⟩
theorem B4 {op:Operator} {rd:V -> V -> Hp -> VK -> Prop} (ha:PE X o ta) (hv:PE X value tv) (hop:N7 X op rd):PS X (.AugAssign (.Attribute o f tpos) op value pos) (Hj X.K ta tv rd f):=by
 intro pins s Z H D I h
 refine wpAny_AugAssign_AttributeAny (cS (ha pins s Z H _ I h) λov s1 ⟨x,H1,I1,rx,a,C,dx,fs,v,ex,ea,c,n,l,q⟩=>?_)
 subst ex
 obtain rfl:ov = Value.ref a:=rx
 refine pY I1 ea c n l λu s2 I2 ru=>cS (hv pins s2 Z H1 _ I2 q) λw3 s3 ⟨y,H2,I3,ry,q3⟩=>cS (hop pins s3 Z H2 v y u w3 _ I3 ru ry q3) λw4 s4 ⟨z,H3,I4,rz,dx',fs',ea',l',q4⟩=>?_
 exact qa I4 ea' c n l' rz λs5 I5=>⟨Z,_,I5,q4⟩
def O6:V -> V -> Hp -> VK -> Prop:=λx y H Q=>∃ i j,x = .int i /\ y = .int j /\ Q (.int (i + j)) H
theorem MT:N7 X .Add O6:=by
 rintro pins s Z H x y u v Q I rx ry ⟨i,j,rfl,rfl,q⟩
 obtain ⟨t,rfl⟩:=(show ∃ t,u = Value.int i t from rx)
 obtain ⟨t',rfl⟩:=(show ∃ t',v = Value.int j t' from ry)
 exact PyProof.Rows.iadd_int ⟨.int (i + j),H,I.tok _,⟨_,rfl⟩,q⟩
end
section
variable {X:Cx} {pins:List (Addr × Obj)} {Z:St} {H:Hp} {s:Shared} {A:Around} {E:Value -> Shared -> Prop} {Q:Value -> Shared -> Prop} {c:Value} {b:Bool}
end
end L2
namespace L2
open PySem PySem.Spec PyProof.Rows
structure eW (k:Nat) (A:Around):Prop where
 hd:A.handled = none
 dp:A.depth + 3 * k + 5 < recursionLimit
 un:A.units + 16 * k + 200 < cLine
theorem eW.mono {j k:Nat} {A:Around} (r:eW k A) (h:j <= k):eW j A:=⟨r.hd,by have:=r.dp;omega,by have:=r.un;omega⟩
theorem eW.deeper {k:Nat} {A:Around} (r:eW (k + 1) A) (env:Env):eW k (A.deeper env) :=
 ⟨r.hd,by have:=r.dp;show A.depth + 1 + 3 * k + 5 < _;omega,by have:=r.un;show A.units + 3 + 16 * k + 200 < _;omega⟩
theorem AW {A:Around} {C:Addr} {us:List Value} {kw:List (Str × Value)}:(A.under (.builtin "type.__call__" ⟨.ref C :: us,kw⟩)).depth = A.depth + 1:=by
 first | rfl | simp [Around.under,Code.weight,Code.isCreation,Code.isGuard,Code.isCaller,Code.frames,Code.isFrame,guardIds]
theorem Ar {A:Around} {C:Addr} {us:List Value} {kw:List (Str × Value)}:(A.under (.builtin "type.__call__" ⟨.ref C :: us,kw⟩)).units = A.units + 1:=by
 first | rfl | simp [Around.under,Code.cUnits,Code.frames,Code.isFrame]
theorem eW.make {k:Nat} {A:Around} (r:eW (k + 1) A) (C:Addr) (us:List Value) (kw:List (Str × Value)):eW k (A.under (.builtin "type.__call__" ⟨.ref C :: us,kw⟩)) :=
 ⟨r.hd,by have:=r.dp;rw [AW];omega,by have:=r.un;rw [Ar];omega⟩
theorem eW.depth {k:Nat} {A:Around} (r:eW k A):A.depth < recursionLimit:=by have:=r.dp;omega
theorem eW.units {k:Nat} {A:Around} (r:eW k A):A.units + 64 < cLine:=by have:=r.un;omega
noncomputable def EW:TA:=λ_ H Q=>Q [] H
noncomputable def FP (ta:TE) (tr:TA):TA:=λZ H Q=>ta Z H λx H1=>tr Z H1 λxs H2=>Q (x :: xs) H2
section
variable {X:Cx} {e:Expr} {es:List Expr} {te:TE} {t:TA} {pos:Pos}
theorem ah:PA X [] EW:=λ_ _ _ _ H Q I h=>Calls.spliced_nil ⟨[],H,I,.nil,h⟩
theorem aa (ha:PE X e te) (hr:PA X es t) (hs:starEach (e :: es) X.env = (false,eval e X.env) :: starEach es X.env:=by rfl):PA X (e :: es) (FP te t):=by
 intro pos pins s Z H Q I h
 rw [hs]
 show wpAny _ _ (spliced ((false,eval e X.env) :: backTo pos (starEach es X.env))) _ _ s
 refine Calls.spliced_cons (cS (ha pins s Z H _ I h) λu s1 ⟨x,H1,I1,r1,q1⟩=>?_)
 exact cS (hr pos pins s1 Z H1 _ I1 q1) λus s2 ⟨xs,H2,I2,r2,q2⟩=>⟨x :: xs,H2,I2,.cons r1 r2,q2⟩
noncomputable def NC (t:TA):TE:=λZ H Q=>t Z H λxs H1=>xs.length <= sizeLine /\ ∀ p,H1 p = none -> Q (.ref p) (upd H1 p (.tup xs))
noncomputable def NQ (t:TA):TE:=λZ H Q=>t Z H λxs H1=>xs.length <= sizeLine /\ ∀ p,H1 p = none -> Q (.ref p) (upd H1 p (.lst xs))
theorem bR {x1} (h:PA X es t):PE X (.Tuple es x1 pos) (NC t):=by
 intro pins s Z H Q I hq
 refine wpAny_Tuple_spliced (cS (h pos pins s Z H _ I hq) λus s1 ⟨xs,H1,I1,r,z,q⟩=>⟨by rw [← r.length];exact z,?_⟩)
 have hf:H1 s1.heap.objs.size = none:=I1.hok.fresh (Nat.le_refl _)
 refine ⟨.ref s1.heap.objs.size,upd H1 s1.heap.objs.size (.tup xs),I1.laid (t':=s1.toks) (λb u e=>Heap.get?_push_of_some _ e) (Nat.le_refl _) ?_,rfl,q _ hf⟩
 exact ⟨z,us,r,⟨_,Heap.get?_push_size _ rfl,rfl,_,rfl⟩⟩
theorem bC (h:PA X es t):PE X (.List es pos) (NQ t):=by
 intro pins s Z H Q I hq
 refine wpAny_List_spliced (cS (h pos pins s Z H _ I hq) λus s1 ⟨xs,H1,I1,r,z,q⟩=>⟨by rw [← r.length];exact z,?_⟩)
 have hf:H1 s1.heap.objs.size = none:=I1.hok.fresh (Nat.le_refl _)
 refine ⟨.ref s1.heap.objs.size,upd H1 s1.heap.objs.size (.lst xs),I1.laid (t':=s1.toks) (λb u e=>Heap.get?_push_of_some _ e) (Nat.le_refl _) ?_,rfl,q _ hf⟩
 exact ⟨z,us,0,r,Heap.get?_push_size _ rfl⟩
end
abbrev Sp:=List V -> Hp -> VK -> XK -> Prop
abbrev qF:=List Env -> Hp -> Shared -> XK -> Value -> Shared -> Prop
structure vt (P:Program) (w:World) (K:PySem.W.Frag) (mg:Str -> Option Value) (base:Heap) (A:Around) (outer:List Env) (s:Shared) (H:Hp):Prop where
 frames:A.frames = some outer
 mod:Mod K mg base
 bs:∀ b o,base.get? b = some o -> s.heap.get? b = some o /\ H b = none
 HN:base.objs.size <= s.heap.objs.size
 nE:s.heap.FunFrames base outer
 Ji:∀ b ∈ frs outer,H b = none
 hok:jP P w H s.heap
 bare:AllBare s.gens
noncomputable def CE (outer:List Env) (P:Program) (w:World) (H:Hp) (s:Shared) (Q:VK) (u:Value) (s':Shared):Prop :=
 ∃ v H',s'.os = s.os /\ AllBare s'.gens /\ Un (frs outer) [] H H' s.heap s'.heap /\ jP P w H' s'.heap /\ RelV v u /\ Q v H'
noncomputable def CR (CX:qF) (outer:List Env) (P:Program) (w:World) (H:Hp) (s:Shared) (Q:VK) (E:XK) (r:Result) (s':Shared):Prop :=
 match r with
 | .ok (.ret u)=>CE outer P w H s Q u s'
 | .ok _=>False
 | .error e=>CX outer H s E e s'
structure bw (P:Program) (w:World) (K:PySem.W.Frag) (mg:Str -> Option Value) (base:Heap) (CX:qF) (k:Nat) (f:Addr) (fd:FuncData) (ps:List Str) (sp:Sp):Prop where
 len:∀ vs H Q E,sp vs H Q E -> vs.length = ps.length
 run:∀ (A:Around) (outer:List Env) (s:Shared) (H:Hp) (args:Args) (us:List Value) (vs:List V) (Q:VK) (E:XK),eW k A -> vt P w K mg base A outer s H -> BindsTo s fd args (ps.zip us) -> Vals vs us -> sp vs H Q E ->
  codeAny (model P w) A (.call (.ref f) args) (CR CX outer P w H s Q E) s
theorem vt.make {P:Program} {w:World} {K:PySem.W.Frag} {mg:Str -> Option Value} {base:Heap} {A:Around} {outer:List Env} {s:Shared} {H:Hp} (e:vt P w K mg base A outer s H) (C:Addr) (us:List Value) (kw:List (Str × Value)) :
  vt P w K mg base (A.under (.builtin "type.__call__" ⟨.ref C :: us,kw⟩)) outer s H:=⟨by first | exact e.frames | (simpa [Around.under,Code.envs,Code.isFrame,pushEnvs] using e.frames),e.mod,e.bs,e.HN,e.nE,e.Ji,e.hok,e.bare⟩
section
variable {X:Cx} {pins:List (Addr × Obj)} {Z:St} {H:Hp} {s s':Shared}
theorem Inv.B0 (I:Inv X pins Z H s):vt X.prog X.w X.K X.mg X.base X.A X.stack s H :=
 ⟨I.ok.frames,I.ok.mod,I.bs,Nat.le_trans I.ok.HN I.sz,I.stack,I.oV,I.hok,I.bare⟩
theorem Inv.after {Q:VK} {u:Value} (I:Inv X pins Z H s) (h:CE X.stack X.prog X.w H s Q u s'):EP X pins Z Q u s':=by
 obtain ⟨v,H',os,bare,un,hok,r,q⟩:=h
 obtain ⟨hh,g,d,t,os'⟩:=s'
 obtain rfl:os' = s.os:=os
 exact ⟨v,H',I.call (h':=hh) (g':=g) (d':=d) (t':=t) (ch:=[]) un hok bare (λb z=>absurd z (by simp)),r,q⟩
end
noncomputable def Ep (sp:Sp) (dvs:List V) (E:XK) (t:TA):TE:=λZ H Q=>t Z H λvs H1=>sp (vs ++ dvs) H1 Q E
noncomputable def Gf (C:Addr) (m:Str) (sp:Sp) (dvs:List V) (E:XK) (ta:TE) (t:TA):TE:=λZ H Q=>ta Z H λx H1=>∃ a dx fs,x = .ref a /\ H1 a = some (.ins C dx fs) /\ fs.lookup m = none /\
 t Z H1 λvs H2=>sp (x :: (vs ++ dvs)) H2 Q E
noncomputable def IQ (C:Addr) (sp:Sp) (dvs:List V) (E:XK) (t:TA):TE:=λZ H Q=>t Z H λvs H1=>∀ x dx,H1 x = none -> H1 dx = none -> dx ≠ x ->
 sp (.ref x :: (vs ++ dvs)) (upd (upd H1 dx (.own x)) x (.ins C dx [])) (λv H2=>v = .cM /\ Q (.ref x) H2) E
noncomputable def Binds (K:PySem.W.Frag) (fd:FuncData) (ps:List Str) (ds:List Value):Prop :=
 ∀ (s:Shared) (us:List Value),K.In s.heap -> (us ++ ds).length = ps.length -> BindsTo s fd ⟨us,[]⟩ (ps.zip (us ++ ds))
theorem Binds.all {K:PySem.W.Frag} {fd:FuncData} {ps:List Str} (h:∀ us:List Value,us.length = ps.length -> bindArgs fd ⟨us,[]⟩ = pure (ps.zip us)):Binds K fd ps []:=λs us _ hl=>by
 rw [List.append_nil] at hl ⊢
 exact .of_eq (h us hl)
noncomputable def Passes (CX:qF) (X:Cx) (E:XK):Prop:=∀ (pins:List (Addr × Obj)) (Z:St) (H:Hp) (s:Shared) (e:Value) (s':Shared),Inv X pins Z H s -> CX X.stack H s E e s' -> X.xe e s'
section
variable {X:Cx} {CX:qF} {k:Nat} {f C:Addr} {fd:FuncData} {ps:List Str} {sp:Sp} {dvs:List V} {ds:List Value} {E:XK} {x m:Str} {p pos apos:Pos} {e o:Expr} {es:List Expr} {ta:TE} {t:TA}
theorem vm {pins:List (Addr × Obj)} {Z:St} {H:Hp} {s:Shared} {Q:VK} {us:List Value} {vs:List V} (F:bw X.prog X.w X.K X.mg X.base CX k f fd ps sp) (hr:eW k X.A) (hb:Binds X.K fd ps ds) (hd:Vals dvs ds) (hx:Passes CX X E)
  (I:Inv X pins Z H s) (r:Vals vs us) (h:sp (vs ++ dvs) H Q E):wpAny (model X.prog X.w) X.A (call (.ref f) us) (EP X pins Z Q) X.xe s:=by
 have r2:Vals (vs ++ dvs) (us ++ ds):=r.append hd
 have hl:(us ++ ds).length = ps.length:=by rw [← r2.length];exact F.len _ _ _ _ h
 refine wpAny_call (codeAny_mono (F.run X.A X.stack s H ⟨us,[]⟩ (us ++ ds) (vs ++ dvs) Q E hr I.B0 (hb s us I.jA hl) r2 h) λr s' hq=>?_)
 cases r with
 | error e=>exact hx pins Z H s e s' I hq
 | ok fl =>
  cases fl with
  | ret u=>exact I.after hq
  | next=>exact False.elim hq
  | brk=>exact False.elim hq
  | cont=>exact False.elim hq
theorem aK (F:bw X.prog X.w X.K X.mg X.base CX k f fd ps sp) (hr:eW k X.A) (hg:Gl X x) (hm:X.mg x = some (.ref f)) (hk:PySem.W.keepIn X.K (.ref f) = true) (hb:Binds X.K fd ps ds) (hd:Vals dvs ds) (hx:Passes CX X E)
  (ha:PA X (e :: es) t) (hdb:(x == ("__debug__" : Str)) = false:=by decide) (he:starEach (e :: es) X.env = (false,eval e X.env) :: starEach es X.env:=by rfl) (hpl:(backTo pos (starEach es X.env)).any (·.1) = false:=by rfl) :
  PE X (.Call (.Name x p) (e :: es) [] pos) (Ep sp dvs E t):=by
 intro pins s Z H Q I h
 refine wpAny_Call_Name_kw (gQ I hg hm ?_ hdb)
 refine PySem.W.callWith_K (h₀:=X.base) I.ok.mod.nO hk (cS (ha pos pins s Z H _ I h) λus s1 ⟨vs,H1,I1,r,q⟩=>⟨I1.jA,?_⟩) he hpl
 exact vm F hr hb hd hx I1 r q
theorem Dc (F:bw X.prog X.w X.K X.mg X.base CX k f fd ps sp) (hr:eW k X.A) (hg:Gl X x) (hm:X.mg x = some (.ref f)) (hk:PySem.W.keepIn X.K (.ref f) = true) (hb:Binds X.K fd ps ds) (hd:Vals dvs ds) (hx:Passes CX X E)
  (hdb:(x == ("__debug__" : Str)) = false:=by decide):PE X (.Call (.Name x p) [] [] pos) (Ep sp dvs E EW):=by
 intro pins s Z H Q I h
 refine wpAny_Call_Name_kw (gQ I hg hm ?_ hdb)
 exact PySem.W.callWith_K0 I.jA hk (vm (us:=[]) F hr hb hd hx I .nil h)
theorem bH {pl:Sem Bool} (he:PE X o ta) (c:oi X.K C) (hm:Meth X.K C m f) (F:bw X.prog X.w X.K X.mg X.base CX k f fd ps sp) (hr:eW k X.A) (hb:Binds X.K fd ps ds) (hd:Vals dvs ds) (hx:Passes CX X E) (ha:PA X (e :: es) t)
  (hst:starEach (e :: es) X.env = (false,eval e X.env) :: starEach es X.env:=by rfl) (hpl:(backTo pos (starEach es X.env)).any (·.1) = false:=by rfl)
  (ht:eval (.Call (.Attribute o m apos) (e :: es) [] pos) X.env = (do
   let ov ← eval o X.env
   standAt apos.atName
   let (f,first) ← holding [ov] (getMethod ov m pl)
   callWith pos f first (backTo pos (starEach (e :: es) X.env)) (backToKw pos (keywordEach [] X.env))):=by rfl) :
  PE X (.Call (.Attribute o m apos) (e :: es) [] pos) (Gf C m sp dvs E ta t):=by
 intro pins s Z H Q I h
 refine PySem.W.methodCall_KW (pl:=pl) (cS (he pins s Z H _ I h) λu s1 ⟨x,H1,I1,rx,a,dx,fs,ex,ea,l,q⟩=>?_) ht
 subst ex
 obtain rfl:u = Value.ref a:=rx
 refine lF I1 ea c hm l ?_
 refine PySem.W.callWith_K (first:=[.ref a]) (h₀:=X.base) I.ok.mod.nO hm.kp (cS (ha pos pins s1 Z H1 _ I1 q) λus s2 ⟨vs,H2,I2,r,q2⟩=>⟨I2.jA,?_⟩) hst hpl
 exact vm (us:=.ref a :: us) (vs:=.ref a :: vs) F hr hb hd hx I2 (.cons rfl r) q2
theorem cu {pl:Sem Bool} (he:PE X o ta) (c:oi X.K C) (hm:Meth X.K C m f) (F:bw X.prog X.w X.K X.mg X.base CX k f fd ps sp) (hr:eW k X.A) (hb:Binds X.K fd ps ds) (hd:Vals dvs ds) (hx:Passes CX X E)
  (ht:eval (.Call (.Attribute o m apos) [] [] pos) X.env = (do
   let ov ← eval o X.env
   standAt apos.atName
   let (f,first) ← holding [ov] (getMethod ov m pl)
   callWith pos f first (backTo pos (starEach [] X.env)) (backToKw pos (keywordEach [] X.env))):=by rfl) :
  PE X (.Call (.Attribute o m apos) [] [] pos) (Gf C m sp dvs E ta EW):=by
 intro pins s Z H Q I h
 refine PySem.W.methodCall_KW (pl:=pl) (cS (he pins s Z H _ I h) λu s1 ⟨x,H1,I1,rx,a,dx,fs,ex,ea,l,q⟩=>?_) ht
 subst ex
 obtain rfl:u = Value.ref a:=rx
 refine lF I1 ea c hm l ?_
 exact PySem.W.callWith_K0 (first:=[.ref a]) I1.jA hm.kp (vm (us:=[.ref a]) (vs:=[.ref a]) F hr hb hd hx I1 (.cons rfl .nil) q)
structure Mk (K:PySem.W.Frag) (C f:Addr):Prop where
 makes:PySem.W.makesIn K C = true
 init:PySem.W.findIn K (.ref C) "__init__" = some (some (.ref f))
 fn:PySem.W.isFn K (.ref f) = true
 kp:PySem.W.keepIn K (.ref C) = true
theorem Fl {pins:List (Addr × Obj)} {Z:St} {H:Hp} {s:Shared} {Q:VK} {us:List Value} {vs:List V} (M:Mk X.K C f) (F:bw X.prog X.w X.K X.mg X.base CX k f fd ps sp) (hr:eW (k + 1) X.A) (hb:Binds X.K fd ps ds) (hd:Vals dvs ds)
  (hx:Passes CX X E) (I:Inv X pins Z H s) (r:Vals vs us)
  (h:∀ x dx,H x = none -> H dx = none -> dx ≠ x -> sp (.ref x :: (vs ++ dvs)) (upd (upd H dx (.own x)) x (.ins C dx [])) (λv H2=>v = .cM /\ Q (.ref x) H2) E) :
  wpAny (model X.prog X.w) X.A (call (.ref C) us) (EP X pins Z Q) X.xe s:=by
 have hq:=h (s.heap.objs.size + 1) s.heap.objs.size (I.hok.fresh (Nat.le_succ _)) (I.hok.fresh (Nat.le_refl _)) (Nat.ne_of_lt (Nat.lt_succ_self _))
 have I2:=Inv.made (C:=C) I
 have r2:Vals (V.ref (s.heap.objs.size + 1) :: (vs ++ dvs)) (Value.ref (s.heap.objs.size + 1) :: (us ++ ds)):=.cons rfl (r.append hd)
 have hl:(Value.ref (s.heap.objs.size + 1) :: us ++ ds).length = ps.length:=by
  have e:=r2.length
  rw [F.len _ _ _ _ hq] at e
  exact e.symm
 refine wpAny_call (xJ (f:=f) I.jA M.makes M.init (beq_iff_eq.mp M.fn) (codeAny_mono (F.run _ X.stack _ _ ⟨Value.ref (s.heap.objs.size + 1) :: us,[]⟩ (Value.ref (s.heap.objs.size + 1) :: (us ++ ds)) _ _ E (hr.make C us [])
  (I2.B0.make C us []) (hb _ (Value.ref (s.heap.objs.size + 1) :: us) I2.jA hl) r2 hq) λr s' hq'=>?_))
 cases r with
 | error e=>exact hx pins Z _ _ e s' I2 hq'
 | ok fl =>
  cases fl with
  | ret u =>
   obtain ⟨v,H',I3,rv,ev,q3⟩:=I2.after hq'
   subst ev
   exact ⟨rv,⟨V.ref (s.heap.objs.size + 1),H',I3,rfl,q3⟩⟩
  | next=>exact False.elim hq'
  | brk=>exact False.elim hq'
  | cont=>exact False.elim hq'
theorem e7 (M:Mk X.K C f) (F:bw X.prog X.w X.K X.mg X.base CX k f fd ps sp) (hr:eW (k + 1) X.A) (hg:Gl X x) (hm:X.mg x = some (.ref C)) (hb:Binds X.K fd ps ds) (hd:Vals dvs ds) (hx:Passes CX X E)
  (ha:PA X (e :: es) t) (hdb:(x == ("__debug__" : Str)) = false:=by decide) (he:starEach (e :: es) X.env = (false,eval e X.env) :: starEach es X.env:=by rfl) (hpl:(backTo pos (starEach es X.env)).any (·.1) = false:=by rfl) :
  PE X (.Call (.Name x p) (e :: es) [] pos) (IQ C sp dvs E t):=by
 intro pins s Z H Q I h
 refine wpAny_Call_Name_kw (gQ I hg hm ?_ hdb)
 refine PySem.W.callWith_K (h₀:=X.base) I.ok.mod.nO M.kp (cS (ha pos pins s Z H _ I h) λus s1 ⟨vs,H1,I1,r,q⟩=>⟨I1.jA,?_⟩) he hpl
 exact Fl M F hr hb hd hx I1 r q
end
section
variable {X:Cx} {CX:qF} {k:Nat} {f C:Addr} {fd:FuncData} {ps ks:List Str} {sp:Sp} {E:XK} {x m:Str} {p pos apos kpos:Pos} {e o:Expr} {es:List Expr} {kws:List Keyword} {te ta:TE} {t tk:TA} {nm:Option Str}
variable {g:List Value -> List Value -> List Value} {gV:List V -> List V -> List V}
end
structure aD (N P:List Str) (sc:Scope):Prop where
 kind:sc.kind = .function
 co:sc.isCoroutine = false
 gen:sc.isGenerator = false
 nd:N.Nodup
 pre:N.take P.length = P
 par:∀ x ∈ P,sc.names.lookup x = some .local ∨ sc.names.lookup x = some .cell
 LG:∀ y ∈ sc.names,y.2 ≠ .free
theorem sN {kindOf:Str -> Option NameKind} {x:Str}:∀ {binds:List (Str × Value)} {m:Str -> Option Value},(∀ v,(x,v) ∉ binds) -> bindL kindOf binds m x = m x
 | [],_,_=>rfl
 | (n,v) :: r,m,h=>by
  unfold bindL
  rw [sN λw hw=>h w (List.mem_cons_of_mem _ hw)]
  split
  ·have:x ≠ n:=by rintro rfl;exact h v List.mem_cons_self
   simp [this]
  ·rfl
theorem tw {kindOf:Str -> Option NameKind} {x:Str}:∀ {binds:List (Str × Value)} {m:Str -> Option Value},(∀ v,(x,v) ∉ binds) -> bindC kindOf binds m x = m x
 | [],_,_=>rfl
 | (n,v) :: r,m,h=>by
  unfold bindC
  rw [tw λw hw=>h w (List.mem_cons_of_mem _ hw)]
  split
  ·rfl
  ·have:x ≠ n:=by rintro rfl;exact h v List.mem_cons_self
   simp [this]
theorem tE {kindOf:Str -> Option NameKind} {x:Str} {v:Value}:∀ {P:List Str} {vs:List Value} {i:Nat} {m:Str -> Option Value},P.Nodup -> P[i]? = some x -> vs[i]? = some v -> kindOf x = some .local ->
  bindL kindOf (P.zip vs) m x = some v
 | [],_,_,_,_,h,_,_=>by simp at h
 | _ :: _,[],_,_,_,_,h,_=>by simp at h
 | p :: P,w :: vs,0,m,nd,h1,h2,hk=>by
  simp at h1 h2;subst h1;subst h2
  show bindL kindOf ((p,w) :: P.zip vs) m p = _
  unfold bindL
  rw [sN λv hv=>(List.nodup_cons.mp nd).1 (List.of_mem_zip hv).1,if_pos hk]
  simp
 | p :: P,w :: vs,i + 1,m,nd,h1,h2,hk=>by
  show bindL kindOf ((p,w) :: P.zip vs) m x = _
  unfold bindL
  exact tE (i:=i) (List.nodup_cons.mp nd).2 (by simpa using h1) (by simpa using h2) hk
theorem uw {kindOf:Str -> Option NameKind} {x:Str} {v:Value}:∀ {P:List Str} {vs:List Value} {i:Nat} {m:Str -> Option Value},P.Nodup -> P[i]? = some x -> vs[i]? = some v -> kindOf x ≠ some .local ->
  bindC kindOf (P.zip vs) m x = some v
 | [],_,_,_,_,h,_,_=>by simp at h
 | _ :: _,[],_,_,_,_,h,_=>by simp at h
 | p :: P,w :: vs,0,m,nd,h1,h2,hk=>by
  simp at h1 h2;subst h1;subst h2
  show bindC kindOf ((p,w) :: P.zip vs) m p = _
  unfold bindC
  rw [tw λv hv=>(List.nodup_cons.mp nd).1 (List.of_mem_zip hv).1,if_neg hk]
  simp
 | p :: P,w :: vs,i + 1,m,nd,h1,h2,hk=>by
  show bindC kindOf ((p,w) :: P.zip vs) m x = _
  unfold bindC
  exact uw (i:=i) (List.nodup_cons.mp nd).2 (by simpa using h1) (by simpa using h2) hk
def start (N:List Str) (vs:List V):St:=vs.map some ++ List.replicate (N.length - vs.length) none
def gq (CX:qF) (P:Program) (w:World) (K:PySem.W.Frag) (mg:Str -> Option Value) (base:Heap) (N:List Str) (qual:Str) (scope:Scope) (f:Addr) (cd:Value) (A:Around) (outer:List Env) (s:Shared) (H:Hp) (E:XK):Cx where
 prog:=P
 w:=w
 K:=K
 mg:=mg
 base:=base
 A:=A.deeper (envOfC qual scope s.heap.objs.size f cd)
 N:=N
 s₀:=s
 H₀:=H
 env:=envOfC qual scope s.heap.objs.size f cd
 outer:=outer
 stack:=envOfC qual scope s.heap.objs.size f cd :: outer
 ex:=[]
 calm:=true
 fn:=λ_=>true
 pn:=[]
 xe:=λe s'=>wpAny (model P w) (A.deeper (envOfC qual scope s.heap.objs.size f cd)) (leaving (envOfC qual scope s.heap.objs.size f cd) e) (λ_ s''=>CX outer H s E e s'') (λe' s''=>CX outer H s E e' s'') s'
theorem xh {sc:Scope} {n:Nat} {x:Str} (h:sc.names.lookup x = some .cell):∃ c,(cellsFrom n sc.names []).lookup x = some c:=by
 have q:=PySem.W.cellsFrom_some sc.names n [] (.inl h)
 exact Option.isSome_iff_exists.mp q
theorem ug {CX:qF} {P:Program} {w:World} {K:PySem.W.Frag} {mg:Str -> Option Value} {base:Heap} {N ps:List Str} {qual:Str} {scope:Scope} {f:Addr} {cd:Value} {A:Around} {outer:List Env} {s s1:Shared} {H:Hp} {E:XK} {us:List Value} {vs:List V}
  (S:aD N ps scope) (hd:A.handled = none) (e0:vt P w K mg base A outer s H) (hl:vs.length = ps.length) (r:Vals vs us)
  (x:InCallC s s.heap.objs.size (bindL (envOfC qual scope s.heap.objs.size f cd).kindOf (ps.zip us) λ_=>none) (cellsFrom (s.heap.objs.size + 1) scope.names []) (bindC (envOfC qual scope s.heap.objs.size f cd).kindOf (ps.zip us) λ_=>none) s1) :
  Inv (gq CX P w K mg base N qual scope f cd A outer s H E) [] (start N vs) H s1:=by
 have hpl:ps.length <= N.length:=by have:=congrArg List.length S.pre;rw [List.length_take] at this;omega
 obtain ⟨h1,tk,rfl,hk⟩:=x.done
 have noA:∀ b:Addr,b ∉ (gq CX P w K mg base N qual scope f cd A outer s H E).ex:=λb z=>absurd (show b ∈ ([]:List Addr) from z) (by simp)
 refine ⟨⟨e0.mod,S.kind,rfl,rfl,Nat.le_refl _,λy z c h1 h2=>?_,λy hy=>?_,λy c _ h=>?_,λ_=>hd,Around.frames_deeper e0.frames,.inr ⟨rfl,rfl⟩,λb z=>absurd z (noA b),e0.bs,e0.HN,λb _ _=>noA b,λb z=>absurd z (noA b),e0.nE,e0.Ji⟩,
  rfl,e0.bare,Un.kept hk,⟨_,x.toInCall.ns,λi y v h1 h2 h3=>?_⟩,λy c h=>⟨_,x.cell y c h⟩,e0.hok.fresh (Nat.le_refl _),λy c h=>?_,λp hp=>absurd (show p ∈ ([]:List (Addr × Obj)) from hp) (by simp),e0.hok.kept hk,?_⟩
 ·exact name_of_addr x.apart (PySem.mem_of_lookup h1) (PySem.mem_of_lookup h2)
 ·have hy:scope.names.lookup y = some .cell ∨ scope.names.lookup y = some .free:=hy
  rcases hy with hy | hy
  ·exact xh hy
  ·exact absurd rfl (S.LG _ (PySem.mem_of_lookup hy))
 ·exact Nat.le_of_lt (x.above y c (PySem.mem_of_lookup h))
 ·have hi:i < vs.length:=by
   unfold start at h2
   by_cases hi:i < vs.length
   ·exact hi
   ·rw [List.getElem?_append_right (by simpa using hi)] at h2
    rw [List.getElem?_replicate] at h2
    split at h2 <;> cases h2
  have ha:vs[i]? = some v:=by
   unfold start at h2
   rw [List.getElem?_append_left (by simpa using hi),List.getElem?_map] at h2
   cases e:vs[i]? with
   | none=>rw [e] at h2;cases h2
   | some a=>rw [e] at h2;cases h2;rfl
  obtain ⟨u,hu,rv⟩:=r.get ha
  have hp:ps[i]? = some y:=by
   rw [← S.pre,List.getElem?_take_of_lt (by omega)];exact h1
  have ndP:ps.Nodup:=by rw [← S.pre];exact S.nd.sublist (List.take_sublist _ _)
  refine ⟨u,rv,?_⟩
  rcases S.par y (List.mem_of_getElem? hp) with k | k
  ·exact .inl ⟨k,tE ndP hp hu k⟩
  ·obtain ⟨c,e⟩:=xh (n:=s.heap.objs.size + 1) k
   refine .inr ⟨.inl k,c,e,?_⟩
   have q:=x.cell y c e
   rw [uw ndP hp hu (by show scope.names.lookup y ≠ _;rw [k];decide)] at q
   exact q
 ·exact e0.hok.fresh (Nat.le_of_lt (x.above y c (PySem.mem_of_lookup h)))
 ·unfold start
  show _ = N.length
  rw [List.length_append,List.length_map,List.length_replicate]
  omega
theorem IZ {CX:qF} {P:Program} {w:World} {K:PySem.W.Frag} {mg:Str -> Option Value} {base:Heap} {k:Nat} {f:Addr} {name qual:Str} {params:Arguments} {body:List Stmt} {scope:Scope} {dV kV doc pm cdv ct oc:Value} {an od:Option Addr}
  {osl:Array (Option Value)} {N ps:List Str} {sp:Sp} (lk:K.lookup f = some ⟨oc,od,.func (PySem.W.fnOf name qual params body scope dV kV doc pm an cdv ct),osl⟩) (hcd:PySem.W.codeIn K cdv qual = true) (S:aD N ps scope)
  (len:∀ vs H Q E,sp vs H Q E -> vs.length = ps.length)
  (hbody:∀ (A:Around) (outer:List Env) (s:Shared) (H:Hp) (vs:List V) (Q:VK) (E:XK),eW k (A.deeper (envOfC qual scope s.heap.objs.size f cdv)) -> sp vs H Q E ->
   ∃ t,AQ (gq CX P w K mg base N qual scope f cdv A outer s H E) body t /\ t { nx:=λ_ H'=>Q .cM H',rt:=Q } (start N vs) H) :
  bw P w K mg base CX (k + 1) f (PySem.W.fnOf name qual params body scope dV kV doc pm an cdv ct) ps sp:=by
 refine ⟨len,λA outer s H args us vs Q E hr e0 hb r hsp=>?_⟩
 have hl:=len _ _ _ _ hsp
 have KX:K.In s.heap:=e0.mod.nO.keeps λb o e=>(e0.bs b o e).1
 have lim:s.heap.NoLimit:=e0.mod.nolimit.keeps λb o e=>(e0.bs b o e).1
 have hkind:∀ y ∈ ps.zip us,scope.names.lookup y.1 = some .local ∨ (scope.names.lookup y.1 = some .cell /\ ((cellsFrom (s.heap.objs.size + 1) scope.names []).lookup y.1).isSome = true):=λ⟨n,v⟩ hy=>by
  rcases S.par n (List.of_mem_zip hy).1 with q | q
  ·exact .inl q
  ·exact .inr ⟨q,PySem.W.cellsFrom_some _ _ _ (.inl q)⟩
 refine codeAny_call_function hr.depth (KX _ _ lk) rfl S.co S.gen rfl (PySem.W.codeRec_of KX hcd) (hb _ _ _ _ ?_)
 refine wpAny_newFunctionEnv_cells S.kind hkind λenv he s1 x=>?_
 subst he
 refine ⟨lim.keeps x.toInCall.keep,codeAny_func ?_⟩
 obtain ⟨t,ht,hq⟩:=hbody A outer s H vs Q E (hr.deeper _) hsp
 have I:Inv (gq CX P w K mg base N qual scope f cdv A outer s H E) [] (start N vs) H s1:=ug S hr.hd e0 hl r x
 refine wpAny_mono (ht [] s1 (start N vs) H _ I hq) (λfl s' hs=>?_) λe s' hs=>hs
 have fin:∀ {Z':St} {H':Hp} {v:V} {u:Value},Inv (gq CX P w K mg base N qual scope f cdv A outer s H E) [] Z' H' s' -> RelV v u -> Q v H' -> CE outer P w H s Q u s' :=
  λ{Z' H' v u} J rv q=>⟨v,H',J.os,J.bare,J.base,J.hok,rv,q⟩
 cases fl with
 | ret u =>
  obtain ⟨v,Z',H',J,rv,q⟩:=hs
  exact fin J rv q
 | next =>
  obtain ⟨Z',H',J,q⟩:=hs
  exact fin (v:=V.cM) (u:=Value.none) J rfl q
 | brk =>
  obtain ⟨_,_,_,q⟩:=hs
  exact False.elim q
 | cont =>
  obtain ⟨_,_,_,q⟩:=hs
  exact False.elim q
end L2
namespace L2
open PySem PySem.Spec PyProof.Rows
section
variable {X:Cx} {x:Str} {p pos:Pos} {e:Expr} {es:List Expr} {t:TA} {id T:String} {r:List V -> Hp -> VK -> Prop}
noncomputable def OO (r:List V -> Hp -> VK -> Prop) (t:TA):TE:=λZ H Q=>t Z H λvs H1=>r vs H1 Q
theorem aL (hc:ju X (.builtin id) r) (hg:Gl X x) (hm:X.mg x = none) (hv:bootBuiltins x = some (.builtin id)) (ha:PA X (e :: es) t) (hn:x ≠ "__name__" := by decide) (hdb:(x == ("__debug__" : Str)) = false:=by decide)
  (he:starEach (e :: es) X.env = (false,eval e X.env) :: starEach es X.env:=by rfl) (hpl:(backTo pos (starEach es X.env)).any (·.1) = false:=by rfl):PE X (.Call (.Name x p) (e :: es) [] pos) (OO r t):=by
 intro pins s Z H Q I h
 refine wpAny_Call_Name_kw (qB I hg hm hv ?_ hn hdb)
 exact PyProof.Rows.callWith_builtin1 (cS (ha pos pins s Z H _ I h) λus s1 ⟨vs,H1,I1,r1,q1⟩=>hc pins s1 Z H1 vs us Q I1 r1 q1) he hpl
theorem cz (hc:ju X (.type T) r) (hg:Gl X x) (hm:X.mg x = none) (hv:bootBuiltins x = some (.type T)) (ha:PA X (e :: es) t) (hn:x ≠ "__name__" := by decide) (hdb:(x == ("__debug__" : Str)) = false:=by decide)
  (he:starEach (e :: es) X.env = (false,eval e X.env) :: starEach es X.env:=by rfl) (hpl:(backTo pos (starEach es X.env)).any (·.1) = false:=by rfl):PE X (.Call (.Name x p) (e :: es) [] pos) (OO r t):=by
 intro pins s Z H Q I h
 refine wpAny_Call_Name_kw (qB I hg hm hv ?_ hn hdb)
 exact PyProof.Rows.callWith_type1 (cS (ha pos pins s Z H _ I h) λus s1 ⟨vs,H1,I1,r1,q1⟩=>hc pins s1 Z H1 vs us Q I1 r1 q1) he hpl
end
end L2
namespace HT
open PySem PyProof.Rows
theorem GK (A:Around) (s:Shared) (a:Int) (t:Tok) (c:Int) (u:Tok):∃ e,SeqAt.EqAt A s (.int a t) (.int c u) e /\ (e = true ↔ a = c) :=
 ⟨(a == c),SeqAt.EqAt.int_int a t c u,by simp⟩
section
open PySem.SeqAt
open PySem.AutoSeq1 (wpAny_loadPart')
open PySem.MeetsSeq PySem.MeetsSeq2 PySem.MeetsSeq3
end
section
variable {prog:Program} {w:World} {A:Around} {E:Value -> Shared -> Prop} {s:Shared}
def vR (n d:Nat):Option Int -> Nat
 | none=>d
 | some v=>if v < 0 then (v + (n:Int)).toNat else min v.toNat n
theorem Gp (n d:Nat):vR n d none = d:=rfl
end
end HT
namespace L2
open PySem PySem.Spec PyProof.Rows
abbrev TO:=St -> Hp -> (Option Int -> Hp -> Prop) -> Prop
noncomputable def PO (X:Cx) (e:Option Expr) (t:TO):Prop :=
 ∀ (pins:List (Addr × Obj)) (s:Shared) (Z:St) (H:Hp) (Q:Option Int -> Hp -> Prop),Inv X pins Z H s -> t Z H Q ->
  wpAny (model X.prog X.w) X.A (evalPart e X.env) (λu s'=>∃ o H',Inv X pins Z H' s' /\ IsPart u o /\ Q o H') X.xe s
noncomputable def BC:TO:=λ_ H Q=>Q none H
noncomputable def IT (t:TE):TO:=λZ H Q=>t Z H λx H1=>∃ i,x = .int i /\ Q (some i) H1
section
variable {X:Cx} {e:Expr} {te:TE} {lo hi:Option Expr} {tl th:TO} {pos p2:Pos}
theorem uQ:PO X none BC:=by
 intro pins s Z H Q I h
 rw [evalPart_none]
 exact wpAny_pure ⟨none,H,I,.none,h⟩
theorem uU (h:PE X e te):PO X (some e) (IT te):=by
 intro pins s Z H Q I hw
 rw [evalPart_some]
 refine cS (h pins s Z H _ I hw) λu s1 ⟨x,H1,I1,r1,q1⟩=>?_
 obtain ⟨i,rfl,q⟩:=q1
 obtain ⟨t,rfl⟩:=r1
 exact ⟨some i,H1,I1,.int i t,q⟩
noncomputable def Pd (X:Cx) (r:V -> Option Int -> Option Int -> Hp -> VK -> Prop):Prop :=
 ∀ (pins:List (Addr × Obj)) (s:Shared) (Z:St) (H:Hp) (x:V) (v vl vu:Value) (lo hi:Option Int) (sl:Addr) (Q:VK),Inv X pins Z H s -> RelV x v -> s.heap.IsSliceOf sl vl vu .none -> IsPart vl lo -> IsPart vu hi -> r x lo hi H Q ->
  ∃ T id,typeLookup (.type T) "__getitem__" = pure (some (.builtin id)) /\ s.TypeIs v T /\ wpAny (model X.prog X.w) X.A (getItem v (.ref sl)) (EP X pins Z Q) X.xe s
noncomputable def tSl (r:V -> Option Int -> Option Int -> Hp -> VK -> Prop) (te:TE) (tl th:TO):TE:=λZ H Q=>te Z H λx H1=>tl Z H1 λl H2=>th Z H2 λu H3=>r x l u H3 Q
theorem qj {r:V -> Option Int -> Option Int -> Hp -> VK -> Prop} (hr:Pd X r) (he:PE X e te) (hl:PO X lo tl) (hu:PO X hi th):PE X (.Subscript e (.Slice lo hi none p2) pos) (tSl r te tl th):=by
 intro pins s Z H Q I h
 refine Subscript_ (cS (he pins s Z H _ I h) λv s1 ⟨x,H1,I1,r1,q1⟩=>?_)
 refine wpAny_Slice (cS (hl pins s1 Z H1 _ I1 q1) λvl s2 ⟨l,H2,I2,pl,q2⟩=>cS (hu pins s2 Z H2 _ I2 q2) λvu s3 ⟨u,H3,I3,pu,q3⟩=>?_)
 rw [evalPart_none]
 refine wpAny_pure ?_
 have I4:Inv X pins Z H3 { s3 with heap:=s3.heap.push { cls:=.type "slice",data:=.fields #[vl,vu,.none] } }:=I3.kept (t':=s3.toks) λb ob q=>Heap.get?_push_of_some _ q
 obtain ⟨T,id,hT,ht,hg⟩:=hr pins { s3 with heap:=s3.heap.push { cls:=.type "slice",data:=.fields #[vl,vu,.none] } } Z H3 x v vl vu l u s3.heap.objs.size Q I4 r1 (Heap.IsSliceOf.new ..) pl pu q3
 show wpAny (model X.prog X.w) X.A (subscriptTail e (.Slice lo hi none p2) v (.ref s3.heap.objs.size)) (EP X pins Z Q) X.xe { s3 with heap:=s3.heap.push { cls:=.type "slice",data:=.fields #[vl,vu,.none] } }
 exact tail_any (ops:=[.ref s3.heap.objs.size,v]) ht hT hg (by with_unfolding_all rfl)
def uY (xs:List V) (lo hi:Option Int):List V:=(xs.drop (HT.vR xs.length 0 lo)).take (HT.vR xs.length xs.length hi - HT.vR xs.length 0 lo)
theorem wu (xs:List V) (lo hi:Option Int):(uY xs lo hi).length <= xs.length:=by
 unfold uY
 rw [List.length_take,List.length_drop]
 omega
end
end L2
namespace L2
open PySem PySem.Spec PyProof.Rows
def G5 (n:Nat) (i:Int):Option Nat:=if 0 <= i then (if i < n then some i.toNat else none) else if -(n:Int) <= i then some (i + n).toNat else none
def vF {α:Type} (xs:List α) (i:Int):Option α:=(G5 xs.length i).bind λj=>xs[j]?
theorem A5 {n:Nat} {i:Int} {j:Nat} (h:G5 n i = some j):seqIndex? i n = some j /\ j < n /\ -(n:Int) <= i /\ i < n:=by
 unfold G5 at h
 by_cases h0:0 <= i
 ·rw [if_pos h0] at h
  by_cases h1:i < n
  ·rw [if_pos h1] at h
   have e:i.toNat = j:=Option.some.inj h
   exact ⟨by rw [seqIndex_of h0 h1,e],by omega,by omega,h1⟩
  ·rw [if_neg h1] at h;cases h
 ·rw [if_neg h0] at h
  by_cases h1:-(n:Int) <= i
  ·rw [if_pos h1] at h
   have e:(i + n).toNat = j:=Option.some.inj h
   exact ⟨by rw [seqIndex_neg (by omega) h1,e],by omega,h1,by omega⟩
  ·rw [if_neg h1] at h;cases h
theorem uL {α:Type} {xs:List α} {i:Int} {v:α} (h:vF xs i = some v):∃ j,seqIndex? i xs.length = some j /\ xs[j]? = some v /\ j < xs.length /\ -(xs.length:Int) <= i /\ i < xs.length:=by
 unfold vF at h
 cases e:G5 xs.length i with
 | none=>rw [e] at h;cases h
 | some j =>
  rw [e] at h
  obtain ⟨h1,h2,h3,h4⟩:=A5 e
  exact ⟨j,h1,h,h2,h3,h4⟩
theorem bq {α:Type} {xs:List α} {j:Nat} {v:α} (h:xs[j]? = some v):vF xs (j:Int) = some v:=by
 have hj:j < xs.length:=(List.getElem?_eq_some_iff.mp h).1
 have e:G5 xs.length (j:Int) = some j:=by
  unfold G5
  rw [if_pos (by omega),if_pos (by omega)];simp
 unfold vF;rw [e];exact h
noncomputable def HG (b:Expr):Prop:=∀ o i,subscripted b false o i = operate [o,i] (getItem o i)
noncomputable def M7 (X:Cx) (r:R2):Prop :=
 ∀ (value slice:Expr) (pins:List (Addr × Obj)) (s:Shared) (Z:St) (H:Hp) (x y:V) (v u:Value) (Q:VK),Inv X pins Z H s -> RelV x v -> RelV y u -> r x y H Q ->
  subscripted slice false v u = operate [v,u] (getItem v u) -> wpAny (model X.prog X.w) X.A (subscriptTail value slice v u) (EP X pins Z Q) X.xe s
noncomputable def M3 (X:Cx) (id:String) (r:V -> List V -> Hp -> VK -> Prop):Prop :=
 ∀ (pins:List (Addr × Obj)) (s:Shared) (Z:St) (H:Hp) (x:V) (xs:List V) (v:Value) (us:List Value) (Q:VK),Inv X pins Z H s -> RelV x v -> Vals xs us -> r x xs H Q ->
  wpAny (model X.prog X.w) X.A (call (.builtin id) (v :: us)) (EP X pins Z Q) X.xe s
section
variable {X:Cx} {a b:Expr} {ta tb:TE} {pos:Pos}
theorem aU {r:R2} (hr:M7 X r) (ha:PE X a ta) (hb:PE X b tb) (hs:HG b):PE X (.Subscript a b pos) (M5 r ta tb):=by
 intro pins s Z H Q I h
 exact Subscript_ (KU ha hb I h λv u s2 x y H2 I2 rx ry q=>hr a b pins s2 Z H2 x y v u Q I2 rx ry q (hs _ _))
def KL (K:PySem.W.Frag):R2:=λx y H Q=>∃ p xs i v,x = .ref p /\ y = .int i /\ bB K H p xs /\ vF xs i = some v /\ Q v H
def Kp (K:PySem.W.Frag):R2:=λx y H Q=>∃ p xs i v,x = .ref p /\ y = .int i /\ fY K H p xs /\ vF xs i = some v /\ Q v H
def Ny:R2:=λx y H Q=>∃ z i c,x = .str z /\ y = .int i /\ z.length <= sizeLine /\ vF z.cps.toList i = some c /\ Q (.str ⟨#[c]⟩) H
theorem aY:M7 X (KL X.K):=by
 intro value slice pins s Z H x y v u Q I rx ry h hs
 obtain ⟨p,xs,i,z,rfl,rfl,hq,he,q⟩:=h
 cases rx
 obtain ⟨t,rfl⟩:=ry
 obtain ⟨its,r,pl,hz⟩:=I.list hq
 obtain ⟨j,h1,h2,h3,h4,h5⟩:=uL he
 obtain ⟨w,ew,rw'⟩:=r.get h2
 have hl:=r.length
 have hn:=k8
 have fin:EP X pins Z Q w s:=⟨z,H,I,rw',q⟩
 by_cases h0:0 <= i
 ·have hj:i.toNat = j:=by
   rw [seqIndex_of h0 h5] at h1
   exact Option.some.inj h1
  exact item_listR pl.isList h0 (by omega) (by rw [hj];simpa using ew) fin hs
 ·have hj:(i + (its.toArray.size:Int)).toNat = j:=by
   rw [seqIndex_neg (by omega) h4] at h1
   rw [List.size_toArray,← hl]
   exact Option.some.inj h1
  exact subscriptTail_builtinR (x:=w) pl.isList.typeIs slot_list_getitem.lookup
   (wpAny_getItem_list_neg (Q:=λr s'=>r = w /\ EP X pins Z Q r s') pl.isList (by omega) (by rw [List.size_toArray] <;> omega) (by omega) (by rw [hj];simpa using ew) ⟨rfl,fin⟩) hs
theorem bU:M7 X (Kp X.K):=by
 intro value slice pins s Z H x y v u Q I rx ry h hs
 obtain ⟨p,xs,i,z,rfl,rfl,hq,he,q⟩:=h
 cases rx
 obtain ⟨t,rfl⟩:=ry
 obtain ⟨its,r,pl,hz⟩:=I.tuple hq
 obtain ⟨j,h1,h2,h3,h4,h5⟩:=uL he
 obtain ⟨w,ew,rw'⟩:=r.get h2
 have hl:=r.length
 have hn:=k8
 have fin:EP X pins Z Q w s:=⟨z,H,I,rw',q⟩
 exact subscriptTail_builtinR (x:=w) pl.typeIs slot_tuple_getitem.lookup
  (getItem_tuple (j:=j) (Q:=λr s'=>r = w /\ EP X pins Z Q r s') pl (by omega) (by omega) (by rw [List.size_toArray,← hl];exact h1) (by simpa using ew) ⟨rfl,fin⟩) hs
theorem lD:M7 X Ny:=by
 intro value slice pins s Z H x y v u Q I rx ry h hs
 obtain ⟨z,i,c,rfl,rfl,hz,he,q⟩:=h
 obtain ⟨t,rfl⟩:=rx
 obtain ⟨t',rfl⟩:=ry
 obtain ⟨j,h1,h2,h3,h4,h5⟩:=uL he
 have hl:z.cps.toList.length = z.length:=by simp [Str.length]
 rw [hl] at h1 h4 h5
 have hn:=k8
 exact tail_any (typeIs_str s z t) slot_str_getitem.lookup (getItem_str (c:=c) (by
  have e1:decide (i < -(2 ^ 63:Int)) = false:=decide_eq_false (by omega)
  have e2:decide (i ≥ 2 ^ 63) = false:=decide_eq_false (by omega)
  rw [e1,e2,Bool.or_false]) (by rw [h1];simpa using h2) ⟨.str ⟨#[c]⟩,H,I.tok _,⟨_,rfl⟩,q⟩) hs
theorem zT (its:List Value) (n j:Nat) (u:Value):Obj.mapSeq (·.setIfInBounds j u) { cls:=.type "list",data:=.seq its.toArray n } = { cls:=.type "list",data:=.seq (its.set j u).toArray n }:=by
 simp [Obj.mapSeq]
theorem Inv.lst {pins:List (Addr × Obj)} {Z:St} {H:Hp} {s:Shared} {p:Addr} {xs:List V} (I:Inv X pins Z H s) (h:H p = some (.lst xs)) :
  ∃ (its:List Value) (n:Nat),Vals xs its /\ s.heap.get? p = some { cls:=.type "list",data:=.seq its.toArray n } /\ xs.length <= sizeLine:=by
 obtain ⟨z,its,n,r,e⟩:=I.hok p _ h
 exact ⟨its,n,r,e,z⟩
theorem Inv.J4 {pins:List (Addr × Obj)} {Z:St} {H:Hp} {s:Shared} {p:Addr} {xs ys:List V} {its its':List Value} {n n':Nat} {f:Obj -> Obj} (I:Inv X pins Z H s) (h:H p = some (.lst xs))
  (ho:s.heap.get? p = some { cls:=.type "list",data:=.seq its.toArray n }) (hf:f { cls:=.type "list",data:=.seq its.toArray n } = { cls:=.type "list",data:=.seq its'.toArray n' }) (r:Vals ys its') (hz:ys.length <= sizeLine) (t:Nat) :
  Inv X pins Z (upd H p (.lst ys)) { s with heap:=s.heap.update p f,toks:=t }:=by
 have e:(s.heap.update p f).get? p = some { cls:=.type "list",data:=.seq its'.toArray n' }:=by
  rw [Heap.get?_update_self f ho (by rw [hf] <;> rfl),hf]
 refine I.write (x:=p) (e:=p) (by rw [h];trivial) (.inl rfl) (λb u hb q=>(Heap.get?_update_other _ _ (Ne.symm hb)).trans q) ⟨_,e⟩ ?_
 exact ⟨hz,its',n',r,e⟩
def Om:V -> V -> V -> Hp -> (Hp -> Prop) -> Prop:=λo i v H Q=>∃ p xs k j,o = .ref p /\ i = .int k /\ H p = some (.lst xs) /\ G5 xs.length k = some j /\ Q (upd H p (.lst (xs.set j v)))
theorem set_list:NN X Om:=by
 intro pins s Z H o i v ov iv u Q I ro ri rv h
 obtain ⟨p,xs,k,j,rfl,rfl,hp,hj,q⟩:=h
 cases ro
 obtain ⟨t,rfl⟩:=ri
 obtain ⟨its,n,r,ho,hz⟩:=I.lst hp
 obtain ⟨h1,h2,h3,h4⟩:=A5 hj
 have hl:=r.length
 have hn:=k8
 have I':Inv X pins Z (upd H p (.lst (xs.set j v))) { s with heap:=s.heap.update p (Obj.mapSeq (·.setIfInBounds j u)) } :=
  I.J4 hp ho (zT its n j u) (r.set rv j) (by rw [List.length_set];exact hz) s.toks
 by_cases h0:0 <= k
 ·have hk:k.toNat = j:=by
   rw [seqIndex_of h0 h4] at h1
   exact Option.some.inj h1
  exact PySem.W.ki_setAt ho h0 (by omega) (by rw [List.size_toArray,← hl];exact h4) (by rw [hk];exact ⟨_,I',q⟩)
 ·have hk:(k + (its.toArray.size:Int)).toNat = j:=by
   rw [seqIndex_neg (by omega) h3] at h1
   rw [List.size_toArray,← hl]
   exact Option.some.inj h1
  exact PySem.W.ki_setBack ho (by omega) (by rw [List.size_toArray,← hl];exact h3) (by omega) (by rw [hk];exact ⟨_,I',q⟩)
theorem vf (lo hi:Option Int) (n:Nat):(sliceBounds lo hi none n).1 = ((HT.vR n 0 lo:Nat):Int) /\ (sliceBounds lo hi none n).2.1 = ((HT.vR n n hi:Nat):Int) /\ (sliceBounds lo hi none n).2.2 = 1:=by
 refine ⟨?_,?_,rfl⟩
 ·cases lo with
  | none=>simp [sliceBounds,HT.vR]
  | some i =>
   simp only [sliceBounds,HT.vR,Option.getD_none,show (1:Int) > 0 by decide,if_true]
   by_cases h:i < 0
   ·simp only [h,if_true] <;> omega
   ·simp only [h,if_false] <;> omega
 ·cases hi with
  | none=>simp [sliceBounds,HT.vR]
  | some i =>
   simp only [sliceBounds,HT.vR,Option.getD_none,show (1:Int) > 0 by decide,if_true]
   by_cases h:i < 0
   ·simp only [h,if_true] <;> omega
   ·simp only [h,if_false] <;> omega
theorem sy (its:List Value) (lo hi:Option Int):slicePick its.toArray lo hi none = ((its.drop (HT.vR its.length 0 lo)).take (HT.vR its.length its.length hi - HT.vR its.length 0 lo)).toArray:=by
 obtain ⟨h1,h2,h3⟩:=vf lo hi its.toArray.size
 unfold slicePick
 rw [h1,h2,h3]
 simp only [sliceRange_one,pick_run,List.size_toArray] <;> rfl
def Po (K:PySem.W.Frag):V -> Option Int -> Option Int -> Hp -> VK -> Prop:=λx lo hi H Q=>∃ a xs,x = .ref a /\ bB K H a xs /\ ∀ p,H p = none -> Q (.ref p) (upd H p (.lst (uY xs lo hi)))
theorem BJ:Pd X (Po X.K):=by
 intro pins s Z H x v vl vu lo hi sl Q I rx hs pl pu h
 obtain ⟨a,xs,rfl,hx,q⟩:=h
 cases rx
 obtain ⟨its,r,ht,hz⟩:=I.list hx
 have hlen:=r.length
 refine ⟨"list",_,slot_list_getitem.lookup,ht.isList.typeIs,?_⟩
 refine wpAny_getItem_list_slice ht.isList hs pl pu .none (by simp) ?_ (by rw [List.size_toArray] <;> omega)
 rw [sy,← hlen]
 refine ⟨.ref s.heap.objs.size,_,I.laid (t':=s.toks) (o:=.lst (uY xs lo hi)) (λb ob q=>Heap.get?_push_of_some _ q) (Nat.le_refl _) ?_,rfl,q _ (I.hok.fresh (Nat.le_refl _))⟩
 exact ⟨Nat.le_trans (wu xs lo hi) hz,_,0,(r.drop (HT.vR xs.length 0 lo)).take (HT.vR xs.length xs.length hi - HT.vR xs.length 0 lo),Heap.get?_push_size _ rfl⟩
def iZ:V -> Bool
 | .cM=>true
 | .bl _=>true
 | .int _=>true
 | .str _=>true
 | _=>false
def Cg:V -> V -> Bool
 | .cM,.cM=>true
 | .bl a,.bl b=>a == b
 | .bl a,.int b=>(if a then 1 else 0) == b
 | .int a,.bl b=>a == (if b then 1 else 0)
 | .int a,.int b=>a == b
 | .str a,.str b=>a == b
 | _,_=>false
theorem Ay {A:Around} {s:Shared} {y x:V} {u v:Value} (ry:RelV y u) (rx:RelV x v) (fy:iZ y = true) (fx:iZ x = true):SeqAt.EqAt A s u v (Cg y x):=by
 cases y with
 | cM =>
  cases ry
  cases x with
  | cM=>cases rx;exact SeqAt.EqAt.same _
  | bl b=>cases rx;exact SeqAt.EqAt.none_bool b
  | int b=>obtain ⟨t,rfl⟩:=rx;exact SeqAt.EqAt.none_int b t
  | str b=>obtain ⟨t,rfl⟩:=rx;exact SeqAt.EqAt.none_str b t
  | _=>exact absurd (show false = true from fx) Bool.false_ne_true
 | bl a =>
  cases ry
  cases x with
  | cM=>cases rx;exact SeqAt.EqAt.bool_none a
  | bl b=>cases rx;exact SeqAt.EqAt.bool_bool a b
  | int b=>obtain ⟨t,rfl⟩:=rx;exact SeqAt.EqAt.bool_int a b t
  | str b=>obtain ⟨t,rfl⟩:=rx;exact SeqAt.EqAt.bool_str a b t
  | _=>exact absurd (show false = true from fx) Bool.false_ne_true
 | int a =>
  obtain ⟨t',rfl⟩:=ry
  cases x with
  | cM=>cases rx;exact SeqAt.EqAt.int_none a t'
  | bl b=>cases rx;exact SeqAt.EqAt.int_bool a t' b
  | int b=>obtain ⟨t,rfl⟩:=rx;exact SeqAt.EqAt.int_int a t' b t
  | str b=>obtain ⟨t,rfl⟩:=rx;exact SeqAt.EqAt.int_str a t' b t
  | _=>exact absurd (show false = true from fx) Bool.false_ne_true
 | str a =>
  obtain ⟨t',rfl⟩:=ry
  cases x with
  | cM=>cases rx;exact SeqAt.EqAt.str_none a t'
  | bl b=>cases rx;exact SeqAt.EqAt.str_bool a t' b
  | int b=>obtain ⟨t,rfl⟩:=rx;exact SeqAt.EqAt.str_int a t' b t
  | str b=>obtain ⟨t,rfl⟩:=rx;exact SeqAt.EqAt.str_str a t' b t
  | _=>exact absurd (show false = true from fx) Bool.false_ne_true
 | _=>exact absurd (show false = true from fy) Bool.false_ne_true
def Au (x:V) (u:Value):Bool:=match u with
 | .none=>Cg .cM x
 | .bool b=>Cg (.bl b) x
 | .int i _=>Cg (.int i) x
 | .str z _=>Cg (.str z) x
 | _=>false
theorem D4 {x y:V} {u:Value} (r:RelV y u) (f:iZ y = true):Au x u = Cg y x:=by
 cases y with
 | cM=>cases r;rfl
 | bl b=>cases r;rfl
 | int i=>obtain ⟨t,rfl⟩:=r;rfl
 | str z=>obtain ⟨t,rfl⟩:=r;rfl
 | _=>exact absurd (show false = true from f) Bool.false_ne_true
theorem lZ {x:V}:∀ {xs:List V} {us:List Value},Vals xs us -> xs.all iZ = true -> us.any (Au x) = xs.any λy=>Cg y x
 | _,_,.nil,_=>rfl
 | y :: xs,u :: us,.cons r t,f=>by
  rw [List.all_cons,Bool.and_eq_true] at f
  rw [List.any_cons,List.any_cons,D4 r f.1,lZ t f.2]
theorem ki {A:Around} {s:Shared} {x:V} {v:Value} (rx:RelV x v) (fx:iZ x = true):∀ {xs:List V} {us:List Value},Vals xs us -> xs.all iZ = true -> ∀ u ∈ us,SeqAt.EqAt A s u v (Au x u)
 | _,_,.nil,_=>λu hu=>by cases hu
 | y :: xs,u :: us,.cons r t,f=>λu' hu=>by
  rw [List.all_cons,Bool.and_eq_true] at f
  rcases List.mem_cons.mp hu with rfl | hu
  ·rw [D4 r f.1];exact Ay r rx f.1 fx
  ·exact ki rx fx t f.2 u' hu
def Jj (x:V) (xs:List V):Bool:=xs.any λy=>Cg y x
def Pb (K:PySem.W.Frag) (neg:Bool):R2:=λx y H Q=>∃ p xs,y = .ref p /\ (bB K H p xs ∨ fY K H p xs) /\ iZ x = true /\ xs.all iZ = true /\ Q (.bl (if neg then !Jj x xs else Jj x xs)) H
theorem fZ:lP X (compareOp .In) (Pb X.K false):=by
 intro pins s Z H x y v u Q I rx ry h
 obtain ⟨p,xs,rfl,hq,fx,fs,q⟩:=h
 cases ry
 rcases hq with hq | hq
 ·obtain ⟨its,r,pl,hz⟩:=I.list hq
  refine SeqAt.in_listAt (Au x) pl.isList (λw hw=>ki rx fx r fs w (by simpa using hw)) ⟨.bl _,H,I,rfl,?_⟩
  rw [show its.toArray.any (Au x) = its.any (Au x) by simp,lZ r fs]
  exact q
 ·obtain ⟨its,r,pl,hz⟩:=I.tuple hq
  refine SeqAt.in_tupleAt (Au x) pl (λw hw=>ki rx fx r fs w (by simpa using hw)) ⟨.bl _,H,I,rfl,?_⟩
  rw [show its.toArray.any (Au x) = its.any (Au x) by simp,lZ r fs]
  exact q
theorem vo:lP X (compareOp .NotIn) (Pb X.K true):=by
 intro pins s Z H x y v u Q I rx ry h
 obtain ⟨p,xs,rfl,hq,fx,fs,q⟩:=h
 cases ry
 rcases hq with hq | hq
 ·obtain ⟨its,r,pl,hz⟩:=I.list hq
  refine SeqAt.notIn_listAt (Au x) pl.isList (λw hw=>ki rx fx r fs w (by simpa using hw)) ⟨.bl _,H,I,rfl,?_⟩
  rw [show its.toArray.any (Au x) = its.any (Au x) by simp,lZ r fs]
  exact q
 ·obtain ⟨its,r,pl,hz⟩:=I.tuple hq
  refine SeqAt.notIn_tupleAt (Au x) pl (λw hw=>ki rx fx r fs w (by simpa using hw)) ⟨.bl _,H,I,rfl,?_⟩
  rw [show its.toArray.any (Au x) = its.any (Au x) by simp,lZ r fs]
  exact q
theorem aT:ju X (.builtin "len") (λxs H Q=>∃ p ys,xs = [.ref p] /\ (bB X.K H p ys ∨ fY X.K H p ys) /\ Q (.int ys.length) H):=by
 intro pins s Z H xs us Q I r h
 obtain ⟨p,ys,rfl,hq,q⟩:=h
 obtain ⟨u,rfl,rx⟩:=vals1 r
 cases rx
 have hn:=k8
 rcases hq with hq | hq
 ·obtain ⟨its,r',pl,hz⟩:=I.list hq
  have hlen:=r'.length
  exact Calls.call_len_list pl.isList (by simp only [List.size_toArray] <;> omega) ⟨.int ys.length,H,I.tok _,⟨s.toks + 1,by rw [List.size_toArray,hlen]⟩,q⟩
 ·obtain ⟨its,r',pl,hz⟩:=I.tuple hq
  have hlen:=r'.length
  exact len_tuple pl (by simp only [List.size_toArray] <;> omega) ⟨.int ys.length,H,I.tok _,⟨s.toks + 1,by rw [List.size_toArray,hlen]⟩,q⟩
theorem bz:ju X (.builtin "len") (λxs H Q=>∃ z,xs = [.str z] /\ z.length <= sizeLine /\ Q (.int z.length) H):=by
 intro pins s Z H xs us Q I r h
 obtain ⟨z,rfl,hz,q⟩:=h
 obtain ⟨u,rfl,t,rfl⟩:=vals1 r
 have hn:=k8
 exact len_str (by omega) ⟨.int z.length,H,I.tok _,⟨_,rfl⟩,q⟩
theorem cH:ju X (.type "list") (λxs H Q=>∃ p ys,xs = [.ref p] /\ (bB X.K H p ys ∨ fY X.K H p ys) /\ ∀ l,H l = none -> Q (.ref l) (upd H l (.lst ys))):=by
 intro pins s Z H xs us Q I r h
 obtain ⟨p,ys,rfl,hq,q⟩:=h
 obtain ⟨u,rfl,rx⟩:=vals1 r
 cases rx
 have fin:∀ (its:List Value),Vals ys its -> ys.length <= sizeLine -> ∀ (h':Heap) (c':Nat),(∀ b o',s.heap.get? b = some o' -> h'.get? b = some o') ->
   h'.get? s.heap.objs.size = some { cls:=.type "list",dict:=none,data:=.seq its.toArray c',slots:=#[] } -> EP X pins Z Q (.ref s.heap.objs.size) { s with heap:=h' }:=λits r' hz h' c' kp e =>
  ⟨.ref s.heap.objs.size,_,I.laid (t':=s.toks) kp (Nat.le_refl _) (show di X.prog X.w _ h' _ (.lst ys) from ⟨hz,its,c',r',e⟩),rfl,q _ (I.hok.fresh (Nat.le_refl _))⟩
 rcases hq with hq | hq
 ·obtain ⟨its,r',pl,hz⟩:=I.list hq
  have hlen:=r'.length
  obtain ⟨o,ho,hc,n,hd⟩:=pl.isList
  exact call_list_seq p (.inl rfl) ho hc hd (λh' c' kp e=>fin its r' hz h' c' kp e) (by simp only [List.size_toArray] <;> omega)
 ·obtain ⟨its,r',pl,hz⟩:=I.tuple hq
  have hlen:=r'.length
  obtain ⟨o,ho,hc,n,hd⟩:=pl
  exact call_list_seq p (.inr rfl) ho hc hd (λh' c' kp e=>fin its r' hz h' c' kp e) (by simp only [List.size_toArray] <;> omega)
theorem su:ju X (.type "tuple") (λxs H Q=>∃ p ys,xs = [.ref p] /\ ((bB X.K H p ys /\ ∀ l,H l = none -> Q (.ref l) (upd H l (.tup ys))) ∨ (fY X.K H p ys /\ Q (.ref p) H))):=by
 intro pins s Z H xs us Q I r h
 obtain ⟨p,ys,rfl,h⟩:=h
 obtain ⟨u,rfl,rx⟩:=vals1 r
 cases rx
 rcases h with ⟨hq,q⟩ | ⟨hq,q⟩
 ·obtain ⟨its,r',pl,hz⟩:=I.list hq
  have hlen:=r'.length
  refine call_tuple_list pl.isList (λh' kp=>?_) (by simp only [List.size_toArray] <;> omega)
  have I1:Inv X pins Z H { s with heap:=h' }:=I.kept (t':=s.toks) kp
  have I2:Inv X pins Z (upd H h'.objs.size (.tup ys)) { s with heap:=h'.push { cls:=.type "tuple",data:=.seq its.toArray } } :=
   I1.laid (t':=s.toks) (λb o e=>Heap.get?_push_of_some _ e) (Nat.le_refl _) (show di X.prog X.w _ _ _ (.tup ys) from ⟨hz,its,r',IsTup.new _ _⟩)
  exact ⟨.ref h'.objs.size,_,I2,rfl,q _ (I1.hok.fresh (Nat.le_refl _))⟩
 ·obtain ⟨its,r',pl,hz⟩:=I.tuple hq
  exact call_tuple_same pl ⟨.ref p,H,I,rfl,q⟩
noncomputable def PL (K:PySem.W.Frag) (T:String) (x:V) (H:Hp):Prop:=match x with
 | .str _=>T = "str"
 | .int _=>T = "int"
 | .ref p=>(T = "list" /\ ∃ xs,bB K H p xs) ∨ (T = "tuple" /\ ∃ o,K.lookup p = some o /\ o.cls = .type "tuple" /\ o.dict = none) ∨
   (T = "dict" /\ ((∃ kvs,H p = some (.dK kvs)) ∨ ∃ kvs,H p = some (.dT kvs))) ∨ (T = "set" /\ ∃ S n,H p = some (.set S n))
 | _=>False
theorem Gx {pins:List (Addr × Obj)} {Z:St} {H:Hp} {s:Shared} {T:String} {x:V} {v:Value} (I:Inv X pins Z H s) (r:RelV x v) (ty:PL X.K T x H) :
  s.TypeIs v T /\ ∀ a,v = .ref a -> ∃ ob,s.heap.get? a = some ob /\ ob.dict = none:=by
 cases x with
 | str z =>
  obtain ⟨t,rfl⟩:=r
  cases (show T = "str" from ty)
  exact ⟨typeIs_str s z t,λ_ e=>nomatch e⟩
 | int i =>
  obtain ⟨t,rfl⟩:=r
  cases (show T = "int" from ty)
  exact ⟨typeIs_int s i t,λ_ e=>nomatch e⟩
 | ref p =>
  cases r
  rcases ty with ⟨rfl,xs,hq⟩ | ⟨rfl,o,hk,hc,hd⟩ | ⟨rfl,hk⟩ | ⟨rfl,S,n,hk⟩
  ·obtain ⟨its,_,pl,_⟩:=I.list hq
   refine ⟨pl.isList.typeIs,λa e=>?_⟩
   cases e
   obtain ⟨o,n,e,c,hd,_⟩:=pl
   exact ⟨o,e,hd⟩
  ·refine ⟨⟨o,I.jA p o hk,hc⟩,λa e=>?_⟩
   cases e
   exact ⟨o,I.jA _ o hk,hd⟩
  ·have z:∃ o,s.heap.get? p = some o /\ o.ExactDict:=by
    rcases hk with ⟨kvs,hk⟩ | ⟨kvs,hk⟩
    ·obtain ⟨_,_,_,_,o,_,_,e,ex,_⟩:=I.hok p _ hk
     exact ⟨o,e,ex⟩
    ·obtain ⟨_,_,_,_,o,_,_,e,ex,_⟩:=I.hok p _ hk
     exact ⟨o,e,ex⟩
   obtain ⟨o,e,ex⟩:=z
   refine ⟨⟨o,e,ex.1⟩,λa e2=>?_⟩
   cases e2
   exact ⟨o,e,ex.2.1⟩
  ·obtain ⟨o,_,_,_,e,ex,_⟩:=I.hok p _ hk
   refine ⟨⟨o,e,ex.1⟩,λa e2=>?_⟩
   cases e2
   exact ⟨o,e,ex.2.1⟩
 | _=>exact False.elim ty
noncomputable def Nv (K:PySem.W.Frag) (T:String) (r:V -> List V -> Hp -> VK -> Prop) (to:TE):TE:=λZ H Q=>to Z H λx H1=>PL K T x H1 /\ r x [] H1 Q
noncomputable def tBM (K:PySem.W.Frag) (T:String) (r:V -> List V -> Hp -> VK -> Prop) (to:TE) (t:TA):TE:=λZ H Q=>to Z H λx H1=>PL K T x H1 /\ t Z H1 λxs H2=>r x xs H2 Q
variable {o e:Expr} {es:List Expr} {to:TE} {t:TA} {name:Str} {apos cpos:Pos} {T id:String} {r:V -> List V -> Hp -> VK -> Prop}
theorem Lz (pa:PlainAttrs T) (slot:Slot T name id) (hty:typeOf (.builtin id) = pure (.type "method_descriptor")) (hm:M3 X id r) (ho:PE X o to)
  (hbase:attributeBase o name X.env (eval o X.env) = eval o X.env:=by rfl) (hline:(apos.endLine == cpos.line) = true:=by rfl):PE X (.Call (.Attribute o name apos) [] [] cpos) (Nv X.K T r to):=by
 intro pins s Z H Q I h
 refine wpAny_Call_method0_late hbase hline (cS (ho pins s Z H _ I h) λv s1 ⟨x,H1,I1,r1,ty,q1⟩=>?_)
 obtain ⟨h1,h2⟩:=Gx I1 r1 ty
 exact ⟨T,id,pa,slot,hty,h1,h2,Calls.callWith_builtin rfl (PySem.evalArgs_none (hm pins s1 Z H1 x [] v [] Q I1 r1 .nil q1))⟩
theorem cJ (pa:PlainAttrs T) (slot:Slot T name id) (hty:typeOf (.builtin id) = pure (.type "method_descriptor")) (hm:M3 X id r) (ho:PE X o to) (ha:PA X (e :: es) t)
  (hbase:attributeBase o name X.env (eval o X.env) = eval o X.env:=by rfl)
  (hfew:((backTo cpos (starEach (e :: es) X.env)).all (λx=>!x.1) && (backToKw cpos (keywordEach [] X.env)).all (λx=>x.1.isSome)
   && decide ((e :: es).length + ([]:List Keyword).length + (if ([]:List Keyword).isEmpty then 0 else 1) < 30)) = true:=by rfl)
  (hline:(apos.endLine == cpos.line) = true:=by rfl) (hs:starEach (e :: es) X.env = (false,eval e X.env) :: starEach es X.env:=by rfl) (hplain:(backTo cpos (starEach es X.env)).any (·.1) = false:=by rfl) :
  PE X (.Call (.Attribute o name apos) (e :: es) [] cpos) (tBM X.K T r to t):=by
 intro pins s Z H Q I h
 refine wpAny_Call_method_late hbase hfew hline rfl (cS (ho pins s Z H _ I h) λv s1 ⟨x,H1,I1,r1,ty,q1⟩=>?_)
 obtain ⟨h1,h2⟩:=Gx I1 r1 ty
 refine ⟨T,id,pa,slot,hty,h1,h2,?_⟩
 have hA:=ha cpos pins s1 Z H1 _ I1 q1
 rw [hs] at hA ⊢
 refine Calls.callWith_builtin (by show (false || (backTo cpos (starEach es X.env)).any (·.1)) = false;rw [hplain] <;> rfl) (Calls.evalArgs_plain ?_)
 exact cS hA λus s2 ⟨vs,H2,I2,r2,q2⟩=>hm pins s2 Z H2 x vs v us Q I2 r1 r2 q2
end
end L2
namespace L2
open PySem PySem.Spec PyProof.Rows
noncomputable def OX (X:Cx) (id:String) (r:V -> List V -> Hp -> VK -> Prop):Prop :=
 ∀ (pins:List (Addr × Obj)) (s:Shared) (Z:St) (H:Hp) (x:V) (xs:List V) (v:Value) (us:List Value) (Q:VK),Inv X pins Z H s -> RelV x v -> Vals xs us -> r x xs H Q ->
  wpAny (model X.prog X.w) X.A (call (.builtin id) (v :: us)) (EP X pins Z Q) X.xe s
theorem Vals.one:∀ {x:V} {us:List Value},Vals [x] us -> ∃ u,us = [u] /\ RelV x u
 | _,_,.cons r .nil=>⟨_,rfl,r⟩
theorem Vals.two:∀ {x y:V} {us:List Value},Vals [x,y] us -> ∃ u v,us = [u,v] /\ RelV x u /\ RelV y v
 | _,_,_,.cons r (.cons q .nil)=>⟨_,_,rfl,r,q⟩
theorem Vals.zero:∀ {us:List Value},Vals [] us -> us = []
 | _,.nil=>rfl
theorem Vals.dropLast {xs:List V} {us:List Value} (h:Vals xs us):Vals xs.dropLast us.dropLast:=by
 induction h with
 | nil=>exact .nil
 | cons r t ih =>
  cases t with
  | nil=>exact .nil
  | cons q t'=>exact .cons r ih
theorem Vals.rep {xs:List V} {us:List Value} (h:Vals xs us):∀ k:Nat,Vals (List.replicate k xs).flatten (List.replicate k us).flatten
 | 0=>.nil
 | k + 1=>by
  rw [List.replicate_succ,List.replicate_succ,List.flatten_cons,List.flatten_cons]
  exact Vals.append h (Vals.rep h k)
theorem AF {α:Type} (l:List α):l.eraseIdx (l.length - 1) = l.dropLast:=by
 induction l with
 | nil=>rfl
 | cons a r ih =>
  cases r with
  | nil=>rfl
  | cons b r =>
   have e:(a :: b :: r).length - 1 = ((b :: r).length - 1) + 1:=by
    have h1:(a :: b :: r).length = r.length + 2:=rfl
    have h2:(b :: r).length = r.length + 1:=rfl
    omega
   rw [e,List.eraseIdx_cons_succ,ih]
   all_goals rfl
theorem foldl_rep (its:List Value):∀ (k:Nat) (acc:List Value),
  List.foldl (λx1 x2=>x1 ++ x2) acc.toArray (List.replicate k its.toArray) = (acc ++ (List.replicate k its).flatten).toArray
 | 0,acc=>by simp
 | k + 1,acc=>by
  have e:acc.toArray ++ its.toArray = (acc ++ its).toArray:=by simp
  have e2:(acc ++ its) ++ (List.replicate k its).flatten = acc ++ (List.replicate (k + 1) its).flatten:=by
   rw [List.replicate_succ,List.flatten_cons,List.append_assoc]
  rw [← e2,← foldl_rep its k (acc ++ its),← e,List.replicate_succ,List.foldl_cons]
section
variable {X:Cx} {pins:List (Addr × Obj)} {Z:St} {H:Hp} {s:Shared} {l b:Addr} {xs ys zs:List V}
theorem Inv.Mt {its its':List Value} {n:Nat} {f:Array Value -> Array Value} {t':Nat} (I:Inv X pins Z H s) (hH:H l = some (.lst xs))
  (e:s.heap.get? l = some { cls:=.type "list",data:=.seq its.toArray n }) (hf:f its.toArray = its'.toArray) (hv:Vals ys its') (hz:ys.length <= sizeLine) :
  Inv X pins Z (upd H l (.lst ys)) { s with heap:=s.heap.update l (Obj.mapSeq f),toks:=t' }:=by
 have q:=PySem.IsL.update e f
 rw [hf] at q
 refine I.write (x:=l) (e:=l) (by rw [hH];exact trivial) (.inl rfl) (λb' u hb hu=>(Heap.get?_update_other s.heap (Obj.mapSeq f) (Ne.symm hb)).trans hu) ⟨_,q⟩ ?_
 exact ⟨hz,its',_,hv,q⟩
theorem Inv.EL {its:List Value} {t':Nat} (I:Inv X pins Z H s) (hv:Vals ys its) (hz:ys.length <= sizeLine) :
  Inv X pins Z (upd H s.heap.objs.size (.lst ys)) { s with heap:=s.heap.push { cls:=.type "list",data:=.seq its.toArray },toks:=t' } :=
 I.laid (λ_ _ q=>Heap.get?_push_of_some _ q) (Nat.le_refl _) ⟨hz,its,0,hv,Heap.get?_push_size _ rfl⟩
theorem Inv.fresh (I:Inv X pins Z H s):H s.heap.objs.size = none:=I.hok.fresh (Nat.le_refl _)
theorem Inv.zS (I:Inv X pins Z H s) (hH:H l = some (.lst xs)):xs.length <= sizeLine /\ ∃ (its:List Value) (n:Nat),Vals xs its /\ xs.length = its.length /\ s.heap.get? l = some { cls:=.type "list",data:=.seq its.toArray n }:=by
 obtain ⟨z,its,n,r,e⟩:=I.hok l _ hH
 exact ⟨z,its,n,r,r.length,e⟩
theorem yX {n:Nat} (h:n <= sizeLine):Builtin.List.listTooLong n = false:=by
 unfold Builtin.List.listTooLong
 exact decide_eq_false (by omega)
end
section
variable {X:Cx}
def Iz:V -> List V -> Hp -> VK -> Prop:=λx vs H Q=>∃ l xs y,x = .ref l /\ vs = [y] /\ H l = some (.lst xs) /\ xs.length < sizeLine /\ Q .cM (upd H l (.lst (xs ++ [y])))
theorem bJ:OX X "list.append" Iz:=by
 intro pins s Z H x vs v us Q I rx rv h
 obtain ⟨l,xs,y,rfl,rfl,hH,hz,q⟩:=h
 cases rx
 obtain ⟨u,rfl,ru⟩:=rv.one
 obtain ⟨z,its,n,r,hl,e⟩:=I.zS hH
 refine call_meets F.slot_list_append ⟨_,e,rfl⟩ F.entry_list_append (F.args_list_append_2 _ _) (PySem.list_append l its.toArray n u (by rw [List.size_toArray];omega)) ⟨e,?_⟩
 refine ⟨.cM,_,I.Mt (its':=its ++ [u]) hH e (by simp) (r.append (.cons ru .nil)) ?_,rfl,q⟩
 rw [List.length_append,List.length_singleton]
 omega
def Ik:V -> List V -> Hp -> VK -> Prop:=λx vs H Q=>∃ l b xs zs,x = .ref l /\ vs = [.ref b] /\ H l = some (.lst xs) /\ H b = some (.lst zs) /\ xs.length + zs.length <= sizeLine /\ Q .cM (upd H l (.lst (xs ++ zs)))
theorem B9:OX X "list.extend" Ik:=by
 intro pins s Z H x vs v us Q I rx rv h
 obtain ⟨l,b,xs,zs,rfl,rfl,hH,hB,hz,q⟩:=h
 cases rx
 obtain ⟨u,rfl,ru⟩:=rv.one
 cases ru
 obtain ⟨z,its,n,r,hl,e⟩:=I.zS hH
 obtain ⟨z2,its2,n2,r2,hl2,e2⟩:=I.zS hB
 have hsz:its.toArray.size + its2.toArray.size <= sizeLine:=by rw [List.size_toArray,List.size_toArray];omega
 have hlong:¬ (!its.toArray.isEmpty && Builtin.List.listTooLong (its.toArray.size + its2.toArray.size)) = true:=by
  rw [yX hsz,Bool.and_false]
  exact Bool.false_ne_true
 refine call_meets F.slot_list_extend ⟨_,e,rfl⟩ F.entry_list_extend (F.args_list_extend_2 _ _)
  (AutoSeq1.list_extend_list_list_0 l its.toArray n b its2.toArray n2 hlong (by rw [List.size_toArray];omega) (by omega)) ⟨e,e2,?_⟩
 refine ⟨.cM,_,I.Mt (its':=its ++ its2) hH e (by simp) (r.append r2) ?_,rfl,q⟩
 rw [List.length_append]
 omega
def O5:V -> List V -> Hp -> VK -> Prop:=λx vs H Q=>∃ l xs y,x = .ref l /\ vs = [] /\ H l = some (.lst xs) /\ xs[xs.length - 1]? = some y /\ Q y (upd H l (.lst xs.dropLast))
theorem Lk:OX X "list.pop" O5:=by
 intro pins s Z H x vs v us Q I rx rv h
 obtain ⟨l,xs,y,rfl,rfl,hH,hy,q⟩:=h
 cases rx
 have hus:=rv.zero
 subst hus
 obtain ⟨z,its,n,r,hl,e⟩:=I.zS hH
 obtain ⟨u,hu,ru⟩:=r.get hy
 have hy':its.toArray[its.toArray.size - 1]? = some u:=by
  show its.toArray[its.length - 1]? = some u
  rw [← Array.getElem?_toList,← hl]
  exact hu
 refine call_meets F.slot_list_pop ⟨_,e,rfl⟩ F.entry_list_pop (F.args_list_pop_1 _) (MeetsSeq.list_pop_last l its.toArray n u hy' (by rw [List.size_toArray];omega)) ⟨e,?_⟩
 refine ⟨y,_,I.Mt (its':=its.dropLast) hH e ?_ r.dropLast ?_,ru,q⟩
 ·show its.toArray.eraseIdxIfInBounds (its.toArray.size - 1) = its.dropLast.toArray
  rw [List.size_toArray,List.eraseIdxIfInBounds_toArray,AF]
 ·rw [List.length_dropLast]
  omega
def Ph:R2:=λx y H Q=>∃ l b xs zs,x = .ref l /\ y = .ref b /\ H l = some (.lst xs) /\ H b = some (.lst zs) /\ xs.length + zs.length <= sizeLine /\ ∀ p,H p = none -> Q (.ref p) (upd H p (.lst (xs ++ zs)))
theorem i6:lP X (binaryOp .Add) Ph:=by
 intro pins s Z H x y v u Q I rx ry h
 obtain ⟨l,b,xs,zs,rfl,rfl,hH,hB,hz,q⟩:=h
 cases rx
 cases ry
 obtain ⟨z,its,n,r,hl,e⟩:=I.zS hH
 obtain ⟨z2,its2,n2,r2,hl2,e2⟩:=I.zS hB
 refine PySem.P.add_list e e2 ?_ (by rw [List.size_toArray,List.size_toArray];omega)
 have ea:its.toArray ++ its2.toArray = (its ++ its2).toArray:=by simp
 rw [ea]
 exact ⟨.ref _,_,I.EL (t':=s.toks) (r.append r2) (by rw [List.length_append];omega),rfl,q _ I.fresh⟩
def OZ:R2:=λx y H Q=>∃ l k xs,x = .ref l /\ y = .int k /\ H l = some (.lst xs) /\ -(2 ^ 63) <= k /\ k < 2 ^ 63 /\ xs.length * k.toNat <= sizeLine /\
 ∀ p,H p = none -> Q (.ref p) (upd H p (.lst (List.replicate k.toNat xs).flatten))
theorem len_rep {α:Type} (xs:List α) (k:Nat):(List.replicate k xs).flatten.length = k * xs.length:=by
 induction k with
 | zero=>simp
 | succ k ih=>rw [List.replicate_succ,List.flatten_cons,List.length_append,ih,Nat.succ_mul,Nat.add_comm]
theorem AK:lP X (binaryOp .Mult) OZ:=by
 intro pins s Z H x y v u Q I rx ry h
 obtain ⟨l,k,xs,rfl,rfl,hH,h1,h2,hz,q⟩:=h
 cases rx
 obtain ⟨t,rfl⟩:=ry
 obtain ⟨z,its,n,r,hl,e⟩:=I.zS hH
 have hlen:its.toArray.size * k.toNat <= sizeLine:=by rw [List.size_toArray,← hl];exact hz
 have hcap:¬ its.toArray.size * k.toNat > (2 ^ 63 - 1) / 8:=by
  have:(sizeLine:Nat) <= (2 ^ 63 - 1) / 8:=by decide
  omega
 have hfit:¬ (!Builtin.List.listFitsIndex k) = true:=by
  rw [fitsIndex_both h1 h2]
  exact Bool.false_ne_true
 have hlong:¬ Builtin.List.listTooLong (its.toArray.size * k.toNat) = true:=by
  rw [yX hlen]
  exact Bool.false_ne_true
 have hnew:List.foldl (λx1 x2=>x1 ++ x2) #[] (List.replicate (if its.toArray.isEmpty = true then 0 else k.toNat) its.toArray) = (List.replicate k.toNat its).flatten.toArray:=by
  have f0:∀ m:Nat,List.foldl (λx1 x2=>x1 ++ x2) #[] (List.replicate m its.toArray) = (List.replicate m its).flatten.toArray:=λm=>by
   have:=foldl_rep its m []
   rw [List.nil_append] at this
   exact this
  rw [f0]
  cases its with
  | nil=>simp
  | cons a r'=>rw [if_neg (by simp)]
 refine wpAny_binaryOp_repeat_ref (T:="list") (U:="int") (by decide) ⟨_,e,rfl⟩ (λs'=>typeIs_int s' k t) noFill_list_mul F.fills_int_mul F.slot_int_rmul repeat_list F.slot_int_index.lookup
  (call_meets F.slot_int_rmul (typeIs_int s k t) F.entry_int_rmul (F.args_int_rmul_2 _ _) (int___rmul___int_list k t l its.toArray n)
   ⟨e,rfl,⟨_,e,rfl⟩,call_meets F.slot_list_mul ⟨_,e,rfl⟩ F.entry_list_mul (F.args_list_mul_2 _ _) (AutoListH.list___mul___list_int_3 l its.toArray n k t hfit hcap hlong) ⟨e,?_⟩⟩)
 rw [hnew]
 exact ⟨.ref _,_,I.EL (t':=s.toks) (r.rep k.toNat) (by rw [len_rep,Nat.mul_comm];exact hz),rfl,q _ I.fresh⟩
end
section
variable {prog:Program} {w:World} {A:Around} {E:Value -> Shared -> Prop} {s:Shared}
set_option maxRecDepth 100000 in
end
section
variable {X:Cx}
end
end L2
namespace Att
open PySem PySem.W PySem.Calls PyProof.Rows
theorem oM {P:Params} {h:Heap}:∀ (ns:List Int) (vs:List Value),WellAll P h vs (ns.map WData.int) -> IntsAre vs ns:=by
 intro ns
 induction ns with
 | nil =>
  intro vs w
  rw [List.map_nil] at w
  cases w
  exact .nil
 | cons n ns ih =>
  intro vs w
  rw [List.map_cons] at w
  cases w with
  | cons a b =>
   cases a
   exact .cons _ _ (ih _ b)
theorem Cr {l:OpenLaw} {n:Nat} (hn:l.most = some n) {P:Params} {h:Heap} {args:List WData} {vals:List Value}
  (hpre:l.row.toRowW.claim.pre args = true) (hwl:WellAll P h vals args) :
  ∃ a vs ns,vals = [Value.ref a] /\ args = [WData.list (ns.map WData.int)] /\ h.get? a = some { cls:=.type "list",data:=.seq vs.toArray } /\ IntsAre vs ns /\ ns.length <= n:=by
 have hsh:WShape.hasAll [] args [.list .int] = true:=(pre_splitW hpre).1
 have hc:l.pre.holds [] { args:=args } = true:=(pre_splitW hpre).2
 obtain ⟨d,r,rfl,h1,h2⟩:=hasAllW_cons hsh
 obtain rfl:=hasAllW_nil h2
 obtain ⟨xs,rfl,h3⟩:=hasW_list h1
 obtain ⟨ns,rfl⟩:=items_int h3
 have hlen:ns.length <= n:=by
  unfold OpenLaw.pre at hc
  have h4:(WTm.not (.lt (.lit (.int (n:Int))) (.len (.arg 0)))).holds [] { args:=[.list (ns.map .int)] } = true:=by
   have h4:=(holds_andW hc).1
   rw [hn] at h4
   exact h4
  have h5:=condW_of h4 (w_not (w_lt w_lit (w_len_list (w_arg rfl))))
  rw [List.length_map] at h5
  refine Nat.le_of_not_lt λq=>?_
  have q':(n:Int) < ((ns.length:Nat):Int):=by omega
  first
   | (rw [decide_eq_true q'] at h5;exact absurd h5 (by decide))
   | (simp at h5;omega)
 cases hwl with
 | cons w1 w2 =>
  cases w2
  cases w1 with
  | list ho hall=>exact ⟨_,_,ns,rfl,rfl,ho,oM ns _ hall,hlen⟩
theorem Ca (l:OpenLaw) (args:List WData):l.row.toRowW.claim.post args (.bool true) args = true :=
 postW_of (r:=l.row.toRowW) (X:=(true == true))
  (show WShape.has [] (.bool true) .bool = true by first | rfl | decide | simp [WShape.has,WShape.arms,WShape.armsAll])
  (show (WTm.eq .res (.lit (.bool true))).value [] { args:=args,res:=some (.bool true),after:=args } = some (.bool (true == true)) from w_eq_bool (w_res rfl) w_lit) rfl
theorem vO {l:OpenLaw} {n:Nat} {q:Program} {loose:List Str} {XP:(Str -> Option Value) -> Heap -> Prop} {YP:World -> Heap -> Prop} {d:DefRec}
  (hn:l.most = some n) (hdf:d.params.defaults = [])
  (call:∀ (w:World) (s₀ s₁:Shared) (mg mb:Str -> Option Value) (fa:Addr) (o:Obj) (pm cd doc:Value) (a:Addr) (vs:List Value) (ns:List Int),
   Ground q loose [] XP w s₀ mg mb s₁.heap -> YP w s₁.heap ->
   s₁.heap.get? fa = some o -> o.data = .func (docDef d.name d.params d.body d.scope pm cd doc) -> s₁.heap.CodeRec cd d.name -> mg d.name = some (.ref fa) ->
   s₁.heap.get? a = some { cls:=.type "list",data:=.seq vs.toArray } -> IntsAre vs ns -> ns.length <= n -> s₁.gens = #[] ->
   codeAny (model l.prog w) callerA (.call (.ref fa) ⟨[.ref a],[]⟩) (λr s'=>r = .ok (.ret (.bool true)) /\ OldK s₁.heap s'.heap /\ s'.os = s₁.os /\ AllBare s'.gens) s₁) :
  WalkO q loose XP YP l.row.toRowW d [] (λf vs=>PySem.call f vs):=by
 intro w s₀ s₁ mg mb G Y fa o pm cd doc dV kV ho hd hcd hD hmg hg args vals as hpre hlay hrd hwl hlo
 obtain rfl:dV = .none:=Dflts.none hD hdf
 obtain rfl:kV = .none:=Dflts.noKw hD
 obtain ⟨a,vs,ns,rfl,rfl,hobj,hints,hlen⟩:=Cr hn hpre hwl
 refine enter_call (codeAny_mono (call w s₀ s₁ mg mb fa o pm cd doc a vs ns G Y ho (fd_plain hd) hcd hmg hobj hints hlen hg) λr s' hq=>?_)
 obtain ⟨rfl,h2,h3,h4⟩:=hq
 exact ⟨.inl ⟨.bool true,.bool true,[],rfl,λ_=>rfl,.bool true,Ca l _,λ_=>⟨List.Pairwise.nil,λ_ hm=>(nomatch hm)⟩⟩,h2,h3,h4⟩
section
variable {prog:Program} {w:World} {A:Around} {E:Value -> Shared -> Prop} {s:Shared} {K:Frag}
end
end Att
namespace L2
open PySem PySem.Spec PyProof.Rows
theorem sX:∀ {vs:List Value} {ns:List Int},IntsAre vs ns -> Vals (ns.map V.int) vs
 | _,_,.nil=>.nil
 | _,_,.cons n t h=>.cons ⟨t,rfl⟩ (sX h)
noncomputable def Mi (H:Hp):Prop:=∀ b,H b = none ∨ ∃ o xs,H b = some (.De o (.lst xs))
theorem DV {P:Program} {w:World} {K:PySem.W.Frag} {mg mb:Str -> Option Value} {CX:qF} {k:Nat} {fa a:Addr} {fd:FuncData} {x:Str} {sp:Sp} {s₁:Shared} {vs:List Value} {ns:List Int}
  (KX:K.In s₁.heap) (hns:s₁.heap.Ns mainGlobals mg) (hb:s₁.heap.Ns builtinsNs mb) (hbb:∀ x:Str,x ≠ "__name__" -> mb x = bootBuiltins x) (hlim:s₁.heap.NoLimit) (hg:s₁.gens = #[])
  (ha:s₁.heap.get? a = some { cls:=.type "list",data:=.seq vs.toArray }) (hi:IntsAre vs ns) (hl:ns.length <= sizeLine) (hr:eW k callerA)
  (F:∀ base:Heap,K.In base -> base.Ns mainGlobals mg -> bw P w K mg base CX k fa fd [x] sp) (hbind:∀ (s:Shared) (u:Value),BindsTo s fd ⟨[u],[]⟩ [(x,u)])
  (hsp:∀ H:Hp,Mi H -> bB K H a (ns.map V.int) -> sp [.ref a] H (λv _=>v = .bl true) λ_ _ _=>False)
  (hCX:∀ H e s',CX [] H s₁ (λ_ _ _=>False) e s' -> False) :
  codeAny (model P w) callerA (.call (.ref fa) ⟨[.ref a],[]⟩) (λr s'=>r = .ok (.ret (.bool true)) /\ OldK s₁.heap s'.heap /\ s'.os = s₁.os /\ AllBare s'.gens) s₁:=by
 have rv:=sX hi
 have lenV:=hi.length
 have core:∀ H:Hp,Mi H -> bB K H a (ns.map V.int) -> jP P w H s₁.heap -> (∀ b,H b ≠ none -> b = a) -> (H a ≠ none -> K.lookup a = none) ->
   codeAny (model P w) callerA (.call (.ref fa) ⟨[.ref a],[]⟩) (λr s'=>r = .ok (.ret (.bool true)) /\ OldK s₁.heap s'.heap /\ s'.os = s₁.os /\ AllBare s'.gens) s₁:=by
  intro H hO hS hok hA hK
  have base_of:∀ {b:Addr} {o:Obj},s₁.heap.get? b = some o -> H b = none -> (uR s₁.heap H).get? b = some o:=λe n=>Gj e n
  have noA:∀ {b:Addr} {o:Obj} {es:Array DictEntry} {ep:Nat},s₁.heap.get? b = some o -> o.data = .dict es ep -> H b = none:=λ{b o es ep} e d=>by
   cases q:H b with
   | none=>rfl
   | some u =>
    have e':b = a:=hA b (by rw [q];simp)
    subst e'
    rw [ha] at e;cases e
    have d':Data.seq vs.toArray _ = Data.dict es ep:=d
    cases d'
  have nsK:∀ {b:Addr} {m:Str -> Option Value},s₁.heap.Ns b m -> (uR s₁.heap H).Ns b m:=λ{b m} ⟨o,es,ep,e,d,r⟩=>⟨o,es,ep,base_of e (noA e d),d,r⟩
  have hKb:K.In (uR s₁.heap H):=λb o e=>base_of (KX b o e) (by
   cases q:H b with
   | none=>rfl
   | some u =>
    have e':b = a:=hA b (by rw [q];simp)
    subst e'
    rw [hK (by rw [q];simp)] at e;cases e)
  have hM:Mod K mg (uR s₁.heap H):=⟨hKb,nsK hns,⟨mb,nsK hb,hbb⟩,let ⟨mc,h1,h2⟩:=hlim;⟨mc,nsK h1,h2⟩⟩
  have e0:vt P w K mg (uR s₁.heap H) callerA [] s₁ H:=⟨rfl,hM,λb o e=>Hr e,Nat.le_of_eq (Cm _ _),trivial,λb hb=>absurd (show b ∈ ([]:List Addr) from hb) (by simp),hok,.of_eq hg⟩
  refine codeAny_mono ((F _ hKb (nsK hns)).run callerA [] s₁ H ⟨[.ref a],[]⟩ [.ref a] [.ref a] _ _ hr e0 (hbind s₁ (.ref a)) (.cons rfl .nil) (hsp H hO hS)) λr s' h=>?_
  cases r with
  | error e=>exact (hCX H e s' h).elim
  | ok fl =>
   cases fl with
   | next=>exact False.elim h
   | brk=>exact False.elim h
   | cont=>exact False.elim h
   | ret u =>
    obtain ⟨v,H',os,bare,un,hok',r',q⟩:=h
    have q':v = .bl true:=q
    subst q'
    obtain rfl:u = Value.bool true:=r'
    refine ⟨rfl,OldK.of_keep λb o e=>?_,os,bare⟩
    cases q:H b with
    | none=>exact un.keep b o e q (by intro z;exact absurd (show b ∈ ([]:List Addr) from z) (by simp)) (by simp)
    | some u =>
     rcases hO b with z | ⟨ob,xs,z⟩
     ·rw [q] at z;cases z
     ·have z2:=un.oJ b ob _ z
      obtain ⟨e1,_⟩:=hok b _ z
      obtain ⟨e2,_⟩:=hok' b _ z2
      rw [e] at e1;cases e1
      exact e2
 cases hk:K.lookup a with
 | some o =>
  have e:=KX a o hk
  rw [ha] at e
  cases e
  refine core (λ_=>none) (λ_=>.inl rfl) (.inr ⟨_,vs.toArray,_,hk,rfl,rfl,rfl,by rw [List.size_toArray,lenV];exact hl,by simpa using rv⟩) (λb u z=>by have z':(none:Option HO) = some u:=z;cases z') (λb z=>absurd rfl z) λz=>absurd rfl z
 | none =>
  refine core (λb=>if b = a then some (.De { cls:=.type "list",data:=.seq vs.toArray } (.lst (ns.map V.int))) else none) (λb=>?_) (.inl (.inr ⟨{ cls:=.type "list",data:=.seq vs.toArray },if_pos rfl⟩)) (λb u z=>?_) (λb z=>?_) λ_=>hk
  ·by_cases hb:b = a
   ·exact .inr ⟨_,_,if_pos hb⟩
   ·exact .inl (if_neg hb)
  ·by_cases hb:b = a
   ·have z':=(if_pos hb).symm.trans z
    cases z'
    subst hb
    exact ⟨ha,by rw [List.length_map];exact hl,vs,_,rv,ha⟩
   ·have z':=(if_neg hb).symm.trans z
    cases z'
  ·by_cases hb:b = a
   ·exact hb
   ·exact absurd (if_neg hb) z
end L2
namespace L2
open PySem PySem.Spec PyProof.Rows
theorem HA {l:PySem.W.OpenLaw} {n k:Nat} {q:Program} {loose:List Str} {XP:(Str -> Option Value) -> Heap -> Prop} {YP:World -> Heap -> Prop} {d:DefRec} {K:Params -> PySem.W.Frag} {CX:World -> qF} {sp:World -> Sp} {x:Str}
  (hn:l.most = some n) (hn2:n <= sizeLine) (hdf:d.params.defaults = []) (hr:eW k callerA)
  (hY:∀ (w:World) (h:Heap),YP w h -> (K w.params).In h)
  (F:∀ (w:World) (mg:Str -> Option Value) (fa:Addr) (h:Heap),(K w.params).In h -> h.Ns mainGlobals mg -> mg d.name = some (.ref fa) ->
   ∃ fd:FuncData,(∀ (s:Shared) (u:Value),BindsTo s fd ⟨[u],[]⟩ [(x,u)]) /\
    ∀ base:Heap,(K w.params).In base -> base.Ns mainGlobals mg -> bw l.prog w (K w.params) mg base (CX w) k fa fd [x] (sp w))
  (hsp:∀ (w:World) (H:Hp) (a:Addr) (ns:List Int),ns.length <= n -> Mi H -> bB (K w.params) H a (ns.map V.int) -> sp w [.ref a] H (λv _=>v = .bl true) λ_ _ _=>False)
  (hCX:∀ (w:World) (H:Hp) (s:Shared) (e:Value) (s':Shared),CX w [] H s (λ_ _ _=>False) e s' -> False) :
  PySem.W.WalkO q loose XP YP l.row.toRowW d [] (λf vs=>PySem.call f vs):=by
 refine Att.vO hn hdf λw s₀ s₁ mg mb fa o pm cd doc a vs ns G Y ho hd hcd hmg hobj hints hlen hg=>?_
 have KX:=hY w _ Y
 obtain ⟨fd,hb,hF⟩:=F w mg fa _ KX G.T.g hmg
 exact DV KX G.T.g G.T.b G.T.builtins G.T.nolimit hg hobj hints (Nat.le_trans hlen hn2) hr hF hb (λH hO hS=>hsp w H a ns hlen hO hS) λH e s'=>hCX w H s₁ e s'
end L2
namespace L2
open PySem PySem.Spec PyProof.Rows
noncomputable def inClass (s:Stmt) (j:Nat):Stmt:=match s with
 | .ClassDef _ _ _ body _ _ _ _ _ _ _=>body.getD j (.Pass ⟨0,0,0,0⟩)
 | _=>.Pass ⟨0,0,0,0⟩
def oR (s:Stmt):Arguments:=match s with
 | .FunctionDef _ a _ _ _ _ _ _ _ _=>a
 | _=>{ posonlyargs:=[],args:=[],vararg:=none,kwonlyargs:=[],kw_defaults:=[],kwarg:=none,defaults:=[] }
def jE (s:Stmt):List Stmt:=match s with
 | .FunctionDef _ _ b _ _ _ _ _ _ _=>b
 | _=>[]
def ay (s:Stmt):Scope:=match s with
 | .FunctionDef _ _ _ _ _ _ sc _ _ _=>sc
 | _=>{ kind:=.function,names:=[],isGenerator:=false,isCoroutine:=false }
abbrev dP:qF:=λ_ _ _ _ _ _=>False
abbrev E0:XK:=λ_ _ _=>False
theorem aG {X:Cx}:Passes dP X E0:=λ_ _ _ _ _ _ _ h=>h.elim
structure bG (K:PySem.W.Frag) (x qual:Str) (st:Stmt) (f:Addr) (fd:FuncData):Prop where
 ex:∃ (oc:Value) (od:Option Addr) (kV doc pm:Value) (an:Option Addr) (cdv ct:Value) (osl:Array (Option Value)),
  fd = PySem.W.fnOf x qual (oR st) (jE st) (ay st) .none kV doc pm an cdv ct /\ K.lookup f = some ⟨oc,od,.func fd,osl⟩ /\ PySem.W.codeIn K cdv qual = true
 kp:PySem.W.keepIn K (.ref f) = true
section
variable {P:Program} {w:World} {K:PySem.W.Frag} {mg:Str -> Option Value} {base:Heap}
theorem bG.ok {x qual:Str} {st:Stmt} {f:Addr} {fd:FuncData} {N ps:List Str} {k:Nat} {sp:Sp} (F:bG K x qual st f fd) (S:aD N ps (ay st)) (len:∀ vs H Q E,sp vs H Q E -> vs.length = ps.length)
  (hbody:∀ (cdv:Value) (A:Around) (outer:List Env) (s:Shared) (H:Hp) (vs:List V) (Q:VK) (E:XK),eW k (A.deeper (envOfC qual (ay st) s.heap.objs.size f cdv)) -> sp vs H Q E ->
   ∃ t,AQ (gq dP P w K mg base N qual (ay st) f cdv A outer s H E).ON (jE st) t /\ t { nx:=λ_ H'=>Q .cM H',rt:=Q } (start N vs) H):bw P w K mg base dP (k + 1) f fd ps sp:=by
 obtain ⟨oc,od,kV,doc,pm,an,cdv,ct,osl,rfl,lk,hcd⟩:=F.ex
 refine IZ lk hcd S len λA outer s H vs Q E hr hsp=>?_
 obtain ⟨t,h,q⟩:=hbody cdv A outer s H vs Q E hr hsp
 exact ⟨t,h.ON,q⟩
theorem bG.binds {x qual:Str} {st:Stmt} {f:Addr} {fd:FuncData} {ps:List Str} (F:bG K x qual st f fd)
  (h:∀ (kV doc pm:Value) (an:Option Addr) (cdv ct:Value) (us:List Value),us.length = ps.length -> bindArgs (PySem.W.fnOf x qual (oR st) (jE st) (ay st) .none kV doc pm an cdv ct) ⟨us,[]⟩ = pure (ps.zip us)):Binds K fd ps []:=by
 obtain ⟨oc,od,kV,doc,pm,an,cdv,ct,osl,rfl,lk,hcd⟩:=F.ex
 exact .all (h kV doc pm an cdv ct)
theorem Mj {x qual:Str} {st:Stmt} {f:Addr} {oc:Value} {od an:Option Addr} {osl:Array (Option Value)} {kV doc pm cdv ct:Value} (l:K.lookup f = some ⟨oc,od,.func (PySem.W.fnOf x qual (oR st) (jE st) (ay st) .none kV doc pm an cdv ct),osl⟩)
  (c:PySem.W.codeIn K cdv qual = true) (k:PySem.W.keepIn K (.ref f) = true):bG K x qual st f (PySem.W.fnOf x qual (oR st) (jE st) (ay st) .none kV doc pm an cdv ct):=⟨⟨oc,od,kV,doc,pm,an,cdv,ct,osl,rfl,l,c⟩,k⟩
end
theorem pG {A:Around} {k:Nat} (hr:eW k A):A.units + 1 < cLine:=Nat.lt_of_le_of_lt (Nat.add_le_add_left (by decide:1 <= 64) _) hr.units
section
variable {X:Cx}
theorem pv (i:Nat) {x:Str} {pos:Pos} (hN:X.N[i]? = some x:=by rfl) (hv:NG X.env.scope x:=by first | exact Or.inl rfl | exact Or.inr (Or.inl rfl) | exact Or.inr (Or.inr rfl)) (hd:(x == ("__debug__" : Str)) = false:=by decide)
  (hcd:(x == ("__classdict__" : Str)) = false:=by decide):PE X (.Name x pos) (HQ i):=J2 hN hv hd hcd
end
theorem sr {A B:Prop} (h:B):if false = true then A else B:=by
 rw [if_neg Bool.false_ne_true]
 exact h
theorem zW {A B:Prop} (h:A):if true = true then A else B:=by
 rw [if_pos rfl]
 exact h
noncomputable def au (H H':Hp):Prop:=∀ b o,H b = some o -> H' b = some o
theorem au.refl (H:Hp):au H H:=λ_ _ h=>h
theorem au.trans {H H1 H2:Hp} (a:au H H1) (b:au H1 H2):au H H2:=λc o h=>b c o (a c o h)
theorem au.free {H H':Hp} (e:au H H') {l:Addr} (h:H' l = Option.none):H l = Option.none:=by
 cases q:H l with
 | none=>rfl
 | some o =>
  rw [e l o q] at h
  cases h
theorem au.seq {K:PySem.W.Frag} {H H':Hp} {a:Addr} {xs:List V} (e:au H H') (h:bB K H a xs):bB K H' a xs:=by
 rcases h with (h | ⟨o,h⟩) | h
 ·exact .inl (.inl (e _ _ h))
 ·exact .inl (.inr ⟨o,e _ _ h⟩)
 ·exact .inr h
end L2
set_option genSizeOfSpec false
set_option maxHeartbeats 4000000
namespace PySem.W.Fast
def tw1063736572977494919:=0
def tw17004472116667110068:=0
def tw18277025617681819572:=0
def tw3612396759173829544:=0
def tw8578047193161539806:=0
def tw1303669659277781861:=0
def tw983840574776053289:=0
def tw2529957536990677048:=0
def tw6805099745495748958:=0
def tw7785654195826619140:=0
def tw6951966276787286867:=0
def tw3443570879596857500:=0
def tw16212769757415618247:=0
def tw2601698961555574183:=0
def tw8437327821958840642:=0
def tw10522893720762731739:=0
def tw868390422059666128:=0
def tw1215003188580404168:=0
def tw2915021938481231400:=0
def tw5319582353937166197:=0
def tw10601241498908738270:=0
def tw6639015297351599293:=0
def tw12168796907289925933:=0
def tw5032944274062707636:=0
def tw11318897789517042636:=0
def tw978301823934239728:=0
def tw6417925410573330407:=0
def tw10011233121421923438:=0
def tw17645137486220056735:=0
def tw1549043836631786466:=0
def tw4171098280588478014:=0
def tw9263573064027864854:=0
def tw5887934237106704479:=0
def tw17724283692761219999:=0
def tw5535868119066782500:=0
def tw10627297333200348143:=0
def tw15089819835016721734:=0
def tw5507311117447429306:=0
def tw10275028734752347327:=0
def tw13049395474093735817:=0
def tw1301966028558864016:=0
def tw17317816897981198489:=0
def tw13169925815265773634:=0
def tw6826828523483585267:=0
def tw13065184754192646350:=0
def tw4425498615399619267:=0
def tw9019370762542927990:=0
def tw2404253677776730737:=0
def tw1165925519022840095:=0
def tw9905069678459433993:=0
def tw7679701907411085145:=0
def tw14177019842897691350:=0
def tw10606971877555415350:=0
def tw17713991141921942241:=0
def tw11812764961032588122:=0
def tw8325561167409954981:=0
def tw7845154410455742258:=0
def tw13682733647089567140:=0
def tw8060480245443666819:=0
def tw11978920025622487315:=0
def tw5636939938238145722:=0
def tw17254668090769174892:=0
def tw12600176302116502003:=0
def tw1210272993515598730:=0
def tw16016008403225950970:=0
def tw651409886165543472:=0
def tw1788867265008978472:=0
def tw15658112196165944112:=0
def tw8483607711867782722:=0
def tw9534457289555415169:=0
def tw4027849560214106073:=0
def tw15309216847296838815:=0
def tw5256773230796859015:=0
def tw11953673365375410072:=0
def tw5981043213415411500:=0
def tw6628312443464316217:=0
def tw603936454248722472:=0
def tw11971489195070134389:=0
def tw9999477703966264219:=0
def tw2292447472938614909:=0
def tw9464198178478903824:=0
def tw9075378389299061563:=0
def tw13789326219274306187:=0
def tw13414109141453326719:=0
def tw3236207479658659630:=0
def tw3545411281010752444:=0
def tw13307298847966075305:=0
def tw9000243953884307086:=0
def tw15566833025991796431:=0
def tw13218321159676866529:=0
def tw1863341725344496366:=0
def tw14756010829934596230:=0
def tw13379864068086668455:=0
def tw18030244092995836165:=0
def tw5987144558222379446:=0
def tw12656465625730392687:=0
def tw2445023535638524316:=0
def tw16690875741845986120:=0
def tw1840369726048068905:=0
def tw1067842945217599952:=0
def tw604725170886856996:=0
def tw7144704477194612289:=0
def tw2857895236642804745:=0
def tw9367874475193138346:=0
def tw2645141510194883038:=0
def tw6475159181549300013:=0
def tw13946122663697542302:=0
def tw14302223698100789901:=0
def tw7679373976452452841:=0
def tw17393568131178106500:=0
def tw8983818970594813128:=0
def tw18442239463632115787:=0
def tw2588631798312730803:=0
def tw819100302716862616:=0
def tw15682732043356388690:=0
def tw7462797662376510144:=0
def tw16834731121375959383:=0
def tw5176549820792940771:=0
def tw5789034765090275319:=0
def tw8699695774206664731:=0
def tw4930270029674719174:=0
def tw13527103399556346809:=0
def tw2180521873389700298:=0
def tw12925012770301688797:=0
def tw9101232746470002538:=0
def tw14682517640826101959:=0
def tw1296139517768266956:=0
def tw6885381569201627808:=0
def tw13693551657424860372:=0
def tw5118388461699451806:=0
def tw7669477258063544075:=0
def tw13108965035677475940:=0
def tw1600898077947992984:=0
def tw994086261474894089:=0
def tw6754638193361896897:=0
def tw1676901682870912324:=0
def tw10078881913374424620:=0
def tw1447066395859056302:=0
def tw13755030440726435078:=0
def tw12227232390469752425:=0
def tw4352298378269922890:=0
def tw6256891404908727142:=0
def tw15784398597052545950:=0
def tw13086834842312886963:=0
def tw5542378357561098317:=0
def tw1930968437094337358:=0
def tw6351590065831794070:=0
def tw485577504307042342:=0
def tw4509593770491940885:=0
def tw7177947116016499473:=0
def tw9780406347842847885:=0
def tw6931248683032542:=0
def tw13273635588689121332:=0
def tw6033720730718205015:=0
def tw4713177699417849598:=0
def tw4196890267082961739:=0
def tw3293166691234815338:=0
def tw5779694461243503933:=0
def tw16716723724229260651:=0
def tw7559478195729115391:=0
def tw6118016104498591276:=0
def tw9169196110724086265:=0
def tw3414376341885456096:=0
def tw17378656395766476729:=0
def tw9753208993796141363:=0
def tw17038817628762714444:=0
def tw18284672666090219206:=0
def tw13335302922108389479:=0
def tw10660120466965319978:=0
def tw9091274589460272153:=0
def tw15309359744816127161:=0
def tw17697381844448445140:=0
def tw3250867214809126151:=0
def tw6646513144477082957:=0
def tw7524750228478127019:=0
def tw8429520475687275408:=0
def tw4168424238777821517:=0
def tw7514091037485186941:=0
def tw17351311423364009789:=0
def tw5415495013900629408:=0
def tw16369503587438237885:=0
def tw7888335519574740754:=0
def tw18174699107989451594:=0
def tw6116593430041518662:=0
def tw13523303968790630157:=0
def tw9705691499716660821:=0
def tw12848910823685238750:=0
def tw5692867168004783289:=0
def tw3506924403056899979:=0
def tw12216572157084478653:=0
def tw1347731487281646878:=0
def tw11175646214501260211:=0
def tw11681089981253349940:=0
def tw10933823104177947797:=0
def tw10081991610473130695:=0
def tw5316157288823835932:=0
def tw13610464774366725167:=0
def tw15351786045188581410:=0
def tw6595328402745798803:=0
def tw2839752111559306925:=0
def tw14313406559613812248:=0
def tw412121432559736921:=0
def tw9703979959879492831:=0
def tw6282160554864804180:=0
def tw10303963618744256394:=0
def tw4415002847027636694:=0
def tw5959939745761005759:=0
def tw12178239549077846281:=0
def tw4196906400091133745:=0
def tw6171606794773794094:=0
def tw86510244776724722:=0
def tw11163734050409753637:=0
def tw14745128274241135572:=0
def tw14143046202376967565:=0
def tw1841802972755473380:=0
def tw14213070790558044752:=0
def tw13830754473051419483:=0
def tw10111171635348581377:=0
def tw11667901240497844142:=0
def tw17914776269499736166:=0
def tw16051300392519572175:=0
def tw15778639175828902165:=0
def tw8575733194093563583:=0
def tw6689204113595468721:=0
def tw10325061589245871742:=0
def tw1772247597480826933:=0
def tw15141490914366275907:=0
def tw13731652280751011667:=0
def tw2236819212821705097:=0
def tw177753718189996145:=0
def tw3640708363041278769:=0
def tw10121559009677383594:=0
def tw4800740436740432882:=0
def tw2495872949277850484:=0
def tw1637952015702288760:=0
def tw1360796359805038797:=0
def tw8535953664868347165:=0
def tw5486386891598909895:=0
def tw5875535027726115703:=0
def tw17688065235706260418:=0
def tw7556132765779592545:=0
def tw12947802944064025989:=0
def tw504530443862012927:=0
def tw16642078191584361808:=0
def tw10397469662256753282:=0
def tw14351811057243886316:=0
def tw14696114511649262879:=0
def tw10360479058163610498:=0
def tw14485899596967580892:=0
def tw17820588240622347007:=0
def tw8879517810954707306:=0
def tw12426703697856194040:=0
def tw301516424050884153:=0
def tw4550177881027799787:=0
def tw2620353589036330585:=0
def tw10218125092752389021:=0
def tw1197633690211062888:=0
def tw10515940821953658977:=0
def tw16592061093341000651:=0
def tw14202557822642376980:=0
def tw1837411588908772277:=0
def tw1233899653361793027:=0
def tw4530467553916896402:=0
def tw12488365548108606257:=0
def tw7545164641473119966:=0
def tw7852378488937662120:=0
def tw6898161068946963279:=0
def tw16301804292248776769:=0
def tw17925006162858421832:=0
def tw5199199777050410249:=0
def tw6422259991895895067:=0
def tw8410950552725626790:=0
def tw7245027009834819212:=0
def tw11803284114897810739:=0
def tw11403933338374376596:=0
def tw14325874851057674271:=0
def tw16439139546365173521:=0
def tw12292256718965562555:=0
def tw12139317935268317002:=0
def tw3864677283631962831:=0
def tw17073194791574818712:=0
def tw17773043581312568741:=0
def tw12992619946432881967:=0
def tw17655335133099772536:=0
def tw2074535204304327906:=0
def tw12825499681949197034:=0
def tw7253634916531218800:=0
def tw5327252586255525397:=0
def tw10549873842269483592:=0
def tw17384304514308586842:=0
def tw15336885117523883801:=0
def tw141256891435847804:=0
def tw6960876316529134121:=0
def tw6811863560542466632:=0
def tw13946370684989615575:=0
def tw7124629834774130819:=0
def tw15716414405089089268:=0
def tw14100067120532129128:=0
def tw5047955502189076346:=0
def tw7675365925903764693:=0
def tw834599706566792917:=0
def tw670527516050228090:=0
def tw17370821508289536283:=0
def tw15454685303409448173:=0
def tw11684296609028838247:=0
def tw17760374363352439233:=0
def tw3289672368574221483:=0
def tw12165368235103324938:=0
def tw8324585532827487360:=0
def tw14257977235194183450:=0
def tw5296510770327518512:=0
def tw16180444984788815077:=0
def tw9127098526007507275:=0
def tw1020154484033441055:=0
def tw7337656749781596355:=0
def tw12119459168256971601:=0
def tw543448601547901358:=0
def tw3446074169322938653:=0
def tw15554907785020982516:=0
def tw371286280375511038:=0
def tw11002432488529133729:=0
def tw14489302208958777663:=0
def tw11055575722653240106:=0
def tw17799899365184395296:=0
def tw6323673877424884028:=0
def tw15738715810751242929:=0
def tw122663765168014739:=0
def tw2093487419455170727:=0
def tw11838681517668650862:=0
def tw13209676414147949727:=0
def tw5974971161425965190:=0
def tw4485591010825291954:=0
def tw5719471418047914120:=0
def tw17481529795582716679:=0
def tw1901117627812352998:=0
def tw12863358757928184624:=0
def tw15517747943239998829:=0
def tw13518671626733338223:=0
def tw807273559595196441:=0
def tw15821539185560028470:=0
def tw164965719795133083:=0
def tw16567861832461187406:=0
def tw7260704973289896223:=0
def tw4205397471663741402:=0
def tw5091824231536417865:=0
def tw7232889412687744860:=0
def tw2862177907911922093:=0
def tw3906930618719882864:=0
def tw12028127753929641733:=0
def tw16529510097088610171:=0
def tw13792077231034583145:=0
def tw4066619439607563906:=0
def tw15349098062114996662:=0
def tw7440618046474487486:=0
def tw16986731751315454634:=0
def tw6799257685867696068:=0
def tw6014490905253696018:=0
def tw7127442199375878966:=0
def tw16087136044007684001:=0
def tw8510059471113335540:=0
def tw10056922607279859607:=0
def tw5495596394385938326:=0
def tw11857068738161196996:=0
def tw17563175712501662870:=0
def tw17303654005380166466:=0
def tw16876375611754373169:=0
def tw15041203160523510851:=0
def tw15572140943983877175:=0
def tw261480948893864210:=0
def tw6257031539781212692:=0
def tw2809376148197238725:=0
def tw8290279755252051710:=0
def tw16050481891738144518:=0
def tw12874352789079430617:=0
def tw3928301348707586463:=0
def tw7669666212422147550:=0
def tw11912592613009657169:=0
def tw13751493997118827929:=0
def tw14927884171080787447:=0
def tw7650348508091160230:=0
def tw17164747061747690563:=0
def tw6044877531129197719:=0
def tw16660702598450009562:=0
def tw2859906754755237810:=0
def tw6163778107083078383:=0
def tw4596361426330866231:=0
def tw15944270153537339972:=0
def tw7950999760106107560:=0
def tw16124466684879736818:=0
def tw10153078021391656104:=0
def tw8125585586985366975:=0
def tw4107191546334187151:=0
def tw6394475887628923197:=0
def tw9131511138021506606:=0
def tw12144117826420514752:=0
def tw1054775643584142306:=0
def tw10768147328279269837:=0
def tw9915917020801871036:=0
def tw10063463663674178639:=0
def tw13680395818260478676:=0
def tw8331683319080023984:=0
def tw16158471172626457897:=0
def tw1337440216782921215:=0
def tw3960576414126214498:=0
def tw10288830904602286260:=0
def tw7511485055721448309:=0
def tw10746245269744598600:=0
def tw18023741913630344757:=0
def tw17647287511547754313:=0
def tw13464027526894578773:=0
def tw11297696139067474419:=0
def tw15166897943277528454:=0
def tw15332499369186868694:=0
def tw10024615750150198456:=0
def tw5682363320145780289:=0
def tw10768851224350879049:=0
def tw5804898004364098623:=0
def tw12857135179364510508:=0
def tw13431503322860178646:=0
def tw16706236503234230810:=0
def tw14241092646102341153:=0
def tw18330183968201422174:=0
def tw13330962751478935826:=0
def tw6972035582798750192:=0
def tw9258807763278014124:=0
def tw8933621814962756905:=0
def tw14573950431009923469:=0
def tw16428883742307573284:=0
def tw9264676104186074453:=0
def tw3587952672811038670:=0
def tw3897187551684415290:=0
def tw16429895664935795981:=0
def tw6270188805951577405:=0
def tw12910125987333383465:=0
def tw3452582751978354705:=0
def tw7817065563335224256:=0
def tw6206336348738016695:=0
def tw10083241159591733929:=0
def tw8638426443597709566:=0
def tw292214589184808663:=0
def tw10444592259150460865:=0
def tw4232616412900098282:=0
def tw10757578271772035711:=0
def tw16985970717612292781:=0
def tw12867565202690084513:=0
def tw9924548986178167252:=0
def tw11880040009432294500:=0
def tw11821153254471005069:=0
def tw15614715889979422486:=0
def tw9181301607080402304:=0
def tw7534353566705974875:=0
def tw13195876703793209453:=0
def tw2408871303190277272:=0
def tw12055821693672903009:=0
def tw8100472110411547581:=0
def tw535673630130909165:=0
def tw16434892111630054202:=0
def tw8542612898953431054:=0
def tw4374414750294073210:=0
def tw16353343854509709760:=0
def tw1799819463461379202:=0
def tw10577193820120410496:=0
def tw12921676456352032427:=0
def tw1009147268595699599:=0
def tw6262483930892131401:=0
def tw17469322097742801720:=0
def tw18237368919977618101:=0
def tw13068366116777154317:=0
def tw6780486533096334218:=0
def tw16035076776657296411:=0
def tw5441220413336036833:=0
def tw12128601695836976913:=0
def tw9227259296160512438:=0
def tw3980606608381584974:=0
def tw15753115654032389050:=0
def tw17026346163509236662:=0
def tw13303649265014049278:=0
def tw17825509527909937927:=0
def tw16619400889660558133:=0
def tw15748771898789299815:=0
def tw14378693140061348073:=0
def tw2798297439486298569:=0
def tw3245089121117099649:=0
def tw7925898184581341164:=0
def tw11183017985014982515:=0
def tw4412629517850530559:=0
def tw18416198304853908701:=0
def tw4542438273384995218:=0
def tw2161793012181507850:=0
def tw1471753151541470328:=0
def tw15724382726718234404:=0
def tw12699280208109364057:=0
def tw17859997829164214159:=0
def tw5247578260178204516:=0
def tw9504938178888329904:=0
def tw13390881201449971938:=0
def tw1614836282148490831:=0
def tw12409082210178544536:=0
def tw18316766175375621149:=0
def tw9429935407318322834:=0
def tw165074284337295948:=0
def tw14780532373408542143:=0
def tw2559311424027939219:=0
def tw9573428416076766954:=0
def tw3951037807420541836:=0
def tw1880883561688804876:=0
def tw14272610158411579166:=0
def tw3879452870470275115:=0
def tw17501314227294994739:=0
def tw2560387978669633870:=0
def tw15870627921857463592:=0
def tw8921549343578150928:=0
def tw8570003130000120376:=0
def tw17858648272633842940:=0
def tw15773272839760667282:=0
def tw5334785079706961225:=0
def tw360565477054656056:=0
def tw6800904623952602564:=0
def tw15410522818265235576:=0
def tw10706812017591429360:=0
def tw16235002992365999061:=0
def tw3515791477168854433:=0
def tw2045060235103916886:=0
def tw16815401853526585308:=0
def tw14663060318345578109:=0
def tw9075710358826082483:=0
def tw5993439717522491890:=0
def tw3694881137153729767:=0
def tw2166319670510028004:=0
def tw9866236847179774865:=0
def tw312996610164670144:=0
def tw16283596446199469607:=0
def tw6303064876449529285:=0
def tw14967217905903409578:=0
def tw8230973802523620481:=0
def tw7489204961734723894:=0
def tw13127226296752798911:=0
def tw15254023334503003693:=0
def tw9636906288225835114:=0
def tw1981488070986398559:=0
def tw14843792101034611570:=0
def tw4856285346706044371:=0
def tw9117215201648824153:=0
def tw887955633584889046:=0
def tw15173983023128380409:=0
def tw11218082242226707439:=0
def tw3014194461997587182:=0
def tw9865764621870566089:=0
def tw1870898734641223868:=0
def tw15193686251384492389:=0
def tw5031412936550571063:=0
def tw6654847610809569415:=0
def tw15033763421216944800:=0
def tw12706391349703325608:=0
def tw3750276293197803265:=0
def tw17351012900822308952:=0
def tw8438837040498353591:=0
def tw634821629790081826:=0
def tw16478672033978039699:=0
def tw8878311450600205975:=0
def tw13694842809130251300:=0
def tw14150506418609455641:=0
def tw3911919961210242529:=0
def tw6290796263985195948:=0
def tw2290655080197620618:=0
def tw14061937069398635400:=0
def tw5966341602738378057:=0
def tw5525896618825966120:=0
def tw15853325488309118227:=0
def tw9491573838171684531:=0
def tw6384988892371806856:=0
def tw14095027985442300050:=0
def tw4383323415430238365:=0
def tw17300136612531640462:=0
def tw5620038848043187490:=0
def tw18156201000260001430:=0
def tw5798640293485804321:=0
def tw3203499245017640344:=0
def tw9894423389519856267:=0
def tw4617704599219901934:=0
def tw15722000603036599351:=0
def tw761137635699644456:=0
def tw13187661758114681457:=0
def tw16039544812320168554:=0
def tw17950217699983474199:=0
def tw15450224514883930100:=0
def tw4842615253976868015:=0
def tw9180712125346483783:=0
def tw8539973672259321464:=0
def tw5286908117465975946:=0
def tw852562174866600308:=0
def tw4535910332798005592:=0
def tw159943230364928045:=0
def tw13705119597978668509:=0
def tw1252329278436588168:=0
def tw13505806074378868006:=0
def tw17315128162824812036:=0
def tw7214021602561053253:=0
def tw17230157656379148094:=0
def tw16696780773120045114:=0
def tw4112902317316580998:=0
def tw7556778975729929933:=0
def tw8571715327945112644:=0
def tw10254740017095091299:=0
def tw1901987740441291949:=0
def tw10222492050471147044:=0
def tw4219601614216259743:=0
def tw3732892421883831098:=0
def tw12541145449856406599:=0
def tw8619467477162665434:=0
def tw4390026073934651093:=0
def tw8210690491660276542:=0
def tw14081843622636815130:=0
def tw8235869695675802689:=0
def tw2069158718965986799:=0
def tw12093044265290996226:=0
def tw172726077251287284:=0
def tw15028550080515021255:=0
def tw16914011752531447113:=0
def tw4666189091531250310:=0
def tw17630625637999538133:=0
def tw9810429180097867923:=0
def tw15621605659559743560:=0
def tw8104947217196559222:=0
def tw9443970388406711809:=0
def tw4270077800586389120:=0
def tw2717339720516708723:=0
def tw373522756388849132:=0
def tw6772141716633462503:=0
def tw7586401432382846568:=0
def tw10793667726639140942:=0
def tw4457700602380944912:=0
def tw12901430457160505444:=0
def tw12465351396909940230:=0
def tw14612119633323914824:=0
def tw5659315690317924691:=0
def tw14172571601303417903:=0
def tw6411117783041997610:=0
def tw13378636694246324883:=0
def tw13444176076913600047:=0
def tw3217272851170126894:=0
def tw1523902282400914839:=0
def tw7209022177979219023:=0
def tw11922502071577669023:=0
def tw13582737597090892197:=0
def tw16435021253118350219:=0
def tw15189581292887171160:=0
def tw7068030926234556495:=0
def tw6187781328070530337:=0
def tw7851554039602157828:=0
def tw11871412278947591725:=0
def tw7807332974526817450:=0
def tw15168967806193256932:=0
def tw16497651943435757611:=0
def tw3480088834593176393:=0
def tw16323578798317026815:=0
def tw3845294004679313356:=0
def tw12373044835513449706:=0
def tw12197556966054993584:=0
def tw6404374928985731268:=0
def tw9285546437785275550:=0
def tw11302009234029449557:=0
def tw9708730841373879402:=0
def tw13988329042437890515:=0
def tw4575698214611356339:=0
def tw9234096139363857649:=0
def tw12607072667081265375:=0
def tw2608829406719590293:=0
def tw14321121431670439039:=0
def tw17121340596830042571:=0
def tw6138226163886458832:=0
def tw2779765396133244187:=0
def tw3017875179858159744:=0
def tw7521130795583385106:=0
def tw14286762536233224539:=0
def tw18228002482155877000:=0
def tw8891392776046050832:=0
def tw9783076774080806367:=0
def tw2679155719156495025:=0
def tw6176655085991866648:=0
def tw7305331671700910371:=0
def tw666811343748157656:=0
def tw17250929703347185204:=0
def tw13857926337528714717:=0
def tw15899755405818442324:=0
def tw5479445293526140200:=0
def tw8450161308522248741:=0
def tw6455582397675738182:=0
def tw11750388422851605364:=0
def tw8110528315554223674:=0
def tw13562003290023705830:=0
def tw17639252118004013701:=0
def tw8441688219359426709:=0
def tw13295634457384938175:=0
def tw12337664525089584259:=0
def tw2630002661465243632:=0
def tw3926310759015528273:=0
def tw17850290596558902778:=0
def tw6986961047326336618:=0
def tw18014939780940434495:=0
def tw8210701700994643242:=0
def tw9636367889342802767:=0
def tw15371663805096987215:=0
def tw1467450501605310857:=0
def tw11864878073503435957:=0
def tw10040240765440323725:=0
def tw17929629672089941434:=0
def tw1493698490806700611:=0
def tw9225528565610829179:=0
def tw9831027401921312924:=0
def tw11123978562568342074:=0
def tw1818483817839144442:=0
def tw2198151408538496714:=0
def tw8867511744631290944:=0
def tw6445927682358642665:=0
def tw3208538589335497180:=0
def tw1469956395221459251:=0
def tw1893832674953830225:=0
def tw509200749923641701:=0
def tw2898382763969098679:=0
def tw2073829533711221155:=0
def tw2554120671614619729:=0
def tw15306550615011720477:=0
def tw1938321999131653524:=0
def tw10152929827487698295:=0
def tw5722032625308357352:=0
def tw4800526918715645913:=0
def tw17760610917072142730:=0
def tw2416280774182018863:=0
def tw18093393529871448955:=0
def tw2679506434532748627:=0
def tw183602093240096236:=0
def tw12635478222268179596:=0
def tw12925204247642022043:=0
def tw17524295123045750598:=0
def tw12626293100450170434:=0
def tw6852871777448699340:=0
def tw17782649740519281967:=0
def tw400222413994852014:=0
def tw6176699654821422170:=0
def tw11604071039493047908:=0
def tw18296159327161066526:=0
def tw7950037920145040661:=0
def tw3221589627066406251:=0
def tw16585912817258342305:=0
def tw10163657071025154237:=0
def tw4224120334371621180:=0
def tw11850865377229115658:=0
def tw7101851093180728395:=0
def tw5969046080342853460:=0
def tw6539709892720191206:=0
def tw3540556653154456087:=0
def tw9753673720300258808:=0
def tw13990656831863789647:=0
def tw14575118217335541833:=0
def tw3103355257826926773:=0
def tw8880670034555847798:=0
def tw15885810484442245294:=0
def tw17914741022142571734:=0
def tw15084684535135076672:=0
def tw17392197025854933095:=0
def tw15886721352055169215:=0
def tw8031334605558407281:=0
def tw6701781398082791918:=0
def tw12713214555344252022:=0
def tw15874192729824829858:=0
def tw12248128181922587633:=0
def tw12356754264766594375:=0
def tw13911772078762634075:=0
def tw16273703820099250708:=0
def tw13076898546388725529:=0
def tw6183111640989145451:=0
def tw5185508583203142110:=0
def tw14821430963057561048:=0
def tw13275376130383881744:=0
def tw10271167790674836200:=0
def tw10686548009043201579:=0
def tw5263317762748560581:=0
def tw8701284891184355357:=0
def tw2775288198996330279:=0
def tw6853581198860905723:=0
def tw8201839873132138509:=0
def tw3706826394547037403:=0
def tw2515066329161490640:=0
def tw10069170414681372039:=0
def tw9678189993750914026:=0
def tw7024109874664636926:=0
def tw4799053961870895068:=0
def tw11712397701838085220:=0
def tw14139128979743036643:=0
def tw14009724847248702780:=0
def tw18442759921220878706:=0
def tw18415162103947478136:=0
def tw14141911449914247111:=0
def tw11833773331422379239:=0
def tw11492783791246843723:=0
def tw4695300466341922222:=0
def tw16792724774679089327:=0
def tw15571339218008983281:=0
def tw1728180290557298352:=0
def tw3379077374469878431:=0
def tw14347707309155889220:=0
def tw9029232699233953537:=0
def tw18305449298168919939:=0
def tw6090684027287327776:=0
def tw16133391979287323098:=0
def tw14073882617085966073:=0
def tw10098848142883306271:=0
def tw15216648568271306412:=0
def tw4414778946869097590:=0
def tw5744268193890013580:=0
def tw8655806954347035312:=0
def tw7510776571914801392:=0
def tw15729724558629796082:=0
def tw7913226287997655228:=0
def tw5923891251651908685:=0
def tw17590322307378947208:=0
def tw6502969922595549648:=0
def tw17781043567924839306:=0
def tw6391140437932939180:=0
def tw4573381778490339597:=0
def tw556379620865877129:=0
def tw5275545071469014616:=0
def tw310690669398113859:=0
def tw16895975400757691354:=0
def tw16960348175474836214:=0
def tw14669029088236435833:=0
def tw6187567088956384496:=0
def tw16304483544794241543:=0
def tw193071658540249424:=0
def tw10809935520785956086:=0
def tw3539334925204242701:=0
def tw7513760690690077799:=0
def tw8149902599920543898:=0
def tw10469466110882239754:=0
def tw6044487180454195586:=0
def tw9032726309130929838:=0
def tw2269620627876301723:=0
def tw7930760381480794916:=0
def tw12400366120920629961:=0
def tw12992241337087687586:=0
def tw2378434256805403966:=0
def tw13088959284080569201:=0
def tw12198882358632847840:=0
def tw4036358036322635772:=0
def tw13574373650352470808:=0
def tw10903183127599900785:=0
def tw14977878580046247435:=0
def tw3622329043628088627:=0
def tw9739503405949730455:=0
def tw8606001181292668865:=0
def tw3526906719805650539:=0
def tw6236145677485276750:=0
def tw14297383353765685183:=0
def tw5837557087737068211:=0
def tw14724577208149000144:=0
def tw3361360573477311679:=0
def tw13912080456526942932:=0
def tw12352959638615946817:=0
def tw16031336326720386737:=0
def tw1090103274243843214:=0
def tw13404639200247162165:=0
def tw6924847721283631851:=0
def tw4755160298112910904:=0
def tw5222189218810981857:=0
def tw3563361600062802706:=0
def tw15342349565218290155:=0
def tw3128122895585294521:=0
def tw10381869216807479028:=0
def tw15204440744074536722:=0
def tw2238162774369627024:=0
def tw7264317447406829788:=0
def tw17844729097856231298:=0
def tw14525921819118287923:=0
def tw738180223561436393:=0
def tw15504810448171431275:=0
def tw1673964798632143751:=0
def tw1707926740848565306:=0
def tw2901557988391654286:=0
def tw11351120115659527441:=0
def tw9082757446125615255:=0
def tw17692079113622371731:=0
def tw2227409415326691541:=0
def tw18375114274703016010:=0
def tw1884564194191306424:=0
def tw7885962875638260591:=0
def tw10441126409191862538:=0
def tw3090290304844271699:=0
def tw2241454453674693340:=0
def tw16512291498319709989:=0
def tw10342358713298370980:=0
def tw9221436772105004903:=0
def tw8841333558242382099:=0
def tw15550871126407228179:=0
def tw1220754276814110188:=0
def tw14817548919534827535:=0
def tw12649244597128465766:=0
def tw5705024662016652521:=0
def tw9444390912688041702:=0
def tw12395920570391597020:=0
def tw11104942064604825926:=0
def tw4196732307436727135:=0
def tw14853505521282348575:=0
def tw15935636921181980370:=0
def tw8712620593518573728:=0
def tw13312535525666605183:=0
def tw13306271127842234796:=0
def tw15554517890557259262:=0
def tw16408083397860152:=0
def tw2011277000829539233:=0
def tw6433404331250236693:=0
def tw4019330835218054679:=0
def tw11853745046773019417:=0
def tw8156009146271299097:=0
def tw4502454419732133889:=0
def tw7025471088160144073:=0
def tw7215162901800892062:=0
def tw13334563206740204518:=0
def tw6934799188091893983:=0
def tw974898483411452384:=0
def tw13796304484339520856:=0
def tw138989824876884260:=0
def tw17288033375621754252:=0
def tw13299020330206185430:=0
def tw9118593061387551800:=0
def tw14930019077225259674:=0
def tw13668729169012574553:=0
end PySem.W.Fast
namespace L2
open PySem PySem.Spec PyProof.Rows
structure vj (sc csc:Scope) (N:List Str) (x:Str) (caps:List (Str × Nat)):Prop where
 cell:∀ p ∈ csc.names,p.2 ≠ .cell
 kind:csc.kind = .function
 loc:∀ p ∈ csc.names,p.2 = .local -> csc.names.lookup p.1 = some .local
 tg:csc.names.lookup x = some .local
 free:∀ p ∈ csc.names,p.2 = .free -> sc.names.lookup p.1 = some .cell
 cap:∀ p ∈ caps,N[p.2]? = some p.1 /\ csc.names.lookup p.1 = some .free
 nd:(caps.map (·.1) ++ [x]).Nodup
def fT (env:Env):List (Str × NameKind) -> List (Str × Addr) -> List (Str × Addr)
 | [],cs=>cs
 | (n,k) :: r,cs=>fT env r (if k == .free then (n,(env.cells.lookup n).getD 0) :: cs else cs)
theorem kK {env:Env} {sc:Scope} (h:∀ p ∈ sc.names,p.2 = .free -> ∃ c,env.cells.lookup p.1 = some c):closureFor sc env = pure (fT env sc.names []):=by
 obtain ⟨kind,names,g,c⟩:=sc
 simp only [closureFor]
 have aux:∀ (l:List (Str × NameKind)) (cs:List (Str × Addr)),(∀ p ∈ l,p.2 = .free -> ∃ c,env.cells.lookup p.1 = some c) ->
   (forIn l cs (λ(x:Str × NameKind) (r:List (Str × Addr))=>if (x.2 == NameKind.free) = true then (do let a ← cellOf env x.1;pure (ForInStep.yield ((x.1,a) :: r))) else pure (ForInStep.yield r)):Sem (List (Str × Addr))) = pure (fT env l cs):=by
  intro l
  induction l with
  | nil=>intro cs _;rfl
  | cons p r ih =>
   intro cs hp
   obtain ⟨n,k⟩:=p
   rw [List.forIn_cons]
   have ih':=λcs=>ih cs (λq hq=>hp q (List.mem_cons_of_mem _ hq))
   by_cases hk:(k == NameKind.free) = true
   ·obtain ⟨c,e⟩:=hp (n,k) List.mem_cons_self (by simpa using hk)
    simp only [hk,if_true,cellOf,e,fT,pure_bind,Option.getD_some]
    exact ih' _
   ·have hk':(k == NameKind.free) = false:=by simpa using hk
    simp only [hk',if_false,fT,pure_bind,Bool.false_eq_true]
    exact ih' _
 have:=aux names [] h
 first
  | (rw [this];rfl)
  | (simp only [bind_pure];exact this)
  | (refine Eq.trans (bind_pure _) this)
theorem iS {env:Env}:∀ (l:List (Str × NameKind)) (cs:List (Str × Addr)),(∀ p ∈ l,p.2 = .free -> ∃ c,env.cells.lookup p.1 = some c) -> (∀ y c,cs.lookup y = some c -> env.cells.lookup y = some c) ->
  ∀ y c,(fT env l cs).lookup y = some c -> env.cells.lookup y = some c
 | [],_,_,h2=>h2
 | (n,k) :: r,cs,h1,h2=>by
  unfold fT
  refine iS r _ (λq hq=>h1 q (List.mem_cons_of_mem _ hq)) ?_
  by_cases hk:(k == NameKind.free) = true
  ·obtain ⟨c,e⟩:=h1 (n,k) List.mem_cons_self (by simpa using hk)
   rw [if_pos hk]
   intro y c' h
   rw [e] at h
   rw [List.lookup_cons] at h
   cases hy:y == n with
   | true=>rw [hy] at h;simp at h;rw [eq_of_beq hy,← h];exact e
   | false=>rw [hy] at h;exact h2 y c' h
  ·rw [if_neg hk];exact h2
theorem lC {env:Env}:∀ (l:List (Str × NameKind)) (cs:List (Str × Addr)) (y:Str),((y,NameKind.free) ∈ l ∨ ∃ c,cs.lookup y = some c) -> ∃ c,(fT env l cs).lookup y = some c
 | [],_,_,h=>by
  rcases h with h | h
  ·cases h
  ·exact h
 | (n,k) :: r,cs,y,h=>by
  unfold fT
  refine lC r _ y ?_
  by_cases hk:(k == NameKind.free) = true
  ·rw [if_pos hk]
   by_cases hy:(y == n) = true
   ·exact .inr ⟨_,by rw [List.lookup_cons,hy]⟩
   ·have hy':(y == n) = false:=by simpa using hy
    rcases h with h | ⟨c,h⟩
    ·rcases List.mem_cons.mp h with z | z
     ·cases z;simp at hy
     ·exact .inl z
    ·exact .inr ⟨c,by rw [List.lookup_cons,hy'];exact h⟩
  ·rw [if_neg hk]
   rcases h with h | h
   ·rcases List.mem_cons.mp h with z | z
    ·cases z;simp at hk
    ·exact .inl z
   ·exact .inr h
abbrev dX (X:Cx) (N':List Str) (csc:Scope) (C:Addr) (s2:Shared) (H2:Hp) (fp:List Addr):Cx :=
 { X with N:=N',s₀:=s2,H₀:=H2,env:=compEnvC csc (fT X.env csc.names []) C X.env,outer:=X.stack,ex:=fp,fn:=λ_=>false,pn:=[],xe:=λ_ _=>False }
def kR (caps:List (Str × Nat)) (Z:St):St:=caps.map λp=>(Z[p.2]?).join
noncomputable def BQ (J:It) (caps:List (Str × Nat)) (te:TE) (Z:St) (H1:Hp) (Q:VK):Prop:=∃ W:Nat -> Nat -> List V -> Hp -> Prop,(∃ m,W 0 m [] H1) /\ ∀ i m ys H,W i m ys H ->
 (J.stop i H /\ ∀ D,H D = none -> Q (.ref D) (upd H D (.lst ys))) ∨ (J.go i H /\ ys.length < sizeLine /\ ∀ x H',J.M6 i H x H' -> te (kR caps Z ++ [some x]) H' λy H2=>∃ m',m' < m /\ W (i + 1) m' (ys ++ [y]) H2)
noncomputable def Ds (caps:List (Str × Nat)) (wi:TI) (te:TE):TE:=λZ H Q=>wi Z H λJ H1=>BQ J caps te Z H1 Q
theorem jY {env:Env} (hk:env.scope.kind = .function):∀ {names:List (Str × NameKind)} {x:Str},(∀ p ∈ names,p.2 = .free -> env.kindOf p.1 = some .cell) -> names.lookup x = some .free ->
  (names.map λ(n,k)=>if (k == NameKind.free && env.scope.kind == .function && env.kindOf n == some .cell) then (n,NameKind.cell) else (n,k)).lookup x = some .cell
 | [],_,_,h=>by simp at h
 | (n,k) :: r,x,hf,h=>by
  have ih:=@jY env hk r x (λp hp=>hf p (List.mem_cons_of_mem _ hp))
  show List.lookup x ((if (k == NameKind.free && env.scope.kind == .function && env.kindOf n == some .cell) = true then (n,NameKind.cell) else (n,k)) :: _) = _
  cases hx:x == n with
  | true =>
   simp only [List.lookup_cons,hx] at h
   cases h
   have:=hf (n,.free) List.mem_cons_self rfl
   have hk':(env.scope.kind == ScopeKind.function) = true:=by rw [hk];rfl
   simp [List.lookup_cons,hx,this,hk']
  | false =>
   simp only [List.lookup_cons,hx] at h
   by_cases hc:(k == NameKind.free && env.scope.kind == .function && env.kindOf n == some .cell) = true
   ·rw [if_pos hc];simp only [List.lookup_cons,hx];exact ih h
   ·rw [if_neg hc];simp only [List.lookup_cons,hx];exact ih h
theorem fS {env:Env}:∀ {names:List (Str × NameKind)} {x:Str} {k':NameKind},
  (names.map λ(n,k)=>if (k == NameKind.free && env.scope.kind == .function && env.kindOf n == some .cell) then (n,NameKind.cell) else (n,k)).lookup x = some k' -> (k' = .cell ∨ k' = .free) -> (∀ p ∈ names,p.2 ≠ .cell) -> (x,NameKind.free) ∈ names
 | [],_,_,h,_,_=>by simp at h
 | (n,k) :: r,x,k',h,hk,hn=>by
  have ih:=@fS env r x k'
  have h:List.lookup x ((if (k == NameKind.free && env.scope.kind == .function && env.kindOf n == some .cell) = true then (n,NameKind.cell) else (n,k)) :: (r.map λ(n,k)=>if (k == NameKind.free && env.scope.kind == .function && env.kindOf n == some .cell) then (n,NameKind.cell) else (n,k))) = some k':=h
  cases hx:x == n with
  | true =>
   have e:x = n:=eq_of_beq hx
   subst e
   by_cases hc:(k == NameKind.free && env.scope.kind == .function && env.kindOf x == some .cell) = true
   ·have:k = .free:=by
     simp only [Bool.and_eq_true] at hc
     simpa using hc.1.1
    subst this
    exact List.mem_cons_self
   ·rw [if_neg hc] at h
    simp only [List.lookup_cons,hx] at h
    cases h
    rcases hk with z | z
    ·exact absurd z (hn _ List.mem_cons_self)
    ·subst z;exact List.mem_cons_self
  | false =>
   refine List.mem_cons_of_mem _ (ih ?_ hk λp hp=>hn p (List.mem_cons_of_mem _ hp))
   by_cases hc:(k == NameKind.free && env.scope.kind == .function && env.kindOf n == some .cell) = true
   ·rw [if_pos hc] at h;simp only [List.lookup_cons,hx] at h;exact h
   ·rw [if_neg hc] at h;simp only [List.lookup_cons,hx] at h;exact h
section
variable {X:Cx} {pins:List (Addr × Obj)} {Z:St} {H:Hp} {s:Shared}
theorem g8 (caps:List (Str × Nat)) (Z:St):(kR caps Z).length = caps.length:=by simp [kR]
theorem pB {csc:Scope} {x:Str} {caps:List (Str × Nat)} {fp:List Addr} {h4:Heap} {t4:Nat} {C:Addr} {m0:Str -> Option Value} (I:Inv X pins Z H s) (ck:vj X.env.scope csc X.N x caps) (hf:∀ b ∈ fp,se X pins H b)
  (hfs:∀ b ∈ fp,b < s.heap.objs.size) (hC:s.heap.objs.size <= C) (hk:∀ b o,s.heap.get? b = some o -> h4.get? b = some o) (hn:h4.Ns C m0) :
  Inv (dX X (caps.map (·.1) ++ [x]) csc C s H fp) [] (kR caps Z ++ [none]) H { s with heap:=h4,toks:=t4 }:=by
 have cellsOk:∀ p ∈ csc.names,p.2 = .free -> ∃ c,X.env.cells.lookup p.1 = some c:=λp hp e=>I.ok.has p.1 (.inl (ck.free p hp e))
 have inX:∀ y c,(fT X.env csc.names []).lookup y = some c -> X.env.cells.lookup y = some c:=iS _ _ cellsOk (λy c h=>by simp at h)
 have kf:∀ p ∈ csc.names,p.2 = .free -> X.env.kindOf p.1 = some .cell:=ck.free
 refine ⟨⟨I.ok.mod,ck.kind,I.ok.glob,I.ok.blt,hC,λy z c h1 h2=>I.ok.inj y z c (inX y c h1) (inX z c h2),λy hy=>?_,λy c h=>(nomatch h),I.ok.hd,I.ok.frames,.inl rfl,λb hb=>⟨?_,λy c h=>?_⟩,?_,?_,?_,?_,I.stack,I.oV⟩,rfl,I.bare,Un.kept hk,⟨m0,hn,λi y v h1 h2 h3=>?_⟩,λy c h=>?_,I.hok.fresh hC,λy c h=>I.iJ y c (inX y c h),λp hp=>absurd hp (by simp),I.hok.kept hk,?_⟩
 ·have hy':(csc.names.map λ(n,k)=>if (k == NameKind.free && X.env.scope.kind == .function && X.env.kindOf n == some .cell) then (n,NameKind.cell) else (n,k)).lookup y = some .cell ∨ (csc.names.map λ(n,k)=>if (k == NameKind.free && X.env.scope.kind == .function && X.env.kindOf n == some .cell) then (n,NameKind.cell) else (n,k)).lookup y = some .free:=hy
  refine lC _ _ y (.inl ?_)
  rcases hy' with z | z
  ·exact fS z (.inl rfl) ck.cell
  ·exact fS z (.inr rfl) ck.cell
 ·exact Nat.ne_of_lt (Nat.lt_of_lt_of_le (hfs b hb) hC)
 ·exact (hf b hb).2.2.2.2.1 y c (inX y c h)
 ·exact λb o e=>I.bs b o e
 ·exact Nat.le_trans I.ok.HN I.sz
 ·intro b o e hb
  rcases (hf b hb).2.2.2.1 with z | z
  ·exact I.ok.CC b o e z
  ·exact absurd (Nat.lt_of_lt_of_le (Heap.lt_size (I.ok.bs b o e).1) z) (Nat.lt_irrefl _)
 ·intro b hb z
  rcases List.mem_cons.mp (I.mZ b z) with e | e
  ·exact (hf b hb).2.1 e
  ·exact (hf b hb).2.2.1 e
 ·have hi:i < caps.length:=by
   by_cases hi:i < caps.length
   ·exact hi
   ·rw [List.getElem?_append_right (by rw [g8];omega),g8] at h2
    cases q:i - caps.length with
    | zero=>rw [q] at h2;simp at h2
    | succ k=>rw [q] at h2;simp at h2
  rw [List.getElem?_append_left (by rw [List.length_map];exact hi),List.getElem?_map] at h1
  rw [List.getElem?_append_left (by rw [g8];exact hi)] at h2
  unfold kR at h2
  rw [List.getElem?_map] at h2
  cases e:caps[i]? with
  | none=>rw [e] at h1;cases h1
  | some p =>
   rw [e] at h1 h2
   simp only [Option.map_some,Option.some.injEq] at h1 h2
   subst h1
   obtain ⟨hN,hfr⟩:=ck.cap p (List.mem_of_getElem? e)
   have h2':Z[p.2]? = some (some v):=by
    cases q:Z[p.2]? with
    | none=>rw [q] at h2;cases h2
    | some w=>rw [q] at h2;simp at h2;rw [h2]
   have hcX:X.env.scope.names.lookup p.1 = some .cell:=ck.free (p.1,.free) (PySem.mem_of_lookup hfr) rfl
   obtain ⟨m,_,hl⟩:=I.loc
   obtain ⟨u,r,l⟩:=hl p.2 p.1 v hN h2' (.inr (.inl hcX))
   refine ⟨u,r,?_⟩
   rcases l with ⟨k,_⟩ | ⟨_,c,hc,z⟩
   ·have k':X.env.scope.names.lookup p.1 = some .local:=k
    rw [hcX] at k';cases k'
   ·obtain ⟨c',hc'⟩:=lC (env:=X.env) csc.names [] p.1 (.inl (PySem.mem_of_lookup hfr))
    have:c' = c:=by
     have:=inX p.1 c' hc'
     rw [hc] at this
     exact (Option.some.inj this).symm
    subst this
    refine .inr ⟨.inl (jY I.ok.kind kf hfr),c',hc',?_⟩
    obtain ⟨o,ho,hd⟩:=z
    exact ⟨o,hk _ _ ho,hd⟩
 ·obtain ⟨v,o,ho,hd⟩:=I.cell y c (inX y c h)
  exact ⟨v,o,hk _ _ ho,hd⟩
 ·rw [List.length_append,g8,List.length_append,List.length_map];rfl
end
end L2
namespace L2
open PySem PySem.Spec PyProof.Rows
theorem oh {prog:Program} {w:World} {A:Around} {R:Result -> Shared -> Prop} {s:Shared} {elt target iter:Expr} {scope:Scope} {pos:Pos} {it acc:Value} {env:Env} (J:Nat -> Shared -> Prop)
  (turn:∀ n s,J n s -> wpAny (model prog w) A (pyNext it) (λr s₁=>match r with
   | none=>R (.ok .next) s₁
   | some v=>wpAny (model prog w) A (letOwnedTupleGo target it v) (λ_ s₁=>wpAny (model prog w) A (assign target env v) (λ_ s₂=>wpAny (model prog w) A (eval elt env) (λx s₃ =>
     wpAny (model prog w) A (call (.builtin "list.append") [acc,x]) (λ_ s₄=>∃ m,m < n /\ J m s₄) (λ_ _=>False) s₃)
     (λ_ _=>False) s₂) (λ_ _=>False) s₁) (λ_ _=>False) s₁) (λ_ _=>False) s)
  (n:Nat) (h:J n s) :
  codeAny (model prog w) A (.compLoop (.ListComp elt [⟨target,iter,[],0⟩] scope pos) 0 it acc env) R s:=by
 refine codeAny_loop rfl J (λn s hI=>?_) n h
 show wpAny _ _ ((compTurn (.ListComp elt [⟨target,iter,[],0⟩] scope pos) 0 it acc env).onRaise (λx=>do noteFrame x env;theTreesLotGoes x)) _ _ s
 refine wpAny_noted ?_
 rw [compTurn_list1]
 refine wpAny_bind (wpAny_standAt (wpAny_bind (wpAny_mono (turn n s hI) (λr s₁ h₁=>?_) λ_ _ h'=>h'.elim)))
 cases r with
 | none=>exact wpAny_pure h₁
 | some v =>
  refine wpAny_bind (wpAny_mono h₁ (λ_ s₁' h₁=>?_) λ_ _ h'=>h'.elim)
  exact wpAny_bind (wpAny_mono h₁ (λ_ s₂ h₂=>wpAny_bind (wpAny_bind (wpAny_mono h₂ (λx s₃ h₃=>wpAny_bind (wpAny_mono h₃
   (λ_ s₄ h₄=>wpAny_pure (wpAny_pure ⟨rfl,h₄⟩)) λ_ _ h'=>h'.elim)) λ_ _ h'=>h'.elim))) λ_ _ h'=>h'.elim)
theorem IU {a b:Nat} (h:a < b):a ≠ b:=Nat.ne_of_lt h
theorem Ia {a b:Nat} (h:a < b):a ≠ b + 1:=Nat.ne_of_lt (Nat.lt_succ_of_lt h)
theorem G6 {a:Nat}:a ≠ a + 1:=Nat.ne_of_lt (Nat.lt_succ_self a)
section
variable {X:Cx}
theorem tZ {csc:Scope} {N':List Str} {fp:List Addr} {C D:Addr} {pins pl:List (Addr × Obj)} {Z Z':St} {H H':Hp} {s s':Shared} {h':Heap} {ys:List V} {its:List Value} {n:Nat} (I:Inv X pins Z H s)
  (J:Inv (dX X N' csc C s H fp) pl Z' H' s') (hf:∀ b ∈ fp,se X pins H b) (hC:s.heap.objs.size <= C) (hD:s.heap.objs.size <= D) (hDC:D ≠ C) (hs:Heap.SameBut C s'.heap h') (hv:Vals ys its) (hz:ys.length <= sizeLine)
  (hd:s'.heap.get? D = some { cls:=.type "list",data:=.seq its.toArray n }) (hDn:H' D = none):Inv X pins Z (upd H' D (.lst ys)) { s' with heap:=h' }:=by
 have ne:∀ b o,s.heap.get? b = some o -> b ≠ C /\ b ≠ D:=λb o e=>⟨Nat.ne_of_lt (Nat.lt_of_lt_of_le (Heap.lt_size e) hC),Nat.ne_of_lt (Nat.lt_of_lt_of_le (Heap.lt_size e) hD)⟩
 have u:Un (frs X.stack) fp H H' s.heap s'.heap:=J.base
 have nDt:∀ b o,H' b = some o -> b ≠ D:=λb o e=>aq e hDn
 refine I.vW (s':={ s' with heap:=h' }) (ch:=fp) J.os ?_ ?_ J.bare λb hb=>⟨(hf b hb).2.2.2.1,(hf b hb).2.1,(hf b hb).2.2.2.2.1,(hf b hb).2.2.2.2.2⟩
 ·refine ⟨λb o q n hb he=>?_,λb o q n hb he=>?_,λb o q n he=>?_,λb o q he=>?_,λb xs q=>?_,λb o xs q=>?_,λb ps q=>?_⟩
  ·exact (hs.2 b (ne b o q).1).trans (u.keep b o q n hb he)
  ·obtain ⟨sl,e⟩:=u.slot b o q n hb he
   exact ⟨sl,(hs.2 b (ne b o q).1).trans e⟩
  ·rw [aj (ne b o q).2];exact u.free b o q n he
  ·obtain ⟨o',e⟩:=u.there b o q he
   exact ⟨o',(hs.2 b (ne b o q).1).trans e⟩
  ·have:=u.tups b xs q
   rw [aj (nDt b _ this)];exact this
  ·have:=u.oJ b o xs q
   rw [aj (nDt b _ this)];exact this
  ·obtain ⟨more,this⟩:=u.qE b ps q
   exact ⟨more,by rw [aj (nDt b _ this)];exact this⟩
 ·intro b o e
  by_cases hb:b = D
  ·subst hb
   rw [af] at e;cases e
   exact ⟨hz,its,n,hv,(hs.2 b hDC).trans hd⟩
  ·rw [aj hb] at e
   refine (J.hok b o e).stay (λc v hc q=>(hs.2 c ?_).trans q) (λc q=>by rw [aj (nDt c _ q)];exact q) λc xs q=>by rw [aj (nDt c _ q)];exact q
   have hfree:H' C = none:=J.free
   rcases hc with z | z
   ·rw [z];exact aq e hfree
   ·exact aq z hfree
theorem iO {sc csc:Scope} {N:List Str} {elt iter:Expr} {x:Str} {px pos:Pos} {caps:List (Str × Nat)} {wi:TI} {te:TE} (ck:vj sc csc N x caps) (hi:PI X (.Name x px) iter wi)
  (he:∀ C s2 H2 fp,PE (dX X (caps.map (·.1) ++ [x]) csc C s2 H2 fp) elt te) (hc:X.calm = true:=by rfl) (hsc:X.env.scope = sc:=by rfl) (hXN:X.N = N:=by rfl) (hs:∀ x,foldedSetIterable iter X.env x = pure x:=by intro _;rfl) :
  PE X (.ListComp elt [⟨.Name x px,iter,[],0⟩] csc pos) (Ds caps wi te):=by
 subst hsc hXN
 intro pins s Z H Q I h
 rw [eval_ListComp]
 have cellsOk:∀ p ∈ csc.names,p.2 = .free -> ∃ c,X.env.cells.lookup p.1 = some c:=λp hp e=>I.ok.has p.1 (.inl (ck.free p hp e))
 refine wpAny_comprehension_free (use:=none) rfl hs (kK cellsOk) ck.kind ck.loc (cS (hi pins s Z H _ I h) λv s1 h1=>cS h1 λitv s2 h2=>?_)
 obtain ⟨it,fp,tn,J,H2,e,I2,T,st2,f2,W,⟨m0,w0⟩,turn⟩:=h2
 subst e
 refine wpAny_newObj_type (wpAny_newFunctionEnv ck.cell (by intro y hy;simp at hy) (λh4 hns4 hsb4=>?_) ck.kind)
 dsimp only at hns4 hsb4 ⊢
 generalize hD:s2.heap.objs.size = D at hns4 hsb4 ⊢
 generalize hH2:s2.heap.push { cls:=.type "list",dict:=none,data:=.seq ([]:List Value).toArray } = G at hns4 hsb4 ⊢
 have hGs:G.objs.size = D + 1:=by rw [← hH2,Heap.size_push,hD]
 rw [hGs] at hns4 hsb4 ⊢
 have lt2:∀ b o,s2.heap.get? b = some o -> b < D:=λb o e=>hD ▸ Heap.lt_size e
 have old:∀ b o,s2.heap.get? b = some o -> b ≠ D + 1 /\ b ≠ D:=λb o e=>⟨Ia (lt2 b o e),IU (lt2 b o e)⟩
 have leD:s2.heap.objs.size <= D:=Nat.le_of_eq hD
 have leD1:s2.heap.objs.size <= D + 1:=Nat.le_succ_of_le leD
 have keep4:∀ b o,s2.heap.get? b = some o -> h4.get? b = some o:=λb o e=>hsb4.extBut b o (old b o e).1 (Heap.get?_push_of_some _ (hH2 ▸ Heap.get?_push_of_some _ e))
 have hDo:h4.get? D = some { cls:=.type "list",data:=.seq ([]:List Value).toArray 0 }:=by
  refine hsb4.extBut D _ G6 (Heap.get?_push_of_some _ ?_)
  rw [← hH2,← hD]
  exact Heap.get?_push_size _ rfl
 have fps:∀ b ∈ fp,b < s2.heap.objs.size:=λb hb=>by
  obtain ⟨o,e,_⟩:=T.obj _ _ st2 b hb
  exact Heap.lt_size e
 have I4:∀ t4,Inv (dX X (caps.map (·.1) ++ [x]) csc (D + 1) s2 H2 fp) [] (kR caps Z ++ [none]) H2 { s2 with heap:=h4,toks:=t4 }:=λt4=>pB (m0:=λx=>[].reverse.lookup x) I2 ck f2 fps leD1 keep4 hns4
 have cellsLt:∀ y c,(fT X.env csc.names []).lookup y = some c -> c < D:=λy c e=>by
  obtain ⟨v,o,ho,_⟩:=I2.cell y c (iS _ _ cellsOk (λy c h=>by simp at h) y c e)
  exact lt2 c o ho
 have fsLt:∀ b ∈ frs X.stack,b < D:=λb hb=>by
  obtain ⟨_,o,ho,_⟩:=I2.stack.mem hb
  exact lt2 b o ho
 have fpC:∀ {pl:List (Addr × Obj)} {H':Hp},(∀ p ∈ pl,p.1 = D) -> (∀ b ∈ fp,H' b = none) -> ∀ b ∈ fp,se (dX X (caps.map (·.1) ++ [x]) csc (D + 1) s2 H2 fp) pl H' b:=λ{pl H'} hpl hn b hb=>by
  have hb':b < D:=hD ▸ fps b hb
  refine ⟨hn b hb,Ia hb',?_,.inl hb,λy c e=>?_,λp hp=>?_⟩
  ·intro z
   rcases List.mem_cons.mp (I2.mZ b z) with e | e
   ·exact (f2 b hb).2.1 e
   ·exact (f2 b hb).2.2.1 e
  ·exact (f2 b hb).2.2.2.2.1 y c (iS _ _ cellsOk (λy c h=>by simp at h) y c e)
  ·have:p.1 = D:=hpl p (by simpa using hp)
   rw [this];exact λz=>IU hb' z.symm
 have loop:∀ t4,codeAny (model X.prog X.w) X.A (.compLoop (.ListComp elt [⟨.Name x px,iter,[],0⟩] csc pos) 0 (.ref it) (.ref D) (compEnvC csc (fT X.env csc.names []) (D + 1) X.env))
   (compPost (model X.prog X.w) X.A X.xe none (EP X pins Z Q) (.ref D) (D + 1)) { s2 with heap:=h4,toks:=t4 }:=by
  intro t4
  refine oh (λn s'=>∃ (i:Nat) (ys:List V) (its:List Value) (k:Nat) (Z':St) (H':Hp),Inv (dX X (caps.map (·.1) ++ [x]) csc (D + 1) s2 H2 fp) [(D,{ cls:=.type "list",data:=.seq its.toArray k })] Z' H' s' /\ tn i s'.heap /\ (∀ b ∈ fp,H' b = none) /\ Vals ys its /\ ys.length <= sizeLine /\ W i n ys H' /\ (∃ z,Z' = kR caps Z ++ [z])) ?_ m0 ?_
  ·rintro n s3 ⟨i,ys,its,k,Z3,H3,I3,st3,fr3,hv,hz,w3,z3,rfl⟩
   have pl1:∀ p ∈ [((D,{ cls:=.type "list",data:=.seq its.toArray k }):Addr × Obj)],p.1 = D:=λp hp=>by rw [List.mem_singleton.mp hp]
   rcases turn i n ys H3 w3 with ⟨stop,qn⟩ | ⟨go,hlt,step⟩
   ·refine wpAny_mono (T.done (dX X (caps.map (·.1) ++ [x]) csc (D + 1) s2 H2 fp) rfl rfl rfl hc i _ s3 _ H3 (λ_ _=>False) I3 (fpC pl1 fr3) st3 stop) (λr s4 ⟨hr,I4'⟩=>?_) λ_ _ f=>f.elim
    subst hr
    obtain ⟨m,hn,_⟩:=id I4'.loc
    have pD:=I4'.pin (D,{ cls:=.type "list",data:=.seq its.toArray k }) (by simp)
    refine ⟨m,hn,λh' hs'=>⟨.ref D,_,tZ I2 I4' f2 leD1 leD G6 hs' hv hz pD.1 pD.2.1,rfl,qn D pD.2.1⟩⟩
   ·refine wpAny_mono (T.item (dX X (caps.map (·.1) ++ [x]) csc (D + 1) s2 H2 fp) rfl rfl rfl hc i _ s3 _ H3 (λ_ _=>False) I3 (fpC pl1 fr3) st3 go) (λr s4 ⟨u,hr,h4'⟩=>?_) λ_ _ f=>f.elim
    subst hr
    refine wpAny_mono h4' (λ_ s4 ⟨xv,H5,I5,r5,y5,st5,fr5⟩=>?_) λ_ _ f=>f.elim
    have I5':=I5.pinned (fpC pl1 fr5) (T.obj _ _ st5)
    have hiN:(caps.map (·.1) ++ [x])[caps.length]? = some x:=by rw [List.getElem?_append_right (by simp)];simp
    refine wpAny_mono (bK (X:=dX X (caps.map (·.1) ++ [x]) csc (D + 1) s2 H2 fp) (i:=caps.length) ck.nd hiN (.inl (lookup_relabel_local ck.tg)) (.inr (lookup_relabel_local ck.tg)) _ s4 _ H5 xv u _ I5' r5 (show sY caps.length xv _ H5 (λZ6 H6=>Z6 = kR caps Z ++ [some xv] /\ H6 = H5) from ⟨?_,rfl⟩)) (λ_ s6 ⟨Z6,H6,I6,hZ,hH⟩=>?_) λ_ _ f=>f.elim
    ·rw [List.set_append_right _ _ (by rw [g8];exact Nat.le_refl _),g8,Nat.sub_self];rfl
    subst hZ hH
    refine wpAny_mono (he (D + 1) s2 H2 fp _ s6 _ H6 _ I6 (step xv H6 y5)) (λw7 s7 ⟨y,H7,I7,r7,m',hm,w8⟩=>?_) λ_ _ f=>f.elim
    have pD:=I7.pin (D,{ cls:=.type "list",data:=.seq its.toArray k }) (by simp)
    have hll:=hv.length
    refine call_meets F.slot_list_append ⟨_,pD.1,rfl⟩ F.entry_list_append (F.args_list_append_2 _ _) (PySem.list_append D its.toArray k w7 (by rw [List.size_toArray];omega)) ⟨pD.1,?_⟩
    have q:=PySem.IsL.update pD.1 (·.push w7)
    have hpush:its.toArray.push w7 = (its ++ [w7]).toArray:=by simp
    rw [hpush] at q
    obtain ⟨k',q⟩:∃ k',(s7.heap.update D (Obj.mapSeq (·.push w7))).get? D = some { cls:=.type "list",data:=.seq (its ++ [w7]).toArray k' }:=⟨_,q⟩
    have I7u:Inv (dX X (caps.map (·.1) ++ [x]) csc (D + 1) s2 H2 fp) (kq fp s4.heap) _ H7 s7:=I7.gT λp hp=>I7.pin p (List.mem_append_right _ (List.mem_append_right _ hp))
    have pfp:∀ p ∈ kq fp s4.heap,p.1 < D:=λp hp=>hD ▸ fps p.1 (nA hp).1
    have I8:=I7u.turned (h':=s7.heap.update D (Obj.mapSeq (·.push w7))) (t':=s7.toks) (it:=D) (λb o hb e=>(Heap.get?_update_other s7.heap _ (Ne.symm hb)).trans e) pD.2.1 G6 (.inr leD) (λy c e=>IU (cellsLt y c e)) (λp hp=>IU (pfp p (by simpa using hp)))
    refine ⟨m',hm,i + 1,ys ++ [y],its ++ [w7],k',_,H7,I8.gT λp hp=>?_,T.keep _ _ _ st5 λb hb o e=>(I8.pin (b,o) (List.mem_append_right _ (gM hb e))).1,λb hb=>?_,hv.append (.cons r7 .nil),?_,w8,_,rfl⟩
    ·rw [List.mem_singleton.mp hp]
     exact ⟨q,pD.2.1,pD.2.2.1,pD.2.2.2.1,λv=>by simp⟩
    ·obtain ⟨o,e,d⟩:=T.obj _ _ st5 b hb
     exact (I8.pin (b,o) (List.mem_append_right _ (gM hb e))).2.1
    ·rw [List.length_append,List.length_singleton];omega
  ·refine ⟨0,[],[],0,_,H2,(I4 t4).gT λp hp=>?_,T.keep _ _ _ st2 λb hb o e=>keep4 b o e,λb hb=>(f2 b hb).1,.nil,Nat.zero_le _,w0,_,rfl⟩
   rw [List.mem_singleton.mp hp]
   refine ⟨hDo,I2.hok.fresh leD,G6,λz=>absurd (fsLt D z) (Nat.lt_irrefl _),λv=>by simp⟩
 exact codeAny_compStart_list (loop _) (T.self _ 0 _ _ _ (T.keep _ _ _ st2 λb hb o e=>keep4 b o e) (loop _))
end
end L2
namespace L2
open PySem PySem.Spec PyProof.Rows
section
variable {X:Cx}
theorem Aj {ys:List Str}:∀ {us:List Value},Vals (ys.map V.str) us -> StrsAre us ys:=by
 induction ys with
 | nil=>intro us r;cases r;exact .nil
 | cons y r ih =>
  intro us h
  cases h with
  | cons h t =>
   obtain ⟨k,rfl⟩:=h
   exact .cons _ _ (ih t)
def rJoin (K:PySem.W.Frag):V -> List V -> Hp -> VK -> Prop:=λx vs H Q=>∃ z p ys,x = .str z /\ vs = [.ref p] /\ bB K H p (ys.map V.str) /\ (ys.map (·.length)).sum + ys.length * z.length <= 16777216 /\ Q (.str (Txt.join z ys)) H
theorem mS:M3 X "str.join" (rJoin X.K):=by
 intro pins s Z H x vs v us Q I rx rv h
 obtain ⟨z,p,ys,rfl,rfl,hq,hz,q⟩:=h
 obtain ⟨t,rfl⟩:=rx
 obtain ⟨u,rfl,ru⟩:=rv.one
 cases ru
 obtain ⟨its,r,pl,_⟩:=I.list hq
 exact PyProof.Rows.join_list pl.isList (by simpa using Aj r) hz λt' k=>⟨.str _,H,I.tok _,⟨_,rfl⟩,q⟩
def zA:V -> List V -> Hp -> VK -> Prop:=λx vs H Q=>∃ a b i,x = .str a /\ vs = [.str b,.int i] /\ Q (.bl (fromIndex a.length i + b.length <= a.length && Builtin.Str.subAt a b (fromIndex a.length i))) H
theorem zO:M3 X "str.startswith" zA:=by
 intro pins s Z H x vs v us Q I rx rv h
 obtain ⟨a,b,i,rfl,rfl,q⟩:=h
 obtain ⟨t,rfl⟩:=rx
 obtain ⟨u,w',rfl,ru,rw'⟩:=rv.two
 obtain ⟨t1,rfl⟩:=ru
 obtain ⟨t2,rfl⟩:=rw'
 exact call_gives F.slot_str_startswith (typeIs_str _ _ _) F.entry_str_startswith (F.args_str_startswith_3 _ _ _) (gives_str_startswith_from a b i t t1 t2) ⟨.bl _,H,I,rfl,q⟩
def wJ:V -> List V -> Hp -> VK -> Prop:=λx vs H Q=>∃ a b,x = .str a /\ vs = [.str b] /\ Q (.bl (0 + b.length <= a.length && Builtin.Str.subAt a b 0)) H
theorem pM:M3 X "str.startswith" wJ:=by
 intro pins s Z H x vs v us Q I rx rv h
 obtain ⟨a,b,rfl,rfl,q⟩:=h
 obtain ⟨t,rfl⟩:=rx
 obtain ⟨u,rfl,ru⟩:=rv.one
 obtain ⟨t1,rfl⟩:=ru
 exact call_gives F.slot_str_startswith (typeIs_str _ _ _) F.entry_str_startswith (F.args_str_startswith_2 _ _) (gives_str_startswith a b t t1) ⟨.bl _,H,I,rfl,q⟩
def r9 (z:Str):List V:=z.cps.toList.map λc=>V.str ⟨#[c]⟩
theorem Aq {z:Str} {acc:Array Value} (h:ItemsOf (SignAt z) acc z.cps.size):Vals (r9 z) acc.toList:=by
 obtain ⟨hs,hi⟩:=h
 have aux:∀ (cs:List Nat) (us:List Value),us.length = cs.length -> (∀ (i:Nat) (v:Value),us[i]? = some v -> ∃ c u,cs[i]? = some c /\ v = Value.str ⟨#[c]⟩ u) -> Vals (cs.map λc=>V.str ⟨#[c]⟩) us:=by
  intro cs
  induction cs with
  | nil=>intro us hl _;cases us with
   | nil=>exact .nil
   | cons _ _=>cases hl
  | cons c r ih =>
   intro us hl h
   cases us with
   | nil=>cases hl
   | cons u r' =>
    refine .cons ?_ (ih r' (by simpa using hl) λi v e=>h (i + 1) v (by simpa using e))
    obtain ⟨c',t,e,z⟩:=h 0 u rfl
    simp at e
    subst e
    exact ⟨t,z⟩
 refine aux _ _ (by simp [hs]) λi v e=>?_
 obtain ⟨c,u,e1,e2⟩:=hi i v (by simpa using e)
 exact ⟨c,u,by simpa using e1,e2⟩
theorem AS (hc:X.calm = true):ju X (.type "list") (λxs H Q=>∃ z:Str,xs = [.str z] /\ z.length <= sizeLine /\ ∀ l,H l = none -> Q (.ref l) (upd H l (.lst (r9 z)))):=by
 intro pins s Z H xs us Q I r h
 obtain ⟨z,rfl,hz,q⟩:=h
 obtain ⟨u,rfl,rx⟩:=vals1 r
 obtain ⟨t,rfl⟩:=rx
 refine PySem.call_list_str (I.ok.hd hc) z t (λh' tk acc' c' kp e hi=>?_) hz
 have hv:=Aq hi
 exact ⟨.ref s.heap.objs.size,_,I.laid (t':=tk) kp (Nat.le_refl _) (show di X.prog X.w _ h' _ (.lst (r9 z)) from ⟨by simp only [r9,List.length_map,Array.length_toList];exact hz,acc'.toList,c',hv,by simpa using e⟩),rfl,q _ (I.hok.fresh (Nat.le_refl _))⟩
end
end L2
namespace L2
open PySem PySem.Spec PyProof.Rows
noncomputable def At (X:Cx) (D:Ends) (sts:List Stmt) (Z:St) (H:Hp):Prop:=∀ (pins:List (Addr × Obj)) (s:Shared),Inv X pins Z H s -> wpAny (model X.prog X.w) X.A (execs sts X.env) (SP X pins D) X.xe s
section
variable {X:Cx} {D:Ends} {st:Stmt} {rest sts:List Stmt} {t:TS} {Z:St} {H:Hp}
theorem ak:AQ X sts (λD Z H=>At X D sts Z H):=λpins s Z H D I h=>h pins s I
theorem aX (h:D.nx Z H):At X D [] Z H:=λ_ _ I=>wpAny_execs_nil ⟨Z,H,I,h⟩
theorem av (h:PS X st t) (q:t { D with nx:=λZ H=>At X D rest Z H } Z H):At X D (st :: rest) Z H:=λpins s I =>
 (yQ h ak) pins s Z H D I q
theorem ao (h:PS X st t) (q:t D Z H):At X D [st] Z H:=λpins s I=>(Ih h) pins s Z H D I q
theorem uI (h:At X D sts Z H):∃ t,AQ X sts t /\ t D Z H:=⟨λD' Z' H'=>D' = D /\ Z' = Z /\ H' = H,λpins s Z' H' D' I ⟨e1,e2,e3⟩=>by subst e1 e2 e3;exact h pins s I,rfl,rfl,rfl⟩
end
theorem cI {c:Prop} [Decidable c] {A B:Prop} (h1:c -> A) (h2:¬ c -> B):if decide c = true then A else B:=by
 by_cases h:c
 ·rw [decide_eq_true h];exact h1 h
 ·rw [decide_eq_false h];exact h2 h
theorem iB {c:Prop} [Decidable c] {A B:Prop} (h1:¬ c -> A) (h2:c -> B):if (!decide c) = true then A else B:=by
 by_cases h:c
 ·rw [decide_eq_true h];exact h2 h
 ·rw [decide_eq_false h];exact h1 h
theorem N8 {c:Bool} {A B:Prop} (h1:c = true -> A) (h2:c = false -> B):if c = true then A else B:=by
 cases c
 ·exact h2 rfl
 ·exact h1 rfl
theorem NX {c:Bool} {A B:Prop} (h1:c = false -> A) (h2:c = true -> B):if (!c) = true then A else B:=by
 cases c
 ·exact h1 rfl
 ·exact h2 rfl
theorem au.upd {H:Hp} {p:Addr} {o:HO} (h:H p = none):au H (upd H p o):=λb u e=>by rw [aj (aq e h)];exact e
theorem au.to {H H1:Hp} {p:Addr} {o:HO} (s:au H H1) (h:H1 p = none):au H (L2.upd H1 p o):=s.trans (au.upd h)
theorem bB.same {K:PySem.W.Frag} {H H':Hp} {a:Addr} {xs:List V} (h:bB K H a xs) (e:au H H'):bB K H' a xs:=e.seq h
section
variable {X:Cx} {C:Addr} {x:Str} {p pos:Pos}
noncomputable def Du (C:Addr):TE:=λ_ H Q=>∀ x dx,H x = none -> H dx = none -> dx ≠ x -> Q (.ref x) (upd (upd H dx (.own x)) x (.ins C dx []))
end
end L2
namespace L2
open PySem PySem.Spec PyProof.Rows
section
variable {X:Cx} {C:Addr} {x:Str} {p pos:Pos}
structure OR (K:PySem.W.Frag) (C:Addr):Prop where
 makes:PySem.W.makesIn K C = true
 init:PySem.W.findIn K (.ref C) "__init__" = some (some (.builtin "object.__init__"))
 kp:PySem.W.keepIn K (.ref C) = true
theorem rj (M:OR X.K C) (hg:Gl X x) (hm:X.mg x = some (.ref C)) (hdb:(x == ("__debug__" : Str)) = false:=by decide):PE X (.Call (.Name x p) [] [] pos) (Du C):=by
 intro pins s Z H Q I h
 refine wpAny_Call_Name_kw (gQ I hg hm ?_ hdb)
 refine PySem.W.callWith_K0 I.jA M.kp (wpAny_call ?_)
 have hq:=h (s.heap.objs.size + 1) s.heap.objs.size (I.hok.fresh (Nat.le_succ _)) (I.hok.fresh (Nat.le_refl _)) (Nat.ne_of_lt (Nat.lt_succ_self _))
 have I2:=Inv.made (C:=C) I
 have Y:=PySem.W.makes_of (M:=model X.prog X.w) I.jA M.makes
 refine CT I.jA M.makes M.init (λself=>PySem.W.Looks.of_pure (PySem.W.oi_bind self)) ?_
 obtain ⟨hh,g,d,t,os⟩:=s
 have e2:((hh.push PySem.W.emptyDict).push (PySem.W.instObj C hh.objs.size)).get? (hh.objs.size + 1) = some (PySem.W.instObj C hh.objs.size):=by
  have:=Heap.get?_push_size (hh.push PySem.W.emptyDict) (o:=PySem.W.instObj C hh.objs.size) rfl
  rwa [Heap.size_push] at this
 have t1:PySem.W.Looks (model X.prog X.w) ((hh.push PySem.W.emptyDict).push (PySem.W.instObj C hh.objs.size)) (typeOf (.ref (hh.objs.size + 1))) (.ref C):=(PySem.W.Looks.ld e2).andThen .now
 have t2:PySem.W.Looks (model X.prog X.w) ((hh.push PySem.W.emptyDict).push (PySem.W.instObj C hh.objs.size)) (isInstance (.ref (hh.objs.size + 1)) (.type "object")) true:=t1.andThen (Y.top.keeps λb o e=>Heap.get?_push_of_some _ (Heap.get?_push_of_some _ e))
 refine codeAny_call_builtin PySem.W.oi_plain PySem.W.entry_oi (@PySem.W.check_slot (model X.prog X.w) _ _ _ "object.__init__" "object" "__init__" (.ref (hh.objs.size + 1)) [] [] _ PySem.W.oi_kind PySem.W.oi_split t2 (PySem.W.oi_args (.ref (hh.objs.size + 1))) ?_)
 rw [PySem.W.oi_run]
 exact wpAny_pure ⟨rfl,⟨V.ref (hh.objs.size + 1),_,I2,rfl,hq⟩⟩
end
end L2
namespace L2
open PySem PySem.Spec PyProof.Rows
section
variable {X:Cx}
def OF:V -> Option Int -> Option Int -> Hp -> VK -> Prop:=λx lo hi H Q=>∃ z,x = .str z /\ z.length <= sizeLine /\ Q (.str (Txt.slice z lo hi)) H
theorem part_of {v:Value} {o:Option Int} (h:IsPart v o):∃ l:Option (Int × Tok),v = partValue l /\ l.map (·.1) = o:=by
 cases h with
 | none=>exact ⟨none,rfl,rfl⟩
 | int i t=>exact ⟨some (i,t),rfl,rfl⟩
theorem DE:Pd X OF:=by
 intro pins s Z H x v vl vu lo hi sl Q I rx hs pl pu h
 obtain ⟨z,rfl,hz,q⟩:=h
 obtain ⟨t,rfl⟩:=rx
 obtain ⟨l,rfl,rfl⟩:=part_of pl
 obtain ⟨u,rfl,rfl⟩:=part_of pu
 refine ⟨"str",_,F.slot_str_getitem.lookup,typeIs_str _ _ _,wpAny_getItem_str_slice (l:=l) (u:=u) (st:=none) (by obtain ⟨o,e,c,d⟩:=hs;exact ⟨o,e,c,d⟩) rfl ?_⟩
 exact post_val_or_str ⟨Nat.le_trans (Txt.slice_le z _ _) hz,λt' k=>⟨.str _,H,I.tok _,⟨t',rfl⟩,q⟩⟩
end
end L2
namespace L2
open PySem PySem.Spec PyProof.Rows
section
variable {X:Cx} {D:Ends} {st:Stmt} {rest sts:List Stmt} {t:TS} {Z:St} {H:Hp}
theorem aF (R:St -> Hp -> Prop) (h:PS X st t) (q:t { D with nx:=R } Z H) (r:∀ Z H,R Z H -> At X D rest Z H):At X D (st :: rest) Z H:=λpins s I =>
 (yQ h (u:=λD' Z H=>D' = D /\ R Z H) (λpins s Z H D' I ⟨e,z⟩=>by subst e;exact r Z H z pins s I)) pins s Z H D I (by
  have e:(λZ H=>D = D /\ R Z H) = R:=by funext Z H;simp
  show t { D with nx:=λZ H=>D = D /\ R Z H } Z H
  rw [e];exact q)
theorem Lp {CX:qF} {P:Program} {w:World} {K:PySem.W.Frag} {mg:Str -> Option Value} {base:Heap} {N:List Str} {qual:Str} {scope:Scope} {f:Addr} {cd:Value} {A:Around} {outer:List Env} {s:Shared} {H:Hp} {E:XK} :
  (gq CX P w K mg base N qual scope f cd A outer s H E).K = K:=rfl
end
end L2
namespace L2
open PySem PySem.Spec PyProof.Rows
theorem lK {caps:List (Str × Nat)} {lo:Int} {n:Nat} {te:TE} {Z:St} {H:Hp} {Q:VK} (Pv:Nat -> List V -> Hp -> Prop) (h0:Pv 0 [] H) (hn:n < sizeLine)
  (hs:∀ i ys H,i < n -> ys.length = i -> Pv i ys H -> te (kR caps Z ++ [some (.int (lo + i))]) H λy H2=>∃ m',m' < n - i /\ m' = n - (i + 1) /\ i + 1 <= n /\ (ys ++ [y]).length = i + 1 /\ Pv (i + 1) (ys ++ [y]) H2) (hd:∀ ys H,ys.length = n -> Pv n ys H -> ∀ D,H D = none -> Q (.ref D) (upd H D (.lst ys))) :
  BQ (Je lo n) caps te Z H Q:=by
 refine ⟨λi m ys H=>m = n - i /\ i <= n /\ ys.length = i /\ Pv i ys H,⟨n,by simp,Nat.zero_le _,rfl,h0⟩,?_⟩
 rintro i m ys H ⟨rfl,hi,hl,p⟩
 by_cases hlt:i < n
 ·refine .inr ⟨hlt,by omega,λx H' y=>?_⟩
  obtain ⟨e,y⟩:=y
  subst e y
  exact hs i ys _ hlt hl p
 ·have e:i = n:=by omega
  subst e
  exact .inl ⟨Nat.le_refl _,hd ys H hl p⟩
theorem iU {K:PySem.W.Frag} {a:Addr} {xs:List V} {caps:List (Str × Nat)} {te:TE} {Z:St} {H:Hp} {Q:VK} (Pv:Nat -> List V -> Hp -> Prop) (h0:Pv 0 [] H) (hn:xs.length < sizeLine)
  (hq:∀ i ys H,i <= xs.length -> Pv i ys H -> bB K H a xs)
  (hs:∀ i x ys H,xs[i]? = some x -> ys.length = i -> Pv i ys H -> te (kR caps Z ++ [some x]) H λy H2=>∃ m',m' < xs.length - i /\ m' = xs.length - (i + 1) /\ i + 1 <= xs.length /\ (ys ++ [y]).length = i + 1 /\ Pv (i + 1) (ys ++ [y]) H2) (hd:∀ ys H,ys.length = xs.length -> Pv xs.length ys H -> ∀ D,H D = none -> Q (.ref D) (upd H D (.lst ys))) :
  BQ (LD K a) caps te Z H Q:=by
 refine ⟨λi m ys H=>m = xs.length - i /\ i <= xs.length /\ ys.length = i /\ Pv i ys H,⟨xs.length,by simp,Nat.zero_le _,rfl,h0⟩,?_⟩
 rintro i m ys H ⟨rfl,hi,hl,p⟩
 have q:=hq i ys H hi p
 by_cases hlt:i < xs.length
 ·refine .inr ⟨⟨xs,xs[i],q,by simp [hlt]⟩,by omega,λx H' y=>?_⟩
  obtain ⟨e,y⟩:=y
  subst e
  exact hs i x ys _ (y xs q) hl p
 ·have e:i = xs.length:=by omega
  subst e
  exact .inl ⟨⟨xs,q,Nat.le_refl _⟩,hd ys H hl p⟩
theorem ez {n i:Nat} {ys:List V} {y:V} {R:Prop} (hi:i < n) (hl:ys.length = i) (r:R):∃ m',m' < n - i /\ m' = n - (i + 1) /\ i + 1 <= n /\ (ys ++ [y]).length = i + 1 /\ R :=
 ⟨n - (i + 1),by omega,rfl,hi,by simp [hl],r⟩
theorem lH {α:Type} (xs:List α) {i:Int} (h0:0 <= i) (h1:i < xs.length):∃ v,xs[i.toNat]? = some v /\ vF xs i = some v:=by
 have h3:i.toNat < xs.length:=by omega
 refine ⟨xs[i.toNat],List.getElem?_eq_getElem h3,?_⟩
 have q:=bq (xs:=xs) (List.getElem?_eq_getElem h3)
 rw [Int.toNat_of_nonneg h0] at q
 exact q
theorem ja (a:Int) {m:Int} (h:0 < m):0 <= a % m /\ a % m < m:=⟨Int.emod_nonneg _ (by omega),Int.emod_lt_of_pos _ h⟩
theorem bI {n:Nat} (h:n <= 1000000):n <= sizeLine:=Nat.le_trans h (by decide)
theorem dw {n:Nat} (h:n <= 1000000):n < sizeLine:=Nat.lt_of_le_of_lt h (by decide)
theorem HY {K:PySem.W.Frag} {i:Nat} {f:Str} {Z:St} {H:Hp} {Q:VK} {a C dx:Addr} {fs:List (Str × V)} {v:V} (e:Z[i]? = some (some (.ref a))) (h:H a = some (.ins C dx fs)) (c:oi K C) (n:bQ K C f) (l:fs.lookup f = some v) (q:Q v H):KW K (HQ i) f Z H Q :=
 ⟨_,e,a,C,dx,fs,v,rfl,h,c,n,l,q⟩
noncomputable def Ib (J:It) (g:TG) (tb:TS) (D:Ends) (Z:St) (H1:Hp):Prop:=∃ W:Nat -> Nat -> St -> Hp -> Prop,(∃ m,W 0 m Z H1) /\ ∀ i m Z H,W i m Z H ->
 (J.stop i H /\ D.nx Z H) ∨ (J.go i H /\ ∃ N:St -> Hp -> Prop,(∀ Z' H',N Z' H' -> ∃ m',m' < m /\ W (i + 1) m' Z' H') /\ ∀ x H',J.M6 i H x H' -> g x Z H' λZ2 H2=>tb { D with nx:=N,ct:=N,bk:=D.nx } Z2 H2)
noncomputable def OH (wi:TI) (g:TG) (tb:TS):TS:=λD Z H=>wi Z H λJ H1=>Ib J g tb D Z H1
theorem dQ {X:Cx} {tg iter:Expr} {body:List Stmt} {wi:TI} {g:TG} {tb:TS} {pos:Pos} (hp:PassesOwn (model X.prog X.w) X.A X.env X.xe) (hc:X.calm = true) (hi:PI X tg iter wi) (hg:PG X tg g) (hb:AQ X body tb)
  (hs:∀ x,foldedSetIterable iter X.env x = pure x:=by intro _;rfl):PS X (.For tg iter body [] pos) (OH wi g tb):=MZ hp hc hi hg hb hs
theorem jc {lo:Int} {n:Nat} {g:TG} {tb:TS} {D:Ends} {Z:St} {H:Hp} (Pv:Nat -> St -> Hp -> Prop) (h0:Pv 0 Z H)
  (hs:∀ i Z H,i < n -> Pv i Z H -> g (.int (lo + i)) Z H λZ2 H2=>tb { D with nx:=Pv (i + 1),ct:=Pv (i + 1),bk:=D.nx } Z2 H2) (hd:∀ Z H,Pv n Z H -> D.nx Z H):Ib (Je lo n) g tb D Z H:=CP Pv h0 hs hd
theorem e8 {K:PySem.W.Frag} {a:Addr} {xs:List V} {g:TG} {tb:TS} {D:Ends} {Z:St} {H:Hp} (Pv:Nat -> St -> Hp -> Prop) (h0:Pv 0 Z H) (hl:∀ i Z H,i <= xs.length -> Pv i Z H -> bB K H a xs)
  (hs:∀ i x Z H,xs[i]? = some x -> Pv i Z H -> g x Z H λZ2 H2=>tb { D with nx:=Pv (i + 1),ct:=Pv (i + 1),bk:=D.nx } Z2 H2) (hd:∀ Z H,Pv xs.length Z H -> D.nx Z H):Ib (LD K a) g tb D Z H:=FJ Pv h0 hl hs hd
end L2
namespace L2
open PySem PySem.Spec PyProof.Rows
section
variable {κ:Type} [DecidableEq κ]
def jd (kvs:List (κ × V)) (k:κ):Option V:=(kvs.find? λkv=>decide (kv.1 = k)).map (·.2)
def putK (kvs:List (κ × V)) (k:κ) (v:V):List (κ × V) :=
 if (kvs.any λkv=>decide (kv.1 = k)) = true then kvs.map (λkv=>if kv.1 = k then (kv.1,v) else kv) else kvs ++ [(k,v)]
theorem eT {p:κ × V} {r:List (κ × V)} {k:κ} (e:p.1 = k):jd (p :: r) k = some p.2:=by simp [jd,List.find?_cons,e]
theorem eS {p:κ × V} {r:List (κ × V)} {k:κ} (e:¬ p.1 = k):jd (p :: r) k = jd r k:=by simp [jd,List.find?_cons,e]
theorem kj (k:κ):∀ kvs:List (κ × V),(kvs.any λkv=>decide (kv.1 = k)) = (jd kvs k).isSome
 | []=>rfl
 | p :: r=>by
  rw [List.any_cons]
  by_cases e:p.1 = k
  ·simp only [eT e,decide_eq_true e,Bool.true_or,Option.isSome_some]
  ·rw [eS e,decide_eq_false e,Bool.false_or];exact kj k r
theorem xA (k j:κ) (y:V):∀ kvs:List (κ × V),jd (kvs.map λkv=>if kv.1 = k then (kv.1,y) else kv) j = (jd kvs j).map λx=>if j = k then y else x
 | []=>rfl
 | p :: r=>by
  have ih:=xA k j y r
  rw [List.map_cons]
  by_cases h:p.1 = k
  ·rw [if_pos h]
   by_cases e:p.1 = j
   ·rw [eT (p:=(p.1,y)) e,eT e,Option.map_some,if_pos (e.symm.trans h)]
   ·rw [eS (p:=(p.1,y)) e,eS e,ih]
  ·rw [if_neg h]
   by_cases e:p.1 = j
   ·rw [eT (p:=p) e,eT e,Option.map_some,if_neg (λz=>h (e.trans z))]
   ·rw [eS (p:=p) e,eS e,ih]
theorem tS (k j:κ) (y:V):∀ kvs:List (κ × V),jd kvs k = none -> jd (kvs ++ [(k,y)]) j = if j = k then some y else jd kvs j
 | [],_=>by
  by_cases e:k = j
  ·rw [if_pos e.symm];exact eT (p:=(k,y)) e
  ·rw [if_neg (λz=>e z.symm)];exact eS (p:=(k,y)) e
 | p :: r,hn=>by
  rw [List.cons_append]
  have hk:¬ p.1 = k:=λz=>by rw [eT z] at hn;cases hn
  rw [eS hk] at hn
  have ih:=tS k j y r hn
  by_cases e:p.1 = j
  ·rw [eT e,eT e,if_neg (λz=>hk (e.trans z))]
  ·rw [eS e,eS e,ih]
theorem xO (kvs:List (κ × V)) (k j:κ) (y:V):jd (putK kvs k y) j = if j = k then some y else jd kvs j:=by
 unfold putK
 by_cases a:(kvs.any λkv=>decide (kv.1 = k)) = true
 ·rw [if_pos a,xA]
  rw [kj] at a
  by_cases e:j = k
  ·obtain ⟨x,hx⟩:=Option.isSome_iff_exists.mp a
   rw [if_pos e,e,hx,Option.map_some,if_pos rfl]
  ·rw [if_neg e]
   cases jd kvs j with
   | none=>rfl
   | some x=>rw [Option.map_some,if_neg e]
 ·rw [if_neg a]
  refine tS k j y kvs ?_
  rw [kj] at a
  cases q:jd kvs k with
  | none=>rfl
  | some x=>rw [q] at a;exact (a rfl).elim
theorem nN (kvs:List (κ × V)) (k:κ) (v:V):(putK kvs k v).length <= kvs.length + 1:=by
 unfold putK
 split
 ·rw [List.length_map];omega
 ·rw [List.length_append,List.length_cons,List.length_nil];omega
theorem jI.nD {o:Option V} {u:Option Value} (r:jI o u):o.isSome = u.isSome:=by
 cases o with
 | none=>cases u with
  | none=>rfl
  | some _=>exact (show False from r).elim
 | some _=>cases u with
  | none=>exact (show False from r).elim
  | some _=>rfl
theorem jI.getD {o:Option V} {u:Option Value} {d:V} {d':Value} (r:jI o u) (rd:RelV d d'):RelV (o.getD d) (u.getD d'):=by
 cases o with
 | none=>cases u with
  | none=>exact rd
  | some _=>exact (show False from r).elim
 | some _=>cases u with
  | none=>exact (show False from r).elim
  | some _=>exact r
theorem KV.val {kvs:List (κ × V)} {vs:List (κ × Value)} (r:KV kvs vs) (k:κ):jI (jd kvs k) (valueAt vs k):=by
 unfold KV at r
 induction r with
 | nil=>exact True.intro
 | @cons p q ps qs h t ih =>
  obtain ⟨h1,h2⟩:=h
  by_cases e:p.1 = k
  ·have e':q.1 = k:=h1.symm.trans e
   have b:valueAt (q :: qs) k = some q.2:=by simp [valueAt,List.find?_cons,e']
   rw [eT e,b];exact h2
  ·have e':¬ q.1 = k:=λz=>e (h1.trans z)
   have b:valueAt (q :: qs) k = valueAt qs k:=by simp [valueAt,List.find?_cons,e']
   rw [eS e,b];exact ih
theorem KV.any {kvs:List (κ × V)} {vs:List (κ × Value)} (r:KV kvs vs) (k:κ):(kvs.any λkv=>decide (kv.1 = k)) = vs.any λkv=>decide (kv.1 = k):=by
 unfold KV at r
 induction r with
 | nil=>rfl
 | cons h t ih=>rw [List.any_cons,List.any_cons,ih,h.1]
theorem KV.repl {kvs:List (κ × V)} {vs:List (κ × Value)} (r:KV kvs vs) (k:κ) {y:V} {u:Value} (ry:RelV y u) :
  KV (kvs.map λkv=>if kv.1 = k then (kv.1,y) else kv) (vs.map λkv=>if kv.1 = k then (kv.1,u) else kv):=by
 unfold KV at r ⊢
 induction r with
 | nil=>exact .nil
 | @cons p q ps qs h t ih =>
  rw [List.map_cons,List.map_cons]
  refine .cons ?_ ih
  obtain ⟨h1,h2⟩:=h
  by_cases e:p.1 = k
  ·rw [if_pos e,if_pos (h1.symm.trans e)];exact ⟨h1,ry⟩
  ·rw [if_neg e,if_neg (λz=>e (h1.trans z))];exact ⟨h1,h2⟩
theorem KV.put {kvs:List (κ × V)} {vs:List (κ × Value)} (r:KV kvs vs) (k:κ) {y:V} {u:Value} (ry:RelV y u):KV (putK kvs k y) (stored vs k u):=by
 unfold putK stored
 rw [r.any k]
 by_cases e:(vs.any λkv=>decide (kv.1 = k)) = true
 ·rw [if_pos e,if_pos e];exact r.repl k ry
 ·rw [if_neg e,if_neg e];exact Paired.snoc r ⟨rfl,ry⟩
theorem KV.length {kvs:List (κ × V)} {vs:List (κ × Value)} (r:KV kvs vs):kvs.length = vs.length:=Paired.length r
end
theorem Bk {P:Program} {w:World} {k:Key} {u:Value} (r:RelV (kV k) u):(dN P w).is k u = true:=by
 cases k with
 | inl i=>obtain ⟨t,e⟩:=(show ∃ t,u = Value.int i t from r);subst e;exact wG P w i t
 | inr x=>obtain ⟨t,e⟩:=(show ∃ t,u = Value.str x t from r);subst e;exact xg P w x t
theorem sL {P:Program} {w:World}:∀ {ks:List Key} {us:List Value},Vals (ks.map kV) us -> ItemsAre (dN P w) ks us
 | [],_,r=>by rw [List.map_nil] at r;cases r;exact .nil
 | k :: ks,_,r=>by
  rw [List.map_cons] at r
  cases r with
  | cons h t=>exact .cons (Bk h) (sL t)
abbrev KT (H:Hp):List (List Key × V) -> List (List Key × Addr × Value) -> Prop:=Paired λp q=>p.1 = q.1 /\ H q.2.1 = some (.tup (p.1.map kV)) /\ RelV p.2 q.2.2
theorem KT.val {H:Hp} {kvs:List (List Key × V)} {xs:List (List Key × Addr × Value)} (r:KT H kvs xs) (k:List Key):jI (jd kvs k) ((atKey xs k).map (·.2)):=by
 induction r with
 | nil=>exact True.intro
 | @cons p q ps qs h t ih =>
  obtain ⟨h1,_,h2⟩:=h
  by_cases e:p.1 = k
  ·have e':q.1 = k:=h1.symm.trans e
   have b:atKey (q :: qs) k = some q.2:=by simp [atKey,List.find?_cons,e']
   rw [eT e,b];exact h2
  ·have e':¬ q.1 = k:=λz=>e (h1.trans z)
   have b:atKey (q :: qs) k = atKey qs k:=by simp [atKey,List.find?_cons,e']
   rw [eS e,b];exact ih
theorem KT.repl {H:Hp} {kvs:List (List Key × V)} {xs:List (List Key × Addr × Value)} (r:KT H kvs xs) (k:List Key) {y:V} {u:Value} (ry:RelV y u) :
  KT H (kvs.map λkv=>if kv.1 = k then (kv.1,y) else kv) (xs.map (putAt k u)):=by
 induction r with
 | nil=>exact .nil
 | @cons p q ps qs h t ih =>
  rw [List.map_cons,List.map_cons]
  refine .cons ?_ ih
  obtain ⟨h1,h2,h3⟩:=h
  unfold putAt
  by_cases e:p.1 = k
  ·rw [if_pos e,if_pos (h1.symm.trans e)];exact ⟨h1,h2,ry⟩
  ·rw [if_neg e,if_neg (λz=>e (h1.trans z))];exact ⟨h1,h2,h3⟩
theorem KT.put {H:Hp} {kvs:List (List Key × V)} {xs:List (List Key × Addr × Value)} (r:KT H kvs xs) (k:List Key) {b:Addr} {y:V} {u:Value} (hb:H b = some (.tup (k.map kV))) (ry:RelV y u) :
  KT H (putK kvs k y) (storedH xs k b u):=by
 have e:(kvs.any λkv=>decide (kv.1 = k)) = (atKey xs k).isSome:=by
  rw [kj,(r.val k).nD,Option.isSome_map]
 unfold putK storedH
 rw [e]
 by_cases q:(atKey xs k).isSome = true
 ·rw [if_pos q,if_pos q];exact r.repl k ry
 ·rw [if_neg q,if_neg q];exact Paired.snoc r ⟨rfl,hb,ry⟩
theorem KT.keeps {H H':Hp} {kvs:List (List Key × V)} {xs:List (List Key × Addr × Value)} (r:KT H kvs xs) (ht:∀ b ys,H b = some (.tup ys) -> H' b = some (.tup ys)):KT H' kvs xs :=
 Paired.LP r λ_ _ z=>⟨z.1,ht _ _ z.2.1,z.2.2⟩
section
variable {P:Program} {w:World} {H:Hp} {h:Heap} {a:Addr}
theorem IK {u:HO} (ok:jP P w H h) (e:Rd H a u):di P w H h a u:=e.ok ok
theorem yW {kvs:List (Key × V)} (ok:jP P w H h) (e:Rd H a (.dK kvs)):kvs.length <= sizeLine /\ (a == sysModules) = false /\ ∃ vs,KV kvs vs /\ h.DictOf (dN P w) a vs :=
 show di P w H h a (.dK kvs) from IK ok e
theorem Oj {kvs:List (Key × V)} (ok:jP P w H h) (e:H a = some (.dK kvs)):kvs.length <= sizeLine /\ (a == sysModules) = false /\ ∃ vs,KV kvs vs /\ h.DictOf (dN P w) a vs:=yW ok (.inl e)
theorem uK {ks:List Key} (ok:jP P w H h) (e:H a = some (.tup (ks.map kV))):(tupleKind (dN P w)).is h ks a:=by
 obtain ⟨_,its,r,o,h1,h2,n,h3⟩:=(show di P w H h a (.tup (ks.map kV)) from ok a _ e)
 exact ⟨o,its.toArray,n,h1,h2,h3,by simpa using sL r⟩
theorem BS {kvs:List (List Key × V)} (ok:jP P w H h) (e:Rd H a (.dT kvs)):kvs.length <= sizeLine /\ (a == sysModules) = false /\
  ∃ xs,KT H kvs xs /\ h.DictOfH (tupleKind (dN P w)) a xs:=by
 obtain ⟨z,y,xs,r,o,es,ep,h1,h2,h3,h4,h5⟩:=(show di P w H h a (.dT kvs) from IK ok e)
 refine ⟨z,y,xs,r,o,es,ep,h1,h2,h3,h4,λx hx=>?_,h5⟩
 have all:∀ {l:List (List Key × V)} {m:List (List Key × Addr × Value)},KT H l m -> ∀ x ∈ m,(tupleKind (dN P w)).is h x.1 x.2.1:=by
  intro l m q
  induction q with
  | nil=>intro x hx;exact nomatch hx
  | @cons p q ps qs hq t ih =>
   intro x hx
   rcases List.mem_cons.mp hx with e | hx
   ·subst e
    exact uK ok (by rw [← hq.1];exact hq.2.1)
   ·exact ih x hx
 exact all r x hx
theorem Nd {kvs:List (List Key × V)} (ok:jP P w H h) (e:H a = some (.dT kvs)):kvs.length <= sizeLine /\ (a == sysModules) = false /\
  ∃ xs,KT H kvs xs /\ h.DictOfH (tupleKind (dN P w)) a xs:=BS ok (.inl e)
end
noncomputable def xD (H:Hp) (a:Addr) (y:V) (r:Option V):Prop :=
 (∃ kvs k,Rd H a (.dK kvs) /\ y = kV k /\ r = jd kvs k) ∨ ∃ kvs k b,Rd H a (.dT kvs) /\ y = .ref b /\ H b = some (.tup (k.map kV)) /\ r = jd kvs k
noncomputable def F1 (H:Hp) (a:Addr) (y v:V) (H':Hp):Prop :=
 (∃ kvs k,H a = some (.dK kvs) /\ y = kV k /\ kvs.length < sizeLine /\ H' = upd H a (.dK (putK kvs k v))) ∨
 ∃ kvs k b,H a = some (.dT kvs) /\ y = .ref b /\ H b = some (.tup (k.map kV)) /\ kvs.length < sizeLine /\ H' = upd H a (.dT (putK kvs k v))
theorem xD.k {H:Hp} {a:Addr} {kvs:List (Key × V)} {k:Key} (e:H a = some (.dK kvs)):xD H a (kV k) (jd kvs k):=.inl ⟨kvs,k,.inl e,rfl,rfl⟩
theorem F1.k {H:Hp} {a:Addr} {kvs:List (Key × V)} {k:Key} {v:V} (e:H a = some (.dK kvs)) (hl:kvs.length < sizeLine):F1 H a (kV k) v (upd H a (.dK (putK kvs k v))):=.inl ⟨kvs,k,e,rfl,hl,rfl⟩
section
variable {X:Cx} {pins:List (Addr × Obj)} {Z:St} {H:Hp} {s:Shared} {a:Addr} {y v:V} {u r:Value} {o:Option V} {A:Around} {E:Value -> Shared -> Prop}
theorem Inv.big (I:Inv X pins Z H s):sysModules < s.heap.objs.size:=by
 have h:mainGlobals < s.heap.objs.size:=(I.mod.glob.keeps I.bk).lt
 exact Nat.lt_trans (by decide) h
theorem G7 {Q:Value -> Shared -> Prop} (hu:A.units + 1 < cLine) (I:Inv X pins Z H s) (g:xD H a y o) (ry:RelV y u) (h:∀ s',Inv X pins Z H s' -> Q (.bool (!o.isSome)) s') :
  wpAny (model X.prog X.w) A (compareOp .NotIn u (.ref a)) Q E s:=by
 rcases g with ⟨kvs,k,e,ey,l⟩ | ⟨kvs,k,b,e,ey,eb,l⟩
 ·subst ey
  obtain ⟨z,hd,vs,rel,dd⟩:=yW I.hok e
  refine wpAny_notIn_of (Bk ry) hd dd.mapOf ?_
  rw [← (rel.val k).nD,← l]
  exact h _ (I.tok _)
 ·subst ey
  cases (show u = Value.ref b from ry)
  obtain ⟨z,hd,xs,rel,dd⟩:=BS I.hok e
  refine wpAny_notIn_heap (tupleKind_room_in1 hu) (uK I.hok eb) hd dd ?_
  have q:=(rel.val k).nD
  rw [Option.isSome_map] at q
  rw [← q,← l]
  exact h _ (I.tok _)
theorem BF {h':Heap} {t':Nat} {ob:HO} (I:Inv X pins Z H s) (mu:Oh (H a)) (hs:Heap.SameBut a s.heap h') (he:∃ q,h'.get? a = some q) (new:di X.prog X.w (upd H a ob) h' a ob) :
  Inv X pins Z (upd H a ob) { s with heap:=h',toks:=t' } :=
 I.write (x:=a) (e:=a) mu (.inl rfl) (λb q hb z=>(hs.2 b hb).trans z) he new
theorem JA {P:Program} {w:World} {H':Hp} {h':Heap} {kvs:List (Key × V)} {vs:List (Key × Value)} (z:kvs.length <= sizeLine) (hd:(a == sysModules) = false) (rel:KV kvs vs) (dd:h'.DictOf (dN P w) a vs) :
  di P w H' h' a (.dK kvs):=⟨z,hd,vs,rel,dd⟩
theorem CB {H':Hp} {Q:Unit -> Shared -> Prop} (hu:A.units + 1 < cLine) (I:Inv X pins Z H s) (g:F1 H a y v H') (ry:RelV y u) (rv:RelV v r) (h:∀ s',Inv X pins Z H' s' -> Q () s') :
  wpAny (model X.prog X.w) A (setItem (.ref a) u r) Q E s:=by
 rcases g with ⟨kvs,k,e,ey,l,eH⟩ | ⟨kvs,k,b,e,ey,eb,l,eH⟩
 ·subst ey eH
  obtain ⟨z,hd,vs,rel,dd⟩:=Oj I.hok e
  have hz:vs.length <= sizeLine:=by rw [← rel.length];exact z
  have hl:(putK kvs k v).length <= sizeLine:=by have:=nN kvs k v;omega
  refine wpAny_setItem_pairs (hsz:=hz) (Bk ry) dd λh' dd' hs=>h _ ?_
  have he:∃ q,h'.get? a = some q:=let ⟨q,_,_,hq,_⟩:=dd';⟨q,hq⟩
  exact BF I (by rw [e];exact True.intro) hs he (JA hl hd (rel.put k rv) dd')
 ·subst ey eH
  cases (show u = Value.ref b from ry)
  obtain ⟨z,hd,xs,rel,dd⟩:=Nd I.hok e
  have hz:xs.length <= sizeLine:=by rw [← Paired.length rel];exact z
  have hl:(putK kvs k v).length <= sizeLine:=by have:=nN kvs k v;omega
  refine wpAny_setItem_heap (hsz:=hz) (tupleKind_room_in1 hu) (uK I.hok eb) dd λh' dd' hs=>h _ ?_
  obtain ⟨q,es,ep,hq,h2,h3,h4,_,h5⟩:=dd'
  refine BF I (by rw [e];exact True.intro) hs ⟨q,hq⟩ ⟨hl,hd,_,(rel.put k eb rv).keeps λc ys ec=>?_,q,es,ep,hq,h2,h3,h4,h5⟩
  rw [aj (cQ ec e (λz=>nomatch z))]
  exact ec
end
section
variable {X:Cx} {pins:List (Addr × Obj)} {Z:St} {H:Hp} {s:Shared} {a:Addr} {kvs:List (Key × V)} {k:Key} {u:Value} {A:Around} {E:Value -> Shared -> Prop}
theorem Ng {Q:Value -> Shared -> Prop} (I:Inv X pins Z H s) (e:Rd H a (.dK kvs)) (h:∀ t s',Inv X pins Z H s' -> Q (.int kvs.length t) s'):wpAny (model X.prog X.w) A (call (.builtin "len") [.ref a]) Q E s:=by
 obtain ⟨z,hd,vs,rel,dd⟩:=yW I.hok e
 refine call_len_dict hd dd (by rw [← rel.length];rw [sizeLine_eq] at z;omega) ?_
 rw [← rel.length]
 exact h _ _ (I.tok _)
end
noncomputable def Hz (ty td:TE):TE:=λZ H Q=>ty Z H λy H1=>td Z H1 λx H2=>∃ a o,x = .ref a /\ xD H2 a y o /\ Q (.bl (!o.isSome)) H2
noncomputable def OI (td ty tv:TE):TS:=λD Z H=>tv Z H λv H1=>td Z H1 λx H2=>ty Z H2 λy H3=>∃ a H4,x = .ref a /\ F1 H3 a y v H4 /\ D.nx Z H4
section
variable {X:Cx} {o i e value:Expr} {pos pos' tpos:Pos} {td ty tv:TE}
theorem Cj (hu:X.A.units + 1 < cLine) (hi:PE X i ty) (ho:PE X o td):PC X .NotIn i o (Hz ty td):=by
 intro pins s Z H Q I h
 refine cS (hi pins s Z H _ I h) λiv s1 ⟨y,H1,I1,ry,q1⟩=>cS (ho pins s1 Z H1 _ I1 q1) λu s2 ⟨x,H2,I2,rx,a,ov,ex,g,q2⟩=>?_
 subst ex
 obtain rfl:u = Value.ref a:=rx
 exact G7 hu I2 g ry λs3 I3=>⟨.bl (!ov.isSome),H2,I3,rfl,q2⟩
theorem G9 (hu:X.A.units + 1 < cLine) (ho:PE X o td) (hi:PE X i ty) (hv:PE X value tv) (hs:swapsWith value (some (.Subscript o i pos')) pos.line X.env = pure false) :
  PS X (.Assign [.Subscript o i pos'] value pos) (OI td ty tv):=by
 intro pins s Z H D I h
 refine wpAny_Assign_Subscript (cS (hv pins s Z H _ I h) λr s1 ⟨v,H1,I1,rv,q1⟩=>cS (ho pins s1 Z H1 _ I1 q1) λu s2 ⟨x,H2,I2,rx,q2⟩=>cS (hi pins s2 Z H2 _ I2 q2) λiv s3 ⟨y,H3,I3,ry,a,H4,ex,g,q3⟩=>?_) hs
 subst ex
 obtain rfl:u = Value.ref a:=rx
 exact CB hu I3 g ry rv λs4 I4=>⟨Z,H4,I4,q3⟩
end
theorem Fx {P:Program} {w:World} {H:Hp} (h:Heap) (hb:sysModules < h.objs.size):di P w H (h.push { cls:=.type "dict",data:=.dict #[] }) h.objs.size (.dK []) :=
 ⟨Nat.zero_le _,beq_eq_false_iff_ne.mpr (Ne.symm (Nat.ne_of_lt hb)),[],.nil,Heap.DictOf.new h⟩
noncomputable def JN:TE:=λ_ H Q=>∀ p,H p = none -> Q (.ref p) (upd H p (.dK []))
section
variable {X:Cx} {pos:Pos}
theorem E3:PE X (.Dict [] [] pos) JN:=λpins s Z H Q I h =>
 wpAny_Dict_empty ⟨.ref s.heap.objs.size,_,I.laid (a:=s.heap.objs.size) (o:=.dK []) (t':=s.toks) (λ_ _ q=>Heap.get?_push_of_some _ q) (Nat.le_refl _) (Fx s.heap I.big),rfl,h _ (I.hok.fresh (Nat.le_refl _))⟩
end
structure M1 (X:Cx) (o:Expr) (m:Str) (apos:Pos) (e:Expr) (cpos:Pos):Prop where
 base:attributeBase o m X.env (eval o X.env) = eval o X.env
 few:((backTo cpos (starEach [e] X.env)).all (λx=>!x.1) && (backToKw cpos (keywordEach [] X.env)).all (λx=>x.1.isSome)
  && decide (([e]:List Expr).length + ([]:List Keyword).length + (if ([]:List Keyword).isEmpty then 0 else 1) < 30)) = true
 line:(apos.endLine == cpos.line) = true
 trees:backTo cpos (starEach [e] X.env) = [(false,eval e X.env)]
noncomputable def IsD (H:Hp) (a:Addr):Prop:=(∃ kvs,Rd H a (.dK kvs)) ∨ ∃ kvs,Rd H a (.dT kvs)
theorem My {X:Cx} {pins:List (Addr × Obj)} {Z:St} {H:Hp} {s:Shared} {a:Addr} (I:Inv X pins Z H s) (d:IsD H a) :
  s.TypeIs (.ref a) "dict" /\ (∀ b,Value.ref a = .ref b -> ∃ ob,s.heap.get? b = some ob /\ ob.dict = none) /\ (a == sysModules) = false:=by
 rcases d with ⟨kvs,e⟩ | ⟨kvs,e⟩
 ·obtain ⟨_,hd,vs,_,dd⟩:=yW I.hok e
  refine ⟨dd.typeIs,λb q=>?_,hd⟩
  cases q
  obtain ⟨ob,_,_,h1,h2,_⟩:=dd
  exact ⟨ob,h1,h2.2.1⟩
 ·obtain ⟨_,hd,xs,_,dd⟩:=BS I.hok e
  refine ⟨dd.typeIs,λb q=>?_,hd⟩
  cases q
  obtain ⟨ob,_,_,h1,h2,_⟩:=dd
  exact ⟨ob,h1,h2.2.1⟩
section
variable {X:Cx} {pins:List (Addr × Obj)} {Z:St} {H:Hp} {s:Shared} {a:Addr} {y d:V} {u r:Value} {o:Option V} {A:Around} {E:Value -> Shared -> Prop}
theorem K6 {Q:Value -> Shared -> Prop} (hu:A.units + 1 < cLine) (I:Inv X pins Z H s) (g:xD H a y o) (ry:RelV y u) (h:∀ w' s',Inv X pins Z H s' -> RelV (o.getD .cM) w' -> Q w' s') :
  wpAny (model X.prog X.w) A (call (.builtin "dict.get") [.ref a,u]) Q E s:=by
 rcases g with ⟨kvs,k,e,ey,l⟩ | ⟨kvs,k,b,e,ey,eb,l⟩
 ·subst ey
  obtain ⟨z,hd,vs,rel,dd⟩:=yW I.hok e
  refine call_meetsIn PySem.F.slot_dict_get dd.typeIs PySem.F.entry_dict_get (PySem.F.args_dict_get_2 _ _) (meets_dict_get (dN X.prog X.w) a (Bk ry) hd) ⟨_,dd.mapOf,h _ _ (I.tok _) ?_⟩
  rw [l]
  exact (rel.val k).getD rfl
 ·subst ey
  cases (show u = Value.ref b from ry)
  obtain ⟨z,hd,xs,rel,dd⟩:=BS I.hok e
  refine call_meetsIn PySem.F.slot_dict_get dd.typeIs PySem.F.entry_dict_get (PySem.F.args_dict_get_2 _ _) (meetsH_dict_get (tupleKind (dN X.prog X.w)) a b hd) ⟨tupleKind_room_in1 hu,k,xs,uK I.hok eb,dd,h _ _ (I.tok _) ?_⟩
  rw [l]
  exact (rel.val k).getD rfl
end
noncomputable def La (td ty:TE):TE:=λZ H Q=>td Z H λx H1=>∃ a,x = .ref a /\ IsD H1 a /\ ty Z H1 λy H2=>∃ o,xD H2 a y o /\ Q (o.getD .cM) H2
section
variable {X:Cx} {o e f:Expr} {apos cpos:Pos} {td ty tx:TE}
theorem Ey (hu:X.A.units + 1 < cLine) (ho:PE X o td) (he:PE X e ty) (m:M1 X o "get" apos e cpos):PE X (.Call (.Attribute o "get" apos) [e] [] cpos) (La td ty):=by
 intro pins s Z H Q I h
 refine wpAny_Call_method m.base m.few m.line PySem.F.plainAttrs_dict PySem.F.slot_dict_get PySem.F.type_dict_get (cS (ho pins s Z H _ I h) λu s1 ⟨x,H1,I1,rx,a,ex,d,q1⟩=>?_)
 subst ex
 obtain rfl:u = Value.ref a:=rx
 obtain ⟨t1,t2,_⟩:=My I1 d
 refine ⟨t1,t2,?_⟩
 rw [m.trees]
 refine Calls.callWith_builtin rfl (Calls.evalArgs_plain (Calls.spliced_cons (cS (he pins s1 Z H1 _ I1 q1) λiv s2 ⟨y,H2,I2,ry,ov,g,q2⟩=>Calls.spliced_nil ?_)))
 exact K6 hu I2 g ry λw' s3 I3 rw'=>⟨_,H2,I3,rw',q2⟩
end
section
variable {X:Cx} {pins:List (Addr × Obj)} {Z:St} {H:Hp} {s:Shared} {a:Addr} {kvs:List (Key × V)} {A:Around} {E:Value -> Shared -> Prop}
end
section
variable {X:Cx} {pins:List (Addr × Obj)} {Z:St} {H:Hp} {s:Shared} {a:Addr} {y:V} {u:Value} {A:Around} {E:Value -> Shared -> Prop}
end
section
variable {X:Cx}
theorem Cd:ju X (.builtin "len") (λxs H Q=>∃ a kvs,xs = [V.ref a] /\ H a = some (.dK kvs) /\ Q (.int kvs.length) H):=by
 intro pins s Z H xs us Q I r h
 obtain ⟨a,kvs,rfl,ha,q⟩:=h
 obtain ⟨u,rfl,ru⟩:=vals1 r
 cases ru
 exact Ng I (.inl ha) λt s' I'=>⟨.int kvs.length,H,I',⟨t,rfl⟩,q⟩
end
section
variable {κ:Type} [DecidableEq κ]
end
end L2
namespace L2
open PySem PySem.Spec PyProof.Rows
section
variable {X:Cx}
def Ff:V -> List V -> Hp -> VK -> Prop:=λx vs H Q=>∃ a b:Str,x = .str a /\ vs = [.str b] /\ (b.length == 0) = false /\ a.length + 2 <= sizeLine /\ ∀ p,H p = none -> Q (.ref p) (upd H p (.lst ((PySem.Txt.split a b).map V.str)))
theorem Cn:∀ (n:Nat) (ys:List Str),Vals (ys.map V.str) (strsFrom n ys):=by
 intro n ys
 rw [strsFrom_eq]
 have aux:∀ (l:List (Str × Tok)),Vals ((l.map (·.1)).map V.str) (strValues l):=by
  intro l
  induction l with
  | nil=>exact .nil
  | cons p r ih=>exact .cons ⟨p.2,rfl⟩ ih
 have:=aux (numbered n ys)
 rwa [numbered_texts] at this
theorem qU:M3 X "str.split" Ff:=by
 intro pins s Z H x vs v us Q I rx rv h
 obtain ⟨a,b,rfl,rfl,hb,hz,q⟩:=h
 obtain ⟨t,rfl⟩:=rx
 obtain ⟨u,rfl,ru⟩:=rv.one
 obtain ⟨t1,rfl⟩:=ru
 have q0:=q s.heap.objs.size (I.hok.fresh (Nat.le_refl _))
 have hle:=PyProof.Rows.split_le a b
 cases h1:(decide (a.length < b.length) || decide (Builtin.Str.strKind a < Builtin.Str.strKind b))
 ·cases hf:(Builtin.Str.occurrences a b 0 a.length (a.length + 1)).isEmpty
  ·have e:PySem.Txt.split a b = Builtin.Str.partsBetween a (Builtin.Str.occurrences a b 0 a.length (a.length + 1)) b.length:=by
    unfold PySem.Txt.split
    rw [if_neg (ne_true_of_eq_false h1),if_neg (ne_true_of_eq_false hf)]
   rw [e] at q0 hle
   refine call_meets F.slot_str_split (typeIs_str _ _ _) F.entry_str_split (F.args_str_split_2 _ _) (meets_str_split_sep a b t t1 h1 hb hf (by omega) (by omega)) ?_
   exact ⟨.ref _,_,I.EL (t':=_) (Cn s.toks _) (by rw [List.length_map];omega),rfl,q0⟩
  ·have e:PySem.Txt.split a b = [a]:=by
    unfold PySem.Txt.split
    rw [if_neg (ne_true_of_eq_false h1),if_pos hf]
   rw [e] at q0
   refine call_meets F.slot_str_split (typeIs_str _ _ _) F.entry_str_split (F.args_str_split_2 _ _) (meets_str_split_not_found a b t t1 h1 hb hf) ?_
   exact ⟨.ref _,_,I.EL (ys:=[.str a]) (t':=s.toks) (.cons ⟨t,rfl⟩ .nil) (by show 1 <= sizeLine;decide),rfl,q0⟩
 ·have e:PySem.Txt.split a b = [a]:=by
   unfold PySem.Txt.split
   rw [if_pos h1]
  rw [e] at q0
  refine call_meets F.slot_str_split (typeIs_str _ _ _) F.entry_str_split (F.args_str_split_2 _ _) (meets_str_split_cannot_occur a b t t1 h1) ?_
  exact ⟨.ref _,_,I.EL (ys:=[.str a]) (t':=s.toks) (.cons ⟨t,rfl⟩ .nil) (by show 1 <= sizeLine;decide),rfl,q0⟩
theorem vM {bs:List Bool}:∀ {us:List Value},Vals (bs.map V.bl) us -> LSm.BoolsAre us bs:=by
 induction bs with
 | nil=>intro us r;cases r;exact .nil
 | cons y r ih =>
  intro us h
  cases h with
  | cons h t =>
   cases h
   exact .cons _ (ih t)
theorem Cc (hc:X.calm = true):ju X (.builtin "all") (λxs H Q=>∃ (p:Addr) (bs:List Bool),xs = [.ref p] /\ bB X.K H p (bs.map V.bl) /\ Q (.bl (bs.all id)) H):=by
 intro pins s Z H xs us Q I r h
 obtain ⟨p,bs,rfl,hq,q⟩:=h
 obtain ⟨u,rfl,rx⟩:=vals1 r
 cases rx
 obtain ⟨its,r',pl,hz⟩:=I.list hq
 have hb:=vM r'
 have hl:=pl.isList
 have hlt:p < s.heap.objs.size:=by obtain ⟨_,e,_⟩:=hl;exact Heap.lt_size e
 refine call_all_walk (wpAny_pyIter_list hl ?_)
 refine ⟨s.heap.objs.size,[s.heap.objs.size,p],[s.heap.objs.size],its.toArray.size,_,_,λi=>(bs[i]?).getD true,rfl,Walks.list (A:=X.A.in1) (I.ok.hd hc) _ p (Nat.ne_of_lt hlt) its.toArray,
  ⟨⟨_,Heap.get?_push_size _ rfl,rfl,rfl⟩,hl.push _⟩,λi v s' Q' E' hP hQ=>?_,λh' tk hk=>?_⟩
 ·obtain ⟨b,e,rfl⟩:=hb.get i v (by simpa using hP)
  simp only [e,Option.getD_some] at hQ
  exact wpAny_truthy_bool hQ
 ·have e:((List.range its.toArray.size).all λi=>(bs[i]?).getD true) = bs.all id:=by
   rw [List.size_toArray,hb.length];exact LSm.range_all bs
  rw [e]
  exact ⟨.bl _,H,I.kept (t':=tk) (LSm.kept_iter hk),rfl,q⟩
end
def OM (z:Str):It:=⟨λi _=>i < z.length,λi H x H'=>H' = H /\ ∃ c,z.cps.toList[i]? = some c /\ x = .str ⟨#[c]⟩,λi _=>z.length <= i⟩
section
variable {X:Cx} {tg:Expr}
theorem uf {P:Program} {w:World} {K:PySem.W.Frag} {x:Str} {px:Pos} (z:Str) (it:Addr) (St:Nat -> Heap -> Prop) (cl:∀ i h,St i h -> ∃ o,h.get? it = some o /\ ∀ v,o.data ≠ .cell v)
  (fr:∀ i h h',St i h -> (∀ o,h.get? it = some o -> h'.get? it = some o) -> St i h') (sf:∀ (A:Around) (i:Nat) (s:Shared) (Q:Value -> Shared -> Prop) (E:Value -> Shared -> Prop),St i s.heap -> Q (.ref it) s -> wpAny (model P w) A (pyIter (.ref it)) Q E s)
  (W:∀ A:Around,A.handled = none -> Walks P w A it [it] [it] z.cps.size (SignAt z) St):Turn P w K (.Name x px) (OM z) [it] it (λi h=>St i h /\ i <= z.length) where
 mem:=by simp
 obj:=λi h st b hb=>by
  have e:b = it:=by simpa using hb
  subst e
  exact cl i h st.1
 keep:=λi h h' st k=>⟨fr i h h' st.1 λo e=>k it (by simp) o e,st.2⟩
 item:=by
  intro X hP hw hK hc i pins s Z H E I hf st hg
  subst hP hw hK
  obtain ⟨f0,f1,f2,f3,f4,f5⟩:=hf it (by simp)
  refine (W X.A (I.ok.hd hc)).item i s _ E hg st.1 λv h' tk hP st' hk=>?_
  obtain ⟨c,u,e1,rfl⟩:=hP
  refine ⟨_,rfl,?_⟩
  show wpAny _ _ (pure ()) _ _ _
  refine wpAny_pure ⟨.str ⟨#[c]⟩,H,I.turned (t':=tk) (λb o hb e=>hk b o (by simpa using hb) e) f0 f1 f3 f4 f5,⟨u,rfl⟩,⟨rfl,c,by simpa using e1,rfl⟩,⟨st',hg⟩,λb hb=>(hf b hb).1⟩
 done:=by
  intro X hP hw hK hc i pins s Z H E I hf st hg
  subst hP hw hK
  obtain ⟨f0,f1,f2,f3,f4,f5⟩:=hf it (by simp)
  have e:i = z.cps.size:=Nat.le_antisymm st.2 hg
  subst e
  exact (W X.A (I.ok.hd hc)).done s _ E st.1 λh' tk hk=>⟨rfl,I.turned (t':=tk) (λb o hb e=>hk b o (by simpa using hb) e) f0 f1 f3 f4 f5⟩
 self:=λA i s Q E st h=>sf A i s Q E st.1 h
noncomputable def PM (te:TE):TI:=λZ H R=>te Z H λx H1=>∃ z:Str,x = .str z /\ R (OM z) H1
theorem LC {e:Expr} {te:TE} {x:Str} {px:Pos} (he:PE X e te):PI X (.Name x px) e (PM te):=by
 intro pins s Z H R I h
 refine cS (he pins s Z H _ I h) λv s1 ⟨y,H1,I1,r1,q1⟩=>?_
 obtain ⟨z,rfl,q⟩:=q1
 obtain ⟨t,rfl⟩:=r1
 have fin:∀ (o:Obj) (St:Nat -> Heap -> Prop),Turn X.prog X.w X.K (.Name x px) (OM z) [s1.heap.objs.size] s1.heap.objs.size St -> St 0 (s1.heap.push o) -> O0 X pins Z (.Name x px) R (.ref s1.heap.objs.size) { s1 with heap:=s1.heap.push o }:=λo St T st=>by
  refine ⟨s1.heap.objs.size,[s1.heap.objs.size],_,_,H1,rfl,I1.kept (t':=s1.toks) λb o e=>Heap.get?_push_of_some _ e,T,st,λb hb=>?_,q⟩
  have e:b = s1.heap.objs.size:=by simpa using hb
  subst e
  exact I1.Ht (Nat.le_refl _) (I1.hok.fresh (Nat.le_refl _))
 have cl:∀ ty (i:Nat) (h:Heap),h.IsStrIter s1.heap.objs.size ty z t i -> ∃ o,h.get? s1.heap.objs.size = some o /\ ∀ v,o.data ≠ .cell v:=λty i h st=>by
  obtain ⟨o,e,c,d⟩:=st
  exact ⟨o,e,λv q=>by rw [d] at q;cases q⟩
 have fr:∀ ty (i:Nat) (h h':Heap),h.IsStrIter s1.heap.objs.size ty z t i -> (∀ o,h.get? s1.heap.objs.size = some o -> h'.get? s1.heap.objs.size = some o) -> h'.IsStrIter s1.heap.objs.size ty z t i:=λty i h h' st k=>by
  obtain ⟨o,e,r⟩:=st
  exact ⟨o,k o e,r⟩
 cases ha:z.cps.all (· < 128)
 ·exact wpAny_pyIter_wide ha (fin _ _ (uf z _ _ (cl _) (fr _) (λA i s Q E st h=>wpAny_pyIter_striter_wide st h) (λA hA=>Walks.strWide hA _ z t)) ⟨⟨_,Heap.get?_push_size _ rfl,rfl,rfl⟩,Nat.zero_le _⟩)
 ·exact wpAny_pyIter_ascii ha (fin _ _ (uf z _ _ (cl _) (fr _) (λA i s Q E st h=>wpAny_pyIter_striter_ascii st h) (λA hA=>Walks.strAscii hA _ z t)) ⟨⟨_,Heap.get?_push_size _ rfl,rfl,rfl⟩,Nat.zero_le _⟩)
def Pj (K:PySem.W.Frag) (a:Addr):It :=
 ⟨λi H=>∃ xs x,bB K H a xs /\ xs[i]? = some x,λi H x H'=>∃ p v,H p = none /\ x = .ref p /\ H' = upd H p (.tup [.int i,v]) /\ ∀ xs,bB K H a xs -> xs[i]? = some v,λi H=>∃ xs,bB K H a xs /\ xs.length <= i⟩
theorem Cy {P:Program} {w:World} {K:PySem.W.Frag} {elts:List Expr} {x1} {pos:Pos} (a e it:Addr) (hne:e ≠ it):Turn P w K (.Tuple elts x1 pos) (Pj K a) [e,it] e (λi h=>∃ old,IsEnum h e it i old /\ h.IsListIter it a i) where
 mem:=by simp
 obj:=λi h st b hb=>by
  obtain ⟨old,st,si⟩:=st
  rcases List.mem_cons.mp hb with z | z
  ·subst z
   exact ⟨_,st,λv q=>by cases q⟩
  ·have e:b = it:=by simpa using z
   subst e
   obtain ⟨o,e,c,d⟩:=si
   exact ⟨o,e,λv q=>by rw [d] at q;cases q⟩
 keep:=λi h h' st k=>by
  obtain ⟨old,st,si⟩:=st
  exact ⟨old,k e (by simp) _ st,si.at λo q=>k it (by simp) o q⟩
 item:=by
  intro X hP hw hK hc i pins s Z H E I hf st hg
  subst hP hw hK
  obtain ⟨old,st,si⟩:=st
  obtain ⟨xs,x,hq,hx⟩:=hg
  obtain ⟨its,rv,p,hz⟩:=I.list hq
  obtain ⟨u,hu,ru⟩:=rv.get hx
  have f:=hf e (by simp)
  have g:=hf it (by simp)
  refine wpAny_pyNext_enum_item st si p.isList (x:=u) (by simpa using hu) hne λh1 eo si1 ht hsz hk=>?_
  refine ⟨_,rfl,wpAny_letOwnedTupleGo_enum (s:={ s with heap:=h1,toks:=s.toks + 1 }) eo λh2 en sb=>?_⟩
  have hs1:e ≠ s.heap.objs.size:=Nat.ne_of_lt (Heap.lt_size st)
  have hs2:it ≠ s.heap.objs.size:=by obtain ⟨o,q,_⟩:=si;exact Nat.ne_of_lt (Heap.lt_size q)
  have k2:∀ b o,b ≠ e -> b ≠ it -> s.heap.get? b = some o -> h2.get? b = some o:=λb o n1 n2 q=>(sb.2 b n1).trans (hk b o n1 n2 q)
  have fresh:=I.hok.fresh (Nat.le_refl s.heap.objs.size)
  have I1:Inv X pins Z (upd H s.heap.objs.size (.tup [.int i,x])) { s with heap:=h2,toks:=s.toks + 1 }:=by
   refine I.step (g':=s.gens) (d':=s.drawn) (ch:=[e,it]) (λb hb=>?_) (λb o _ _ hc q _=>?_) (λb o _ _ hc q _=>?_) (λb o hc q n=>?_) (λb o hc q=>?_) (λb ys q=>?_) (λb o ys q=>?_) (λb ps q=>?_) (λm hm=>?_) (λb u' q=>?_) I.bare
   ·rcases List.mem_cons.mp hb with z | z
    ·rw [z];exact ⟨f.2.2.2.1,f.2.1,f.2.2.2.2.1,f.2.2.2.2.2⟩
    ·have z:b = it:=by simpa using z
     rw [z];exact ⟨g.2.2.2.1,g.2.1,g.2.2.2.2.1,g.2.2.2.2.2⟩
   ·exact k2 b o (λz=>hc (by simp [z])) (λz=>hc (by simp [z])) q
   ·exact ⟨o.slots,k2 b o (λz=>hc (by simp [z])) (λz=>hc (by simp [z])) q⟩
   ·rw [aj (Nat.ne_of_lt (Heap.lt_size q))];exact n
   ·exact ⟨o,k2 b o (λz=>hc (by simp [z])) (λz=>hc (by simp [z])) q⟩
   ·rw [aj (aq q fresh)];exact q
   ·rw [aj (aq q fresh)];exact q
   ·exact ⟨#[],by rw [aj (aq q fresh),q];simp⟩
   ·obtain ⟨o,es,ep,ho,r⟩:=hm
    exact ⟨o,es,ep,k2 _ o (Ne.symm f.2.1) (Ne.symm g.2.1) ho,r⟩
   ·by_cases hb:b = s.heap.objs.size
    ·subst hb
     rw [af] at q;cases q
     refine ⟨by show 2 <= sizeLine;decide,[_,u],.cons ⟨_,rfl⟩ (.cons ru .nil),⟨_,(sb.2 _ (Ne.symm hs1)).trans ht,rfl,_,rfl⟩⟩
    ·rw [aj hb] at q
     refine (I.hok b u' q).stay (λc v hc' r=>k2 c v ?_ ?_ r) (λc r=>by rw [aj (aq r fresh)];exact r) λc ys r=>by rw [aj (aq r fresh)];exact r
     ·rcases hc' with z | z
      ·rw [z];exact aq q f.1
      ·exact aq z f.1
     ·rcases hc' with z | z
      ·rw [z];exact aq q g.1
      ·exact aq z g.1
  refine ⟨.ref s.heap.objs.size,_,I1,rfl,⟨_,x,fresh,rfl,rfl,λys hy=>by rw [I.vS hy hq];exact hx⟩,⟨_,en,?_⟩,λb hb=>?_⟩
  ·obtain ⟨o,q,r⟩:=si1
   exact ⟨o,(sb.2 it (Ne.symm hne)).trans q,r⟩
  ·have hb':=(hf b hb).1
   rcases List.mem_cons.mp hb with z | z
   ·rw [aj (by rw [z];exact hs1)];exact hb'
   ·have z:b = it:=by simpa using z
    rw [aj (by rw [z];exact hs2)];exact hb'
 done:=by
  intro X hP hw hK hc i pins s Z H E I hf st hg
  subst hP hw hK
  obtain ⟨old,st,si⟩:=st
  obtain ⟨xs,hq,hx⟩:=hg
  obtain ⟨its,rv,p,hz⟩:=I.list hq
  obtain ⟨f0,f1,f2,f3,f4,f5⟩:=hf it (by simp)
  have hl:=rv.length
  exact wpAny_pyNext_enum_end (I.ok.hd hc) st si p.isList (by simp;omega) λh' eb=>⟨rfl,I.turned (t':=s.toks) (λb o hb e=>eb b o hb e) f0 f1 f3 f4 f5⟩
 self:=λ_ _ _ _ _ st h=>by
  obtain ⟨old,st,si⟩:=st
  exact wpAny_pyIter_enum st h
noncomputable def NJ (K:PySem.W.Frag) (ta:TA):TI:=λZ H R=>ta Z H λvs H1=>∃ a xs,vs = [.ref a] /\ bB K H1 a xs /\ R (Pj K a) H1
theorem Br {a:Expr} {ta:TA} {p pos tp:Pos} {elts:List Expr} {x1} (hg:Gl X "enumerate") (hm:X.mg "enumerate" = none) (ha:PA X [a] ta) (hs:starEach [a] X.env = [(false,eval a X.env)]:=by rfl) :
  PI X (.Tuple elts x1 tp) (.Call (.Name "enumerate" p) [a] [] pos) (NJ X.K ta):=by
 intro pins s Z H R I h
 refine Call_ (qB I hg hm (show bootBuiltins "enumerate" = some (.type "enumerate") by decide +kernel) (PyProof.Rows.callWith_type1 (cS (ha pos pins s Z H _ I h) λus s1 ⟨vs,H1,I1,r1,q1⟩=>?_) hs rfl))
 obtain ⟨l,xs,rfl,hq,q⟩:=q1
 obtain ⟨u,rfl,ru⟩:=r1.one
 cases ru
 obtain ⟨its,rv,pl,hz⟩:=I1.list hq
 refine call_enumerate_list pl.isList λh' he hi hsz hk=>?_
 refine wpAny_pyIter_enum (s:={ s1 with heap:=h' }) he ?_
 refine ⟨s1.heap.objs.size + 1,[s1.heap.objs.size + 1,s1.heap.objs.size],_,_,H1,rfl,I1.kept (t':=s1.toks) hk,Cy l _ _ (Nat.succ_ne_self _),⟨_,he,hi⟩,λb hb=>?_,q⟩
 have hb':s1.heap.objs.size <= b:=by
  rcases List.mem_cons.mp hb with z | z
  ·rw [z];exact Nat.le_succ _
  ·have z:b = s1.heap.objs.size:=by simpa using z
   rw [z];exact Nat.le_refl _
 exact I1.Ht hb' (I1.hok.fresh hb')
end
end L2
namespace L2
open PySem PySem.Spec PyProof.Rows
theorem oY {x y:Str} (h:x.cps.toList = y.cps.toList):x = y:=by
 obtain ⟨a⟩:=x
 obtain ⟨b⟩:=y
 have:a = b:=Array.toList_inj.mp h
 rw [this]
theorem jl (x y:Str):(x ++ y).cps.toList = x.cps.toList ++ y.cps.toList:=by
 show (x.cps ++ y.cps).toList = _
 simp
def gk (c:Nat):List (List Nat) -> List Nat
 | []=>[]
 | [x]=>x
 | x :: y :: r=>x ++ c :: gk c (y :: r)
theorem iu (c:Nat):∀ ps:List Str,(Str.join ⟨#[c]⟩ ps).cps.toList = gk c (ps.map λp=>p.cps.toList)
 | []=>rfl
 | [x]=>rfl
 | x :: y :: r=>by
  show (x ++ ⟨#[c]⟩ ++ Str.join ⟨#[c]⟩ (y :: r)).cps.toList = x.cps.toList ++ c :: gk c ((y :: r).map λp=>p.cps.toList)
  rw [jl,jl,iu c (y :: r)]
  simp
theorem Bx {c:Nat}:∀ {a b r s:List Nat},c ∉ a -> c ∉ b -> a ++ c :: r = b ++ c :: s -> a = b /\ r = s
 | [],[],r,s,_,_,h=>⟨rfl,by simpa using h⟩
 | [],y :: b,r,s,_,hb,h=>by
  simp at h
  exact absurd (by simp [h.1]) hb
 | x :: a,[],r,s,ha,_,h=>by
  simp at h
  exact absurd (by simp [h.1]) ha
 | x :: a,y :: b,r,s,ha,hb,h=>by
  simp only [List.cons_append,List.cons.injEq] at h
  obtain ⟨e1,e2⟩:=Bx (λz=>ha (List.mem_cons_of_mem _ z)) (λz=>hb (List.mem_cons_of_mem _ z)) h.2
  exact ⟨by rw [h.1,e1],e2⟩
theorem ux {c:Nat}:∀ {ps qs:List (List Nat)},ps ≠ [] -> qs ≠ [] -> (∀ p ∈ ps,c ∉ p) -> (∀ q ∈ qs,c ∉ q) -> gk c ps = gk c qs -> ps = qs
 | [],_,h,_,_,_,_=>absurd rfl h
 | _ :: _,[],_,h,_,_,_=>absurd rfl h
 | [x],[y],_,_,_,_,h=>by simp only [gk] at h;rw [h]
 | [x],y :: z :: r,_,_,hx,_,h=>by
  simp only [gk] at h
  exact absurd (by rw [h];simp) (hx x (by simp))
 | x :: z :: r,[y],_,_,_,hy,h=>by
  simp only [gk] at h
  exact absurd (by rw [← h];simp) (hy y (by simp))
 | x :: x2 :: r,y :: y2 :: s,_,_,hx,hy,h=>by
  simp only [gk] at h
  obtain ⟨e1,e2⟩:=Bx (hx x (by simp)) (hy y (by simp)) h
  have:=ux (ps:=x2 :: r) (qs:=y2 :: s) (by simp) (by simp) (λp hp=>hx p (List.mem_cons_of_mem _ hp)) (λq hq=>hy q (List.mem_cons_of_mem _ hq)) e2
  rw [e1,this]
theorem p7 {c:Nat} {ps:List Str} (hn:ps ≠ []) (hf:∀ p ∈ ps,c ∉ p.cps.toList):PySem.Txt.split (Str.join ⟨#[c]⟩ ps) ⟨#[c]⟩ = ps:=by
 have h1:=PySem.StrLaws.join_split (Str.join ⟨#[c]⟩ ps) ⟨#[c]⟩
 have h2:=PySem.StrLaws.split_free (Str.join ⟨#[c]⟩ ps) c
 have h3:=PyProof.Rows.split_pos (Str.join ⟨#[c]⟩ ps) ⟨#[c]⟩
 generalize PySem.Txt.split (Str.join ⟨#[c]⟩ ps) ⟨#[c]⟩ = qs at h1 h2 h3
 have h4:=congrArg (λx:Str=>x.cps.toList) h1
 simp only [iu] at h4
 have inj:∀ {a b:List Str},(a.map λp=>p.cps.toList) = (b.map λp=>p.cps.toList) -> a = b:=by
  intro a
  induction a with
  | nil=>intro b h;cases b with
   | nil=>rfl
   | cons _ _=>cases h
  | cons x r ih =>
   intro b h
   cases b with
   | nil=>cases h
   | cons y s =>
    simp only [List.map_cons,List.cons.injEq] at h
    rw [oY h.1,ih h.2]
 refine inj (ux (c:=c) ?_ ?_ ?_ ?_ h4)
 ·intro z
  have:=congrArg List.length z
  simp at this
  rw [this] at h3
  simp at h3
 ·intro z
  have:=congrArg List.length z
  simp at this
  exact hn this
 ·intro p hp
  obtain ⟨q,hq,rfl⟩:=List.mem_map.mp hp
  exact h2 q hq
 ·intro p hp
  obtain ⟨q,hq,rfl⟩:=List.mem_map.mp hp
  exact hf q hq
def jZ (c d:Nat) (l:List Nat):List Nat:=l.map λx=>if x = c then d else x
theorem m7 {c d:Nat}:∀ {l:List Nat},c ∉ l -> jZ c d l = l
 | [],_=>rfl
 | x :: r,h=>by
  unfold jZ
  rw [List.map_cons,if_neg (λz=>h (by simp [z]))]
  congr 1
  exact m7 λz=>h (List.mem_cons_of_mem _ z)
theorem tR {c d:Nat}:∀ {ps:List (List Nat)},(∀ p ∈ ps,c ∉ p) -> jZ c d (gk c ps) = gk d ps
 | [],_=>rfl
 | [x],h=>m7 (h x (by simp))
 | x :: y :: r,h=>by
  simp only [gk]
  have e1:jZ c d (x ++ c :: gk c (y :: r)) = jZ c d x ++ d :: jZ c d (gk c (y :: r)):=by simp [jZ]
  rw [e1,m7 (h x (by simp)),tR (ps:=y :: r) λp hp=>h p (List.mem_cons_of_mem _ hp)]
theorem ko (x:Str) (c d:Nat):(PySem.Txt.replace x ⟨#[c]⟩ ⟨#[d]⟩).cps.toList = jZ c d x.cps.toList:=by
 rw [PySem.StrLaws.replace_one,iu]
 have h1:=congrArg (λx:Str=>x.cps.toList) (PySem.StrLaws.join_split x ⟨#[c]⟩)
 simp only [iu] at h1
 conv=>rhs;rw [← h1]
 rw [tR]
 intro p hp
 obtain ⟨q,hq,rfl⟩:=List.mem_map.mp hp
 exact PySem.StrLaws.split_free x c q hq
theorem CU {c d:Nat} {l:List Nat} (h:d ∉ l):jZ d c (jZ c d l) = l:=by
 induction l with
 | nil=>rfl
 | cons x r ih =>
  have hx:x ≠ d:=λz=>h (by simp [z])
  have ih':=ih λz=>h (List.mem_cons_of_mem _ z)
  unfold jZ at *
  simp only [List.map_cons]
  rw [ih']
  by_cases e:x = c
  ·subst e;simp
  ·rw [if_neg e,if_neg hx]
end L2
namespace L2
open PySem PySem.Spec PyProof.Rows
theorem Oq {α:Type} {t:Sem α} {Q Q':α -> Shared -> Prop} {M:Model} {A:Around} {E E':Value -> Shared -> Prop} {s:Shared} (h:wpAny M A t Q E s) (hQ:∀ a s,Q a s -> Q' a s) (hE:∀ a s,E a s -> E' a s):wpAny M A t Q' E' s:=wpAny_mono h hQ hE
section
variable {X:Cx} {o e:Expr} {to te:TE} {apos cpos pos p1 p2 p3 p4 p5:Pos} {j1 j2 j3:Nat}
def BB (y z:Str):V -> Hp -> VK -> Prop:=λx H Q=>∃ a:Str,x = .str a /\ a.length + (a.length + 1) * z.length <= 16777216 /\ Q (.str (PySem.Txt.replace a y z)) H
theorem sH {y z:Str} (hyz:(y == z) = false) {pins:List (Addr × Obj)} {s:Shared} {Z:St} {H:Hp} {Q:VK} (I:Inv X pins Z H s)
  (ho:wpAny (model X.prog X.w) X.A (eval o X.env) (λu s'=>1 <= s'.toks /\ EP X pins Z (λx H1=>BB y z x H1 Q) u s') X.xe s)
  (hbase:attributeBase o "replace" X.env (eval o X.env) = eval o X.env:=by rfl) (hline:(apos.endLine == cpos.line) = true:=by rfl) :
  wpAny (model X.prog X.w) X.A (eval (.Call (.Attribute o "replace" apos) [.Constant (.str y) j1 p1,.Constant (.str z) j2 p2] [] cpos) X.env) (EP X pins Z Q) X.xe s:=by
 refine wpAny_Call_method_late hbase rfl hline rfl (cS ho λv s1 ⟨hk,x,H1,I1,r1,q1⟩=>?_)
 obtain ⟨a,rfl,hz,q⟩:=q1
 obtain ⟨t,rfl⟩:=r1
 refine ⟨"str","str.replace",F.plainAttrs_str,F.slot_str_replace,F.type_str_replace,typeIs_str _ _ _,(λ_ e=>nomatch e),?_⟩
 refine Calls.callWith_builtin rfl (Calls.evalArgs_plain ?_)
 refine Calls.spliced_cons (Calls.Constant_str (k:=j1) (pos:=p1) (Calls.spliced_cons (Calls.Constant_str (k:=j2) (pos:=p2) (Calls.spliced_nil ?_))))
 exact SC.replace (u:=s1.toks) (v:=s1.toks + 1) (Nat.ne_of_gt hk) (Nat.succ_ne_zero _) G6 hyz hz λt' k=>⟨.str _,H1,I1.tok _,⟨t',rfl⟩,q⟩
theorem AA {y z:Str} {k:Int} (hyz:(y == z) = false) (he:PE X e te)
  (hbase:attributeBase (.Subscript e (.Slice (some (.Constant (.int k) j3 p4)) none none p3) p5) "replace" X.env (eval (.Subscript e (.Slice (some (.Constant (.int k) j3 p4)) none none p3) p5) X.env) = eval (.Subscript e (.Slice (some (.Constant (.int k) j3 p4)) none none p3) p5) X.env:=by rfl)
  (hline:(apos.endLine == cpos.line) = true:=by rfl) :
  PE X (.Call (.Attribute (.Subscript e (.Slice (some (.Constant (.int k) j3 p4)) none none p3) p5) "replace" apos) [.Constant (.str y) j1 p1,.Constant (.str z) j2 p2] [] cpos) (λZ H Q=>te Z H λx H1=>∃ w:Str,x = .str w /\ w.length <= sizeLine /\ BB y z (.str (PySem.Txt.slice w (some k) none)) H1 Q):=by
 intro pins s Z H Q I h
 refine sH hyz I ?_ hbase hline
 refine Subscript_ (cS (he pins s Z H _ I h) λv s1 ⟨x,H1,I1,r1,w,hx,hw,q1⟩=>?_)
 subst hx
 obtain ⟨t,rfl⟩:=r1
 refine wpAny_Slice ?_
 rw [evalPart_some]
 refine wpAny_Constant_int ?_
 rw [evalPart_none]
 refine wpAny_pure ?_
 refine wpAny_pure ?_
 have I2:Inv X pins Z H1 { s1 with toks:=s1.toks + 1 }:=I1.tok _
 have I4:Inv X pins Z H1 { s1 with toks:=s1.toks + 1,heap:=s1.heap.push { cls:=.type "slice",data:=.fields #[.int k s1.toks,.none,.none] } }:=I2.kept (t':=s1.toks + 1) λb ob q=>Heap.get?_push_of_some _ q
 obtain ⟨T,id,hT,ht,hg⟩:=DE (X:=X) pins { s1 with toks:=s1.toks + 1,heap:=s1.heap.push { cls:=.type "slice",data:=.fields #[.int k s1.toks,.none,.none] } } Z H1 (.str w) (.str w t) (.int k s1.toks) .none (some k) none s1.heap.objs.size (λx H1=>BB y z x H1 Q) I4 ⟨t,rfl⟩ (Heap.IsSliceOf.new ..) (.int k _) .none ⟨w,rfl,hw,q1⟩
 have fin:=tail_any (value:=e) (slice:=.Slice (some (.Constant (.int k) j3 p4)) none none p3) (ops:=[.ref s1.heap.objs.size,.str w t]) ht hT hg (by with_unfolding_all rfl)
 exact Oq (wpAny_toks_of (n:=1) (show 1 <= s1.toks + 1 by omega) fin) (λ_ _ q=>q) λ_ _ q=>q.2
theorem wD {q y z:Str} (hyz:(y == z) = false) (ho:PE X o to) (hbase:attributeBase o "replace" X.env (eval o X.env) = eval o X.env:=by rfl) (hline:(apos.endLine == cpos.line) = true:=by rfl) :
  PE X (.BinOp (.Constant (.str q) j3 p3) .Add (.Call (.Attribute o "replace" apos) [.Constant (.str y) j1 p1,.Constant (.str z) j2 p2] [] cpos) pos)
   (λZ H Q=>to Z H λx H1=>BB y z x H1 λv H2=>∃ b:Str,v = .str b /\ q.length + b.length <= sizeLine /\ Q (.str (q ++ b)) H2):=by
 intro pins s Z H Q I h
 refine wpAny_BinOp (Calls.Constant_str ?_)
 have I2:Inv X pins Z H { s with toks:=s.toks + 1 }:=I.tok _
 refine cS (sH (j1:=j1) (j2:=j2) (p1:=p1) (p2:=p2) (apos:=apos) (cpos:=cpos) hyz I2 (Q:=λv H2=>∃ b:Str,v = .str b /\ q.length + b.length <= sizeLine /\ Q (.str (q ++ b)) H2)
  (Oq (wpAny_toks_of (n:=1) (show 1 <= s.toks + 1 by omega) (ho pins _ Z H _ I2 h)) (λ_ _ q=>q) λ_ _ q=>q.2) hbase hline) λu s2 ⟨x,H2,I3,r,b,hx,hz,q2⟩=>?_
 subst hx
 obtain ⟨t,rfl⟩:=r
 exact add_str (λt' tk=>⟨.str (q ++ b),H2,I3.tok _,⟨_,rfl⟩,q2⟩) hz
end
end L2
namespace L2
open PySem PySem.Spec PyProof.Rows
section
variable {X:Cx}
theorem gX {x:Str} {v:V} {pos:Pos} (hg:Gl X x) (h:∃ u,X.mg x = some u /\ RelV v u) (hd:(x == ("__debug__" : Str)) = false:=by decide):PE X (.Name x pos) (tC v):=by
 obtain ⟨u,e,r⟩:=h
 exact eG hg e r hd
theorem Df:∀ {x:V},iZ x = true -> Cg x x = true
 | .cM,_=>rfl
 | .bl b,_=>by simp [Cg]
 | .int b,_=>by simp [Cg]
 | .str b,_=>by simp [Cg]
theorem C8 {caps:List (Str × Nat)} {z:Str} {te:TE} {Z:St} {H:Hp} {Q:VK} (Pv:Nat -> List V -> Hp -> Prop) (h0:Pv 0 [] H) (hn:z.length < sizeLine)
  (hs:∀ i c ys H,z.cps.toList[i]? = some c -> ys.length = i -> Pv i ys H -> te (kR caps Z ++ [some (.str ⟨#[c]⟩)]) H λy H2=>∃ m',m' < z.length - i /\ m' = z.length - (i + 1) /\ i + 1 <= z.length /\ (ys ++ [y]).length = i + 1 /\ Pv (i + 1) (ys ++ [y]) H2) (hd:∀ ys H,ys.length = z.length -> Pv z.length ys H -> ∀ D,H D = none -> Q (.ref D) (upd H D (.lst ys))) :
  BQ (OM z) caps te Z H Q:=by
 refine ⟨λi m ys H=>m = z.length - i /\ i <= z.length /\ ys.length = i /\ Pv i ys H,⟨z.length,by simp,Nat.zero_le _,rfl,h0⟩,?_⟩
 rintro i m ys H ⟨rfl,hi,hl,p⟩
 by_cases hlt:i < z.length
 ·refine .inr ⟨hlt,by omega,λx H' y=>?_⟩
  obtain ⟨e,c,e1,rfl⟩:=y
  subst e
  exact hs i c ys _ e1 hl p
 ·have e:i = z.length:=by omega
  subst e
  exact .inl ⟨Nat.le_refl _,hd ys H hl p⟩
theorem uu {K:PySem.W.Frag} {a:Addr} {xs:List V} {g:TG} {tb:TS} {D:Ends} {Z:St} {H:Hp} (Pv:Nat -> St -> Hp -> Prop) (h0:Pv 0 Z H) (hl:∀ i Z H,i <= xs.length -> Pv i Z H -> bB K H a xs)
  (hs:∀ i x p Z H,xs[i]? = some x -> H p = none -> Pv i Z H -> g (.ref p) Z (upd H p (.tup [.int i,x])) λZ2 H2=>tb { D with nx:=Pv (i + 1),ct:=Pv (i + 1),bk:=D.nx } Z2 H2) (hd:∀ Z H,Pv xs.length Z H -> D.nx Z H):Ib (Pj K a) g tb D Z H:=by
 refine ⟨λi m Z H=>m = xs.length - i /\ i <= xs.length /\ Pv i Z H,⟨xs.length,by simp,Nat.zero_le _,h0⟩,?_⟩
 rintro i m Z H ⟨rfl,hi,p⟩
 have q:=hl i Z H hi p
 by_cases hlt:i < xs.length
 ·refine .inr ⟨⟨xs,xs[i],q,by simp [hlt]⟩,Pv (i + 1),λZ' H' p'=>⟨xs.length - (i + 1),by omega,rfl,hlt,p'⟩,λx H' y=>?_⟩
  obtain ⟨pp,v,h1,rfl,rfl,h2⟩:=y
  exact hs i v pp Z H (h2 xs q) h1 p
 ·have e:i = xs.length:=by omega
  subst e
  exact .inl ⟨⟨xs,q,Nat.le_refl _⟩,hd Z H p⟩
end
noncomputable def kh (H H':Hp) (p:Addr):Prop:=∀ b o,H b = some o -> b ≠ p -> H' b = some o
theorem kh.trans {H H1 H2:Hp} {p:Addr} (a:kh H H1 p) (b:kh H1 H2 p):kh H H2 p:=λc o h n=>b c o (a c o h n) n
theorem kh.same {H H1 H2:Hp} {p:Addr} (a:kh H H1 p) (b:au H1 H2):kh H H2 p:=λc o h n=>b c o (a c o h n)
theorem au.Hy {H H1 H2:Hp} {p:Addr} (a:au H H1) (b:kh H1 H2 p):kh H H2 p:=λc o h n=>b c o (a c o h) n
theorem kh.upd {H:Hp} {p:Addr} {o:HO}:kh H (L2.upd H p o) p:=λb u h n=>by rw [aj n];exact h
end L2
namespace L2
open PySem PySem.Spec PyProof.Rows
section
variable {X:Cx}
theorem E5 {sc csc:Scope} {N:List Str} {elt iter:Expr} {x:Str} {px pos ppos:Pos} {caps:List (Str × Nat)} {wi:TI} {te:TE} (ck:vj sc csc N x caps) (hi:PI X (.Name x px) iter wi)
  (he:∀ C s2 H2 fp,PE (dX X (caps.map (·.1) ++ [x]) csc C s2 H2 fp) elt te) (hc:X.calm = true) (hsc:X.env.scope = sc) (hXN:X.N = N) (hs:∀ x,foldedSetIterable iter X.env x = pure x)
  {pins:List (Addr × Obj)} {s:Shared} {Z:St} {H:Hp} {Q:VK} (I:Inv X pins Z H s) (h:Ds caps wi te Z H Q) (use:Option (Value -> Sem Unit)) (QQ:Value -> Shared -> Prop)
  (fin:∀ (s2:Shared) (H2:Hp) (D C:Addr) (ys:List V) (H':Hp) (s4:Shared) (m:Str -> Option Value),Inv X pins Z H2 s2 -> s2.heap.objs.size <= C -> s2.heap.objs.size <= D -> D ≠ C -> s4.heap.Ns C m ->
   (∀ h',Heap.SameBut C s4.heap h' -> Inv X pins Z (upd H' D (.lst ys)) { s4 with heap:=h' }) -> H' C = none -> Q (.ref D) (upd H' D (.lst ys)) ->
   compPost (model X.prog X.w) X.A X.xe use QQ (.ref D) C (.ok .next) s4) :
  wpAny (model X.prog X.w) X.A (comprehension (.ListComp elt [⟨.Name x px,iter,[],0⟩] csc pos) csc X.env ppos (newList []) false (eval iter X.env) use) QQ X.xe s:=by
 subst hsc hXN
 have cellsOk:∀ p ∈ csc.names,p.2 = .free -> ∃ c,X.env.cells.lookup p.1 = some c:=λp hp e=>I.ok.has p.1 (.inl (ck.free p hp e))
 refine wpAny_comprehension_free (use:=use) rfl hs (kK cellsOk) ck.kind ck.loc (cS (hi pins s Z H _ I h) λv s1 h1=>cS h1 λitv s2 h2=>?_)
 obtain ⟨it,fp,tn,J,H2,e,I2,T,st2,f2,W,⟨m0,w0⟩,turn⟩:=h2
 subst e
 refine wpAny_newObj_type (wpAny_newFunctionEnv ck.cell (by intro y hy;simp at hy) (λh4 hns4 hsb4=>?_) ck.kind)
 dsimp only at hns4 hsb4 ⊢
 generalize hD:s2.heap.objs.size = D at hns4 hsb4 ⊢
 generalize hH2:s2.heap.push { cls:=.type "list",dict:=none,data:=.seq ([]:List Value).toArray } = G at hns4 hsb4 ⊢
 have hGs:G.objs.size = D + 1:=by rw [← hH2,Heap.size_push,hD]
 rw [hGs] at hns4 hsb4 ⊢
 have lt2:∀ b o,s2.heap.get? b = some o -> b < D:=λb o e=>hD ▸ Heap.lt_size e
 have old:∀ b o,s2.heap.get? b = some o -> b ≠ D + 1 /\ b ≠ D:=λb o e=>⟨Ia (lt2 b o e),IU (lt2 b o e)⟩
 have leD:s2.heap.objs.size <= D:=Nat.le_of_eq hD
 have leD1:s2.heap.objs.size <= D + 1:=Nat.le_succ_of_le leD
 have keep4:∀ b o,s2.heap.get? b = some o -> h4.get? b = some o:=λb o e=>hsb4.extBut b o (old b o e).1 (Heap.get?_push_of_some _ (hH2 ▸ Heap.get?_push_of_some _ e))
 have hDo:h4.get? D = some { cls:=.type "list",data:=.seq ([]:List Value).toArray 0 }:=by
  refine hsb4.extBut D _ G6 (Heap.get?_push_of_some _ ?_)
  rw [← hH2,← hD]
  exact Heap.get?_push_size _ rfl
 have fps:∀ b ∈ fp,b < s2.heap.objs.size:=λb hb=>by
  obtain ⟨o,e,_⟩:=T.obj _ _ st2 b hb
  exact Heap.lt_size e
 have I4:∀ t4,Inv (dX X (caps.map (·.1) ++ [x]) csc (D + 1) s2 H2 fp) [] (kR caps Z ++ [none]) H2 { s2 with heap:=h4,toks:=t4 }:=λt4=>pB (m0:=λx=>[].reverse.lookup x) I2 ck f2 fps leD1 keep4 hns4
 have cellsLt:∀ y c,(fT X.env csc.names []).lookup y = some c -> c < D:=λy c e=>by
  obtain ⟨v,o,ho,_⟩:=I2.cell y c (iS _ _ cellsOk (λy c h=>by simp at h) y c e)
  exact lt2 c o ho
 have fsLt:∀ b ∈ frs X.stack,b < D:=λb hb=>by
  obtain ⟨_,o,ho,_⟩:=I2.stack.mem hb
  exact lt2 b o ho
 have fpC:∀ {pl:List (Addr × Obj)} {H':Hp},(∀ p ∈ pl,p.1 = D) -> (∀ b ∈ fp,H' b = none) -> ∀ b ∈ fp,se (dX X (caps.map (·.1) ++ [x]) csc (D + 1) s2 H2 fp) pl H' b:=λ{pl H'} hpl hn b hb=>by
  have hb':b < D:=hD ▸ fps b hb
  refine ⟨hn b hb,Ia hb',?_,.inl hb,λy c e=>?_,λp hp=>?_⟩
  ·intro z
   rcases List.mem_cons.mp (I2.mZ b z) with e | e
   ·exact (f2 b hb).2.1 e
   ·exact (f2 b hb).2.2.1 e
  ·exact (f2 b hb).2.2.2.2.1 y c (iS _ _ cellsOk (λy c h=>by simp at h) y c e)
  ·have:p.1 = D:=hpl p (by simpa using hp)
   rw [this];exact λz=>IU hb' z.symm
 have loop:∀ t4,codeAny (model X.prog X.w) X.A (.compLoop (.ListComp elt [⟨.Name x px,iter,[],0⟩] csc pos) 0 (.ref it) (.ref D) (compEnvC csc (fT X.env csc.names []) (D + 1) X.env))
   (compPost (model X.prog X.w) X.A X.xe use QQ (.ref D) (D + 1)) { s2 with heap:=h4,toks:=t4 }:=by
  intro t4
  refine oh (λn s'=>∃ (i:Nat) (ys:List V) (its:List Value) (k:Nat) (Z':St) (H':Hp),Inv (dX X (caps.map (·.1) ++ [x]) csc (D + 1) s2 H2 fp) [(D,{ cls:=.type "list",data:=.seq its.toArray k })] Z' H' s' /\ tn i s'.heap /\ (∀ b ∈ fp,H' b = none) /\ Vals ys its /\ ys.length <= sizeLine /\ W i n ys H' /\ (∃ z,Z' = kR caps Z ++ [z])) ?_ m0 ?_
  ·rintro n s3 ⟨i,ys,its,k,Z3,H3,I3,st3,fr3,hv,hz,w3,z3,rfl⟩
   have pl1:∀ p ∈ [((D,{ cls:=.type "list",data:=.seq its.toArray k }):Addr × Obj)],p.1 = D:=λp hp=>by rw [List.mem_singleton.mp hp]
   rcases turn i n ys H3 w3 with ⟨stop,qn⟩ | ⟨go,hlt,step⟩
   ·refine wpAny_mono (T.done (dX X (caps.map (·.1) ++ [x]) csc (D + 1) s2 H2 fp) rfl rfl rfl hc i _ s3 _ H3 (λ_ _=>False) I3 (fpC pl1 fr3) st3 stop) (λr s4 ⟨hr,I4'⟩=>?_) λ_ _ f=>f.elim
    subst hr
    obtain ⟨m,hn,_⟩:=id I4'.loc
    have pD:=I4'.pin (D,{ cls:=.type "list",data:=.seq its.toArray k }) (by simp)
    exact fin s2 H2 D (D + 1) ys H3 s4 m I2 leD1 leD G6 hn (λh' hs'=>tZ I2 I4' f2 leD1 leD G6 hs' hv hz pD.1 pD.2.1) I4'.free (qn D pD.2.1)
   ·refine wpAny_mono (T.item (dX X (caps.map (·.1) ++ [x]) csc (D + 1) s2 H2 fp) rfl rfl rfl hc i _ s3 _ H3 (λ_ _=>False) I3 (fpC pl1 fr3) st3 go) (λr s4 ⟨u,hr,h4'⟩=>?_) λ_ _ f=>f.elim
    subst hr
    refine wpAny_mono h4' (λ_ s4 ⟨xv,H5,I5,r5,y5,st5,fr5⟩=>?_) λ_ _ f=>f.elim
    have I5':=I5.pinned (fpC pl1 fr5) (T.obj _ _ st5)
    have hiN:(caps.map (·.1) ++ [x])[caps.length]? = some x:=by rw [List.getElem?_append_right (by simp)];simp
    refine wpAny_mono (bK (X:=dX X (caps.map (·.1) ++ [x]) csc (D + 1) s2 H2 fp) (i:=caps.length) ck.nd hiN (.inl (lookup_relabel_local ck.tg)) (.inr (lookup_relabel_local ck.tg)) _ s4 _ H5 xv u _ I5' r5 (show sY caps.length xv _ H5 (λZ6 H6=>Z6 = kR caps Z ++ [some xv] /\ H6 = H5) from ⟨?_,rfl⟩)) (λ_ s6 ⟨Z6,H6,I6,hZ,hH⟩=>?_) λ_ _ f=>f.elim
    ·rw [List.set_append_right _ _ (by rw [g8];exact Nat.le_refl _),g8,Nat.sub_self];rfl
    subst hZ hH
    refine wpAny_mono (he (D + 1) s2 H2 fp _ s6 _ H6 _ I6 (step xv H6 y5)) (λw7 s7 ⟨y,H7,I7,r7,m',hm,w8⟩=>?_) λ_ _ f=>f.elim
    have pD:=I7.pin (D,{ cls:=.type "list",data:=.seq its.toArray k }) (by simp)
    have hll:=hv.length
    refine call_meets F.slot_list_append ⟨_,pD.1,rfl⟩ F.entry_list_append (F.args_list_append_2 _ _) (PySem.list_append D its.toArray k w7 (by rw [List.size_toArray];omega)) ⟨pD.1,?_⟩
    have q:=PySem.IsL.update pD.1 (·.push w7)
    have hpush:its.toArray.push w7 = (its ++ [w7]).toArray:=by simp
    rw [hpush] at q
    obtain ⟨k',q⟩:∃ k',(s7.heap.update D (Obj.mapSeq (·.push w7))).get? D = some { cls:=.type "list",data:=.seq (its ++ [w7]).toArray k' }:=⟨_,q⟩
    have I7u:Inv (dX X (caps.map (·.1) ++ [x]) csc (D + 1) s2 H2 fp) (kq fp s4.heap) _ H7 s7:=I7.gT λp hp=>I7.pin p (List.mem_append_right _ (List.mem_append_right _ hp))
    have pfp:∀ p ∈ kq fp s4.heap,p.1 < D:=λp hp=>hD ▸ fps p.1 (nA hp).1
    have I8:=I7u.turned (h':=s7.heap.update D (Obj.mapSeq (·.push w7))) (t':=s7.toks) (it:=D) (λb o hb e=>(Heap.get?_update_other s7.heap _ (Ne.symm hb)).trans e) pD.2.1 G6 (.inr leD) (λy c e=>IU (cellsLt y c e)) (λp hp=>IU (pfp p (by simpa using hp)))
    refine ⟨m',hm,i + 1,ys ++ [y],its ++ [w7],k',_,H7,I8.gT λp hp=>?_,T.keep _ _ _ st5 λb hb o e=>(I8.pin (b,o) (List.mem_append_right _ (gM hb e))).1,λb hb=>?_,hv.append (.cons r7 .nil),?_,w8,_,rfl⟩
    ·rw [List.mem_singleton.mp hp]
     exact ⟨q,pD.2.1,pD.2.2.1,pD.2.2.2.1,λv=>by simp⟩
    ·obtain ⟨o,e,d⟩:=T.obj _ _ st5 b hb
     exact (I8.pin (b,o) (List.mem_append_right _ (gM hb e))).2.1
    ·rw [List.length_append,List.length_singleton];omega
  ·refine ⟨0,[],[],0,_,H2,(I4 t4).gT λp hp=>?_,T.keep _ _ _ st2 λb hb o e=>keep4 b o e,λb hb=>(f2 b hb).1,.nil,Nat.zero_le _,w0,_,rfl⟩
   rw [List.mem_singleton.mp hp]
   refine ⟨hDo,I2.hok.fresh leD,G6,λz=>absurd (fsLt D z) (Nat.lt_irrefl _),λv=>by simp⟩
 exact codeAny_compStart_list (loop _) (T.self _ 0 _ _ _ (T.keep _ _ _ st2 λb hb o e=>keep4 b o e) (loop _))
theorem IE {i:Nat} {y:Str} {sc csc:Scope} {N:List Str} {elt iter:Expr} {x:Str} {px pos pos' spos:Pos} {caps:List (Str × Nat)} {wi:TI} {te:TE} (hN:X.N.Nodup) (hiy:X.N[i]? = some y) (hy:Loc X.env.scope y) (ck:vj sc csc N x caps) (hi:PI X (.Name x px) iter wi)
  (he:∀ C s2 H2 fp,PE (dX X (caps.map (·.1) ++ [x]) csc C s2 H2 fp) elt te) (hc:X.calm = true:=by rfl) (hsc:X.env.scope = sc:=by rfl) (hXN:X.N = N:=by rfl) (hs:∀ x,foldedSetIterable iter X.env x = pure x:=by intro _;rfl)
  (hsw:swapsWith (.ListComp elt [⟨.Name x px,iter,[],0⟩] csc pos) (some (.Name y pos')) spos.line X.env = pure true:=by rfl) (hf:X.fn y = true ∨ X.env.scope.names.lookup y = some .local:=by first | exact .inl rfl | exact .inr rfl | assumption) :
  PS X (.Assign [.Name y pos'] (.ListComp elt [⟨.Name x px,iter,[],0⟩] csc pos) spos) (HX (Ds caps wi te) (sY i)):=by
 intro pins s Z H D I h
 rw [exec_Assign_Name_used _ _ _ _ hsw]
 refine wpAny_bind (wpAny_standAt (wpAny_bind ?_))
 show wpAny _ X.A (do let _ ← comprehension (.ListComp elt [⟨.Name x px,iter,[],0⟩] csc pos) csc X.env _ (newList []) false (eval iter X.env) (some (assign (.Name y pos') X.env))) _ _ s
 refine wpAny_bind (wpAny_mono (E5 ck hi he hc hsc hXN hs I h (some (assign (.Name y pos') X.env)) (λ_ s'=>SP X pins D .next s') ?_) (λ_ s' hq=>wpAny_pure (wpAny_pure hq)) λ_ _ e=>e)
 intro s2 H2 Dl C ys H' s4 m I2 leC leD nDC hns hI hfC q
 have I0:Inv X pins Z (upd H' Dl (.lst ys)) s4:=hI s4.heap (Heap.SameBut.refl _ _)
 have hCD:C ≠ Dl:=Ne.symm nDC
 have hHC:upd H' Dl (.lst ys) C = none:=by rw [aj hCD];exact hfC
 have hCL:C ≠ X.env.locals:=λz=>by have:=I2.lt;rw [← z] at this;exact absurd this (Nat.not_lt.mpr leC)
 have hCfs:C ∉ X.fs:=I2.Nq leC
 have pinlt:∀ p ∈ X.pn ++ pins,p.1 ≠ C:=λp hp z=>by
  have:=(I2.pin p hp).1
  have:=Heap.lt_size this
  rw [z] at this
  exact absurd this (Nat.not_lt.mpr leC)
 have celllt:∀ z c,X.env.cells.lookup z = some c -> c ≠ C:=λz c e w=>by
  obtain ⟨v,o,ho,_⟩:=I2.cell z c e
  have:=Heap.lt_size ho
  rw [w] at this
  exact absurd this (Nat.not_lt.mpr leC)
 obtain ⟨oC,es,ep,eC,dC,rC⟩:=id hns
 have I1:Inv X (pins ++ [(C,oC)]) Z (upd H' Dl (.lst ys)) s4:=I0.gT λp hp=>by
  rcases List.mem_append.mp hp with hp | hp
  ·exact I0.pin p (List.mem_append_right _ hp)
  ·rw [List.mem_singleton.mp hp]
   exact ⟨eC,hHC,hCL,hCfs,λv z=>by rw [dC] at z;cases z⟩
 refine cS (bK (i:=i) (pos:=pos') hN hiy hy hf (pins ++ [(C,oC)]) s4 Z _ (.ref Dl) (.ref Dl) D.nx I1 rfl q) λ_ s5 ⟨Z5,H5,I5,q5⟩=>?_
 have pC:=I5.pin (C,oC) (by simp)
 refine ⟨m,⟨oC,es,ep,pC.1,dC,rC⟩,λh' hs'=>?_⟩
 have I6:Inv X pins Z5 H5 s5:=I5.gT λp hp=>I5.pin p (List.mem_append_right _ (List.mem_append_left _ hp))
 exact ⟨Z5,H5,I6.turned (h':=h') (t':=s5.toks) (it:=C) (λb o hb e=>(hs'.2 b hb).trans e) pC.2.1 hCL (.inr (Nat.le_trans I2.sz leC)) celllt pinlt,q5⟩
theorem oX {K:PySem.W.Frag} {e:Expr} {ta:TE} {f:Str} {pos:Pos} (he:PE X e ta) (hb:attributeBase e f X.env (eval e X.env) = eval e X.env) (hK:X.K = K:=by rfl):PE X (.Attribute e f pos) (KW K ta f):=by
 subst hK;exact aZ he hb
theorem F5 {K:PySem.W.Frag} (hK:X.K = K):M7 X (KL K):=by subst hK;exact aY
theorem Ie {K:PySem.W.Frag} (hK:X.K = K):M7 X (Kp K):=by subst hK;exact bU
end
end L2
namespace L2
open PySem PySem.Spec PyProof.Rows
section
variable {X:Cx}
def strsOf:List Expr -> Option (List Str)
 | []=>some []
 | e :: r=>match e with
  | .Constant (.str x) _ _=>(strsOf r).map (x :: ·)
  | _=>none
theorem fM:∀ {es:List Expr} {xs:List Str},strsOf es = some xs -> PA X es (λ_ H Q=>Q (xs.map V.str) H)
 | [],xs,h=>by
  have e:xs = []:=(Option.some.inj h).symm
  subst e
  exact ah
 | e :: r,xs,h=>by
  unfold strsOf at h
  split at h
  ·rename_i x j p
   obtain ⟨ys,h1,h2⟩:=Option.map_eq_some_iff.mp h
   subst h2
   exact aa (te:=tC (.str x)) (t:=λ_ H Q=>Q (ys.map V.str) H) aM (fM h1) rfl
  ·cases h
end
end L2
namespace L2
open PySem PySem.Spec PyProof.Rows
structure Kept (F ch:List Addr) (g h:Heap):Prop where
 keep:∀ b o,g.get? b = some o -> b ∉ F -> b ∉ ch -> h.get? b = some o
 slot:∀ b o,g.get? b = some o -> b ∈ F -> b ∉ ch -> ∃ sl,h.get? b = some { o with slots:=sl }
 there:∀ b o,g.get? b = some o -> ∃ u,h.get? b = some u
theorem Kept.trans {F c1 c2:List Addr} {g h k:Heap} (x:Kept F c1 g h) (y:Kept F c2 h k):Kept F (c1 ++ c2) g k where
 keep b o e n1 n2:=y.keep b o (x.keep b o e n1 λz=>n2 (List.mem_append_left _ z)) n1 λz=>n2 (List.mem_append_right _ z)
 slot b o e n1 n2:=by
  obtain ⟨sl,e1⟩:=x.slot b o e n1 λz=>n2 (List.mem_append_left _ z)
  obtain ⟨sl2,e2⟩:=y.slot b _ e1 n1 λz=>n2 (List.mem_append_right _ z)
  exact ⟨sl2,e2⟩
 there b o e:=let ⟨u,e1⟩:=x.there b o e;y.there b u e1
theorem Kept.one {F:List Addr} {h:Heap} {a:Addr} {o:Obj} {f:Obj -> Obj} (e:h.get? a = some o) (nf:(f o).isFreed = false):Kept F [a] h (h.update a f) where
 keep b u q n1 n2:=by rw [Heap.get?_update_other _ _ (λz=>n2 (by simp [z]))];exact q
 slot b u q n1 n2:=⟨u.slots,by rw [Heap.get?_update_other _ _ (λz=>n2 (by simp [z]))];exact q⟩
 there b u q:=by
  by_cases z:b = a
  ·subst z;exact ⟨_,Heap.get?_update_self _ e nf⟩
  ·exact ⟨u,by rw [Heap.get?_update_other _ _ (Ne.symm z)];exact q⟩
theorem Kept.push {F:List Addr} {h:Heap} {o:Obj}:Kept F [] h (h.push o) :=
 ⟨λb u q _ _=>Heap.get?_push_of_some _ q,λb u q _ _=>⟨u.slots,Heap.get?_push_of_some _ q⟩,λb u q=>⟨u,Heap.get?_push_of_some _ q⟩⟩
theorem Kept.slots {F:List Addr} {h k:Heap} (x:Heap.SlotsOnly F h k):Kept F [] h k :=
 ⟨λb u q n _=>(x.2.1 b n).trans q,λb u q _ _=>x.2.2 b u q,λb u q=>let ⟨sl,e⟩:=x.2.2 b u q;⟨_,e⟩⟩
theorem Kept.mono {F c1 c2:List Addr} {g h:Heap} (x:Kept F c1 g h) (s:∀ b ∈ c1,b ∈ c2):Kept F c2 g h :=
 ⟨λb o e n1 n2=>x.keep b o e n1 λz=>n2 (s b z),λb o e n1 n2=>x.slot b o e n1 λz=>n2 (s b z),x.there⟩
theorem Kept.frame {ch:List Addr} {g h:Heap} (x:Kept [] ch g h) (F:List Addr):Kept F ch g h :=
 ⟨λb o e _ n=>x.keep b o e (by simp) n,λb o e _ n=>⟨o.slots,x.keep b o e (by simp) n⟩,x.there⟩
theorem Kept.un {F ch:List Addr} {g h:Heap} {H:Hp} (x:Kept F ch g h):Un F ch H H g h :=
 ⟨λb o e _ n1 n2=>x.keep b o e n1 n2,λb o e _ n1 n2=>x.slot b o e n1 n2,λ_ _ _ n _=>n,λb o e _=>x.there b o e,λ_ _ e=>e,λ_ _ _ e=>e,λb ps e=>⟨#[],by rw [e];simp⟩⟩
theorem Kept.hok {P:Program} {w:World} {F ch:List Addr} {g h:Heap} {H:Hp} (x:Kept F ch g h) (k:jP P w H g) (hF:∀ b ∈ F,H b = none) (hc:∀ b ∈ ch,H b = none):jP P w H h:=λa o e=>by
 refine (k a o e).stay (λb u hb q=>x.keep b u q (λz=>?_) λz=>?_) (λ_ q=>q) λ_ _ q=>q
 ·rcases hb with y | y
  ·rw [y] at z;rw [hF a z] at e;cases e
  ·rw [hF b z] at y;cases y
 ·rcases hb with y | y
  ·rw [y] at z;rw [hc a z] at e;cases e
  ·rw [hc b z] at y;cases y
section
variable {M:Model} {A:Around} {E:Value -> Shared -> Prop} {s:Shared} {base:Heap} {env:Env} {outer:List Env} {L e:Addr}
theorem sM {oe:Obj} {vs:Array Value} {head:Value} {hn:Bool} {Q:Unit -> Shared -> Prop} (hfr:A.frames = some (env :: outer)) (hl:s.heap.FunFrames base (env :: outer)) (hf:env.frame = some L)
  (he:s.heap.get? e = some oe) (hd:oe.data = .fields vs) (hsz:1 < vs.size)
  (h:∀ (h2:Heap) (T:Addr) (oT:Obj) (ts:Array Value),Kept (frs (env :: outer)) [e] s.heap h2 -> s.heap.objs.size <= T -> T ≠ e -> h2.get? e = some (oe.mapFields (·.setIfInBounds 1 (.ref T))) -> h2.get? T = some oT -> oT.data = .fields ts -> ts[3]? = some (rawInt L) -> Q () { s with heap:=h2 }) :
  wpAny M A (do let a ← frameOf env;let pl ← entryPlaceOf L hn;let b ← EntryCells.newEntry head a .none (rawInt L) .none pl;setField (.ref e) 1 b) Q E s:=by
 have ef:e ∉ frs (env :: outer):=λz=>by
  obtain ⟨_,o,q,nf⟩:=hl.mem z
  rw [he] at q;cases q
  exact nf vs hd
 refine wpAny_bind (wpAny_frameOf_fun hfr hl hf λg1 so=>?_)
 have k1:Kept (frs (env :: outer)) [] s.heap g1:=Kept.slots so
 refine wpAny_bind (wpAny_entryPlaceOf λpl isp=>?_)
 unfold EntryCells.newEntry newFields
 refine wpAny_bind (wpAny_newObj_type ?_ (isp.sizeOk5 _ _ _ _ _))
 have e1:g1.get? e = some oe:=k1.keep e oe he ef (by simp)
 generalize hO:({ cls:=.type "traceback",dict:=none,data:=.fields ([head,.ref L,.none,rawInt L,.none] ++ (if pl.isEmpty then List.replicate 6 Value.none else pl)).toArray }:Obj) = O
 have dO:O.data = .fields ([head,.ref L,.none,rawInt L,.none] ++ (if pl.isEmpty then List.replicate 6 Value.none else pl)).toArray:=by rw [← hO]
 have fO:O.isFreed = false:=Obj.isFreed_of_fields dO
 have e2:(g1.push O).get? e = some oe:=Heap.get?_push_of_some _ e1
 have d3:=Obj.data_mapFields hd (·.setIfInBounds 1 (Value.ref g1.objs.size))
 have nT:g1.objs.size ≠ e:=Nat.ne_of_gt (Heap.lt_size e1)
 refine wpAny_setField e2 hd hsz (h _ g1.objs.size O _ ?_ ?_ nT (Heap.get?_update_self _ e2 (Obj.isFreed_of_fields d3)) ?_ dO ?_)
 ·exact ((k1.trans Kept.push).trans (Kept.one e2 (Obj.isFreed_of_fields d3))).mono (by simp)
 ·exact Nat.le_of_eq so.1.symm
 ·rw [Heap.get?_update_other _ _ (Ne.symm nT)]
  exact Heap.get?_push_size g1 fO
 ·simp
end
structure iV (h:Heap) (e C:Addr) (d:Option Addr) (T:Addr) (fl:Value):Prop where
 ob:∃ oe vs,h.get? e = some oe /\ oe.cls = .ref C /\ oe.dict = d /\ oe.data = .fields vs /\ vs[1]? = some (.ref T)
 ne:T ≠ e
 tb:∃ oT ts,h.get? T = some oT /\ oT.data = .fields ts /\ ts[3]? = some fl
def kG (h:Heap) (e C:Addr) (d:Option Addr):Prop:=∃ oe vs,h.get? e = some oe /\ oe.cls = .ref C /\ oe.dict = d /\ oe.data = .fields vs /\ vs[1]? = some .none
section
variable {M:Model} {A:Around} {E:Value -> Shared -> Prop} {s:Shared} {base:Heap} {env:Env} {outer:List Env} {L e C T:Addr} {d:Option Addr}
theorem Fe {Q:Unit -> Shared -> Prop} (hfr:A.frames = some (env :: outer)) (hl:s.heap.FunFrames base (env :: outer)) (hf:env.frame = some L) (x:kG s.heap e C d)
  (h:∀ (h2:Heap) (T:Addr),Kept (frs (env :: outer)) [e] s.heap h2 -> s.heap.objs.size <= T -> iV h2 e C d T (rawInt L) -> Q () { s with heap:=h2 }):wpAny M A (noteFrame (.ref e) env) Q E s:=by
 obtain ⟨oe,vs,h1,h2,h3,h4,h5⟩:=x
 unfold noteFrame
 simp only [hf]
 refine wpAny_bind (wpAny_field h1 h4 h5 ?_)
 rw [if_neg (by decide)]
 have sz:1 < vs.size:=(Array.getElem?_eq_some_iff.mp h5).1
 refine sM hfr hl hf h1 h4 sz λg T oT ts k n ne q1 q2 q3 q4=>h g T k n ⟨⟨_,_,q1,?_,?_,Obj.data_mapFields h4 _,?_⟩,ne,oT,ts,q2,q3,q4⟩
 ·rw [Obj.cls_mapFields];exact h2
 ·obtain ⟨c,dd,dt,sl⟩:=oe
  cases dt <;> exact h3
 ·simp [sz]
theorem AY {Q:Unit -> Shared -> Prop} (hfr:A.frames = some (env :: outer)) (hl:s.heap.FunFrames base (env :: outer)) (hf:env.frame = some L) (x:iV s.heap e C d T .none)
  (h:∀ (h2:Heap) (T2:Addr),Kept (frs (env :: outer)) [T,e] s.heap h2 -> s.heap.objs.size <= T2 -> iV h2 e C d T2 (rawInt L) -> Q () { s with heap:=h2 }):wpAny M A (noteFrame (.ref e) env) Q E s:=by
 obtain ⟨⟨oe,vs,h1,h2,h3,h4,h5⟩,ne,oT,ts,t1,t2,t3⟩:=x
 unfold noteFrame
 simp only [hf]
 refine wpAny_bind (wpAny_field h1 h4 h5 ?_)
 rw [if_pos (by simp)]
 refine wpAny_bind (wpAny_field t1 t2 t3 ?_)
 rw [if_neg (by simp [rawInt])]
 have sT:3 < ts.size:=(Array.getElem?_eq_some_iff.mp t3).1
 refine wpAny_bind (wpAny_setField t1 t2 sT ?_)
 have dT:=Obj.data_mapFields t2 (·.setIfInBounds 3 Value.none)
 have kT:Kept (frs (env :: outer)) [T] s.heap (s.heap.update T (Obj.mapFields (·.setIfInBounds 3 Value.none))):=Kept.one t1 (Obj.isFreed_of_fields dT)
 have he2:(s.heap.update T (Obj.mapFields (·.setIfInBounds 3 Value.none))).get? e = some oe:=by rw [Heap.get?_update_other _ _ ne];exact h1
 have hl2:(s.heap.update T (Obj.mapFields (·.setIfInBounds 3 Value.none))).FunFrames base (env :: outer):=hl.of_keeps λb o q nf=>⟨o,by
  rw [Heap.get?_update_other _ _ (λz=>by rw [← z,t1] at q;cases q;exact nf ts t2)];exact q,rfl⟩
 have sz:1 < vs.size:=(Array.getElem?_eq_some_iff.mp h5).1
 refine sM (s:={ s with heap:=s.heap.update T (Obj.mapFields (·.setIfInBounds 3 Value.none)) }) hfr hl2 hf he2 h4 sz λg T2 o2 ts2 k n ne2 q1 q2 q3 q4=>h g T2 (kT.trans k) ?_ ⟨⟨_,_,q1,?_,?_,Obj.data_mapFields h4 _,?_⟩,ne2,o2,ts2,q2,q3,q4⟩
 ·have n:(s.heap.update T (Obj.mapFields (·.setIfInBounds 3 Value.none))).objs.size <= T2:=n
  rw [Heap.size_after_update] at n
  exact n
 ·rw [Obj.cls_mapFields];exact h2
 ·obtain ⟨c,dd,dt,sl⟩:=oe
  cases dt <;> exact h3
 ·simp [sz]
theorem ji {fl:Value} {Q:Unit -> Shared -> Prop} (x:iV s.heap e C d T fl) (h:∀ h2:Heap,Kept [] [T] s.heap h2 -> iV h2 e C d T .none -> Q () { s with heap:=h2 }):wpAny M A (setFlight (.ref e) none) Q E s:=by
 obtain ⟨⟨oe,vs,h1,h2,h3,h4,h5⟩,ne,oT,ts,t1,t2,t3⟩:=x
 have sT:3 < ts.size:=(Array.getElem?_eq_some_iff.mp t3).1
 unfold setFlight
 refine wpAny_bind (wpAny_field h1 h4 h5 ?_)
 rw [if_pos (by simp)]
 have dT:=Obj.data_mapFields t2 (·.setIfInBounds 3 ((none:Option Addr).elim Value.none λf=>rawInt f))
 refine wpAny_setField t1 t2 sT (h _ (Kept.one t1 (Obj.isFreed_of_fields dT)) ⟨⟨oe,vs,?_,h2,h3,h4,h5⟩,ne,_,_,Heap.get?_update_self _ t1 (Obj.isFreed_of_fields dT),dT,?_⟩)
 ·rw [Heap.get?_update_other _ _ ne];exact h1
 ·simp [sT]
theorem leave_new {Q:Unit -> Shared -> Prop} (hfr:A.frames = some (env :: outer)) (hl:s.heap.FunFrames base (env :: outer)) (hf:env.frame = some L) (x:kG s.heap e C d)
  (h:∀ (h2:Heap) (T:Addr),Kept (frs (env :: outer)) [e,T] s.heap h2 -> s.heap.objs.size <= T -> iV h2 e C d T .none -> Q () { s with heap:=h2 }):wpAny M A (leaving env (.ref e)) Q E s:=by
 unfold leaving
 refine wpAny_bind (Fe hfr hl hf x λg T k n y=>ji (s:={ s with heap:=g }) y λg2 k2 y2=>h g2 T (k.trans (k2.frame _)) n y2)
theorem Et {Q:Unit -> Shared -> Prop} (hfr:A.frames = some (env :: outer)) (hl:s.heap.FunFrames base (env :: outer)) (hf:env.frame = some L) (x:iV s.heap e C d T .none)
  (h:∀ (h2:Heap) (T2:Addr),Kept (frs (env :: outer)) [T,e,T2] s.heap h2 -> s.heap.objs.size <= T2 -> iV h2 e C d T2 .none -> Q () { s with heap:=h2 }):wpAny M A (leaving env (.ref e)) Q E s:=by
 unfold leaving
 refine wpAny_bind (AY hfr hl hf x λg T2 k n y=>ji (s:={ s with heap:=g }) y λg2 k2 y2=>h g2 T2 (k.trans (k2.frame _)) n y2)
end
end L2
namespace L2
open PySem PySem.Spec PyProof.Rows
def gr (e C:Addr) (d:Option Addr):HO:=.ext λh=>∃ oe vs,h.get? e = some oe /\ oe.cls = .ref C /\ oe.dict = d /\ oe.data = .fields vs /\ 1 < vs.size
theorem uZ {P:Program} {w:World} {H:Hp} {h:Heap} {e C:Addr} {d:Option Addr} {oe:Obj} {vs:Array Value} (h1:h.get? e = some oe) (h2:oe.cls = .ref C) (h3:oe.dict = d) (h4:oe.data = .fields vs) (h5:1 < vs.size):di P w H h e (gr e C d) :=
 ⟨⟨oe,vs,h1,h2,h3,h4,h5⟩,⟨oe,h1⟩,λg1 g2 ⟨o,v,q1,q2⟩ k=>⟨o,v,k o q1,q2⟩⟩
theorem iV.ok {P:Program} {w:World} {H:Hp} {h:Heap} {e C T:Addr} {d:Option Addr} {fl:Value} (x:iV h e C d T fl):di P w H h e (gr e C d):=by
 obtain ⟨oe,vs,h1,h2,h3,h4,h5⟩:=x.ob
 exact uZ h1 h2 h3 h4 (Array.getElem?_eq_some_iff.mp h5).1
theorem Kept.Nj {P:Program} {w:World} {F ch:List Addr} {g h:Heap} {H:Hp} {e C:Addr} {d:Option Addr} (x:Kept F ch g h) (k:jP P w H g) (hF:∀ b ∈ F,H b = none) (hc:∀ b ∈ ch,b = e ∨ H b = none) (he:H e = some (gr e C d)) (ok:di P w H h e (gr e C d)):jP P w H h:=λa o q=>by
 by_cases z:a = e
 ·subst z
  rw [he] at q
  cases q
  exact ok
 refine (k a o q).stay (λb u hb r=>x.keep b u r (λy=>?_) λy=>?_) (λ_ r=>r) λ_ _ r=>r
 ·rcases hb with v | v
  ·rw [v] at y;rw [hF a y] at q;cases q
  ·rw [hF b y] at v;cases v
 ·rcases hc b y with n | n
  ·rcases hb with v | v
   ·exact z (v.symm.trans n)
   ·rw [n,he] at v;cases v
  ·rcases hb with v | v
   ·rw [v] at n;rw [n] at q;cases q
   ·rw [n] at v;cases v
theorem di.there {P:Program} {w:World} {H:Hp} {h:Heap} {a:Addr} {o:HO} (x:di P w H h a o):∃ ob,h.get? a = some ob:=by
 induction o with
 | lst xs=>obtain ⟨_,_,_,_,e⟩:=x;exact ⟨_,e⟩
 | tup xs=>obtain ⟨_,_,_,p⟩:=x;obtain ⟨ob,e,_⟩:=p;exact ⟨ob,e⟩
 | dK kvs=>obtain ⟨_,_,_,_,o,_,_,e,_⟩:=x;exact ⟨o,e⟩
 | dT kvs=>obtain ⟨_,_,_,_,o,_,_,e,_⟩:=x;exact ⟨o,e⟩
 | set S n=>obtain ⟨o,_,_,_,e,_⟩:=x;exact ⟨o,e⟩
 | ins C dx fs=>obtain ⟨_,_,_,e,_⟩:=x;exact ⟨_,e⟩
 | own y=>exact x
 | xd fs=>obtain ⟨_,⟨o,_,_,e,_⟩,_⟩:=x;exact ⟨o,e⟩
 | met f y=>exact ⟨_,x⟩
 | OU lo hi=>obtain ⟨_,_,_,e⟩:=x;exact ⟨_,e⟩
 | De o u _=>exact ⟨o,x.1⟩
 | II ps=>exact ⟨_,x⟩
 | ext φ=>exact x.2.1
theorem jP.new {P:Program} {w:World} {H:Hp} {h:Heap} {a:Addr} (k:jP P w H h) (e:h.get? a = none):H a = none:=by
 cases q:H a with
 | none=>rfl
 | some o =>
  obtain ⟨ob,q2⟩:=(k a o q).there
  rw [e] at q2;cases q2
def jz (P:Program) (w:World):qF:=λouter H s E ev s'=>∃ (e C T:Addr) (d:Option Addr) (H':Hp),ev = .ref e /\ iV s'.heap e C d T .none /\ s'.os = s.os /\ AllBare s'.gens /\ Un (frs outer) [] H H' s.heap s'.heap /\ jP P w H' s'.heap /\
 H' e = some (gr e C d) /\ H' T = none /\ s.heap.objs.size <= T /\ s.heap.get? e = none /\ E (.ref C) (some e) H'
section
variable {P:Program} {w:World} {K:PySem.W.Frag} {mg:Str -> Option Value} {base:Heap} {N:List Str} {qual:Str} {scope:Scope} {f:Addr} {cd:Value} {A:Around} {outer:List Env} {s:Shared} {H:Hp} {E:XK}
theorem Fq {X:Cx} {pins:List (Addr × Obj)} {Z:St} {H':Hp} {s':Shared} {h2:Heap} {e C T2:Addr} {d:Option Addr} {ch:List Addr} (hfs:X.fs = frs outer) (hex:X.ex = []) (hH:X.H₀ = H) (hs:X.s₀ = s) (hP:X.prog = P) (hw:X.w = w) (J:Inv X pins Z H' s') (k:Kept (frs X.stack) ch s'.heap h2) (y:iV h2 e C d T2 .none)
  (he:H' e = some (gr e C d)) (l2:s'.heap.objs.size <= T2) (le:s.heap.get? e = none) (hch:∀ b ∈ ch,(b = e ∨ H' b = none) /\ s.heap.get? b = none) (hE:E (.ref C) (some e) H'):jz P w outer H s E (.ref e) { s' with heap:=h2 }:=by
 subst hH hs hP hw
 have ll:∀ b o,X.s₀.heap.get? b = some o -> b ∉ ch /\ b ≠ X.env.locals:=λb o q=>by
  have lt:=Heap.lt_size q
  refine ⟨(λz=>by rw [(hch b z).2] at q;cases q),λz=>?_⟩
  have:=J.ok.above
  rw [← z] at this
  exact absurd this (Nat.not_le.mpr lt)
 have nst:∀ b o,X.s₀.heap.get? b = some o -> b ∉ frs outer -> b ∉ frs X.stack:=λb o q n z=>by
  rcases List.mem_cons.mp (J.mZ b z) with y | y
  ·exact (ll b o q).2 y
  ·rw [hfs] at y;exact n y
 have hb:=J.base
 rw [hfs,hex] at hb
 refine ⟨e,C,T2,d,H',rfl,y,J.os,J.bare,⟨λb o q n n1 n2=>?_,λb o q n n1 n2=>?_,λb o q n n2=>hb.free b o q n n2,λb o q n2=>?_,hb.tups,hb.oJ,hb.qE⟩,k.Nj J.hok J.oV (λb z=>(hch b z).1) he y.ok,he,J.hok.fresh l2,Nat.le_trans J.sz l2,le,hE⟩
 ·exact k.keep b o (hb.keep b o q n n1 n2) (nst b o q n1) (ll b o q).1
 ·obtain ⟨sl,q2⟩:=hb.slot b o q n n1 n2
  by_cases z:b ∈ frs X.stack
  ·obtain ⟨sl2,q3⟩:=k.slot b _ q2 z (ll b o q).1
   exact ⟨sl2,q3⟩
  ·exact ⟨sl,k.keep b _ q2 z (ll b o q).1⟩
 ·obtain ⟨u,q2⟩:=hb.there b o q n2
  exact k.there b u q2
theorem jR:Passes (jz P w) (gq (jz P w) P w K mg base N qual scope f cd A outer s H E) E:=by
 rintro pins Z H1 s1 ev s' I ⟨e,C,T,d,H',rfl,fl,os,bare,un,hok,he,hT,lT,le,hE⟩
 have J:=I.vW (ch:=[]) os un hok bare (by simp)
 refine Et (base:=base) J.ok.frames J.stack rfl fl λh2 T2 k n y=>?_
 have szJ:=J.sz
 have back:∀ b,s1.heap.get? b = none -> s.heap.get? b = none:=λb z=>by
  cases q:s.heap.get? b with
  | none=>rfl
  | some o =>
   obtain ⟨u,q2⟩:=I.base.there b o q (by show b ∉ [];simp)
   rw [z] at q2;cases q2
 refine Fq (X:=gq (jz P w) P w K mg base N qual scope f cd A outer s H E) rfl rfl rfl rfl rfl rfl J k y he n (back e le) (λb hb=>?_) hE
 simp only [List.mem_cons,List.not_mem_nil,or_false] at hb
 rcases hb with z | z | z
 ·rw [z];exact ⟨.inr hT,back T (Heap.get?_none_of_le lT)⟩
 ·rw [z];exact ⟨.inl rfl,back e le⟩
 ·rw [z];exact ⟨.inr (J.hok.fresh n),Heap.get?_none_of_le (Nat.le_trans szJ n)⟩
theorem G2 {pins:List (Addr × Obj)} {Z:St} {H1:Hp} {s1:Shared} {e C:Addr} {d:Option Addr} (I:Inv (gq (jz P w) P w K mg base N qual scope f cd A outer s H E) pins Z H1 s1) (u:kG s1.heap e C d) (he:H1 e = some (gr e C d)) (le:s.heap.get? e = none) (hE:E (.ref C) (some e) H1) :
  (gq (jz P w) P w K mg base N qual scope f cd A outer s H E).xe (.ref e) s1:=by
 refine leave_new (base:=base) I.ok.frames I.stack rfl u λh2 T2 k n y=>?_
 have szJ:=I.sz
 refine Fq (X:=gq (jz P w) P w K mg base N qual scope f cd A outer s H E) rfl rfl rfl rfl rfl rfl I k y he n le (λb hb=>?_) hE
 simp only [List.mem_cons,List.not_mem_nil,or_false] at hb
 rcases hb with z | z
 ·rw [z];exact ⟨.inl rfl,le⟩
 ·rw [z];exact ⟨.inr (I.hok.fresh n),Heap.get?_none_of_le (Nat.le_trans szJ n)⟩
end
end L2
namespace L2
open PySem PySem.Spec PyProof.Rows
section
variable {X:Cx} {pins:List (Addr × Obj)} {Z:St} {H:Hp} {s:Shared} {h':Heap}
theorem Inv.IL {a:Addr} {o:HO} {t':Nat} (I:Inv X pins Z H s) (k:∀ b u,s.heap.get? b = some u -> h'.get? b = some u) (hp:s.heap.get? a = none) (new:di X.prog X.w (upd H a o) h' a o):Inv X pins Z (upd H a o) { s with heap:=h',toks:=t' }:=by
 have hn:H a = none:=I.hok.new hp
 have ne:∀ b u,s.heap.get? b = some u -> b ≠ a:=λb u q z=>by rw [z,hp] at q;cases q
 have ne2:∀ b u,H b = some u -> b ≠ a:=λb u q=>aq q hn
 refine I.un ⟨λb u q _ _ _=>k b u q,λb u q _ _ _=>⟨u.slots,k b u q⟩,λb u q n _=>by rw [aj (ne b u q)];exact n,λb u q _=>⟨u,k b u q⟩,λb xs q=>by rw [aj (ne2 b _ q)];exact q,λb u xs q=>by rw [aj (ne2 b _ q)];exact q,λb ps q=>⟨#[],by rw [aj (ne2 b _ q),q];simp⟩⟩ λb u q=>?_
 by_cases z:b = a
 ·subst z
  rw [af] at q
  cases q
  exact new
 ·rw [aj z] at q
  exact (I.hok b u q).stay (λc v _ r=>k c v r) (λc r=>by rw [aj (ne2 c _ r)];exact r) λc xs r=>by rw [aj (ne2 c _ r)];exact r
end
abbrev VE:List Value:=[.type "ValueError",.type "Exception",.type "BaseException",.type "object"]
structure ExcAt (h:Heap) (C:Addr) (bm:List Value) (Nn:Addr) (mN:Str -> Option Value):Prop where
 ob:∃ nm q bs hdct sn sub ab col dd k0 k1 k2 k3 k5,h.get? C = some (excClassObj nm q C Nn bs bm hdct sn sub ab col dd k0 k1 k2 k3 k5 "ValueError.__new__")
 ns:h.Ns Nn mN
 tail:OwnTail h VE bm
theorem ExcAt.keeps {h h2:Heap} {C Nn:Addr} {bm:List Value} {mN:Str -> Option Value} (x:ExcAt h C bm Nn mN) (k:∀ b o,h.get? b = some o -> h2.get? b = some o):ExcAt h2 C bm Nn mN :=
 ⟨let ⟨a1,a2,a3,a4,a5,a6,a7,a8,a9,b0,b1,b2,b3,b4,e⟩:=x.ob;⟨a1,a2,a3,a4,a5,a6,a7,a8,a9,b0,b1,b2,b3,b4,k _ _ e⟩,x.ns.keeps k,x.tail.keeps k⟩
theorem Mx {K:PySem.W.Frag} {h:Heap} {C:Addr} (nO:K.In h) (q:PySem.W.excIn K C VE "ValueError.__new__" = true):∃ bm Nn mN,ExcAt h C bm Nn mN /\ mN "__init__" = none:=by
 unfold PySem.W.excIn at q
 split at q
 next dd cd sl look =>
  split at q
  next C2 bm c0 c1 c2 c3 nn c5 em es =>
   simp only [Bool.and_eq_true,beq_iff_eq,Bool.not_eq_true'] at q
   obtain ⟨⟨⟨⟨⟨e1,e2⟩,del⟩,tl⟩,nsok⟩,noinit⟩:=q
   subst e1 e2
   have esl:sl = #[c0,c1,c2,c3,some (.builtin "ValueError.__new__"),c5]:=Array.toList_inj.mp es
   obtain ⟨f1,f2,f3,f4,f5,f6,f7,f8,f9,f10,f11⟩:=cd
   have em:f3 = .ref C2 :: bm:=em
   have del:f11 = false:=del
   subst em del esl
   exact ⟨bm,f4,_,⟨⟨_,_,_,_,_,_,_,_,_,_,_,_,_,_,nO _ _ look⟩,.of_isNs (PySem.W.isNs_of_in nO nsok),PySem.W.tail_of_in nO tl⟩,PySem.W.nsMap_none_of_in nO nsok noinit⟩
  next=>cases q
 next=>cases q
section
variable {P:Program} {w:World} {K:PySem.W.Frag} {mg:Str -> Option Value} {base:Heap} {N:List Str} {qual:Str} {scope:Scope} {f:Addr} {cd:Value} {A:Around} {outer:List Env} {s:Shared} {H:Hp} {E:XK}
theorem eZ {x:Str} {np cpos pos:Pos} {e1:Expr} {es:List Expr} {ta:TA} {C:Addr} (hx:PySem.W.excIn K C VE "ValueError.__new__" = true) (hg:Gl (gq (jz P w) P w K mg base N qual scope f cd A outer s H E) x) (hm:mg x = some (.ref C))
  (ha:PA (gq (jz P w) P w K mg base N qual scope f cd A outer s H E) (e1 :: es) ta) (hd:(x == ("__debug__" : Str)) = false:=by decide)
  (he:starEach (e1 :: es) (gq (jz P w) P w K mg base N qual scope f cd A outer s H E).env = (false,eval e1 (gq (jz P w) P w K mg base N qual scope f cd A outer s H E).env) :: starEach es (gq (jz P w) P w K mg base N qual scope f cd A outer s H E).env:=by rfl)
  (hpl:(backTo cpos (starEach (e1 :: es) (gq (jz P w) P w K mg base N qual scope f cd A outer s H E).env)).any (·.1) = false:=by rfl) :
  PS (gq (jz P w) P w K mg base N qual scope f cd A outer s H E) (.Raise (some (.Call (.Name x np) (e1 :: es) [] cpos)) none pos) (λ_ Z H1=>ta Z H1 λvs H2=>vs.length <= sizeLine /\ ∀ e,H2 e = none -> E (.ref C) (some e) (upd H2 e (gr e C none))):=by
 intro pins s1 Z H1 D I h
 obtain ⟨bm,Nn,mN,ex,ni⟩:=Mx (h:=base) I.ok.mod.nO hx
 obtain ⟨nm,q,bs,hdct,sn,sub,ab,col,dd,k0,k1,k2,k3,k5,eC⟩:=ex.ob
 refine wpAny_Raise_call_subT PySem.F.excBase_ValueError (C:=C) (nm:=nm) (q:=q) (N:=Nn) (bs:=bs) (bm:=bm) (hdct:=hdct) (sn:=sn) (sub:=sub) (ab:=ab) (col:=col) (dd:=dd) (k0:=k0) (k1:=k1) (k2:=k2) (k3:=k3) (k5:=k5) (mN:=mN) (ex.tail.hasType (by decide)) (I.ok.hd rfl) hpl ni ?_
 refine cS (eG (pos:=np) hg hm (v:=.ref C) rfl hd pins s1 Z H1 (λv H'=>v = .ref C /\ H' = H1) I ⟨rfl,rfl⟩) λu s2 ⟨v,H2,I2,r,e2,e3⟩=>?_
 subst e2 e3
 refine ⟨r,?_⟩
 rw [he]
 show wpAny _ _ (evalArgs (.ref C) true ((false,eval e1 _) :: backTo cpos (starEach es _)) []) _ _ s2
 refine Calls.evalArgs_plain ?_
 have hp:=ha cpos pins s2 Z H2 _ I2 h
 rw [he] at hp
 refine cS hp λus s3 ⟨vs,H3,I3,rv,sz,k⟩=>⟨rfl,by rw [← rv.length];exact sz,I3.bk _ _ eC,ex.ns.keeps I3.bk,ex.tail.keeps I3.bk,λg e md=>?_⟩
 obtain ⟨t0,g1,_,_⟩:=md.there
 have new:=I3.hok.new md.new
 have I4:=I3.IL (h':=g) (t':=s3.toks) (o:=gr e C none) md.keeps md.new (uZ g1 rfl rfl rfl (by show 1 < 6;decide))
 refine G2 I4 ⟨_,_,g1,rfl,rfl,rfl,rfl⟩ af ?_ (k e new)
 cases z:s.heap.get? e with
 | none=>rfl
 | some o =>
  obtain ⟨u,z2⟩:=I3.base.there e o z (by show e ∉ [];simp)
  rw [md.new] at z2;cases z2
end
end L2
namespace L2
open PySem PySem.Spec PyProof.Rows
section
variable {M:Model} {A:Around} {E:Value -> Shared -> Prop}
theorem B5 {hp:Heap} {g:Array GenState} {dr:Drawn} {tk:Nat} {os:OsState} {e C C2 Nn N2:Addr} {bm bm2:List Value} {mN m2:Str -> Option Value} {oe:Obj} {b:Bool} {Q:Bool -> Shared -> Prop} (x:ExcAt hp C bm Nn mN) (y:ExcAt hp C2 bm2 N2 m2) (he:hp.get? e = some oe) (hcls:oe.cls = .ref C)
  (hb:(Value.ref C :: bm).contains (.ref C2) = b) (hq:Q b ⟨hp,g,dr,tk,os⟩):wpAny M A (excMatches (.ref e) (.ref C2)) Q E ⟨hp,g,dr,tk,os⟩:=by
 obtain ⟨a1,a2,a3,a4,a5,a6,a7,a8,a9,b0,b1,b2,b3,b4,eC⟩:=x.ob
 obtain ⟨c1,c2,c3,c4,c5,c6,c7,c8,c9,d0,d1,d2,d3,d4,eD⟩:=y.ob
 have base2:(Value.ref C2 :: bm2).contains (.type "BaseException") = true:=by rw [List.contains_cons,y.tail.hasType (b:=true) (by decide),Bool.or_true]
 have nt:=tc_notTuple
 unfold excMatches
 repeat (first
  | (with_reducible refine wpAny_loadPart_at he ?_;rw [hcls])
  | with_reducible refine wpAny_loadPart_at eD ?_
  | (with_reducible refine wpAny_isSubtype_exc eD ?_;rw [base2])
  | (with_reducible refine wpAny_isSubtype_exc eC ?_;rw [hb])
  | wp_step)
 cases b <;> (try wp_walk) <;> exact hq
end
end L2
namespace L2
open PySem PySem.Spec PyProof.Rows
section
variable {X:Cx} {pins pins':List (Addr × Obj)} {Z:St} {H:Hp} {s:Shared}
def PD (X:Cx) (pins:List (Addr × Obj)) (Th:St -> Addr -> Addr -> Hp -> Prop) (ev:Value) (s':Shared):Prop :=
 ∃ (e C T:Addr) (d:Option Addr) (Z:St) (H':Hp),ev = .ref e /\ Inv X pins Z H' s' /\ iV s'.heap e C d T .none /\ H' e = some (gr e C d) /\ H' T = none /\ X.s₀.heap.objs.size <= T /\ (∀ p ∈ X.pn ++ pins,p.1 ≠ T) /\ Th Z C e H'
abbrev Cx.ly (X:Cx) (pins:List (Addr × Obj)) (Th:St -> Addr -> Addr -> Hp -> Prop):Cx:={ X with pn:=X.pn ++ pins,xe:=PD X pins Th }
theorem Cx.Ok.cast {X Y:Cx} (ok:X.Ok) (h1:Y.K = X.K) (h2:Y.mg = X.mg) (h3:Y.base = X.base) (h4:Y.env = X.env) (h5:Y.s₀ = X.s₀) (h6:Y.H₀ = X.H₀) (h7:Y.outer = X.outer) (h8:Y.stack = X.stack) (h9:Y.ex = X.ex) (h10:Y.fn = X.fn) (hd:Y.calm = true -> Y.A.handled = none) (hf:Y.A.frames = some Y.stack):Y.Ok:=by
 obtain ⟨P,w,K,mg,base,A,N,s0,H0,env,outer,stack,ex,fn,calm,pn,xe⟩:=Y
 dsimp only at h1 h2 h3 h4 h5 h6 h7 h8 h9 h10
 subst h1 h2 h3 h4 h5 h6 h7 h8 h9 h10
 exact ⟨ok.mod,ok.kind,ok.glob,ok.blt,ok.above,ok.inj,ok.has,ok.M4,hd,hf,ok.stk,ok.O8,ok.bs,ok.HN,ok.CC,ok.DI,ok.nE,ok.Ji⟩
theorem Inv.ly (I:Inv X pins Z H s) (Th:St -> Addr -> Addr -> Hp -> Prop):Inv (X.ly pins Th) [] Z H s :=
 ⟨I.ok.cast rfl rfl rfl rfl rfl rfl rfl rfl rfl rfl I.ok.hd I.ok.frames,I.os,I.bare,I.base,I.loc,I.cell,I.free,I.iJ,λp hp=>I.pin p (by simpa using hp),I.hok,I.len⟩
theorem Inv.tried {Th:St -> Addr -> Addr -> Hp -> Prop} (I:Inv (X.ly pins Th) pins' Z H s):Inv X pins Z H s :=
 ⟨I.ok.cast rfl rfl rfl rfl rfl rfl rfl rfl rfl rfl I.ok.hd I.ok.frames,I.os,I.bare,I.base,I.loc,I.cell,I.free,I.iJ,λp hp=>I.pin p (List.mem_append_left _ hp),I.hok,I.len⟩
abbrev Cx.held (X:Cx) (e:Addr):Cx:={ X with A:=X.A.mark (some (.ref e)),calm:=false,xe:=λ_ _=>False }
theorem Inv.held (I:Inv X pins Z H s) (e:Addr):Inv (X.held e) pins Z H s :=
 ⟨I.ok.cast rfl rfl rfl rfl rfl rfl rfl rfl rfl rfl (λz=>nomatch z) I.ok.frames,I.os,I.bare,I.base,I.loc,I.cell,I.free,I.iJ,I.pin,I.hok,I.len⟩
theorem Inv.K3 {e:Addr} (hd:X.calm = true -> X.A.handled = none) (I:Inv (X.held e) pins Z H s):Inv X pins Z H s :=
 ⟨I.ok.cast rfl rfl rfl rfl rfl rfl rfl rfl rfl rfl hd I.ok.frames,I.os,I.bare,I.base,I.loc,I.cell,I.free,I.iJ,I.pin,I.hok,I.len⟩
noncomputable def lV (CX:qF) (X:Cx) (Z:St) (E:XK):Prop:=∀ (pins:List (Addr × Obj)) (H:Hp) (s:Shared) (e:Value) (s':Shared),Inv X pins Z H s -> CX X.stack H s E e s' -> X.xe e s'
theorem gY {P:Program} {w:World} {Th:St -> Addr -> Addr -> Hp -> Prop} {E:XK} (hP:X.prog = P) (hw:X.w = w) (hE:∀ C e H',E (.ref C) (some e) H' -> Th Z C e H'):lV (jz P w) (X.ly pins Th) Z E:=by
 subst hP hw
 rintro pins1 H1 s1 ev s' I ⟨e,C,T,d,H',rfl,fl,os,bare,un,hok,he,hT,lT,le,hE'⟩
 have J:=I.vW (ch:=[]) os un hok bare (by simp)
 refine ⟨e,C,T,d,Z,H',rfl,J.tried,fl,he,hT,Nat.le_trans I.sz lT,λp hp z=>?_,hE _ _ _ hE'⟩
 have:=(I.tried.pin p hp).1
 have:=Heap.lt_size this
 rw [z] at this
 exact absurd lT (Nat.not_le.mpr this)
theorem Inv.forget {i:Nat} {n:Str} {m:Str -> Option Value} {v:Option Value} {h':Heap} {t':Nat} (I:Inv X pins Z H s) (hN:X.N.Nodup) (hi:X.N[i]? = some n) (hn:s.heap.Ns X.env.locals m)
  (hk:∀ (j:Nat) (x:Str) (v:V),X.N[j]? = some x -> Z[j]? = some (some v) -> NG X.env.scope x -> ∃ u,RelV v u /\ Look X.env s.heap m x u) (hn':h'.Ns X.env.locals (λx=>if x = n then v else m x)) (hs:Heap.SameBut X.env.locals s.heap h'):Inv X pins (Z.set i none) H { s with heap:=h',toks:=t' }:=by
 have GV:=I.GV
 have nl:∀ b o,X.s₀.heap.get? b = some o -> b ≠ X.env.locals:=λb o q=>Nat.ne_of_lt (Nat.lt_of_lt_of_le (Heap.lt_size q) I.ok.above)
 refine ⟨I.ok,I.os,I.bare,⟨λb o q a1 a2 a3=>(hs.2 b (nl b o q)).trans (I.base.keep b o q a1 a2 a3),λb o q a1 a2 a3=>?_,I.base.free,λb o q a1=>?_,I.base.tups,I.base.oJ,I.base.qE⟩,⟨_,hn',λj y w' q1 q2 q3=>?_⟩,λy c q=>?_,I.free,I.iJ,λp hp=>?_,λb o q=>?_,by rw [List.length_set];exact I.len⟩
 ·obtain ⟨sl,z⟩:=I.base.slot b o q a1 a2 a3
  exact ⟨sl,(hs.2 b (nl b o q)).trans z⟩
 ·obtain ⟨u,z⟩:=I.base.there b o q a1
  exact ⟨u,(hs.2 b (nl b o q)).trans z⟩
 ·have hj:j ≠ i:=λz=>by
   rw [z] at q2
   have:i < Z.length:=by rw [I.len];exact (List.getElem?_eq_some_iff.mp hi).1
   rw [List.getElem?_set_self this] at q2
   cases q2
  rw [List.getElem?_set_ne (Ne.symm hj)] at q2
  obtain ⟨u,r,l⟩:=hk j y w' q1 q2 q3
  refine ⟨u,r,?_⟩
  rcases l with ⟨k1,k2⟩ | ⟨k1,c,k2,k3⟩
  ·have:y ≠ n:=λz=>hj (qA hN q1 (z ▸ hi))
   exact .inl ⟨k1,by simp [this,k2]⟩
  ·exact .inr ⟨k1,c,k2,k3.sameBut hs (GV y c k2)⟩
 ·obtain ⟨w',z⟩:=I.cell y c q
  exact ⟨w',z.sameBut hs (GV y c q)⟩
 ·obtain ⟨a1,a2,a3,a4,a5⟩:=I.pin p hp
  exact ⟨(hs.2 p.1 a3).trans a1,a2,a3,a4,a5⟩
 ·refine (I.hok b o q).stay (λc u hc r=>(hs.2 c λz=>?_).trans r) (λ_ r=>r) λ_ _ r=>r
  have fr:=I.free
  rw [← z] at fr
  rcases hc with y | y
  ·rw [y] at fr;rw [fr] at q;cases q
  ·rw [fr] at y;cases y
end
end L2
namespace L2
open PySem PySem.Spec PyProof.Rows
section
variable {X:Cx} {pins:List (Addr × Obj)} {Z:St} {H:Hp} {s:Shared} {h2:Heap} {e C T T2:Addr} {d:Option Addr}
theorem Inv.yi (I:Inv X pins Z H s) {o:Obj} {vs:Array Value} (q:s.heap.get? T = some o) (z:o.data = .fields vs):T ≠ X.env.locals /\ ∀ x c,X.env.cells.lookup x = some c -> c ≠ T:=by
 obtain ⟨m,⟨o1,es,ep,q1,d1,_⟩,_⟩:=I.loc
 refine ⟨λy=>?_,λx c l y=>?_⟩
 ·rw [y,q1] at q;cases q;rw [d1] at z;cases z
 ·obtain ⟨v,o2,q2,d2⟩:=I.cell x c l
  rw [y,q] at q2;cases q2;rw [z] at d2;cases d2
theorem Inv.noted (hst:X.stack = X.env :: X.outer) (I:Inv X pins Z H s) (fl:iV s.heap e C d T .none) (he:H e = some (gr e C d)) (hT:H T = none) (lT:X.s₀.heap.objs.size <= T) (pT:∀ p ∈ X.pn ++ pins,p.1 ≠ T)
  (k:Kept (frs (X.env :: X.outer)) [T,e] s.heap h2) (y:di X.prog X.w H h2 e (gr e C d)):Inv X pins Z H { s with heap:=h2 }:=by
 rw [← hst] at k
 obtain ⟨oT,ts,t1,t2,_⟩:=fl.tb
 obtain ⟨n1,n2⟩:=I.yi t1 t2
 have nin:∀ b,H b = none -> b ∉ [T] -> b ∉ [T,e]:=λb hb z w=>by
  simp only [List.mem_cons,List.not_mem_nil,or_false] at z w
  rcases w with w | w
  ·exact z w
  ·rw [w,he] at hb;cases hb
 refine I.vW (s':={ s with heap:=h2 }) (ch:=[T]) rfl ⟨λb o q a1 a2 a3=>k.keep b o q a2 (nin b a1 a3),λb o q a1 a2 a3=>k.slot b o q a2 (nin b a1 a3),λ_ _ _ n _=>n,λb o q _=>k.there b o q,λ_ _ q=>q,λ_ _ _ q=>q,λb ps q=>⟨#[],by rw [q];simp⟩⟩ ?_ I.bare ?_
 ·refine k.Nj I.hok I.oV (λb hb=>?_) he y
  simp only [List.mem_cons,List.not_mem_nil,or_false] at hb
  rcases hb with z | z
  ·rw [z];exact .inr hT
  ·exact .inl z
 ·intro b hb
  rw [List.mem_singleton.mp hb]
  exact ⟨.inr lT,n1,n2,pT⟩
theorem Inv.Jb {o:Obj} {vs:Array Value} (I:Inv X pins Z H s) (q:s.heap.get? T = some o) (z:o.data = .fields vs) (hT:H T = none) (lT:X.s₀.heap.objs.size <= T) (pT:∀ p ∈ X.pn ++ pins,p.1 ≠ T) (k:Kept [] [T] s.heap h2):Inv X pins Z H { s with heap:=h2 }:=by
 obtain ⟨n1,n2⟩:=I.yi q z
 refine I.vW (s':={ s with heap:=h2 }) (ch:=[T]) rfl (k.frame _).un (k.hok I.hok (by simp) λb hb=>?_) I.bare λb hb=>?_
 ·rw [List.mem_singleton.mp hb];exact hT
 ·rw [List.mem_singleton.mp hb];exact ⟨.inr lT,n1,n2,pT⟩
theorem GD {x n:Str} {np hpos:Pos} {b0:Stmt} {suite:List Stmt} {rest:List ExceptHandler} {i:Nat} {C2:Addr} {D:Ends} (hst:X.stack = X.env :: X.outer) (hfr:X.env.frame = some X.env.locals) (hN:X.N.Nodup) (hi:X.N[i]? = some n) (hloc:X.env.scope.names.lookup n = some .local)
  (hg:Gl (X.held e) x) (hm:X.mg x = some (.ref C2)) (hdb:(x == ("__debug__" : Str)) = false) (hC:∃ bm Nn mN,ExcAt X.base C bm Nn mN /\ (Value.ref C :: bm).contains (.ref C2) = true) (hC2:∃ bm Nn mN,ExcAt X.base C2 bm Nn mN)
  (I:Inv X pins Z H s) (fl:iV s.heap e C d T .none) (he:H e = some (gr e C d)) (hT:H T = none) (lT:X.s₀.heap.objs.size <= T) (pT:∀ p ∈ X.pn ++ pins,p.1 ≠ T)
  (hs:At (X.held e) { nx:=λZ2 H2=>D.nx (Z2.set i none) H2,rt:=D.rt,bk:=λZ2 H2=>D.bk (Z2.set i none) H2,ct:=λZ2 H2=>D.ct (Z2.set i none) H2 } (b0 :: suite) (Z.set i (some (.ref e))) H) :
  wpAny (model X.prog X.w) X.A (noteFrame (.ref e) X.env) (λ_ s2=>wpAny (model X.prog X.w) X.A (setFlight (.ref e) none) (λ_ s3 =>
   wpAny (model X.prog X.w) X.A (handleBy (.ref e) X.env (.ExceptHandler (some (.Name x np)) (some n) (b0 :: suite) hpos :: rest)) (SP X pins D) X.xe s3) X.xe s2) X.xe s:=by
 obtain ⟨bm,Nn,mN,xC,sub⟩:=hC
 obtain ⟨bm2,N2,m2,xC2⟩:=hC2
 have fs:s.heap.FunFrames X.base (X.env :: X.outer):=hst ▸ I.stack
 have ff:X.A.frames = some (X.env :: X.outer):=by rw [I.ok.frames,hst]
 refine AY (base:=X.base) ff fs hfr fl λg2 T2 k n2 y=>?_
 have I2:=I.noted hst fl he hT lT pT k y.ok
 have l2:X.s₀.heap.objs.size <= T2:=Nat.le_trans I.sz n2
 have h2T:H T2 = none:=I.hok.fresh n2
 have p2:∀ p ∈ X.pn ++ pins,p.1 ≠ T2:=λp hp z=>by
  have:=Heap.lt_size (I.pin p hp).1
  rw [z] at this
  exact absurd n2 (Nat.not_le.mpr this)
 refine ji (s:={ s with heap:=g2 }) y λg3 k3 y3=>?_
 obtain ⟨oT2,ts2,u1,u2,_⟩:=y.tb
 have I3:=I2.Jb u1 u2 h2T l2 p2 k3
 refine wpAny_handleBy_cons (codeAny_handlers_test ?_) (by intro q;cases q)
 refine wpAny_mono (gQ (X:=X.held e) (pos:=np) (E:=λ_ _=>False) (Q:=λu s4=>u = .ref C2 /\ s4 = { s with heap:=g3 }) (I3.held e) hg hm ⟨rfl,rfl⟩ hdb) (λu s4 z=>?_) λ_ _ z=>z.elim
 obtain ⟨rfl,rfl⟩:=z
 obtain ⟨oe,vs,o1,o2,_⟩:=y3.ob
 obtain ⟨hp,gg,dr,tk,os⟩:=s
 refine B5 (xC.keeps I3.bk) (xC2.keeps I3.bk) o1 o2 sub ?_
 show codeAny _ _ _ _ _
 refine codeAny_handlers_suite_as ?_
 refine ji (s:=⟨g3,gg,dr,tk,os⟩) y3 λg4 k4 y4=>?_
 obtain ⟨oT3,ts3,w1,w2,_⟩:=y3.tb
 have I4:=I3.Jb w1 w2 h2T l2 p2 k4
 refine mF (X:=X.held e) (v:=.ref e) (I4.held e) hN hi (.inl hloc) rfl (λs5 I5=>?_) (.inr hloc)
 refine wpAny_mono (hs pins s5 I5) (λfw s6 sp=>?_) λ_ _ z=>z.elim
 have fin:∀ {Z6:St} {H6:Hp} {Q:Unit -> Shared -> Prop},Inv (X.held e) pins Z6 H6 s6 -> (∀ s7,Inv X pins (Z6.set i none) H6 s7 -> Q () s7) -> wpAny (model X.prog X.w) X.A (do bindName X.env n .none;unbindBehindTheSuite X.env n hpos) Q X.xe s6:=λ{Z6 H6 Q} I6 q=>by
  obtain ⟨m,hn,hk⟩:=I6.loc
  exact wpAny_nameGoes_keeps hloc hn (by rw [I6.ok.kind];rfl) λh7 v hn7 hs7=>q _ ((I6.K3 I.ok.hd).forget hN hi hn hk hn7 hs7)
 cases fw with
 | next=>obtain ⟨Z6,H6,I6,q⟩:=sp;exact fin I6 λs7 I7=>⟨_,H6,I7,q⟩
 | brk=>obtain ⟨Z6,H6,I6,q⟩:=sp;exact fin I6 λs7 I7=>⟨_,H6,I7,q⟩
 | cont=>obtain ⟨Z6,H6,I6,q⟩:=sp;exact fin I6 λs7 I7=>⟨_,H6,I7,q⟩
 | ret u=>obtain ⟨v,Z6,H6,I6,r,q⟩:=sp;exact fin I6 λs7 I7=>⟨v,_,H6,I7,r,q⟩
end
end L2
namespace L2
open PySem PySem.Spec PyProof.Rows
section
variable {X:Cx}
abbrev Ends.less (D:Ends) (i:Nat):Ends:={ nx:=λZ2 H2=>D.nx (Z2.set i none) H2,rt:=D.rt,bk:=λZ2 H2=>D.bk (Z2.set i none) H2,ct:=λZ2 H2=>D.ct (Z2.set i none) H2 }
noncomputable def IP (X:Cx) (C C2:Addr):Prop:=∃ bm Nn mN,ExcAt X.base C bm Nn mN /\ (Value.ref C :: bm).contains (.ref C2) = true
theorem MB {x n:Str} {np hpos pos:Pos} {b0:Stmt} {body suite:List Stmt} {i:Nat} {C2:Addr} (hst:X.stack = X.env :: X.outer) (hfr:X.env.frame = some X.env.locals) (hN:X.N.Nodup) (hi:X.N[i]? = some n) (hloc:X.env.scope.names.lookup n = some .local)
  (hg:Gl X x) (hm:X.mg x = some (.ref C2)) (hdb:(x == ("__debug__" : Str)) = false) (hC2:∃ bm Nn mN,ExcAt X.base C2 bm Nn mN) :
  PS X (.Try body [.ExceptHandler (some (.Name x np)) (some n) (b0 :: suite) hpos] [] [] pos) (λD Z H=>∃ Th,(∀ pins,At (X.ly pins Th) D body Z H) /\
   ∀ Z' C e H',Th Z' C e H' -> IP X C C2 /\ At (X.held e) (D.less i) (b0 :: suite) (Z'.set i (some (.ref e))) H'):=by
 rintro pins s Z H D I ⟨Th,hb,hh⟩
 refine wpAny_Try_except (wpAny_mono (hb pins [] s (I.ly Th)) (λf s1 sp=>?_) λev s1 z=>?_)
 ·cases f with
  | next=>obtain ⟨Z1,H1,I1,q⟩:=sp;exact wpAny_execs_nil ⟨Z1,H1,I1.tried,q⟩
  | brk=>obtain ⟨Z1,H1,I1,q⟩:=sp;exact ⟨Z1,H1,I1.tried,q⟩
  | cont=>obtain ⟨Z1,H1,I1,q⟩:=sp;exact ⟨Z1,H1,I1.tried,q⟩
  | ret u=>obtain ⟨v,Z1,H1,I1,r,q⟩:=sp;exact ⟨v,Z1,H1,I1.tried,r,q⟩
 ·obtain ⟨e,C,T,d,Z1,H1,rfl,I1,fl,he,hT,lT,pT,th⟩:=z
  obtain ⟨tk,hs⟩:=hh Z1 C e H1 th
  exact GD hst hfr hN hi hloc hg hm hdb tk hC2 I1 fl he hT lT pT hs
end
section
variable {X:Cx} {CX:qF} {k:Nat} {f C:Addr} {fd:FuncData} {ps:List Str} {sp:Sp} {dvs:List V} {ds:List Value} {x m:Str} {p pos apos:Pos} {e o:Expr} {es:List Expr} {ta:TE} {t:TA}
noncomputable abbrev N4 (CX:qF) (X:Cx) (sp:Sp) (Z:St) (vs:List V) (H:Hp) (Q:VK):Prop:=∃ E,lV CX X Z E /\ sp vs H Q E
theorem F7 {pins:List (Addr × Obj)} {Z:St} {H:Hp} {s:Shared} {Q:VK} {us:List Value} {vs:List V} (F:bw X.prog X.w X.K X.mg X.base CX k f fd ps sp) (hr:eW k X.A) (hb:Binds X.K fd ps ds) (hd:Vals dvs ds)
  (I:Inv X pins Z H s) (r:Vals vs us) (h:N4 CX X sp Z (vs ++ dvs) H Q):wpAny (model X.prog X.w) X.A (call (.ref f) us) (EP X pins Z Q) X.xe s:=by
 obtain ⟨E,hx,h⟩:=h
 have r2:Vals (vs ++ dvs) (us ++ ds):=r.append hd
 have hl:(us ++ ds).length = ps.length:=(F.len _ _ _ _ h ▸ r2.length).symm
 refine wpAny_call (codeAny_mono (F.run X.A X.stack s H ⟨us,[]⟩ _ _ Q E hr I.B0 (hb s us I.jA hl) r2 h) λy s' hq=>?_)
 match y,hq with
 | .error ev,hq=>exact hx pins H s ev s' I hq
 | .ok (.ret _),hq=>exact I.after hq
noncomputable def LB (CX:qF) (X:Cx) (C:Addr) (m:Str) (sp:Sp) (dvs:List V) (ta:TE) (t:TA):TE:=λZ H Q=>ta Z H λx H1=>∃ a dx fs,x = .ref a /\ H1 a = some (.ins C dx fs) /\ fs.lookup m = none /\ t Z H1 λvs H2=>N4 CX X sp Z (x :: (vs ++ dvs)) H2 Q
theorem i8 {pl:Sem Bool} (he:PE X o ta) (c:oi X.K C) (hm:Meth X.K C m f) (F:bw X.prog X.w X.K X.mg X.base CX k f fd ps sp) (hr:eW k X.A) (hb:Binds X.K fd ps ds) (hd:Vals dvs ds) (ha:PA X (e :: es) t)
  (hst:starEach (e :: es) X.env = (false,eval e X.env) :: starEach es X.env:=by rfl) (hpl:(backTo pos (starEach es X.env)).any (·.1) = false:=by rfl)
  (ht:eval (.Call (.Attribute o m apos) (e :: es) [] pos) X.env = (do
   let ov ← eval o X.env
   standAt apos.atName
   let (f,first) ← holding [ov] (getMethod ov m pl)
   callWith pos f first (backTo pos (starEach (e :: es) X.env)) (backToKw pos (keywordEach [] X.env))):=by rfl) :
  PE X (.Call (.Attribute o m apos) (e :: es) [] pos) (LB CX X C m sp dvs ta t):=λpins s Z H Q I h =>
 PySem.W.methodCall_KW (pl:=pl) (cS (he pins s Z H _ I h) λu s1 ⟨x,H1,I1,rx,a,dx,fs,ex,ea,l,q⟩=>by
  subst ex
  obtain rfl:u = Value.ref a:=rx
  exact lF I1 ea c hm l (PySem.W.callWith_K (first:=[.ref a]) (h₀:=X.base) I.ok.mod.nO hm.kp (cS (ha pos pins s1 Z H1 _ I1 q) λus s2 ⟨vs,H2,I2,r,q2⟩=>⟨I2.jA,F7 (us:=.ref a :: us) (vs:=.ref a :: vs) F hr hb hd I2 (.cons rfl r) q2⟩) hst hpl)) ht
end
section
variable {P:Program} {w:World} {K:PySem.W.Frag} {mg:Str -> Option Value} {base:Heap}
theorem bG.Ba {x qual:Str} {st:Stmt} {f:Addr} {fd:FuncData} {N ps:List Str} {k:Nat} {sp:Sp} (F:bG K x qual st f fd) (S:aD N ps (ay st)) (len:∀ vs H Q E,sp vs H Q E -> vs.length = ps.length)
  (hbody:∀ (cdv:Value) (A:Around) (outer:List Env) (s:Shared) (H:Hp) (vs:List V) (Q:VK) (E:XK),eW k (A.deeper (envOfC qual (ay st) s.heap.objs.size f cdv)) -> sp vs H Q E ->
   At (gq (jz P w) P w K mg base N qual (ay st) f cdv A outer s H E) { nx:=λ_ H'=>Q .cM H',rt:=Q } (jE st) (start N vs) H):bw P w K mg base (jz P w) (k + 1) f fd ps sp:=by
 obtain ⟨oc,od,kV,doc,pm,an,cdv,ct,osl,rfl,lk,hcd⟩:=F.ex
 exact IZ lk hcd S len λA outer s H vs Q E hr hsp=>uI (hbody cdv A outer s H vs Q E hr hsp)
end
end L2
namespace L2
open PySem PySem.Spec PyProof.Rows PySem.W
structure pA (K:Frag) (C:Addr):Prop where
 ga:findIn K (.ref C) "__getattribute__" = some (some (.builtin "BaseException.__getattribute__"))
 gh:findIn K (.ref C) "__getattr__" = some none
 sub:mroIn K C (.type "BaseException") = some true
section
variable {prog:Program} {w:World} {A:Around} {E:Value -> Shared -> Prop} {s:Shared} {K:Frag} {x C:Addr} {ox:Obj} {od:Option Obj} {name:Str}
theorem Cz {M:Model} {nm:Value} {Q:Unit -> Shared -> Prop} (G:pA K C) (X:K.In s.heap) (I:InstAt s.heap x ox C od) (q:Q () s):wpAny M A (checkBuiltinCall "BaseException.__getattribute__" ⟨[.ref x,nm],[]⟩) Q E s:=by
 obtain ⟨h0,g,d,tt,os⟩:=s
 have k1:builtinKind "BaseException.__getattribute__" = some .slot:=by decide +kernel
 have k2:splitId "BaseException.__getattribute__" = some ("BaseException","__getattribute__"):=by decide +kernel
 have k3:=F.args_bexc_ga (.ref x) nm
 have LI:Looks M h0 (isInstance (.ref x) (.type "BaseException")) true:=I.type.andThen (looks_mroIn X G.sub)
 simp only [checkBuiltinCall,k1,k2]
 refine wpAny_bind (LI.at ?_)
 repeat (first | assumption | wp_step)
theorem Js {fill ex:Bool} {tk:Tok} {Q:Value -> Shared -> Prop} (G:pA K C) (X:K.In s.heap) (I:InstAt s.heap x ox C od)
  (h:wpAny (model prog w) A.in1 (Builtin.«object.__getattribute__» ⟨[.ref x,.str name tk],[]⟩) (λfin s'=>match fin with
   | .done (.ret v)=>wpAny (model prog w) A (handedOut v) Q E s'
   | _=>False) (λ_ _=>False) s):wpAny (model prog w) A (getAttrBy (.ref x) (.str name tk) fill ex) Q E s:=by
 have X0:=X
 have I0:=I
 obtain ⟨h0,g,d,tt,os⟩:=s
 have f3:=(F.excAttr_ValueError).ga.bind (.ref x)
 have e0:(ex && onTheHeap (Value.builtin "BaseException.__getattribute__")) = false:=by cases ex <;> rfl
 have e2:(Value.builtin "BaseException.__getattribute__" == Value.builtin "object.__getattribute__") = false:=by decide +kernel
 have e1:(onTheHeap (Value.ref C) && Value.builtin "BaseException.__getattribute__" == Value.builtin "object.__getattribute__") = false:=by rw [e2];rfl
 unfold getAttrBy
 refine wpAny_holding (wpAny_bind (I.type.at (wpAny_bind ((looks_findIn X G.ga).at ?_))))
 dsimp only
 rw [e1]
 unfold getAttrByItsOwn hookBefore callGetattribute boundAndCalled
 rw [e0]
 refine wpAny_bind (show wpAny _ _ (if onTheHeap (Value.ref C) = true then typeLookup (.ref C) "__getattr__" else pure none) _ _ _ from ?_)
 refine ((looks_findIn X G.gh).at ?_)
 simp only [Bool.false_eq_true,if_false]
 refine wpAny_bind (wpAny_attempt (wpAny_holding ?_))
 refine wpAny_bind ?_
 rw [f3]
 refine wpAny_pure ?_
 refine wpAny_call (codeAny_call_builtin (F.excAttr_ValueError).ga.plain F.entry_bexc_ga (Cz (s:=⟨h0,g,d,tt,os⟩) G X0 I0 (wpAny_mono h (λfin s' z=>?_) λ_ _ z=>z.elim)))
 rcases fin with (_ | _ | _ | _) | _ <;> first | exact z.elim | exact z
theorem CF {Q:Option Value -> Shared -> Prop} (G:pA K C) (X:K.In s.heap) (I:InstAt s.heap x ox C od) (hm:mroIn K C (.type "object") = some true) (hf:findObj K C od "__class__" = some (.bind (.builtin "getset_descriptor.__get__") (.builtin "object.__class__")))
  (h:Q (some (.ref C)) { s with toks:=s.toks + 1 }):wpAny (model prog w) A (getAttr? (.ref x) "__class__") Q E s:=by
 have L1:∀ M,Looks M s.heap _ _:=λM=>looks_find (M:=M) X I hf
 have L0:∀ M,Looks M s.heap _ _:=λM=>I.type (M:=M)
 obtain ⟨h0,g,d,tt,os⟩:=s
 unfold getAttr? getAttrBy?
 refine wpAny_bind (wpAny_mkText (wpAny_bind (wpAny_attempt (Js (s:=⟨h0,g,d,tt + 1,os⟩) G X I ?_))))
 unfold Builtin.«object.__getattribute__»
 refine wpAny_bind (wpAny_pure (wpAny_bind (wpAny_pure (wpAny_bind ((L0 _).at (wpAny_bind ((L1 _).at ?_)))))))
 refine wpAny_bind (wpAny_holding (wpAny_call (class_get (s:=⟨h0,g,d,tt + 1,os⟩) X I hm ?_)))
 refine wpAny_pure ?_
 show wpAny _ _ (handedOut (.ref C)) _ _ _
 exact wpAny_pure (wpAny_pure h)
theorem xW {cd:ClassData} (G:pA K C) (hc:clsIn K C = some cd) (hm:mroIn K C (.type "object") = some true) (ha:findIn K (.ref C) "__class__" = some (some (.builtin "object.__class__")))
  (hn:specialIn K (.builtin "object.__class__") "__get__" = some (some (.builtin "getset_descriptor.__get__"))) (htk:takesIn K (.builtin "object.__class__") = some true):KitX K (.ref x) (.ref C) (λh=>∃ ox od,InstAt h x ox C od) where
 ty:=λ_ _ _ ⟨_,_,I⟩=>I.type
 it:=λ_ _ X _=>by
  unfold clsIn at hc
  split at hc
  next ho=>exact λA' Q' E' s' k q=>wpAny_bind (wpAny_loadPart (k _ _ (X _ _ ho)) (wpAny_pure q))
  next=>cases hc
 ne:=λh tp dd its n sl X htp=>by
  refine Bool.eq_false_iff.mpr λq=>?_
  have e:C = tp:=Value.ref.inj (beq_iff_eq.mp q)
  unfold clsIn at hc
  split at hc
  next ho=>rw [e] at ho;have z:=(X _ _ ho).symm.trans htp;cases z
  next=>cases hc
 ca:=λX ⟨_,_,I⟩ k=>CF G X I hm (by unfold findObj;rw [hc];simp only [Option.bind_some,ha,hn,htk]) k
end
end L2
namespace L2
open PySem PySem.Spec PyProof.Rows PySem.W
def sj (K:Frag) (C:Addr):Bool :=
 match K.lookup C with
 | some ⟨.type "type",_,.cls cd,sl⟩ =>
  match cd.mro,sl.toList with
  | .ref D :: r,[_,_,_,_,some (.builtin m),_]=>(D == C && m == "ValueError.__new__") && (!cd.hasDel && (tailIn K VE r && nsOkIn K cd.ns))
  | _,_=>false
 | _=>false
theorem kH {K:Frag} {h:Heap} {C:Addr} (nO:K.In h) (q:sj K C = true):∃ bm Nn mN,ExcAt h C bm Nn mN:=by
 unfold sj at q
 split at q
 next dd cd sl look =>
  split at q
  next D r c0 c1 c2 c3 m c5 em es =>
   simp only [Bool.and_eq_true,beq_iff_eq,Bool.not_eq_true'] at q
   obtain ⟨⟨e1,e2⟩,del,tl,nsok⟩:=q
   subst e1 e2
   have esl:sl = #[c0,c1,c2,c3,some (.builtin "ValueError.__new__"),c5]:=Array.toList_inj.mp es
   obtain ⟨f1,f2,f3,f4,f5,f6,f7,f8,f9,f10,f11⟩:=cd
   have em:f3 = .ref D :: r:=em
   have del:f11 = false:=del
   subst em del esl
   exact ⟨r,f4,_,⟨_,_,_,_,_,_,_,_,_,_,_,_,_,_,nO _ _ look⟩,.of_isNs (isNs_of_in nO nsok),tail_of_in nO tl⟩
  next=>cases q
 next=>cases q
section
variable {prog:Program} {w:World} {A:Around} {E:Value -> Shared -> Prop} {h:Heap} {g:Array GenState} {d:Drawn} {t:Nat} {os:OsState} {K:Frag} {C fI:Addr} {oI:Obj} {bm:List Value} {Nn:Addr} {mN:Str -> Option Value} {rest:List Value}
theorem uC {Q:Fin -> Shared -> Prop} (X:K.In h) (x:ExcAt h C bm Nn mN) (hi:findIn K (.ref C) "__init__" = some (some (.ref fI))) (hf:h.get? fI = some oI) (hfc:oI.cls = .type "function") (sz:rest.length <= sizeLine)
  (hq:∀ h2 e,Heap.MadeExcOf h h2 e (.ref C) rest -> wpAny (model prog w) A (call (.ref fI) (.ref e :: rest)) (λr s2=>r = .none /\ Q (.done (.ret (.ref e))) s2) E ⟨h2,g,d,t,os⟩) :
  wpAny (model prog w) A (Builtin.«type.__call__» ⟨.ref C :: rest,[]⟩) Q E ⟨h,g,d,t,os⟩:=by
 obtain ⟨a1,a2,a3,a4,a5,a6,a7,a8,a9,b0,b1,b2,b3,b4,eC⟩:=x.ob
 have B:=PySem.F.excBase_ValueError
 repeat (first | with_reducible refine wpAny_loadPart_at eC ?_ | with_reducible refine wpAny_madeBy_exc eC ?_ | wp_step)
 refine codeAny_call_builtin_code (Code.quiet_builtin _ B.quiet) (wpAny_check_new_subU B (by decide) x.tail eC (codeAny_exc_new_subU B (by decide) B x.tail eC ?_ sz))
 show wpAny _ _ _ _ _ _
 generalize e2:(h.push { cls:=.type "tuple",data:=.seq rest.toArray }).push { cls:=.ref C,data:=.fields #[.ref h.objs.size,.none,.none,.none,.bool false,.none] } = h2
 have k:∀ b o,h.get? b = some o -> h2.get? b = some o:=λb o q=>by rw [← e2];exact Heap.get?_push_of_some _ (Heap.get?_push_of_some _ q)
 have ge:h2.get? (h.objs.size + 1) = some { cls:=.ref C,data:=.fields #[.ref h.objs.size,.none,.none,.none,.bool false,.none] }:=by rw [← e2];heap_get
 have eC2:=k _ _ eC
 have L:Looks (model prog w) h2 (typeLookup (.ref C) "__init__") (some (.ref fI)):=looks_findIn (λa o q=>k _ _ (X a o q)) hi
 have self:(Value.ref C :: bm).contains (.ref C) = true:=by simp
 unfold isInstance
 repeat (first | with_reducible refine wpAny_loadPart_at ge ?_ | (with_reducible refine wpAny_isSubtype_exc eC2 ?_;rw [self]) | wp_step)
 refine L.at ?_
 refine wpAny_holding (wpAny_bind ?_)
 unfold bindSpecial
 refine wpAny_bind (wpAny_typeOf (T:="function") ⟨_,k _ _ hf,hfc⟩ ?_)
 rw [if_pos (by decide)]
 refine wpAny_pure (wpAny_bind (cS (hq h2 (h.objs.size + 1) ⟨k,Heap.get?_none_of_le (Nat.le_succ _),h.objs.size,ge,Heap.get?_none_of_le (Nat.le_refl _),?_⟩) λr s2 z=>?_))
 ·rw [← e2];exact Heap.get?_push_of_some _ (Heap.get?_push_at rfl rfl)
 ·obtain ⟨z1,z2⟩:=z
  subst z1
  wp_walk
  exact z2
theorem E4 {Q:Value -> Shared -> Prop} (X:K.In h) (x:ExcAt h C bm Nn mN) (hi:findIn K (.ref C) "__init__" = some (some (.ref fI))) (hf:h.get? fI = some oI) (hfc:oI.cls = .type "function") (sz:rest.length <= sizeLine)
  (hq:∀ h2 e,Heap.MadeExcOf h h2 e (.ref C) rest -> wpAny (model prog w) (A.under (.builtin "type.__call__" ⟨.ref C :: rest,[]⟩)) (call (.ref fI) (.ref e :: rest)) (λr s2=>r = .none /\ Q (.ref e) s2) E ⟨h2,g,d,t,os⟩) :
  wpAny (model prog w) A (call (.ref C) rest) Q E ⟨h,g,d,t,os⟩:=by
 obtain ⟨a1,a2,a3,a4,a5,a6,a7,a8,a9,b0,b1,b2,b3,b4,eC⟩:=id x.ob
 have f1:=tc_lookup
 have f2:=tc_bind (.ref C)
 have hT:(⟨h,g,d,t,os⟩:Shared).TypeIs (.ref C) "type" := ⟨_,eC,rfl⟩
 refine wpAny_call (codeAny_of_tree (show wpAny _ _ (callAny (.ref C) _) _ _ _ from ?_))
 repeat (any_goals (first | assumption | with_reducible refine wpAny_loadPart_at eC ?_ | wp_step))
 exact ⟨rfl,codeAny_call_builtin_at (Code.quiet_builtin _ (by decide +kernel)) entry_typeCall (wpAny_check_type_call_sub eC (uC X x hi hf hfc sz hq))⟩
theorem Cu {s:Shared} {env:Env} {M:Model} {x:Sem Value} {Q:Flow -> Shared -> Prop} (hh:A.handled = none)
  (h:wpAny M A x (λv s1=>∃ e C bm Nn mN oe vs,v = .ref e /\ ExcAt s1.heap C bm Nn mN /\ s1.heap.get? e = some oe /\ oe.cls = .ref C /\ oe.data = .fields vs /\ vs[1]? = some .none /\ E (.ref e) s1) E s):wpAny M A (raiseStmt env (some x) none) Q E s:=by
 unfold raiseStmt
 refine wpAny_bind (cS h λv s1 ⟨e,C,bm,Nn,mN,oe,vs,ev,xx,ge,gc,gd,g1,hE⟩=>?_)
 subst ev
 obtain ⟨a1,a2,a3,a4,a5,a6,a7,a8,a9,b0,b1,b2,b3,b4,eC⟩:=xx.ob
 have hb:(Value.ref C :: bm).contains (.type "BaseException") = true:=by rw [List.contains_cons,xx.tail.hasType (b:=true) (by decide),Bool.or_true]
 obtain ⟨oc,od,odt,osl⟩:=oe
 dsimp only at gc gd
 subst gc gd
 obtain ⟨hp,gg,dr,tk,os1⟩:=s1
 have fl:∀ {R:Value -> Shared -> Prop},R .none ⟨hp,gg,dr,tk,os1⟩ -> wpAny M A (field (.ref e) 1) R E ⟨hp,gg,dr,tk,os1⟩:=λr=>wpAny_field ge rfl g1 r
 repeat (first | with_reducible refine wpAny_loadPart_at ge ?_ | with_reducible refine wpAny_loadPart_at eC ?_ | (with_reducible refine wpAny_isSubtype_exc eC ?_;rw [hb]) | with_reducible refine fl ?_ | wp_step)
 exact wpAny_raiseNew_none hh hE
end
end L2
namespace L2
open PySem PySem.Spec PyProof.Rows PySem.W
theorem yF {h:Heap} {bm:List Value} (self:Value) (t:OwnTail h VE bm):refuseLoop self "__setattr__" bm = pure ():=by
 induction t with
 | base=>exact PySem.F.store_ValueError.passes self
 | own _ _ _ _ ih=>rw [refuseLoop_ref];exact ih
section
variable {prog:Program} {w:World} {A:Around} {E:Value -> Shared -> Prop} {s:Shared} {K:Frag} {e C:Addr} {oe:Obj} {od:Option Obj} {bm:List Value} {Nn:Addr} {mN:Str -> Option Value} {name:Str} {v:Value} {vs:Array Value}
theorem Bc {tk:Tok} {R:Result -> Shared -> Prop} (X:K.In s.heap) (I:InstAt s.heap e oe C od) (x:ExcAt s.heap C bm Nn mN) (hn:findIn K (.ref C) name = some none) (hm:mroIn K C (.type "object") = some true)
  (h:wpAny (model prog w) A.in1 (Builtin.ObjectAttr.storeInOwnDict (.ref e) (.ref C) (.str name tk) name v false) (λfin s2=>match fin with | .done f=>R (.ok f) s2 | .again c=>c.quiet = true /\ codeAny (model prog w) A c R s2) (λev s2=>R (.error ev) s2) s) :
  codeAny (model prog w) A (.call (.builtin "object.__setattr__") ⟨[.ref e,.str name tk,v],[]⟩) R s:=by
 have SF:=PySem.F.store_object
 obtain ⟨a1,a2,a3,a4,a5,a6,a7,a8,a9,b0,b1,b2,b3,b4,eC⟩:=x.ob
 have sub:Looks (model prog w) s.heap (isInstance (.ref e) (.type "object")) true:=I.type.andThen (looks_mroIn X hm)
 refine codeAny_call_builtin SF.slot.plain SF.entry (@check_slot (model prog w) _ _ s "object.__setattr__" "object" "__setattr__" (.ref e) [.str name tk,v] [] _ SF.kind SF.split sub (SF.args (.ref e) (.str name tk) v) ?_)
 have pass:refuseLoop (.ref e) "__setattr__" (.ref C :: bm) = pure ():=by rw [refuseLoop_ref];exact yF _ x.tail
 rw [osa_eq,refuse_eq]
 refine wpAny_bind (wpAny_bind (I.type.here (wpAny_bind ?_)))
 obtain ⟨hp,g,dr,t,os⟩:=s
 refine wpAny_mroOf_exc eC ?_
 rw [pass]
 exact wpAny_pure (wpAny_bind (I.type.here (wpAny_bind ((looks_findIn X hn).here (wpAny_bind (wpAny_pure h))))))
theorem Cw {dx:Addr} {mA:Str -> Option Value} {ns:List Str} {Q:Unit -> Shared -> Prop} {cd:ClassData} (X:K.In s.heap) (I:InstAt s.heap e oe C od) (x:ExcAt s.heap C bm Nn mN) (hs:findIn K (.ref C) "__setattr__" = some (some (.builtin "object.__setattr__")))
  (hn:findIn K (.ref C) name = some none) (hm:mroIn K C (.type "object") = some true) (hc:clsIn K C = some cd) (hh:cd.hasDict = true) (hd:oe.dict = some dx) (hda:oe.data = .fields vs) (hns:s.heap.Ns1 dx mA) (hw:Within mA ns) (sz:ns.length <= sizeLine)
  (h:∀ h2 tk,h2.Ns1 dx (λy=>if y = name then some v else mA y) -> Heap.SameBut dx s.heap h2 -> Q () { s with heap:=h2,toks:=tk }):wpAny (model prog w) A (setAttr (.ref e) name v) Q E s:=by
 obtain ⟨oc,odt,oda,osl⟩:=oe
 have cl:oc = .ref C:=I.cls
 dsimp only at hd hda
 subst cl hd hda
 refine set_plain X I hs (Bc (s:={ s with toks:=s.toks + 1 }) X I x hn hm ?_)
 refine wpAny_bind (wpAny_pure (wpAny_bind (wpAny_bind (wpAny_loadPart I.at_ (wpAny_bind (Looks.here (s:={ s with toks:=s.toks + 1 }) (looks_clsIn X hc) ?_))))))
 rw [hh]
 refine wpAny_pure (a:=some dx) (wpAny_bind (wpAny_pure (wpAny_bind ?_)))
 refine wpAny_nsSet1 (s:={ s with toks:=s.toks + 1 }) hns λh2 n2 s2=>?_
 obtain ⟨oD,esD,epD,hoD,hdD,hcD⟩:=n2.count (Within.cons name v hw)
 exact wpAny_bind (wpAny_lookBehind hoD (by rw [hdD];exact pastItsLine_dict (Nat.le_trans hcD (by rw [List.length_cons];omega))) (wpAny_pure (h _ _ n2 s2)))
theorem AI {Q:Unit -> Shared -> Prop} {cd:ClassData} (X:K.In s.heap) (I:InstAt s.heap e oe C od) (x:ExcAt s.heap C bm Nn mN) (hs:findIn K (.ref C) "__setattr__" = some (some (.builtin "object.__setattr__")))
  (hn:findIn K (.ref C) name = some none) (hm:mroIn K C (.type "object") = some true) (hc:clsIn K C = some cd) (hh:cd.hasDict = true) (hd:oe.dict = none) (hda:oe.data = .fields vs)
  (h:∀ h2 tk,h2.get? e = some { oe with dict:=some s.heap.objs.size } -> h2.Ns1 s.heap.objs.size (λy=>if y = name then some v else none) -> (∀ b o,b ≠ e -> s.heap.get? b = some o -> h2.get? b = some o) -> Q () { s with heap:=h2,toks:=tk }):wpAny (model prog w) A (setAttr (.ref e) name v) Q E s:=by
 obtain ⟨oc,odt,oda,osl⟩:=oe
 have cl:oc = .ref C:=I.cls
 dsimp only at hd hda
 subst cl hd hda
 refine set_plain X I hs (Bc (s:={ s with toks:=s.toks + 1 }) X I x hn hm ?_)
 refine wpAny_bind (wpAny_pure (wpAny_bind (wpAny_bind (wpAny_loadPart I.at_ (wpAny_bind (Looks.here (s:={ s with toks:=s.toks + 1 }) (looks_clsIn X hc) ?_))))))
 rw [hh]
 have he1:=Heap.get?_push_of_some { cls:=.type "dict",data:=.dict #[] } I.at_
 have nes:e ≠ s.heap.objs.size:=Nat.ne_of_lt (Heap.lt_size I.at_)
 refine wpAny_bind (wpAny_alloc' (wpAny_bind (wpAny_update' he1 (wpAny_pure ?_))))
 generalize e2:(Heap.update (Heap.push s.heap { cls:=.type "dict",data:=.dict #[] }) e λo=>{ cls:=o.cls,dict:=some s.heap.objs.size,data:=o.data,slots:=o.slots }) = h1
 have g1:h1.get? s.heap.objs.size = some { cls:=.type "dict",data:=.dict #[] }:=by rw [← e2];exact (Heap.get?_update_ne _ _ _ _ nes.symm).trans (Heap.get?_push_at rfl rfl)
 have n1:h1.Ns s.heap.objs.size (λ_=>none):=⟨_,#[],_,g1,rfl,λz hz=>absurd hz (by simp),λ_=>rfl⟩
 have ge:h1.get? e = some ⟨.ref C,some s.heap.objs.size,.fields vs,osl⟩:=by rw [← e2];exact Heap.get?_update_self _ he1 rfl
 refine wpAny_bind (wpAny_pure (wpAny_bind (wpAny_nsSet1 (Heap.Ns1.of_empty n1) λh2 n2 s2=>?_)))
 obtain ⟨oD,esD,epD,hoD,hdD,hcD⟩:=n2.count (Within.cons name v Within.nil)
 refine wpAny_bind (wpAny_lookBehind hoD (by rw [hdD];exact pastItsLine_dict (Nat.le_trans hcD (by rw [List.length_cons,List.length_nil,sizeLine_eq];omega))) (wpAny_pure ?_))
 exact h h2 _ ((s2.2 e nes).trans ge) n2 λb o nb q=>(s2.2 b (Nat.ne_of_lt (Heap.lt_size q))).trans (by rw [← e2];exact (Heap.get?_update_ne _ _ _ _ nb).trans (Heap.get?_push_of_some _ q))
end
end L2
namespace L2
open PySem PySem.Spec PyProof.Rows PySem.W
def jw (e C:Addr) (d:Option Addr):HO:=.ext λh=>kG h e C d
theorem vz {P:Program} {w:World} {H:Hp} {h:Heap} {e C:Addr} {d:Option Addr} (u:kG h e C d):di P w H h e (jw e C d):=by
 obtain ⟨oe,vs,g1,g2⟩:=id u
 exact ⟨u,⟨oe,g1⟩,λa b ⟨o,v,q1,q2⟩ k=>⟨o,v,k o q1,q2⟩⟩
structure ExcC (K:Frag) (C:Addr):Prop where
 at_:sj K C = true
 ge:pA K C
 sa:findIn K (.ref C) "__setattr__" = some (some (.builtin "object.__setattr__"))
 ob:mroIn K C (.type "object") = some true
 hd:hasDictIn K C = true
section
variable {X:Cx} {pins:List (Addr × Obj)} {Z:St} {H:Hp} {s:Shared} {e C dx:Addr} {d:Option Addr} {fs:List (Str × V)} {f:Str} {A:Around} {E:Value -> Shared -> Prop}
theorem zK {P:Program} {w:World} {h:Heap} (k:jP P w H h) (q:H dx = some (.xd fs)):∃ mA,h.Ns1 dx mA /\ ∀ g,jI (fs.lookup g) (mA g):=k dx _ q
theorem B6 {mA:Str -> Option Value} (r:∀ g,jI (fs.lookup g) (mA g)):Within mA (fs.map (·.1)):=by
 intro g hg
 cases q:fs.lookup g with
 | none =>
  have:=jI.none_of (o:=mA g) (by rw [← q];exact r g)
  exact absurd this hg
 | some y=>exact List.mem_map_of_mem (PySem.mem_of_lookup q)
theorem Hv {y:V} {u:Value} {Q:Unit -> Shared -> Prop} (I:Inv X pins Z H s) (he:H e = some (jw e C (some dx))) (hx:H dx = some (.xd fs)) (c:ExcC X.K C) (n:bQ X.K C f) (hl:fs.length < 1000) (ry:RelV y u)
  (h:∀ s',Inv X pins Z (upd H dx (.xd ((f,y) :: fs))) s' -> Q () s'):wpAny (model X.prog X.w) A (setAttr (.ref e) f u) Q E s:=by
 obtain ⟨mA,n1,r⟩:=zK I.hok hx
 obtain ⟨od,god,look⟩:=kE n1
 obtain ⟨oe,vs,a1,a2,a3,a4,a5⟩:=(I.hok e _ he).1
 have J:InstAt s.heap e oe C (some od):=⟨a1,a2,by unfold notCls;rw [a4],by rw [a3];exact god⟩
 obtain ⟨bm,Nn,mN,xx⟩:=kH I.jA c.at_
 obtain ⟨cd,hc,hh⟩:=any_some c.hd
 refine Cw I.jA J xx c.sa n c.ob hc hh a3 a4 n1 (B6 r) (by rw [List.length_map,sizeLine_eq];omega) λh2 tk m2 sb=>h _ ?_
 have ned:e ≠ dx:=λz=>by rw [z,hx] at he;cases he
 refine I.un ⟨λb o q a _ _=>(sb.2 b λz=>?_).trans q,λb o q a _ _=>⟨o.slots,(sb.2 b λz=>?_).trans q⟩,λb o q a _=>?_,λb o q _=>?_,λb xs q=>?_,λb o v q=>?_,λb ps q=>?_⟩ λb o q=>?_
 ·rw [z,hx] at a;cases a
 ·rw [z,hx] at a;cases a
 ·rw [aj (λz=>by rw [z,hx] at a;cases a)];exact a
 ·by_cases z:b = dx
  ·obtain ⟨o2,_,_,g2,_⟩:=m2;exact ⟨o2,z ▸ g2⟩
  ·exact ⟨o,(sb.2 b z).trans q⟩
 ·rw [aj (λz=>by rw [z,hx] at q;cases q)];exact q
 ·rw [aj (λz=>by rw [z,hx] at q;cases q)];exact q
 ·exact ⟨#[],by rw [aj (λz=>by rw [z,hx] at q;cases q),q];simp⟩
 ·by_cases z:b = dx
  ·subst z
   rw [af] at q
   cases q
   refine ⟨_,m2,λg=>?_⟩
   rw [List.lookup_cons]
   by_cases w:g = f
   ·subst w;simp only [beq_self_eq_true,if_true];exact ry
   ·rw [if_neg w,show (g == f) = false from beq_eq_false_iff_ne.mpr w];exact r g
  ·rw [aj z] at q
   refine (I.hok b o q).stay (λcc v hcc rr=>(sb.2 cc λy=>?_).trans rr) (λcc rr=>?_) λcc xs rr=>?_
   ·rcases hcc with p | p
    ·exact z (p.symm.trans y)
    ·rw [y,hx] at p;cases p
   ·rw [aj (λy=>by rw [y,hx] at rr;cases rr)];exact rr
   ·rw [aj (λy=>by rw [y,hx] at rr;cases rr)];exact rr
theorem Ef {y:V} {u:Value} {Q:Unit -> Shared -> Prop} (I:Inv X pins Z H s) (he:H e = some (jw e C none)) (c:ExcC X.K C) (n:bQ X.K C f) (ry:RelV y u)
  (h:∀ dx s',H dx = none -> Inv X pins Z (upd (upd H dx (.xd [(f,y)])) e (jw e C (some dx))) s' -> Q () s'):wpAny (model X.prog X.w) A (setAttr (.ref e) f u) Q E s:=by
 obtain ⟨oe,vs,a1,a2,a3,a4,a5⟩:=(I.hok e _ he).1
 have J:InstAt s.heap e oe C none:=⟨a1,a2,by unfold notCls;rw [a4],by rw [a3];trivial⟩
 obtain ⟨bm,Nn,mN,xx⟩:=kH I.jA c.at_
 obtain ⟨cd,hc,hh⟩:=any_some c.hd
 have fr:H s.heap.objs.size = none:=I.hok.fresh (Nat.le_refl _)
 refine AI I.jA J xx c.sa n c.ob hc hh a3 a4 λh2 tk ge m2 k=>h s.heap.objs.size _ fr ?_
 have ned:s.heap.objs.size ≠ e:=λz=>by rw [z,he] at fr;cases fr
 have old:∀ {b o},s.heap.get? b = some o -> b ≠ s.heap.objs.size:=λq=>Nat.ne_of_lt (Heap.lt_size q)
 have ne2:∀ {b o},H b = some o -> b ≠ s.heap.objs.size:=λq z=>by rw [z,fr] at q;cases q
 have nee:∀ {b},H b = none -> b ≠ e:=λq z=>by rw [z,he] at q;cases q
 refine I.un ⟨λb o q a _ _=>k b o (nee a) q,λb o q a _ _=>⟨o.slots,k b o (nee a) q⟩,λb o q a _=>?_,λb o q _=>?_,λb xs q=>?_,λb o v q=>?_,λb ps q=>?_⟩ λb o q=>?_
 ·rw [aj (nee a),aj (old q)];exact a
 ·by_cases z:b = e
  ·exact ⟨_,z ▸ ge⟩
  ·exact ⟨o,k b o z q⟩
 ·rw [aj (λz=>by rw [z,he] at q;cases q),aj (ne2 q)];exact q
 ·rw [aj (λz=>by rw [z,he] at q;cases q),aj (ne2 q)];exact q
 ·exact ⟨#[],by rw [aj (λz=>by rw [z,he] at q;cases q),aj (ne2 q),q];simp⟩
 ·by_cases z:b = e
  ·subst z
   rw [af] at q
   cases q
   exact vz ⟨_,vs,ge,a2,rfl,a4,a5⟩
  ·rw [aj z] at q
   by_cases z2:b = s.heap.objs.size
   ·rw [z2,af] at q
    cases q
    rw [z2]
    refine ⟨_,m2,λg=>?_⟩
    rw [List.lookup_cons]
    by_cases w:g = f
    ·subst w;simp only [beq_self_eq_true,if_true];exact ry
    ·rw [if_neg w,show (g == f) = false from beq_eq_false_iff_ne.mpr w];trivial
   ·rw [aj z2] at q
    refine (I.hok b o q).stay (λcc v hcc rr=>k cc v (λy=>?_) rr) (λcc rr=>?_) λcc xs rr=>?_
    ·rcases hcc with p | p
     ·exact z (p.symm.trans y)
     ·rw [y,he] at p;cases p
    ·rw [aj (λy=>by rw [y,he] at rr;cases rr),aj (ne2 rr)];exact rr
    ·rw [aj (λy=>by rw [y,he] at rr;cases rr),aj (ne2 rr)];exact rr
end
end L2
namespace L2
open PySem PySem.Spec PyProof.Rows PySem.W
section
variable {X:Cx} {o value ex:Expr} {f:Str} {pos pos':Pos} {ta tv:TE}
noncomputable def NV (K:Frag) (ta tv:TE) (f:Str):TS:=λD Z H=>tv Z H λy H1=>ta Z H1 λx H2=>∃ e C,x = .ref e /\ ExcC K C /\ bQ K C f /\
 ((H2 e = some (jw e C none) /\ ∀ dx,H2 dx = none -> D.nx Z (upd (upd H2 dx (.xd [(f,y)])) e (jw e C (some dx)))) ∨
  ∃ dx fs,H2 e = some (jw e C (some dx)) /\ H2 dx = some (.xd fs) /\ fs.length < 1000 /\ D.nx Z (upd H2 dx (.xd ((f,y) :: fs))))
theorem BU (ha:PE X o ta) (hv:PE X value tv) (hs:swapsWith value (some (.Attribute o f pos')) pos.line X.env = pure false):PS X (.Assign [.Attribute o f pos'] value pos) (NV X.K ta tv f):=by
 intro pins s Z H D I h
 refine plainObj_wpAny_Assign_Attribute (cS (hv pins s Z H _ I h) λu s1 ⟨y,H1,I1,ry,q⟩=>cS (ha pins s1 Z H1 _ I1 q) λov s2 ⟨x,H2,I2,rx,e,C,z1,c,n,q2⟩=>?_) hs
 subst z1
 obtain rfl:ov = Value.ref e:=rx
 rcases q2 with ⟨he,q3⟩ | ⟨dx,fs,he,hd,l,q3⟩
 ·exact Ef I2 he c n ry λdx s3 fr I3=>⟨Z,_,I3,q3 dx fr⟩
 ·exact Hv I2 he hd c n l ry λs3 I3=>⟨Z,_,I3,q3⟩
structure zw (K:Frag) (C:Addr):Prop extends ExcC K C where
 ca:findIn K (.ref C) "__class__" = some (some (.builtin "object.__class__"))
 cg:specialIn K (.builtin "object.__class__") "__get__" = some (some (.builtin "getset_descriptor.__get__"))
 ct:takesIn K (.builtin "object.__class__") = some true
theorem Bj {pins:List (Addr × Obj)} {Z:St} {H:Hp} {s:Shared} {e C:Addr} {d:Option Addr} {c:Value} {b:Bool} {A:Around} {E:Value -> Shared -> Prop} {Q:Value -> Shared -> Prop} (I:Inv X pins Z H s) (he:H e = some (gr e C d)) (hd:∀ dx,d = some dx -> ∃ fs,H dx = some (.xd fs))
  (k:zw X.K C) (q:kitOne X.K (.ref C) c = some b) (h:∀ tk,Q (.bool b) { s with toks:=tk }):wpAny (model X.prog X.w) A (call (.builtin "isinstance") [.ref e,c]) Q E s:=by
 obtain ⟨oe,vs,a1,a2,a3,a4,_⟩:=(I.hok e _ he).1
 obtain ⟨cd,hc,_⟩:=any_some k.hd
 refine kia_one (xW k.ge hc k.ob k.ca k.cg k.ct) I.jA ?_ q (λz=>nomatch z) h
 cases d with
 | none=>exact ⟨oe,none,a1,a2,by unfold notCls;rw [a4],by rw [a3];trivial⟩
 | some dx =>
  obtain ⟨fs,hx⟩:=hd dx rfl
  obtain ⟨mA,n1,_⟩:=zK I.hok hx
  obtain ⟨od,god,_⟩:=kE n1
  exact ⟨oe,some od,a1,a2,by unfold notCls;rw [a4],by rw [a3];exact god⟩
theorem kF:ju X (.builtin "isinstance") (λxs H Q=>∃ e C d a b,xs = [.ref e,.ref a] /\ H e = some (gr e C d) /\ (∀ dx,d = some dx -> ∃ fs,H dx = some (.xd fs)) /\ zw X.K C /\ kitOne X.K (.ref C) (.ref a) = some b /\ Q (.bl b) H):=by
 intro pins s Z H xs us Q I r h
 obtain ⟨e,C,d,a,b,rfl,he,hd,k,kk,q⟩:=h
 obtain ⟨u,w',rfl,ru,rw'⟩:=vals2 r
 cases rw'
 cases ru
 exact Bj I he hd k kk λtk=>⟨.bl b,H,I.tok _,rfl,q⟩
theorem zM:ju X (.builtin "isinstance") (λxs H Q=>∃ e C d cv b,xs = [.ref e,.ty cv] /\ H e = some (gr e C d) /\ (∀ dx,d = some dx -> ∃ fs,H dx = some (.xd fs)) /\ zw X.K C /\ kitOne X.K (.ref C) (.type cv) = some b /\ Q (.bl b) H):=by
 intro pins s Z H xs us Q I r h
 obtain ⟨e,C,d,a,b,rfl,he,hd,k,kk,q⟩:=h
 obtain ⟨u,w',rfl,ru,rw'⟩:=vals2 r
 cases rw'
 cases ru
 exact Bj I he hd k kk λtk=>⟨.bl b,H,I.tok _,rfl,q⟩
end
end L2
namespace L2
open PySem PySem.Spec PyProof.Rows PySem.W
theorem Inv.O4 {X:Cx} {pins:List (Addr × Obj)} {Z:St} {H:Hp} {s:Shared} {e C:Addr} {d:Option Addr} (I:Inv X pins Z H s) (he:H e = some (jw e C d)):Inv X pins Z (upd H e (gr e C d)) s:=by
 have ne:∀ {b},H b = none -> b ≠ e:=λq z=>by rw [z,he] at q;cases q
 refine I.un (h':=s.heap) (t':=s.toks) ⟨λb o q _ _ _=>q,λb o q _ _ _=>⟨o.slots,q⟩,λb o q a _=>by rw [aj (ne a)];exact a,λb o q _=>⟨o,q⟩,λb xs q=>?_,λb o v q=>?_,λb ps q=>?_⟩ λb o q=>?_
 ·rw [aj (λz=>by rw [z,he] at q;cases q)];exact q
 ·rw [aj (λz=>by rw [z,he] at q;cases q)];exact q
 ·exact ⟨#[],by rw [aj (λz=>by rw [z,he] at q;cases q),q];simp⟩
 ·by_cases z:b = e
  ·subst z
   rw [af] at q
   cases q
   obtain ⟨oe,vs,a1,a2,a3,a4,a5⟩:=(I.hok b _ he).1
   exact uZ a1 a2 a3 a4 (Array.getElem?_eq_some_iff.mp a5).1
  ·rw [aj z] at q
   refine (I.hok b o q).stay (λ_ _ _ r=>r) (λcc rr=>?_) λcc xs rr=>?_
   ·rw [aj (λy=>by rw [y,he] at rr;cases rr)];exact rr
   ·rw [aj (λy=>by rw [y,he] at rr;cases rr)];exact rr
section
variable {P:Program} {w:World} {K:PySem.W.Frag} {mg:Str -> Option Value} {base:Heap} {N:List Str} {qual:Str} {scope:Scope} {f:Addr} {cd:Value} {A:Around} {outer:List Env} {s:Shared} {H:Hp} {E:XK}
theorem CD {x:Str} {np cpos pos:Pos} {e1:Expr} {es:List Expr} {ta:TA} {C fI:Addr} {k:Nat} {fd:FuncData} {ps:List Str} {sp:Sp} (c:ExcC K C) (hi:findIn K (.ref C) "__init__" = some (some (.ref fI))) (hfn:isFn K (.ref fI) = true) (hkp:keepIn K (.ref C) = true)
  (F:bw P w K mg base dP k fI fd ps sp) (hb:Binds K fd ps []) (hr:eW (k + 1) (gq (jz P w) P w K mg base N qual scope f cd A outer s H E).A) (hg:Gl (gq (jz P w) P w K mg base N qual scope f cd A outer s H E) x) (hm:mg x = some (.ref C))
  (ha:PA (gq (jz P w) P w K mg base N qual scope f cd A outer s H E) (e1 :: es) ta) (hd:(x == ("__debug__" : Str)) = false:=by decide)
  (he:starEach (e1 :: es) (gq (jz P w) P w K mg base N qual scope f cd A outer s H E).env = (false,eval e1 (gq (jz P w) P w K mg base N qual scope f cd A outer s H E).env) :: starEach es (gq (jz P w) P w K mg base N qual scope f cd A outer s H E).env:=by rfl)
  (hpl:(backTo cpos (starEach es (gq (jz P w) P w K mg base N qual scope f cd A outer s H E).env)).any (·.1) = false:=by rfl) :
  PS (gq (jz P w) P w K mg base N qual scope f cd A outer s H E) (.Raise (some (.Call (.Name x np) (e1 :: es) [] cpos)) none pos) (λ_ Z H1=>ta Z H1 λvs H2=>vs.length <= sizeLine /\ ∀ e,H2 e = none -> sp (.ref e :: vs) (upd H2 e (jw e C none)) (λv H3=>v = .cM /\ ∃ d,H3 e = some (jw e C d) /\ E (.ref C) (some e) (upd H3 e (gr e C d))) E0):=by
 intro pins s1 Z H1 D I h
 rw [arm_exec_Raise]
 refine wpAny_bind (wpAny_standAt (Cu (I.ok.hd rfl) (wpAny_bind (wpAny_mono (wpAny_Call_Name_kw (gQ I hg hm (PySem.W.callWith_K (h₀:=base) I.ok.mod.nO hkp (cS (ha cpos pins s1 Z H1 _ I h) λus s3 ⟨vs,H3,I3,rv,sz,kk⟩=>⟨I3.jA,?_⟩) he hpl) hd)) (λv s4 h4=>wpAny_bind (wpAny_standAt (wpAny_pure h4))) λ_ _ z=>z))))
 obtain ⟨bm,Nn,mN,xx⟩:=kH I3.jA c.at_
 have lk:=beq_iff_eq.mp hfn
 have fo:∃ oI,s3.heap.get? fI = some oI /\ oI.cls = .type "function" := by
  obtain ⟨oI,l1,l2⟩:=Option.map_eq_some_iff.mp lk
  exact ⟨oI,I3.jA _ _ l1,l2⟩
 obtain ⟨oI,fo1,fo2⟩:=fo
 obtain ⟨hp,g,dr,t,os⟩:=s3
 refine E4 I3.jA xx hi fo1 fo2 (show us.length <= sizeLine by rw [← rv.length];exact sz) λh2 e md=>?_
 obtain ⟨t0,g1,_,_⟩:=md.there
 have new:=I3.hok.new md.new
 have I4:=I3.IL (h':=h2) (t':=t) (o:=jw e C none) md.keeps md.new (vz ⟨_,_,g1,rfl,rfl,rfl,rfl⟩)
 have r2:Vals (V.ref e :: vs) (Value.ref e :: us):=.cons rfl rv
 have hsp:=kk e new
 have hl:(Value.ref e :: us).length = ps.length:=(F.len _ _ _ _ hsp ▸ r2.length).symm
 have bnd:=hb _ (Value.ref e :: us) I4.jA (by rw [List.append_nil];exact hl)
 rw [List.append_nil] at bnd
 refine wpAny_call (codeAny_mono (F.run _ (gq (jz P w) P w K mg base N qual scope f cd A outer s H E).stack _ _ ⟨Value.ref e :: us,[]⟩ (Value.ref e :: us) (V.ref e :: vs) _ E0 (hr.make C us []) (I4.B0.make C us []) bnd r2 hsp) λy s' hq=>?_)
 match y,hq with
 | .ok (.ret u),hq =>
  obtain ⟨v,H5,I5,rv5,z1,d5,z2,z3⟩:=I4.after hq
  subst z1
  obtain ⟨bm5,N5,m5,x5⟩:=kH I5.jA c.at_
  refine ⟨rv5,e,C,bm5,N5,m5,?_⟩
  obtain ⟨oe,ws,a1,a2,a3,a4,a5⟩:=(I5.hok e _ z2).1
  refine ⟨oe,ws,rfl,x5,a1,a2,a4,a5,G2 (I5.O4 z2) ⟨oe,ws,a1,a2,a3,a4,a5⟩ af ?_ z3⟩
  cases z:s.heap.get? e with
  | none=>rfl
  | some o =>
    obtain ⟨u2,z4⟩:=I3.base.there e o z (by show e ∉ [];simp)
    rw [md.new] at z4;cases z4
end
end L2
namespace L2
open PySem PySem.Spec PyProof.Rows PySem.W
structure jT (k:Nat) (A:Around):Prop where
 dp:A.depth + 3 * k + 5 < recursionLimit
 un:A.units + 16 * k + 200 < cLine
theorem eW.less {k:Nat} {A:Around} (r:eW k A):jT k A:=⟨r.dp,r.un⟩
theorem jT.deeper {k:Nat} {A:Around} (r:jT (k + 1) A) (env:Env):jT k (A.deeper env):=by
 have:=(eW.deeper (k:=k) (A:={ A with handled:=none }) ⟨rfl,r.dp,r.un⟩ env)
 exact ⟨this.dp,this.un⟩
theorem jT.mark {k:Nat} {A:Around} (r:jT k A) (v:Option Value):jT k (A.mark v):=⟨r.dp,r.un⟩
structure OP (P:Program) (w:World) (K:Frag) (mg:Str -> Option Value) (base:Heap) (CX:qF) (k:Nat) (f:Addr) (fd:FuncData) (ps:List Str) (sp:Sp):Prop where
 len:∀ vs H Q E,sp vs H Q E -> vs.length = ps.length
 run:∀ (A:Around) (outer:List Env) (s:Shared) (H:Hp) (args:Args) (us:List Value) (vs:List V) (Q:VK) (E:XK),jT k A -> vt P w K mg base A outer s H -> BindsTo s fd args (ps.zip us) -> Vals vs us -> sp vs H Q E -> codeAny (model P w) A (.call (.ref f) args) (CR CX outer P w H s Q E) s
section
variable {P:Program} {w:World} {K:Frag} {mg:Str -> Option Value} {base:Heap} {CX:qF} {k:Nat} {f:Addr} {fd:FuncData} {ps:List Str} {sp:Sp}
abbrev cxH (CX:qF) (P:Program) (w:World) (K:Frag) (mg:Str -> Option Value) (base:Heap) (N:List Str) (qual:Str) (scope:Scope) (f:Addr) (cd:Value) (A:Around) (outer:List Env) (s:Shared) (H:Hp) (E:XK):Cx:={ gq CX P w K mg base N qual scope f cd A outer s H E with calm:=false }
theorem bG.okH {x qual:Str} {st:Stmt} {N:List Str} (F:bG K x qual st f fd) (S:aD N ps (ay st)) (len:∀ vs H Q E,sp vs H Q E -> vs.length = ps.length)
  (hbody:∀ (cdv:Value) (A:Around) (outer:List Env) (s:Shared) (H:Hp) (vs:List V) (Q:VK) (E:XK),jT k (A.deeper (envOfC qual (ay st) s.heap.objs.size f cdv)) -> sp vs H Q E ->
   At (cxH CX P w K mg base N qual (ay st) f cdv A outer s H E) { nx:=λ_ H'=>Q .cM H',rt:=Q } (jE st) (start N vs) H):OP P w K mg base CX (k + 1) f fd ps sp:=by
 obtain ⟨oc,odd,kV,doc,pm,an,cdv,ct,osl,rfl,lk,hcd⟩:=F.ex
 refine ⟨len,λA outer s H args us vs Q E hr e0 hb r hsp=>?_⟩
 have hl:=len _ _ _ _ hsp
 have KX:K.In s.heap:=e0.mod.nO.keeps λb o z=>(e0.bs b o z).1
 have lim:s.heap.NoLimit:=e0.mod.nolimit.keeps λb o z=>(e0.bs b o z).1
 have hdp:A.depth < recursionLimit:=by have:=hr.dp;omega
 refine codeAny_call_function hdp (KX _ _ lk) rfl S.co S.gen rfl (codeRec_of KX hcd) (hb _ _ _ _ ?_)
 refine wpAny_newFunctionEnv_cells S.kind (λ⟨n,v⟩ hy=>?_) λenv he s1 y=>?_
 ·rcases S.par n (List.of_mem_zip hy).1 with q | q
  ·exact .inl q
  ·exact .inr ⟨q,cellsFrom_some _ _ _ (.inl q)⟩
 subst he
 refine ⟨lim.keeps y.toInCall.keep,codeAny_func ?_⟩
 have e1:vt P w K mg base { A with handled:=none } outer s H:={ e0 with frames:=e0.frames }
 have I0:=ug (CX:=CX) (A:={ A with handled:=none }) (E:=E) (cd:=cdv) (qual:=qual) (f:=f) S rfl e1 hl r y
 have I:Inv (cxH CX P w K mg base N qual (ay st) f cdv A outer s H E) [] (start N vs) H s1 :=
  ⟨I0.ok.cast rfl rfl rfl rfl rfl rfl rfl rfl rfl rfl (λz=>nomatch z) I0.ok.frames,I0.os,I0.bare,I0.base,I0.loc,I0.cell,I0.free,I0.iJ,I0.pin,I0.hok,I0.len⟩
 refine wpAny_mono (hbody cdv A outer s H vs Q E (hr.deeper _) hsp [] s1 I) (λfl s' hs=>?_) λ_ _ hs=>hs
 cases fl with
 | ret u=>obtain ⟨v,Z',H',J,rv,q⟩:=hs;exact ⟨v,H',J.os,J.bare,J.base,J.hok,rv,q⟩
 | next=>obtain ⟨Z',H',J,q⟩:=hs;exact ⟨.cM,H',J.os,J.bare,J.base,J.hok,rfl,q⟩
 | brk=>obtain ⟨_,_,_,q⟩:=hs;exact q.elim
 | cont=>obtain ⟨_,_,_,q⟩:=hs;exact q.elim
end
section
variable {X:Cx} {CX:qF} {k:Nat} {f:Addr} {fd:FuncData} {ps:List Str} {sp:Sp} {x:Str} {p pos:Pos} {e:Expr} {es:List Expr} {t:TA} {E:XK}
theorem Hf {pins:List (Addr × Obj)} {Z:St} {H:Hp} {s:Shared} {Q:VK} {us:List Value} {vs:List V} (F:OP X.prog X.w X.K X.mg X.base CX k f fd ps sp) (hr:jT k X.A) (hb:Binds X.K fd ps []) (hx:Passes CX X E)
  (I:Inv X pins Z H s) (r:Vals vs us) (h:sp vs H Q E):wpAny (model X.prog X.w) X.A (call (.ref f) us) (EP X pins Z Q) X.xe s:=by
 have hl:us.length = ps.length:=(F.len _ _ _ _ h ▸ r.length).symm
 have bnd:=hb s us I.jA (by rw [List.append_nil];exact hl)
 rw [List.append_nil] at bnd
 refine wpAny_call (codeAny_mono (F.run X.A X.stack s H ⟨us,[]⟩ us vs Q E hr I.B0 bnd r h) λy s' hq=>?_)
 match y,hq with
 | .error ev,hq=>exact hx pins Z H s ev s' I hq
 | .ok (.ret _),hq=>exact I.after hq
theorem zF (F:OP X.prog X.w X.K X.mg X.base CX k f fd ps sp) (hr:jT k X.A) (hg:Gl X x) (hm:X.mg x = some (.ref f)) (hk:keepIn X.K (.ref f) = true) (hb:Binds X.K fd ps []) (hx:Passes CX X E) (ha:PA X (e :: es) t)
  (hdb:(x == ("__debug__" : Str)) = false:=by decide) (he:starEach (e :: es) X.env = (false,eval e X.env) :: starEach es X.env:=by rfl) (hpl:(backTo pos (starEach es X.env)).any (·.1) = false:=by rfl) :
  PE X (.Call (.Name x p) (e :: es) [] pos) (λZ H Q=>t Z H λvs H1=>sp vs H1 Q E):=λpins s Z H Q I h =>
 wpAny_Call_Name_kw (gQ I hg hm (callWith_K (h₀:=X.base) I.ok.mod.nO hk (cS (ha pos pins s Z H _ I h) λus s1 ⟨vs,H1,I1,r,q⟩=>⟨I1.jA,Hf F hr hb hx I1 r q⟩) he hpl) hdb)
end
end L2
namespace L2
open PySem PySem.Spec PyProof.Rows PySem.W
section
variable {X:Cx} {pins:List (Addr × Obj)} {Z:St} {H:Hp} {s:Shared} {e C:Addr} {d:Option Addr} {A:Around} {E:Value -> Shared -> Prop}
theorem Inv.O3 {h2:Heap} {t':Nat} (I:Inv X pins Z H s) (he:H e = some (jw e C d)) (k:∀ b o,b ≠ e -> s.heap.get? b = some o -> h2.get? b = some o) (u:kG h2 e C d):Inv X pins Z H { s with heap:=h2,toks:=t' }:=by
 have nee:∀ {b},H b = none -> b ≠ e:=λq z=>by rw [z,he] at q;cases q
 refine I.un ⟨λb o q a _ _=>k b o (nee a) q,λb o q a _ _=>⟨o.slots,k b o (nee a) q⟩,λ_ _ _ a _=>a,λb o q _=>?_,λ_ _ q=>q,λ_ _ _ q=>q,λb ps q=>⟨#[],by rw [q];simp⟩⟩ λb o q=>?_
 ·by_cases z:b = e
  ·obtain ⟨oe,vs,g1,_⟩:=u;exact ⟨oe,z ▸ g1⟩
  ·exact ⟨o,k b o z q⟩
 ·by_cases z:b = e
  ·subst z
   rw [he] at q
   cases q
   exact vz u
  ·refine (I.hok b o q).stay (λcc v hcc rr=>k cc v (λy=>?_) rr) (λ_ rr=>rr) λ_ _ rr=>rr
   rcases hcc with p | p
   ·exact z (p.symm.trans y)
   ·rw [y,he] at p;cases p
theorem Fb {rest:List Value} {Q:Value -> Shared -> Prop} (I:Inv X pins Z H s) (he:H e = some (jw e C d)) (c:ExcC X.K C) (hz:rest.length <= sizeLine) (h:∀ s',Inv X pins Z H s' -> Q .none s'):wpAny (model X.prog X.w) A (call (.builtin "ValueError.__init__") (.ref e :: rest)) Q E s:=by
 obtain ⟨bm,Nn,mN,xx⟩:=kH I.jA c.at_
 obtain ⟨a1,a2,a3,a4,a5,a6,a7,a8,a9,b0,b1,b2,b3,b4,eC⟩:=xx.ob
 obtain ⟨oe,vs,g1,g2,g3,g4,g5⟩:=(I.hok e _ he).1
 have B:=PySem.F.excBase_ValueError
 have sz:1 < vs.size:=(Array.getElem?_eq_some_iff.mp g5).1
 have I0:=I
 obtain ⟨hp,g,dr,t,os⟩:=s
 refine wpAny_call (codeAny_call_builtin B.init.plain B.initEntry (wpAny_check_init_subU B xx.tail eC g1 g2 ?_))
 unfold Builtin.«BaseException.__init__»
 refine wpAny_bind (wpAny_newTuple (s:=⟨hp,g,dr,t,os⟩) ?_ hz)
 have ge:(hp.push { cls:=.type "tuple",data:=.seq rest.toArray }).get? e = some oe:=Heap.get?_push_of_some _ g1
 have v0:vs[0]? = some vs[0]:=Array.getElem?_eq_getElem (by omega)
 refine wpAny_bind (wpAny_bind (wpAny_field ge g4 v0 (wpAny_bind (wpAny_setField ge g4 (show 0 < vs.size by omega) ?_))))
 have fin:Inv X pins Z H ⟨(hp.push { cls:=.type "tuple",data:=.seq rest.toArray }).update e (Obj.mapFields (·.setIfInBounds 0 (.ref hp.objs.size))),g,dr,t,os⟩:=by
  refine I0.O3 (t':=t) he (λb o nb q=>(Heap.get?_update_ne _ _ _ _ nb).trans (Heap.get?_push_of_some _ q)) ?_
  obtain ⟨oc,od,oda,osl⟩:=oe
  dsimp only at g2 g3 g4
  subst g2 g3 g4
  exact ⟨_,_,Heap.get?_update_self _ ge rfl,rfl,rfl,rfl,by rw [Array.getElem?_setIfInBounds_ne (by decide)];exact g5⟩
 split
 ·exact wpAny_letGo (wpAny_pure (h _ fin))
 ·exact wpAny_pure (wpAny_pure (h _ fin))
end
section
variable {X:Cx} {T:Str} {tp apos pos:Pos} {e1:Expr} {es:List Expr} {t:TA} {D:Addr}
theorem Fc {pl:Sem Bool} (hg:Gl X T) (hm:X.mg T = some (.ref D)) (hga:specialIn X.K (.ref D) "__getattribute__" = some (some (.builtin "type.__getattribute__"))) (hr:readsIn X.K D (.type "type") = true) (hf:findCls X.K (.ref D) (.type "type") "__init__" = some (.val (.builtin "ValueError.__init__")))
  (ha:PA X (e1 :: es) t) (hdb:(T == ("__debug__" : Str)) = false:=by decide) (hst:starEach (e1 :: es) X.env = (false,eval e1 X.env) :: starEach es X.env:=by rfl) (hpl:(backTo pos (starEach es X.env)).any (·.1) = false:=by rfl)
  (ht:eval (.Call (.Attribute (.Name T tp) "__init__" apos) (e1 :: es) [] pos) X.env = (do
   let ov ← eval (.Name T tp) X.env
   standAt apos.atName
   let (f,first) ← holding [ov] (getMethod ov "__init__" pl)
   callWith pos f first (backTo pos (starEach (e1 :: es) X.env)) (backToKw pos (keywordEach [] X.env))):=by rfl) :
  PE X (.Call (.Attribute (.Name T tp) "__init__" apos) (e1 :: es) [] pos) (λZ H Q=>t Z H λvs H1=>∃ e C d rest,vs = .ref e :: rest /\ H1 e = some (jw e C d) /\ ExcC X.K C /\ rest.length <= sizeLine /\ Q .cM H1):=by
 intro pins s Z H Q I h
 refine methodCall_KW (pl:=pl) (gQ I hg hm ?_ hdb) ht
 refine method_cls I.jA hga (cls_value I.jA hr hf (by decide +kernel) ?_)
 refine callWith_builtin1 (cS (ha pos pins _ Z H _ (I.tok _) h) λus s1 ⟨vs,H1,I1,r,e,C,d,rest,z1,z2,c,z3,q⟩=>?_) hst hpl
 subst z1
 cases r with
 | cons r1 r2 =>
  cases r1
  exact Fb I1 z2 c (by rw [← r2.length];exact z3) λs2 I2=>⟨.cM,H1,I2,rfl,q⟩
end
end L2
namespace L2
open PySem PySem.Spec PyProof.Rows PySem.W
theorem FO {X:Cx} {C C2:Addr} (nO:X.K.In X.base) (q:sj X.K C = true) (m:mroIn X.K C (.ref C2) = some true):IP X C C2:=by
 unfold sj at q
 split at q
 next dd cd sl look =>
  split at q
  next D r c0 c1 c2 c3 mm c5 em es =>
   simp only [Bool.and_eq_true,beq_iff_eq,Bool.not_eq_true'] at q
   obtain ⟨⟨e1,e2⟩,del,tl,nsok⟩:=q
   subst e1 e2
   have esl:sl = #[c0,c1,c2,c3,some (.builtin "ValueError.__new__"),c5]:=Array.toList_inj.mp es
   have con:cd.mro.contains (.ref C2) = true:=by
    unfold mroIn clsIn at m
    rw [look] at m
    simp only [Option.bind_some] at m
    split at m
    ·cases m
    ·exact Option.some.inj m
   obtain ⟨f1,f2,f3,f4,f5,f6,f7,f8,f9,f10,f11⟩:=cd
   have em:f3 = .ref D :: r:=em
   have del:f11 = false:=del
   subst em del esl
   exact ⟨r,f4,_,⟨⟨_,_,_,_,_,_,_,_,_,_,_,_,_,_,nO _ _ look⟩,.of_isNs (isNs_of_in nO nsok),tail_of_in nO tl⟩,con⟩
  next=>cases q
 next=>cases q
end L2
namespace L2
open PySem PySem.Spec PyProof.Rows
section
variable {X:Cx} {pins:List (Addr × Obj)} {Z:St} {H:Hp} {s:Shared}
end
theorem Bs {X:Cx} {x n:Str} {np hpos pos:Pos} {b0:Stmt} {body suite:List Stmt} {i:Nat} {C2:Addr} (hst:X.stack = X.env :: X.outer) (hfr:X.env.frame = some X.env.locals) (hN:X.N.Nodup) (hi:X.N[i]? = some n) (hloc:X.env.scope.names.lookup n = some .local)
  (hg:Gl X x) (hm:X.mg x = some (.ref C2)) (hdb:(x == ("__debug__" : Str)) = false) (h2:sj X.K C2 = true) :
  PS X (.Try body [.ExceptHandler (some (.Name x np)) (some n) (b0 :: suite) hpos] [] [] pos) (λD Z H=>∃ Th,(∀ pins,At (X.ly pins Th) D body Z H) /\
   ∀ Z' C e H',Th Z' C e H' -> sj X.K C = true /\ PySem.W.mroIn X.K C (.ref C2) = some true /\ At (X.held e) (D.less i) (b0 :: suite) (Z'.set i (some (.ref e))) H'):=λpins s Z H D I ⟨Th,hb,hh⟩ =>
 (MB hst hfr hN hi hloc hg hm hdb (kH I.ok.mod.nO h2)) pins s Z H D I ⟨Th,hb,λZ' C e H' th=>let ⟨a,b,c⟩:=hh Z' C e H' th;⟨FO I.ok.mod.nO a b,c⟩⟩
end L2
namespace L2
open PySem PySem.Spec PyProof.Rows
section
variable {X:Cx} {pins:List (Addr × Obj)} {Z:St} {H:Hp} {s:Shared}
def vA (xs ys:List V):Prop:=∀ x ∈ xs,∀ y ∈ ys,iZ x = true /\ iZ y = true /\ Cg x y = decide (x = y)
theorem we {xs ys:List V} {is js:List Value} {A:Around} (p:vA xs ys) (r1:Vals xs is) (r2:Vals ys js) :
  ∀ j (h1:j < is.toArray.size) (h2:j < js.toArray.size),SeqAt.EqAt A s is.toArray[j] js.toArray[j] ((λj=>decide (xs[j]? = ys[j]?)) j):=by
 intro j h1 h2
 have l1:=r1.length
 have l2:=r2.length
 have j1:j < xs.length:=by simpa [l1] using h1
 have j2:j < ys.length:=by simpa [l2] using h2
 have e1:=List.getElem?_eq_getElem j1
 have e2:=List.getElem?_eq_getElem j2
 obtain ⟨u1,g1,q1⟩:=r1.get e1
 obtain ⟨u2,g2,q2⟩:=r2.get e2
 have g1':is.toArray[j] = u1:=by simpa [List.getElem?_eq_some_iff] using (List.getElem?_eq_some_iff.mp g1).2
 have g2':js.toArray[j] = u2:=by simpa [List.getElem?_eq_some_iff] using (List.getElem?_eq_some_iff.mp g2).2
 rw [g1',g2']
 obtain ⟨f1,f2,f3⟩:=p _ (List.getElem_mem j1) _ (List.getElem_mem j2)
 have:=Ay (A:=A) (s:=s) q1 q2 f1 f2
 rw [f3] at this
 have e:decide (xs[j]? = ys[j]?) = decide (xs[j] = ys[j]):=by rw [e1,e2];simp
 show SeqAt.EqAt A s u1 u2 (decide (xs[j]? = ys[j]?))
 rw [e]
 exact this
theorem Ft {xs ys:List V} (h:xs.length = ys.length):((List.range xs.length).all λj=>decide (xs[j]? = ys[j]?)) = decide (xs = ys):=by
 rw [Bool.eq_iff_iff,List.all_eq_true,decide_eq_true_eq]
 constructor
 ·intro z
  refine List.ext_getElem? λj=>?_
  by_cases hj:j < xs.length
  ·simpa using z j (List.mem_range.mpr hj)
  ·rw [List.getElem?_eq_none (by omega),List.getElem?_eq_none (by omega)]
 ·intro z j _
  rw [z];simp
def Oa (K:PySem.W.Frag):R2:=λx y H Q=>∃ a b xs ys,x = .ref a /\ y = .ref b /\ bB K H a xs /\ bB K H b ys /\ vA xs ys /\ Q (.bl (!decide (xs = ys))) H
theorem ve (hu:X.A.units < cLine):lP X (compareOp .NotEq) (Oa X.K):=by
 intro pins s Z H x y v u Q I rx ry h
 obtain ⟨a,b,xs,ys,rfl,rfl,ha,hb,hp,q⟩:=h
 cases rx
 cases ry
 obtain ⟨is,r1,p1,_⟩:=I.list ha
 obtain ⟨js,r2,p2,_⟩:=I.list hb
 obtain ⟨o1,n1,e1,c1,_,d1⟩:=p1
 obtain ⟨o2,n2,e2,c2,_,d2⟩:=p2
 have l1:=r1.length
 have l2:=r2.length
 by_cases hl:xs.length = ys.length
 ·refine PySem.SeqAt.RcNeAt.lists (e:=λj=>decide (xs[j]? = ys[j]?)) ⟨o1,e1,c1,n1,d1⟩ ⟨o2,e2,c2,n2,d2⟩ (by simp [← l1,← l2,hl]) hu (we hp r1 r2) _ _ _ _ ?_
  have z:is.toArray.size = xs.length:=by simp [← l1]
  rw [z,Ft hl]
  exact ⟨.bl _,H,I,rfl,q⟩
 ·refine PySem.SeqAt.RcNeAt.lists_lengths ⟨o1,e1,c1,n1,d1⟩ ⟨o2,e2,c2,n2,d2⟩ (by simpa [← l1,← l2] using hl) hu _ _ _ _ ?_
  rw [decide_eq_false (λz=>hl (by rw [z]))] at q
  exact ⟨.bl true,H,I,rfl,q⟩
theorem zY {α β:Type} (f:α -> Int) (g:β -> Int) (xs:List α) (ys:List β):vA (xs.map λx=>V.int (f x)) (ys.map λy=>V.int (g y)):=by
 intro x hx y hy
 obtain ⟨a,_,rfl⟩:=List.mem_map.mp hx
 obtain ⟨b,_,rfl⟩:=List.mem_map.mp hy
 refine ⟨rfl,rfl,?_⟩
 show (f a == g b) = _
 rw [Bool.eq_iff_iff]
 simp
theorem qk (xs ys:List Str):vA (xs.map V.str) (ys.map V.str):=by
 intro x hx y hy
 obtain ⟨a,_,rfl⟩:=List.mem_map.mp hx
 obtain ⟨b,_,rfl⟩:=List.mem_map.mp hy
 refine ⟨rfl,rfl,?_⟩
 show (a == b) = _
 rw [Bool.eq_iff_iff]
 simp
end
end L2
namespace L2
open PySem PySem.Spec PyProof.Rows
section
variable {X:Cx} {pins:List (Addr × Obj)} {Z:St} {H:Hp} {s:Shared}
end
end L2
namespace L2
open PySem PySem.Spec PyProof.Rows
def nH (K:PySem.W.Frag) (H:Hp):Nat -> V -> V -> Prop
 | 0,x,y=>x = y /\ (iZ x = true ∨ ∃ a,x = .ref a)
 | n + 1,x,y=>(x = y /\ (iZ x = true ∨ ∃ a,x = .ref a)) ∨ ∃ a b xs ys,x = .ref a /\ y = .ref b /\ ((bB K H a xs /\ bB K H b ys) ∨ (fY K H a xs /\ fY K H b ys)) /\ xs.length = ys.length /\ ∀ (j:Nat) (x y:V),xs[j]? = some x -> ys[j]? = some y -> nH K H n x y
section
variable {X:Cx} {pins:List (Addr × Obj)} {Z:St} {H:Hp} {s:Shared}
theorem iQ {n:Nat} {xs ys:List V} {is js:List Value} {A:Around} (ih:∀ (x y:V) (u v:Value),RelV x u -> RelV y v -> nH X.K H n x y -> SeqAt.EqAt A s u v true) (r1:Vals xs is) (r2:Vals ys js) (h:∀ (j:Nat) (x y:V),xs[j]? = some x -> ys[j]? = some y -> nH X.K H n x y) :
  ∀ j (h1:j < is.toArray.size) (h2:j < js.toArray.size),SeqAt.EqAt A s is.toArray[j] js.toArray[j] ((λ_=>true) j):=by
 intro j h1 h2
 have l1:=r1.length
 have l2:=r2.length
 have j1:j < xs.length:=by simpa [l1] using h1
 have j2:j < ys.length:=by simpa [l2] using h2
 obtain ⟨u1,g1,q1⟩:=r1.get (List.getElem?_eq_getElem j1)
 obtain ⟨u2,g2,q2⟩:=r2.get (List.getElem?_eq_getElem j2)
 have g1':is.toArray[j] = u1:=by simpa [List.getElem?_eq_some_iff] using (List.getElem?_eq_some_iff.mp g1).2
 have g2':js.toArray[j] = u2:=by simpa [List.getElem?_eq_some_iff] using (List.getElem?_eq_some_iff.mp g2).2
 rw [g1',g2']
 exact ih _ _ _ _ q1 q2 (h j _ _ (List.getElem?_eq_getElem j1) (List.getElem?_eq_getElem j2))
theorem Bm {A:Around} {x:V} {u v:Value} (rx:RelV x u) (ry:RelV x v) (h:iZ x = true ∨ ∃ a,x = .ref a):SeqAt.EqAt A s u v true:=by
 rcases h with f | ⟨a,rfl⟩
 ·have:=Ay (A:=A) (s:=s) rx ry f f
  rwa [Df f] at this
 ·cases rx
  cases ry
  exact SeqAt.EqAt.same _
theorem uv (I:Inv X pins Z H s):∀ (n:Nat) (A:Around) (x y:V) (u v:Value),A.units + n < cLine -> RelV x u -> RelV y v -> nH X.K H n x y -> SeqAt.EqAt A s u v true
 | 0,A,x,y,u,v,_,rx,ry,⟨e,f⟩=>by
  subst e
  exact Bm rx ry f
 | n + 1,A,x,y,u,v,hu,rx,ry,h=>by
  rcases h with ⟨e,f⟩ | ⟨a,b,xs,ys,rfl,rfl,hs,hl,hj⟩
  ·subst e
   exact Bm rx ry f
  ·cases rx
   cases ry
   by_cases ne:a = b
   ·subst ne;exact SeqAt.EqAt.same _
   have ih:=λx y u v=>uv I n A.in1 x y u v (by show A.units + 1 + n < cLine;omega)
   rcases hs with ⟨h1,h2⟩ | ⟨h1,h2⟩
   ·obtain ⟨is,r1,p1,_⟩:=I.list h1
    obtain ⟨js,r2,p2,_⟩:=I.list h2
    obtain ⟨o1,n1,e1,c1,_,d1⟩:=p1
    obtain ⟨o2,n2,e2,c2,_,d2⟩:=p2
    have sz:is.toArray.size = js.toArray.size:=by simp [← r1.length,← r2.length,hl]
    have:=SeqAt.EqAt.of_refs ne (SeqAt.RcAt.lists ⟨o1,e1,c1,n1,d1⟩ ⟨o2,e2,c2,n2,d2⟩ sz (by omega) (iQ ih r1 r2 hj))
    have z:((List.range is.toArray.size).all λ_=>true) = true:=List.all_eq_true.mpr λ_ _=>rfl
    rwa [z] at this
   ·obtain ⟨is,r1,p1,_⟩:=I.tuple h1
    obtain ⟨js,r2,p2,_⟩:=I.tuple h2
    obtain ⟨o1,e1,c1,n1,d1⟩:=p1
    obtain ⟨o2,e2,c2,n2,d2⟩:=p2
    have:=SeqAt.EqAt.of_refs ne (SeqAt.RcAt.tuples ⟨o1,e1,c1,n1,d1⟩ ⟨o2,e2,c2,n2,d2⟩ (by omega) (iQ ih r1 r2 hj))
    have z:(((List.range (min is.toArray.size js.toArray.size)).all λ_=>true) && is.toArray.size == js.toArray.size) = true:=by simp [← r1.length,← r2.length,hl]
    rwa [z] at this
def O7 (K:PySem.W.Frag) (n:Nat):R2:=λx y H Q=>∃ a b xs ys,x = .ref a /\ y = .ref b /\ ((bB K H a xs /\ bB K H b ys) ∨ (fY K H a xs /\ fY K H b ys)) /\ xs.length = ys.length /\ (∀ (j:Nat) (x y:V),xs[j]? = some x -> ys[j]? = some y -> nH K H n x y) /\ Q (.bl false) H
theorem Jq (n:Nat) (hu:X.A.units + (n + 1) < cLine):lP X (compareOp .NotEq) (O7 X.K n):=by
 intro pins s Z H x y v u Q I rx ry h
 obtain ⟨a,b,xs,ys,rfl,rfl,hs,hl,hj,q⟩:=h
 cases rx
 cases ry
 have ih:=λx y u v=>uv I n X.A.in1 x y u v (by show X.A.units + 1 + n < cLine;omega)
 rcases hs with ⟨ha,hb⟩ | ⟨ha,hb⟩
 ·obtain ⟨is,r1,p1,_⟩:=I.list ha
  obtain ⟨js,r2,p2,_⟩:=I.list hb
  obtain ⟨o1,n1,e1,c1,_,d1⟩:=p1
  obtain ⟨o2,n2,e2,c2,_,d2⟩:=p2
  refine PySem.SeqAt.RcNeAt.lists (e:=λ_=>true) ⟨o1,e1,c1,n1,d1⟩ ⟨o2,e2,c2,n2,d2⟩ (by simp [← r1.length,← r2.length,hl]) (by omega) (iQ ih r1 r2 hj) _ _ _ _ ?_
  have z:((List.range is.toArray.size).all λ_=>true) = true:=List.all_eq_true.mpr λ_ _=>rfl
  rw [z]
  exact ⟨.bl false,H,I,rfl,q⟩
 ·obtain ⟨is,r1,p1,_⟩:=I.tuple ha
  obtain ⟨js,r2,p2,_⟩:=I.tuple hb
  obtain ⟨o1,e1,c1,n1,d1⟩:=p1
  obtain ⟨o2,e2,c2,n2,d2⟩:=p2
  refine PySem.SeqAt.RcNeAt.tuples (e:=λ_=>true) ⟨o1,e1,c1,n1,d1⟩ ⟨o2,e2,c2,n2,d2⟩ (by omega) (iQ ih r1 r2 hj) _ _ _ _ ?_
  have z:(((List.range (min is.toArray.size js.toArray.size)).all λ_=>true) && is.toArray.size == js.toArray.size) = true:=by simp [← r1.length,← r2.length,hl]
  rw [z]
  exact ⟨.bl false,H,I,rfl,q⟩
end
end L2
namespace L2
open PySem PySem.Spec PyProof.Rows
section
variable {X:Cx} {e v1 v2:Expr} {es:List Expr} {te:TE} {pos:Pos}
abbrev TF:=St -> Hp -> Str -> (Str -> Hp -> Prop) -> Prop
noncomputable def PF (X:Cx) (es:List Expr) (t:TF):Prop :=
 ∀ (pins:List (Addr × Obj)) (s:Shared) (Z:St) (H:Hp) (acc:Str) (Q:Str -> Hp -> Prop),Inv X pins Z H s -> t Z H acc Q -> wpAny (model X.prog X.w) X.A (joinParts acc (evalEach es X.env)) (EP X pins Z (λv H'=>∃ z,v = .str z /\ Q z H')) X.xe s
noncomputable def ND:TF:=λ_ H acc Q=>acc.length <= sizeLine /\ Q acc H
noncomputable def NY (x:Str) (t:TF):TF:=λZ H acc Q=>(acc ++ x).length <= sizeLine /\ t Z H (acc ++ x) Q
noncomputable def Nc (te:TE) (t:TF):TF:=λZ H acc Q=>te Z H λv H1=>∃ x,((v = .str x /\ x.length <= sizeLine) ∨ (∃ i:Int,v = .int i /\ i.natAbs.log2 < 1920 /\ x = PySem.Str.ofString (toString i))) /\ (acc ++ x).length <= sizeLine /\ t Z H1 (acc ++ x) Q
variable {t:TF}
theorem lJ:PF X [] ND:=λpins s Z H acc Q I h=>joinParts_nil (s:=s) ⟨.str acc,H,I.tok _,⟨_,rfl⟩,acc,rfl,h.2⟩ h.1
theorem fW {x:Str} {j:Nat} {p:Pos} (hr:PF X es t):PF X (.Constant (.str x) j p :: es) (NY x t):=by
 intro pins s Z H acc Q I h
 show wpAny _ _ (joinParts acc (eval (.Constant (.str x) j p) X.env :: evalEach es X.env)) _ _ s
 refine joinParts_cons (cS (aM pins s Z H (λv H'=>v = .str x /\ H' = H) I ⟨rfl,rfl⟩) λu s1 ⟨v,H1,I1,r1,e1,e2⟩=>?_)
 subst e1 e2
 obtain ⟨tk,rfl⟩:=r1
 exact ⟨h.1,hr pins s1 Z _ _ Q I1 h.2⟩
theorem iD {p:Pos} (he:PE X e te) (hr:PF X es t):PF X (.FormattedValue e (-1) none p :: es) (Nc te t):=by
 intro pins s Z H acc Q I h
 show wpAny _ _ (joinParts acc (eval (.FormattedValue e (-1) none p) X.env :: evalEach es X.env)) _ _ s
 refine joinParts_cons (FormattedValue_plain (cS (he pins s Z H _ I h) λu s1 ⟨v,H1,I1,r1,x,hx,hl,q⟩=>?_))
 rcases hx with ⟨rfl,hz⟩ | ⟨i,rfl,hz,rfl⟩
 ·obtain ⟨tk,rfl⟩:=r1
  exact formatField_str (λt' tk'=>⟨hl,hr pins _ Z _ _ Q (I1.tok _) q⟩) hz
 ·obtain ⟨tk,rfl⟩:=r1
  exact formatField_int_small hz ⟨hl,hr pins _ Z _ _ Q (I1.tok _) q⟩
theorem jK (h:PF X (v1 :: v2 :: es) t):PE X (.JoinedStr (v1 :: v2 :: es) pos) (λZ H Q=>t Z H Str.empty λz H'=>Q (.str z) H'):=by
 intro pins s Z H Q I hq
 refine JoinedStr_many (cS (h pins s Z H Str.empty _ I hq) λu s1 ⟨v,H1,I1,r1,z,e,q⟩=>⟨v,H1,I1,r1,by rw [e];exact q⟩)
end
end L2
namespace L2
open PySem PySem.Spec PyProof.Rows PySem.W
section
variable {X:Cx}
theorem sI:∀ {as:List Addr} {us:List Value},Vals (as.map V.ref) us -> us = as.map Value.ref
 | [],_,.nil=>rfl
 | a :: as,_,.cons h t=>by
  cases h
  rw [sI t]
  rfl
theorem AX:ju X (.builtin "isinstance") (λxs H Q=>∃ (e C:Addr) (d:Option Addr) (p:Addr) (as:List Addr) (b:Bool),xs = [.ref e,.ref p] /\ fY X.K H p (as.map V.ref) /\ H e = some (gr e C d) /\ (∀ dx,d = some dx -> ∃ fs,H dx = some (.xd fs)) /\ zw X.K C /\ kitAny X.K (.ref C) (as.map Value.ref) = some b /\ Q (.bl b) H):=by
 intro pins s Z H xs us Q I r h
 obtain ⟨e,C,d,p,as,b,rfl,hp,he,hd,k,kk,q⟩:=h
 obtain ⟨u,w',rfl,ru,rw'⟩:=vals2 r
 cases rw'
 cases ru
 obtain ⟨its,r1,⟨⟨oc,od,odt,osl⟩,g1,g2,n,g3⟩,_⟩:=I.tuple hp
 obtain rfl:=sI r1
 have g2:oc = .type "tuple" := g2
 have g3:odt = _:=g3
 subst g2 g3
 obtain ⟨oe,vs,a1,a2,a3,a4,_⟩:=(I.hok e _ he).1
 obtain ⟨cd,hc,_⟩:=any_some k.hd
 refine kia_tup (xW k.ge hc k.ob k.ca k.cg k.ct) I.jA ?_ g1 kk (λz=>nomatch z) λtk=>⟨.bl b,H,I.tok _,rfl,q⟩
 cases d with
 | none=>exact ⟨oe,none,a1,a2,by unfold notCls;rw [a4],by rw [a3];trivial⟩
 | some dx =>
  obtain ⟨fs,hx⟩:=hd dx rfl
  obtain ⟨mA,n1,_⟩:=zK I.hok hx
  obtain ⟨od,god,_⟩:=kE n1
  exact ⟨oe,some od,a1,a2,by unfold notCls;rw [a4],by rw [a3];exact god⟩
theorem nS {K:Frag} {t:Value}:∀ {as:List Addr},(∀ a ∈ as,kitOne K t (.ref a) = some false) -> kitAny K t (as.map Value.ref) = some false
 | [],_=>rfl
 | a :: as,h=>by
  rw [List.map_cons,kitAny,h a (by simp)]
  exact nS λb hb=>h b (List.mem_cons_of_mem _ hb)
end
end L2
namespace L2
open PySem PySem.Spec PyProof.Rows
section
variable {X:Cx}
end
end L2
namespace L2
open PySem PySem.Spec PyProof.Rows
section
variable {X:Cx}
end
end L2
namespace L2
open PySem PySem.Spec PyProof.Rows
section
variable {X:Cx}
end
end L2
namespace L2
open PySem PySem.Spec PyProof.Rows
variable {X:Cx}
end L2
namespace L2
open PySem PySem.Spec PyProof.Rows
section
variable {prog:Program} {w:World} {A:Around} {E:Value -> Shared -> Prop} {s:Shared}
set_option maxRecDepth 100000 in
end
section
variable {X:Cx}
end
end L2
namespace HT
open PySem PyProof.Rows
def iL:List Int -> List Int -> Bool
 | [],[]=>false
 | [],_ :: _=>false
 | _ :: _,[]=>true
 | x :: xs,y :: ys=>if x = y then iL xs ys else decide (x > y)
theorem jM (x y:Int) (xs ys:List Int):iL (x :: xs) (y :: ys) = if x = y then iL xs ys else decide (x > y):=rfl
theorem sD:iL [] [] = false:=rfl
theorem pI (y:Int) (ys:List Int):iL [] (y :: ys) = false:=rfl
theorem qS (x:Int) (xs:List Int):iL (x :: xs) [] = true:=rfl
theorem FN (A:Around) (s:Shared) (a:Int) (t:Tok) (c:Int) (u:Tok) (prog:Program) (w:World) (E:Value -> Shared -> Prop) (Q:Value -> Shared -> Prop) (h:Q (.bool (decide (a > c))) s) :
  wpAny (model prog w) A (richCompare .Gt (.int a t) (.int c u)) Q E s :=
 (PyProof.Rows.gt_int h:wpAny (model prog w) A (compareOp .Gt (.int a t) (.int c u)) Q E s)
section
open PySem.SeqAt
open PySem.AutoSeq1 (wpAny_loadPart')
open PySem.MeetsSeq PySem.MeetsSeq2 PySem.MeetsSeq3
theorem sq (l b:Addr) (items items2:Array Value) (n n2:Nat) (dd dd2:Option Addr) (sl sl2:Array (Option Value)) (ns ms:List Int) (hi:IntsAre items.toList ns) (hj:IntsAre items2.toList ms) :
  Meets (Builtin.«tuple.__gt__» ⟨[.ref l,.ref b],[]⟩)
   (λ_ R s=>s.heap.get? l = some { cls:=.type "tuple",dict:=dd,data:=.seq items n,slots:=sl } /\ s.heap.get? b = some { cls:=.type "tuple",dict:=dd2,data:=.seq items2 n2,slots:=sl2 } /\
    R (.ok (.ret (.bool (iL ns ms)))) s) :=
 .of_wp λprog w A R s h=>by
  obtain ⟨hp,g,d,tk,os⟩:=s;obtain ⟨hl,hb,h⟩:=h
  have f2:=AutoSeq1.sub_tuple_tuple
  have z1:items.size = ns.length:=by rw [← hi.length];simp
  have z2:items2.size = ms.length:=by rw [← hj.length];simp
  wp_walk using wpAny_loadPart' hl,wpAny_loadPart' hb,wpAny_forIn_list _ (λrest b s'=>b.1 = none /\ s' = ⟨hp,g,d,tk,os⟩ /\ ∃ (vs ws:List Value) (ns' ms':List Int),rest = vs.zip ws /\
   IntsAre vs ns' /\ IntsAre ws ms' /\ ns'.length + items2.size = ms'.length + items.size /\ R (.ok (.ret (.bool (iL ns' ms')))) ⟨hp,g,d,tk,os⟩) _
  case turn =>
   rintro ⟨y,x⟩ rest b s' ⟨hb',rfl,vs,ws,ns',ms',hz,hvi,hwi,hlen,hR⟩
   cases hvi with
   | nil=>rw [List.zip_nil_left] at hz;cases hz
   | cons a t hvi' =>
    cases hwi with
    | nil=>rw [List.zip_nil_right] at hz;cases hz
    | cons c u hwi' =>
     rw [List.zip_cons_cons] at hz
     injection hz with hyx hrest
     injection hyx with hy hx
     subst hy hx
     rw [jM] at hR
     simp only [List.length_cons] at hlen
     obtain ⟨e,he,hiff⟩:=GK A.in1 ⟨hp,g,d,tk,os⟩ a t c u
     refine wpAny_bind (he prog w _ _ ?_)
     cases e with
     | true =>
      rw [if_pos (hiff.mp rfl)] at hR
      wp_walk
      exact ⟨rfl,rfl,_,_,_,_,hrest,hvi',hwi',by omega,hR⟩
     | false =>
      rw [if_neg (λq=>absurd (hiff.mpr q) Bool.false_ne_true)] at hR
      have hri:=FN A.in1 ⟨hp,g,d,tk,os⟩ a t c u prog w
      wp_walk using hri
      exact ⟨_,rfl,by simpa using hR⟩
  case fin =>
   rintro ⟨b1,b2⟩ s' ⟨hb',rfl,vs,ws,ns',ms',hz,hvi,hwi,hlen,hR⟩
   simp only at hb'
   subst hb'
   have hv:iL ns' ms' = decide (items2.size < items.size):=by
    cases hvi with
    | nil =>
     cases hwi with
     | nil =>
      simp only [List.length_nil] at hlen
      rw [sD]
      exact (decide_eq_false (by omega)).symm
     | cons c u hw =>
      simp only [List.length_nil,List.length_cons] at hlen
      rw [pI]
      exact (decide_eq_false (by omega)).symm
    | cons a t hv =>
     cases hwi with
     | nil =>
      simp only [List.length_nil,List.length_cons] at hlen
      rw [qS]
      exact (decide_eq_true (by omega)).symm
     | cons c u hw =>
      rw [List.zip_cons_cons] at hz
      cases hz
   rw [hv] at hR
   wp_walk
   exact ⟨_,rfl,by simpa [Builtin.Tuple.tupleCompareSizes] using hR⟩
  case h =>
   exact ⟨rfl,rfl,items.toList,items2.toList,ns,ms,rfl,hi,hj,by omega,h⟩
end
section
variable {prog:Program} {w:World} {A:Around} {E:Value -> Shared -> Prop} {s:Shared}
theorem zN {l b:Addr} {items items2:Array Value} {ns ms:List Int} {Q:Value -> Shared -> Prop} (hl:IsTup s.heap l items) (hb:IsTup s.heap b items2) (hi:IntsAre items.toList ns) (hj:IntsAre items2.toList ms)
  (hu:A.units < cLine) (h:Q (.bool (iL ns ms)) s):wpAny (model prog w) A (compareOp .Gt (.ref l) (.ref b)) Q E s:=by
 obtain ⟨⟨cls,dd,data,sl⟩,ho,hc,n,hd⟩:=id hl
 obtain ⟨⟨cls2,dd2,data2,sl2⟩,ho2,hc2,n2,hd2⟩:=id hb
 simp only at hc hd hc2 hd2
 subst hc hd hc2 hd2
 exact richCompare_meets_room (op:=.Gt) ⟨_,ho,rfl⟩ ⟨_,ho2,rfl⟩ PySem.F.slot_tuple_gt PySem.F.entry_tuple_gt (PySem.F.args_tuple_gt_2 _ _) (sq l b items items2 n n2 dd dd2 sl sl2 ns ms hi hj)
  ⟨ho,ho2,show Value.bool (iL ns ms) ≠ Value.notImplemented /\ Q (.bool (iL ns ms)) s from ⟨(λx=>nomatch x),h⟩⟩ hu
end
end HT
namespace L2
open PySem PySem.Spec PyProof.Rows
variable {X:Cx}
theorem nh:∀ {ns:List Int} {us:List Value},Vals (ns.map V.int) us -> PyProof.Rows.IntsAre us ns
 | [],_,.nil=>.nil
 | n :: ns,_,.cons h t=>by
  obtain ⟨k,rfl⟩:=h
  exact .cons _ _ (nh t)
def Nh (K:PySem.W.Frag):R2:=λx y H Q=>∃ a b ns ms,x = .ref a /\ y = .ref b /\ fY K H a (ns.map V.int) /\ fY K H b (ms.map V.int) /\ Q (.bl (HT.iL ns ms)) H
theorem Ho (hu:X.A.units < cLine):lP X (compareOp .Gt) (Nh X.K):=by
 intro pins s Z H x y v u Q I rx ry h
 obtain ⟨a,b,ns,ms,rfl,rfl,ha,hb,q⟩:=h
 cases rx
 cases ry
 obtain ⟨is,r1,p1,_⟩:=I.tuple ha
 obtain ⟨js,r2,p2,_⟩:=I.tuple hb
 exact HT.zN p1 p2 (nh (by simpa using r1)) (nh (by simpa using r2)) hu ⟨.bl _,H,I,rfl,q⟩
end L2
namespace L2
open PySem PySem.Spec PyProof.Rows
section
variable {X:Cx} {CX:qF} {k:Nat} {f C:Addr} {fd:FuncData} {ps:List Str} {sp:Sp} {dvs:List V} {ds:List Value} {x m:Str} {p pos apos:Pos} {e o:Expr} {es:List Expr} {ta:TE} {t:TA}
noncomputable def Mn (CX:qF) (X:Cx) (C:Addr) (sp:Sp) (dvs:List V) (t:TA):TE:=λZ H Q=>t Z H λvs H1=>∃ E,lV CX X Z E /\ ∀ x dx,H1 x = none -> H1 dx = none -> dx ≠ x -> sp (.ref x :: (vs ++ dvs)) (upd (upd H1 dx (.own x)) x (.ins C dx [])) (λv H2=>v = .cM /\ Q (.ref x) H2) E
theorem CY {pins:List (Addr × Obj)} {Z:St} {H:Hp} {s:Shared} {Q:VK} {us:List Value} {vs:List V} (M:Mk X.K C f) (F:bw X.prog X.w X.K X.mg X.base CX k f fd ps sp) (hr:eW (k + 1) X.A) (hb:Binds X.K fd ps ds) (hd:Vals dvs ds)
  (I:Inv X pins Z H s) (r:Vals vs us)
  (h:∃ E,lV CX X Z E /\ ∀ x dx,H x = none -> H dx = none -> dx ≠ x -> sp (.ref x :: (vs ++ dvs)) (upd (upd H dx (.own x)) x (.ins C dx [])) (λv H2=>v = .cM /\ Q (.ref x) H2) E) :
  wpAny (model X.prog X.w) X.A (call (.ref C) us) (EP X pins Z Q) X.xe s:=by
 obtain ⟨E,hx,h⟩:=h
 have hq:=h (s.heap.objs.size + 1) s.heap.objs.size (I.hok.fresh (Nat.le_succ _)) (I.hok.fresh (Nat.le_refl _)) (Nat.ne_of_lt (Nat.lt_succ_self _))
 have I2:=Inv.made (C:=C) I
 have r2:Vals (V.ref (s.heap.objs.size + 1) :: (vs ++ dvs)) (Value.ref (s.heap.objs.size + 1) :: (us ++ ds)):=.cons rfl (r.append hd)
 have hl:(Value.ref (s.heap.objs.size + 1) :: us ++ ds).length = ps.length:=by
  have e:=r2.length
  rw [F.len _ _ _ _ hq] at e
  exact e.symm
 refine wpAny_call (xJ (f:=f) I.jA M.makes M.init (beq_iff_eq.mp M.fn) (codeAny_mono (F.run _ X.stack _ _ ⟨Value.ref (s.heap.objs.size + 1) :: us,[]⟩ (Value.ref (s.heap.objs.size + 1) :: (us ++ ds)) _ _ E (hr.make C us [])
  (I2.B0.make C us []) (hb _ (Value.ref (s.heap.objs.size + 1) :: us) I2.jA hl) r2 hq) λr s' hq'=>?_))
 cases r with
 | error e=>exact hx pins _ _ e s' I2 hq'
 | ok fl =>
  cases fl with
  | ret u =>
   obtain ⟨v,H',I3,rv,ev,q3⟩:=I2.after hq'
   subst ev
   exact ⟨rv,⟨V.ref (s.heap.objs.size + 1),H',I3,rfl,q3⟩⟩
  | next=>exact False.elim hq'
  | brk=>exact False.elim hq'
  | cont=>exact False.elim hq'
theorem FE (M:Mk X.K C f) (F:bw X.prog X.w X.K X.mg X.base CX k f fd ps sp) (hr:eW (k + 1) X.A) (hg:Gl X x) (hm:X.mg x = some (.ref C)) (hb:Binds X.K fd ps ds) (hd:Vals dvs ds)
  (ha:PA X (e :: es) t) (hdb:(x == ("__debug__" : Str)) = false:=by decide) (he:starEach (e :: es) X.env = (false,eval e X.env) :: starEach es X.env:=by rfl) (hpl:(backTo pos (starEach es X.env)).any (·.1) = false:=by rfl) :
  PE X (.Call (.Name x p) (e :: es) [] pos) (Mn CX X C sp dvs t):=by
 intro pins s Z H Q I h
 refine wpAny_Call_Name_kw (gQ I hg hm ?_ hdb)
 refine PySem.W.callWith_K (h₀:=X.base) I.ok.mod.nO M.kp (cS (ha pos pins s Z H _ I h) λus s1 ⟨vs,H1,I1,r,q⟩=>⟨I1.jA,?_⟩) he hpl
 exact CY M F hr hb hd I1 r q
end
end L2
namespace K34
open PySem L2
set_option hygiene false
local macro_rules | `(tactic| walk_at "i")=>`(tactic| (intro vs H Q E h;repeat (first | (obtain ⟨rfl,_⟩:=h;exact rfl) | (obtain ⟨_,h⟩:=h)));(intro cdv A outer s H vs Q E hr h;refine uI ?_))
local macro_rules | `(tactic| walk_at "0")=>`(tactic| (intro _ _ _ _ _ _ us hl;obtain rfl:=ls0 hl;rfl))
local macro_rules | `(tactic| walk_at "1")=>`(tactic| (intro _ _ _ _ _ _ us hl;obtain ⟨_,rfl⟩:=ls1 hl;rfl))
local macro_rules | `(tactic| walk_at "2")=>`(tactic| (intro _ _ _ _ _ _ us hl;obtain ⟨_,_,rfl⟩:=IM hl;rfl))
local macro_rules | `(tactic| walk_at "3")=>`(tactic| (intro _ _ _ _ _ _ us hl;obtain ⟨_,_,_,rfl⟩:=ls3 hl;rfl))
local macro_rules | `(tactic| walk_at "4")=>`(tactic| (intro _ _ _ _ _ _ us hl;obtain ⟨_,_,_,_,rfl⟩:=ls4 hl;rfl))
local macro_rules | `(tactic| walk_at "5")=>`(tactic| (intro _ _ _ _ _ _ us hl;obtain ⟨_,_,_,_,_,rfl⟩:=ls5 hl;rfl))
local macro_rules | `(tactic| walk_at "6")=>`(tactic| (intro _ _ _ _ _ _ us hl;obtain ⟨_,_,_,_,_,_,rfl⟩:=ls6 hl;rfl))
local macro_rules | `(tactic| left)=>`(tactic| walk_at "u")
local macro_rules | `(tactic| walk_at "sc")=>`(tactic| exact ⟨rfl,rfl,rfl,by decide +kernel,rfl,by decide +kernel,by decide +kernel⟩)
noncomputable def top (i:Nat):Stmt:=PySem.Challenge.pw_tintrow_k34_no_place.main.body.getD i (.Pass ⟨0,0,0,0⟩)
noncomputable abbrev Dv:Stmt:=inClass (top 3) 0
theorem LK:aD ["self","ring","sign"] ["self","ring","sign"] (ay Dv):=by walk_at "sc"
noncomputable abbrev Fz:Stmt:=inClass (top 9) 0
theorem Pu:aD ["self","row","at"] ["self","row","at"] (ay Fz):=by walk_at "sc"
noncomputable abbrev CZ:Stmt:=inClass (top 9) 1
theorem MS:aD ["self"] ["self"] (ay CZ):=by walk_at "sc"
noncomputable abbrev Dj:Stmt:=inClass (top 10) 0
theorem JT:aD ["self","text"] ["self","text"] (ay Dj):=by walk_at "sc"
noncomputable abbrev Ge:Stmt:=inClass (top 10) 1
theorem K1:aD ["self","row","at"] ["self","row","at"] (ay Ge):=by walk_at "sc"
noncomputable abbrev FZ:Stmt:=inClass (top 10) 2
theorem JI:aD ["self"] ["self"] (ay FZ):=by walk_at "sc"
noncomputable abbrev FT:Stmt:=inClass (top 11) 0
theorem Ml:aD ["self","signs"] ["self","signs"] (ay FT):=by walk_at "sc"
noncomputable abbrev EU:Stmt:=inClass (top 11) 1
theorem MJ:aD ["self","row","at"] ["self","row","at"] (ay EU):=by walk_at "sc"
noncomputable abbrev D8:Stmt:=inClass (top 11) 2
theorem Jw:aD ["self"] ["self"] (ay D8):=by walk_at "sc"
noncomputable abbrev Fg:Stmt:=inClass (top 12) 0
theorem L5:aD ["self","signs"] ["self","signs"] (ay Fg):=by walk_at "sc"
noncomputable abbrev FH:Stmt:=inClass (top 12) 1
theorem Jv:aD ["self","row","at"] ["self","row","at"] (ay FH):=by walk_at "sc"
noncomputable abbrev GC:Stmt:=inClass (top 12) 2
theorem K7:aD ["self"] ["self"] (ay GC):=by walk_at "sc"
noncomputable abbrev DZ:Stmt:=inClass (top 13) 0
theorem LU:aD ["self","signs"] ["self","signs"] (ay DZ):=by walk_at "sc"
noncomputable abbrev FQ:Stmt:=inClass (top 13) 1
theorem Az:aD ["self","row","at","end"] ["self","row","at"] (ay FQ):=by walk_at "sc"
noncomputable abbrev G4:Stmt:=inClass (top 13) 2
theorem LA:aD ["self"] ["self"] (ay G4):=by walk_at "sc"
noncomputable abbrev MA:Stmt:=inClass (top 14) 0
theorem Ni:aD ["self","row","at"] ["self","row","at"] (ay MA):=by walk_at "sc"
noncomputable abbrev KZ:Stmt:=inClass (top 14) 1
theorem Nu:aD ["self"] ["self"] (ay KZ):=by walk_at "sc"
noncomputable abbrev FW:Stmt:=inClass (top 15) 0
theorem JO:aD ["self","row","at"] ["self","row","at"] (ay FW):=by walk_at "sc"
noncomputable abbrev En:Stmt:=inClass (top 16) 0
theorem Ma:aD ["self","row","at"] ["self","row","at"] (ay En):=by walk_at "sc"
noncomputable abbrev Bb:Stmt:=top 21
theorem L6:aD ["word"] ["word"] (ay Bb):=by walk_at "sc"
noncomputable abbrev C0:Stmt:=inClass (top 22) 0
theorem KI:aD ["self","pattern","colour","deed","goal","fold"] ["self","pattern","colour","deed","goal","fold"] (ay C0):=by walk_at "sc"
noncomputable abbrev DR:Stmt:=inClass (top 23) 0
theorem Kf:aD ["self","name","colour","rules"] ["self","name","colour","rules"] (ay DR):=by walk_at "sc"
noncomputable abbrev GZ:Stmt:=inClass (top 24) 0
theorem Lf:aD ["self","modes"] ["self","modes"] (ay GZ):=by walk_at "sc"
noncomputable abbrev Bt:Stmt:=top 25
theorem MV:aD ["rules"] ["rules"] (ay Bt):=by walk_at "sc"
noncomputable abbrev Bf:Stmt:=top 26
theorem KJ:aD ["mode"] ["mode"] (ay Bf):=by walk_at "sc"
noncomputable abbrev Em:Stmt:=top 27
theorem JL:aD ["rule"] ["rule"] (ay Em):=by walk_at "sc"
noncomputable abbrev Dm:Stmt:=top 30
theorem Ax:aD ["rules","mode","row","at","number","rule"] ["rules","mode","row","at"] (ay Dm):=by walk_at "sc"
noncomputable abbrev DW:Stmt:=top 31
theorem Lx:aD ["modes","rule"] ["modes","rule"] (ay DW):=by walk_at "sc"
noncomputable abbrev Es:Stmt:=top 32
theorem uD:aD ["rules","found"] ["rules"] (ay Es):=by walk_at "sc"
noncomputable abbrev BH:Stmt:=top 33
theorem p9:aD ["rules","row","first","ring"] ["rules"] (ay BH):=by walk_at "sc"
noncomputable abbrev EH:Stmt:=top 34
theorem MM:aD [] [] (ay EH):=by walk_at "sc"
noncomputable abbrev Dg:Stmt:=top 35
theorem q8:aD ["rules","first","row","ring","modes","rule"] ["rules","first","row"] (ay Dg):=by walk_at "sc"
noncomputable abbrev EZ:Stmt:=top 36
theorem Ab:aD ["rules","mode","row","number","rule"] ["rules","mode","row"] (ay EZ):=by walk_at "sc"
noncomputable abbrev EF:Stmt:=top 38
theorem j6:aD ["rules","modes","row","on","tints","marks","at","mode","number","rule"] ["rules","modes","row"] (ay EF):=by walk_at "sc"
noncomputable abbrev DG:Stmt:=inClass (top 40) 0
theorem DK:aD ["self","rules","modes","row","told"] ["self","rules","modes","row"] (ay DG):=by walk_at "sc"
noncomputable abbrev D9:Stmt:=inClass (top 41) 0
theorem GY:aD ["self","rules","rows"] ["self","rules","rows"] (ay D9):=by walk_at "sc"
noncomputable abbrev Bw:Stmt:=inClass (top 41) 1
theorem Kd:aD ["self"] ["self"] (ay Bw):=by walk_at "sc"
noncomputable abbrev EJ:Stmt:=inClass (top 41) 2
theorem EO:aD ["self","row"] ["self","row"] (ay EJ):=by walk_at "sc"
noncomputable abbrev F9:Stmt:=inClass (top 41) 3
theorem Gg:aD ["self","row"] ["self","row"] (ay F9):=by walk_at "sc"
noncomputable abbrev EM:Stmt:=inClass (top 41) 4
theorem EE:aD ["self","row"] ["self","row"] (ay EM):=by walk_at "sc"
noncomputable abbrev EN:Stmt:=inClass (top 41) 5
theorem Lb:aD ["self","row","many","rows","taken","ahead","back","first","changed"] ["self","row","many","rows"] (ay EN):=by walk_at "sc"
noncomputable abbrev E7:Stmt:=inClass (top 41) 6
theorem Mw:aD ["self","row","at","text","signs"] ["self","row","at","text"] (ay E7):=by walk_at "sc"
noncomputable abbrev DY:Stmt:=inClass (top 41) 7
theorem Mu:aD ["self","row","at","row2","at2","left"] ["self","row","at","row2","at2"] (ay DY):=by walk_at "sc"
noncomputable abbrev Dy:Stmt:=inClass (top 41) 8
theorem Ky:aD ["self","row","at","row2","at2","parts"] ["self","row","at","row2","at2"] (ay Dy):=by walk_at "sc"
noncomputable abbrev GH:Stmt:=inClass (top 41) 9
theorem pS:aD ["self","modes","rows","gone_rows","row","gone"] ["self","modes","rows"] (ay GH):=by walk_at "sc"
noncomputable abbrev Fj:Stmt:=inClass (top 41) 12
theorem GQ:aD ["self","row"] ["self","row"] (ay Fj):=by walk_at "sc"
noncomputable abbrev Dh:Stmt:=inClass (top 41) 13
theorem DF:aD ["self","row"] ["self","row"] (ay Dh):=by walk_at "sc"
noncomputable abbrev Gr:Stmt:=inClass (top 41) 14
theorem Kv:aD ["self","row","at"] ["self","row","at"] (ay Gr):=by walk_at "sc"
noncomputable abbrev GX:Stmt:=inClass (top 41) 15
theorem LM:aD ["self","row","at","row2","at2"] ["self","row","at","row2","at2"] (ay GX):=by walk_at "sc"
noncomputable abbrev EX:Stmt:=inClass (top 41) 16
theorem JB:aD ["self","row","many"] ["self","row","many"] (ay EX):=by walk_at "sc"
noncomputable abbrev K9:Stmt:=inClass (top 51) 0
theorem Of:aD ["self","row","text"] ["self","row","text"] (ay K9):=by walk_at "sc"
noncomputable abbrev Kr:Stmt:=inClass (top 51) 1
theorem Ol:aD ["self"] ["self"] (ay Kr):=by walk_at "sc"
noncomputable abbrev Mv:Stmt:=inClass (top 51) 2
theorem NB:aD ["self"] ["self"] (ay Mv):=by walk_at "sc"
noncomputable abbrev KS:Stmt:=inClass (top 51) 3
theorem Ow:aD ["self","good"] ["self","good"] (ay KS):=by walk_at "sc"
noncomputable abbrev MQ:Stmt:=inClass (top 51) 4
theorem IV:aD ["self","good","word"] ["self","good"] (ay MQ):=by walk_at "sc"
noncomputable abbrev KR:Stmt:=inClass (top 51) 5
theorem N6:aD ["self","words"] ["self","words"] (ay KR):=by walk_at "sc"
noncomputable abbrev Lg:Stmt:=inClass (top 51) 6
theorem NK:aD ["self"] ["self"] (ay Lg):=by walk_at "sc"
noncomputable abbrev KC:Stmt:=inClass (top 51) 7
theorem Jo:aD ["self","word"] ["self"] (ay KC):=by walk_at "sc"
noncomputable abbrev Ei:Stmt:=top 52
theorem jD:aD ["text","rows","numbers","modes","nowhere","number","row","cursor","rules"] ["text"] (ay Ei):=by walk_at "sc"
noncomputable abbrev Eg:Stmt:=top 53
theorem vq:aD ["rows","numbers","row","words"] ["rows"] (ay Eg):=by walk_at "sc"
noncomputable abbrev BX:Stmt:=top 54
theorem zU:aD ["cursor","modes","name","colour"] ["cursor","modes"] (ay BX):=by walk_at "sc"
noncomputable abbrev Ek:Stmt:=top 55
theorem m9:aD ["cursor","numbers","nowhere","pattern","colour","deed","goal","fold"] ["cursor","numbers","nowhere"] (ay Ek):=by walk_at "sc"
noncomputable abbrev Eb:Stmt:=top 56
theorem zZ:aD ["cursor","kind","signs"] ["cursor"] (ay Eb):=by walk_at "sc"
noncomputable abbrev GJ:Stmt:=top 57
theorem zX:aD ["cursor","numbers","nowhere","place","name"] ["cursor","numbers","nowhere"] (ay GJ):=by walk_at "sc"
noncomputable abbrev Ez:Stmt:=top 59
theorem ny:aD ["_law_script","_law_k","_law_many","_law_cell","_law_digits","_law_j","_law_seed"] ["_law_script","_law_k","_law_many"] (ay Ez):=by walk_at "sc"
noncomputable abbrev BA:Stmt:=top 60
theorem E8:aD ["_law_script","_law_base","_law_size"] ["_law_script","_law_base"] (ay BA):=by walk_at "sc"
noncomputable abbrev Ew:Stmt:=top 61
theorem iw:aD ["_law_script","_law_base","_law_number","_law_many","_law_calm","_law_sort","_law_deed_here","_law_goal","_law_colour","_law_fold"] ["_law_script","_law_base","_law_number","_law_many","_law_calm"] (ay Ew):=by walk_at "sc"
noncomputable abbrev EC:Stmt:=top 62
theorem j0:aD ["_law_script","_law_base","_law_calm","_law_names","_law_many","_law_modes_here","_law_k","_law_rules","_law_j"] ["_law_script","_law_base","_law_calm"] (ay EC):=by walk_at "sc"
noncomputable abbrev Dn:Stmt:=top 63
theorem iA:aD ["_law_modes_here","_law_rows","_law_name","_law_colour","_law_rules","_law_sort","_law_signs_here","_law_shade","_law_deed_here","_law_goal","_law_fold","_law_words"] ["_law_modes_here"] (ay Dn):=by walk_at "sc"
noncomputable abbrev D3:Stmt:=top 64
theorem zI:aD ["_law_script","_law_base","_law_modes_here"] ["_law_script","_law_base"] (ay D3):=by walk_at "sc"
noncomputable abbrev Gw:Stmt:=top 65
theorem uE:aD ["_law_rule_here","_law_row_here","_law_at","_law_many"] ["_law_rule_here","_law_row_here","_law_at"] (ay Gw):=by walk_at "sc"
noncomputable abbrev GB:Stmt:=top 66
theorem ER:aD ["_law_modes_here","_law_top","_law_row_here","_law_at","_law_rule_here"] ["_law_modes_here","_law_top","_law_row_here","_law_at"] (ay GB):=by walk_at "sc"
noncomputable abbrev Dt:Stmt:=top 67
theorem Li:aD ["_law_rule_here","_law_on"] ["_law_rule_here","_law_on"] (ay Dt):=by walk_at "sc"
noncomputable abbrev ES:Stmt:=top 68
theorem gJ:aD ["_law_modes_here","_law_on","_law_row_here","_law_shades","_law_marked","_law_at","_law_left","_law_rule_here","_law_many"] ["_law_modes_here","_law_on","_law_row_here"] (ay ES):=by walk_at "sc"
noncomputable abbrev BL:Stmt:=top 69
theorem GN:aD ["_law_script","_law_base","_law_most","_law_size"] ["_law_script","_law_base","_law_most"] (ay BL):=by walk_at "sc"
noncomputable abbrev ET:Stmt:=top 70
theorem m8:aD ["_law_modes_here","_law_rows","_law_on","_law_found","_law_row_here","_law_gone_here"] ["_law_modes_here","_law_rows"] (ay ET):=by walk_at "sc"
noncomputable abbrev Bo:Stmt:=top 71
theorem DX:aD ["_law_text_here","_law_kept","_law_k"] ["_law_text_here","_law_kept"] (ay Bo):=by walk_at "sc"
noncomputable abbrev EV:Stmt:=top 72
theorem Gd:aD ["_law_e","_law_others"] ["_law_e"] (ay EV):=by walk_at "sc"
noncomputable abbrev F0:Stmt:=top 73
theorem vc:aD ["_law_text_here","_law_way","_law_a","_law_b","_law_c","_law_d","_law_told","_law_e"] ["_law_text_here","_law_way","_law_a","_law_b","_law_c","_law_d"] (ay F0):=by walk_at "sc"
noncomputable abbrev GS:Stmt:=top 74
theorem Al:aD ["_law_script","_law_k","_law_least","_law_most","_law_cell","_law_far_here"] ["_law_script","_law_k","_law_least","_law_most"] (ay GS):=by walk_at "sc"
noncomputable abbrev Dd:Stmt:=top 75
theorem jq:aD ["_law_script","_law_rows","_law_last","_law_row_here","_law_far_here","_law_off","_law_found","_law_way"] ["_law_script","_law_rows"] (ay Dd):=by walk_at "sc"
noncomputable abbrev DS:Stmt:=top 76
theorem kQ:aD ["_law_script","_law_rows","_law_way","_law_sort"] ["_law_script"] (ay DS):=by walk_at "sc"
noncomputable abbrev BV:Stmt:=top 77
theorem gF:aD ["_law_script","_law_modes_here","_law_rows","_law_text_here","_law_kept","_law_way","_law_a","_law_b","_law_c","_law_d","_law_told","_law_e"] ["_law_script"] (ay BV):=by walk_at "sc"
set_option genInjectivity false in
structure fX where
 bg:Addr
 cO:Addr
 aN:Addr
 aI:Addr
 cP:Addr
 dJ:Addr
 dM:Addr
 iT:Addr
 bY:Addr
 cV:Addr
 bh:Addr
 b6:Addr
 dB:Addr
 bP:Addr
 dF:Addr
 cK:Addr
 bV:Addr
 cT:Addr
 bx:Addr
 aJ:Addr
 bu:Addr
 mV:Addr
 xV:FuncData
 sF:Addr
 Bp:FuncData
 jy:Addr
 qb:FuncData
 nX:Addr
 wA:FuncData
 mC:Addr
 uh:FuncData
 mX:Addr
 um:FuncData
 nI:Addr
 vK:FuncData
 lY:Addr
 uz:FuncData
 mw:Addr
 tN:FuncData
 oG:Addr
 yU:FuncData
 lX:Addr
 sW:FuncData
 mU:Addr
 ud:FuncData
 ou:Addr
 yO:FuncData
 mO:Addr
 sP:FuncData
 mD:Addr
 uy:FuncData
 vg:Addr
 CH:FuncData
 vp:Addr
 B7:FuncData
 mR:Addr
 sS:FuncData
 lQ:Addr
 tQ:FuncData
 rA:Addr
 wV:FuncData
 nY:Addr
 vZ:FuncData
 n6:Addr
 zk:FuncData
 nK:Addr
 wU:FuncData
 rQ:Addr
 yZ:FuncData
 qG:Addr
 xq:FuncData
 pX:Addr
 w6:FuncData
 p6:Addr
 xK:FuncData
 qC:Addr
 yL:FuncData
 ow:Addr
 tL:FuncData
 rV:Addr
 yg:FuncData
 rJ:Addr
 yc:FuncData
 qT:Addr
 v5:FuncData
 pe:Addr
 zG:FuncData
 o7:Addr
 xF:FuncData
 nL:Addr
 yw:FuncData
 lS:Addr
 tu:FuncData
 nJ:Addr
 xR:FuncData
 mq:Addr
 t9:FuncData
 lU:Addr
 uB:FuncData
 mT:Addr
 tX:FuncData
 nU:Addr
 yh:FuncData
 oz:Addr
 xu:FuncData
 oF:Addr
 wM:FuncData
 nV:Addr
 wg:FuncData
 oq:Addr
 wj:FuncData
 lO:Addr
 tT:FuncData
 mK:Addr
 ue:FuncData
 oE:Addr
 v7:FuncData
 oB:Addr
 yY:FuncData
 nW:Addr
 yC:FuncData
 xN:Addr
 DN:FuncData
 vN:Addr
 Di:FuncData
 yy:Addr
 FG:FuncData
 xj:Addr
 Dw:FuncData
 xY:Addr
 GA:FuncData
 wL:Addr
 D7:FuncData
 yE:Addr
 F4:FuncData
 vL:Addr
 DH:FuncData
 qx:Addr
 zq:FuncData
 qK:Addr
 zm:FuncData
 rD:Addr
 zj:FuncData
 rq:Addr
 wX:FuncData
 r8:Addr
 zu:FuncData
 rZ:Addr
 vH:FuncData
 qo:Addr
 xH:FuncData
 qy:Addr
 ye:FuncData
 qW:Addr
 xP:FuncData
 rM:Addr
 xG:FuncData
 qI:Addr
 v9:FuncData
 qH:Addr
 zy:FuncData
 qL:Addr
 zE:FuncData
 pV:Addr
 yx:FuncData
 rY:Addr
 yD:FuncData
 qR:Addr
 zB:FuncData
 pQ:Addr
 xE:FuncData
 rP:Addr
 zc:FuncData
 qD:Addr
 yV:FuncData
 qt:Addr
 yp:FuncData
 pZ:Addr
 zp:FuncData
 qN:Addr
 zg:FuncData
 qY:Addr
 vQ:FuncData
 pq:Addr
 xr:FuncData
 eN:Addr
 jg:Addr
 jC:Addr
 jn:Addr
structure Txt (K:W.Frag) (mg:Str -> Option Value) (t:fX):Prop where
 jr:mg "TintError" = some (.ref t.bg)
 yK:mg "NoRules" = some (.ref t.cO)
 tU:mg "Rings" = some (.ref t.aN)
 cA:mg "NoPlace" = some (.ref t.aI)
 yk:mg "Nothing" = some (.ref t.cP)
 An:mg "NoMark" = some (.ref t.dJ)
 Av:mg "NoLine" = some (.ref t.dM)
 Jl:mg "Pattern" = some (.ref t.iT)
 D6:mg "Word" = some (.ref t.bY)
 Hi:mg "One" = some (.ref t.cV)
 vJ:mg "Without" = some (.ref t.bh)
 EA:mg "Many" = some (.ref t.b6)
 HP:mg "Any" = some (.ref t.dB)
 Cp:mg "Still" = some (.ref t.bP)
 HD:mg "End" = some (.ref t.dF)
 wZ:mg "Rule" = some (.ref t.cK)
 yz:mg "Mode" = some (.ref t.bV)
 uc:mg "Rules" = some (.ref t.cT)
 wm:mg "GoneRow" = some (.ref t.bx)
 qw:mg "Tinted" = some (.ref t.aJ)
 Ak:mg "Cursor" = some (.ref t.bu)
 Bh:bG K "__init__" "Rings.__init__" Dv t.mV t.xV
 I9:bG K "eaten" "Pattern.eaten" Fz t.sF t.Bp
 rT:bG K "eats" "Pattern.eats" CZ t.jy t.qb
 Bl:bG K "__init__" "Word.__init__" Dj t.nX t.wA
 zo:bG K "eaten" "Word.eaten" Ge t.mC t.uh
 zD:bG K "eats" "Word.eats" FZ t.mX t.um
 A4:bG K "__init__" "One.__init__" FT t.nI t.vK
 vI:bG K "eaten" "One.eaten" EU t.lY t.uz
 vY:bG K "eats" "One.eats" D8 t.mw t.tN
 A7:bG K "__init__" "Without.__init__" Fg t.oG t.yU
 w9:bG K "eaten" "Without.eaten" FH t.lX t.sW
 yN:bG K "eats" "Without.eats" GC t.mU t.ud
 BD:bG K "__init__" "Many.__init__" DZ t.ou t.yO
 wc:bG K "eaten" "Many.eaten" FQ t.mO t.sP
 zz:bG K "eats" "Many.eats" G4 t.mD t.uy
 DP:bG K "eaten" "Any.eaten" MA t.vg t.CH
 E6:bG K "eats" "Any.eats" KZ t.vp t.B7
 zl:bG K "eaten" "Still.eaten" FW t.mR t.sS
 zb:bG K "eaten" "End.eaten" En t.lQ t.tQ
 wI:bG K "__init__" "Rule.__init__" C0 t.nY t.vZ
 ze:bG K "__init__" "Mode.__init__" DR t.n6 t.zk
 yq:bG K "__init__" "Rules.__init__" GZ t.nK t.wU
 BW:bG K "__init__" "GoneRow.__init__" DG t.nL t.yw
 tP:bG K "__init__" "Tinted.__init__" D9 t.lS t.tu
 wK:bG K "rows" "Tinted.rows" Bw t.nJ t.xR
 qp:bG K "begin" "Tinted.begin" EJ t.mq t.t9
 rE:bG K "colours" "Tinted.colours" F9 t.lU t.uB
 qh:bG K "marks" "Tinted.marks" EM t.mT t.tX
 vG:bG K "change" "Tinted.change" EN t.nU t.yh
 wQ:bG K "put" "Tinted.put" E7 t.oz t.xu
 yI:bG K "cut" "Tinted.cut" DY t.oF t.wM
 zf:bG K "part" "Tinted.part" Dy t.nV t.wg
 yS:bG K "go_over" "Tinted.go_over" GH t.oq t.wj
 jX:bG K "gone_row" "Tinted.gone_row" Fj t.lO t.tT
 nP:bG K "ask_row" "Tinted.ask_row" Dh t.mK t.ue
 pU:bG K "ask_place" "Tinted.ask_place" Gr t.oE t.v7
 sQ:bG K "ask_places" "Tinted.ask_places" GX t.oB t.yY
 xM:bG K "ask_taken" "Tinted.ask_taken" EX t.nW t.yC
 Io:bG K "__init__" "Cursor.__init__" K9 t.xN t.DN
 yR:bG K "more" "Cursor.more" Kr t.vN t.Di
 rL:bG K "peek" "Cursor.peek" Mv t.yy t.FG
 sE:bG K "ask" "Cursor.ask" KS t.xj t.Dw
 z0:bG K "take" "Cursor.take" MQ t.xY t.GA
 yf:bG K "take_choice" "Cursor.take_choice" KR t.wL t.D7
 yt:bG K "take_name" "Cursor.take_name" Lg t.yE t.F4
 FU:bG K "take_signs" "Cursor.take_signs" KC t.vL t.DH
 wW:bG K "is_name" "is_name" Bb t.rA t.wV
 LS:mg "is_name" = some (.ref t.rA)
 yv:bG K "copied_rules" "copied_rules" Bt t.rQ t.yZ
 Lr:mg "copied_rules" = some (.ref t.rQ)
 w5:bG K "copied_mode" "copied_mode" Bf t.qG t.xq
 MU:mg "copied_mode" = some (.ref t.qG)
 yM:bG K "copied_rule" "copied_rule" Em t.pX t.w6
 JK:mg "copied_rule" = some (.ref t.pX)
 rO:bG K "first_rule" "first_rule" Dm t.p6 t.xK
 Fd:mg "first_rule" = some (.ref t.p6)
 qO:bG K "do_deed" "do_deed" DW t.qC t.yL
 Fp:mg "do_deed" = some (.ref t.qC)
 n9:bG K "ask_rings" "ask_rings" Es t.ow t.tL
 E2:mg "ask_rings" = some (.ref t.ow)
 mj:bG K "ring_of" "ring_of" BH t.rV t.yg
 Af:mg "ring_of" = some (.ref t.rV)
 yo:bG K "short_rows" "short_rows" EH t.rJ t.yc
 JG:mg "short_rows" = some (.ref t.rJ)
 rN:bG K "ring_from" "ring_from" Dg t.qT t.v5
 F2:mg "ring_from" = some (.ref t.qT)
 qZ:bG K "idle_rule" "idle_rule" EZ t.pe t.zG
 GI:mg "idle_rule" = some (.ref t.pe)
 wC:bG K "gone_over" "gone_over" EF t.o7 t.xF
 Jz:mg "gone_over" = some (.ref t.o7)
 mW:bG K "read_rules" "read_rules" Ei t.qx t.zq
 AB:mg "read_rules" = some (.ref t.qx)
 wY:bG K "mode_numbers" "mode_numbers" Eg t.qK t.zm
 LY:mg "mode_numbers" = some (.ref t.qK)
 xB:bG K "read_mode" "read_mode" BX t.rD t.zj
 Lj:mg "read_mode" = some (.ref t.rD)
 zC:bG K "read_rule" "read_rule" Ek t.rq t.wX
 Kz:mg "read_rule" = some (.ref t.rq)
 yj:bG K "read_pattern" "read_pattern" Eb t.r8 t.zu
 Lh:mg "read_pattern" = some (.ref t.r8)
 wO:bG K "read_goal" "read_goal" GJ t.rZ t.vH
 Lo:mg "read_goal" = some (.ref t.rZ)
 b7:bG K "_law_draw" "_law_draw" Ez t.qo t.xH
 d8:mg "_law_draw" = some (.ref t.qo)
 yd:bG K "_law_signs" "_law_signs" BA t.qy t.ye
 LH:mg "_law_signs" = some (.ref t.qy)
 xS:bG K "_law_rule" "_law_rule" Ew t.qW t.xP
 JV:mg "_law_rule" = some (.ref t.qW)
 pO:bG K "_law_modes" "_law_modes" EC t.rM t.xG
 Fv:mg "_law_modes" = some (.ref t.rM)
 rK:bG K "_law_text" "_law_text" Dn t.qI t.v9
 Fy:mg "_law_text" = some (.ref t.qI)
 wB:bG K "_law_let_by" "_law_let_by" D3 t.qH t.zy
 Kn:mg "_law_let_by" = some (.ref t.qH)
 q9:bG K "_law_eaten" "_law_eaten" Gw t.qL t.zE
 DC:mg "_law_eaten" = some (.ref t.qL)
 qg:bG K "_law_first" "_law_first" GB t.pV t.yx
 Ej:mg "_law_first" = some (.ref t.pV)
 wo:bG K "_law_deed" "_law_deed" Dt t.rY t.yD
 JE:mg "_law_deed" = some (.ref t.rY)
 zd:bG K "_law_gone" "_law_gone" ES t.qR t.zB
 MO:mg "_law_gone" = some (.ref t.qR)
 xT:bG K "_law_row" "_law_row" BL t.pQ t.xE
 Ls:mg "_law_row" = some (.ref t.pQ)
 xU:bG K "_law_whole" "_law_whole" ET t.rP t.zc
 LF:mg "_law_whole" = some (.ref t.rP)
 wH:bG K "_law_shows" "_law_shows" Bo t.qD t.yV
 JW:mg "_law_shows" = some (.ref t.qD)
 qu:bG K "_law_of" "_law_of" EV t.qt t.yp
 F8:mg "_law_of" = some (.ref t.qt)
 yP:bG K "_law_asked" "_law_asked" F0 t.pZ t.zp
 MP:mg "_law_asked" = some (.ref t.pZ)
 mL:bG K "_law_far" "_law_far" GS t.qN t.zg
 zR:mg "_law_far" = some (.ref t.qN)
 yu:bG K "_law_no_places" "_law_no_places" Dd t.qY t.vQ
 Kh:mg "_law_no_places" = some (.ref t.qY)
 xw:bG K "_law_ringed" "_law_ringed" DS t.pq t.xr
 Jp:mg "_law_ringed" = some (.ref t.pq)
 oZ:oi K t.bY
 uM:Mk K t.bY t.nX
 fE:bQ K t.bY "wanted"
 Og:Meth K t.bY "eaten" t.mC
 N1:Meth K t.bY "eats" t.mX
 z5:oi K t.cV
 zV:Mk K t.cV t.nI
 jj:bQ K t.cV "signs"
 Na:Meth K t.cV "eaten" t.lY
 NR:Meth K t.cV "eats" t.mw
 kY:oi K t.bh
 k6:Mk K t.bh t.oG
 fH:bQ K t.bh "signs"
 OD:Meth K t.bh "eaten" t.lX
 M9:Meth K t.bh "eats" t.mU
 uF:oi K t.b6
 uN:Mk K t.b6 t.ou
 iM:bQ K t.b6 "signs"
 Nk:Meth K t.b6 "eaten" t.mO
 OA:Meth K t.b6 "eats" t.mD
 Kx:oi K t.dB
 z7:OR K t.dB
 Py:Meth K t.dB "eaten" t.vg
 Pg:Meth K t.dB "eats" t.vp
 Ga:oi K t.bP
 qP:OR K t.bP
 Nx:Meth K t.bP "eaten" t.mR
 uT:Meth K t.bP "eats" t.jy
 Lv:oi K t.dF
 AV:OR K t.dF
 OE:Meth K t.dF "eaten" t.lQ
 Ad:Meth K t.dF "eats" t.jy
 cD:oi K t.cK
 oW:Mk K t.cK t.nY
 cX:bQ K t.cK "pattern"
 fB:bQ K t.cK "colour"
 dU:bQ K t.cK "deed"
 gn:bQ K t.cK "goal"
 gj:bQ K t.cK "fold"
 fk:oi K t.bV
 o4:Mk K t.bV t.n6
 gp:bQ K t.bV "name"
 fF:bQ K t.bV "colour"
 dI:bQ K t.bV "rules"
 g9:oi K t.cT
 lR:Mk K t.cT t.nK
 b8:bQ K t.cT "modes"
 aS:oi K t.bu
 nF:Mk K t.bu t.xN
 iP:bQ K t.bu "row"
 eY:bQ K t.bu "words"
 eV:bQ K t.bu "at"
 Iq:Meth K t.bu "more" t.vN
 zL:Meth K t.bu "peek" t.yy
 Cq:Meth K t.bu "ask" t.xj
 JZ:Meth K t.bu "take" t.xY
 Hg:Meth K t.bu "take_choice" t.wL
 HC:Meth K t.bu "take_name" t.yE
 PJ:Meth K t.bu "take_signs" t.vL
 dc:oi K t.bx
 lE:Mk K t.bx t.nL
 er:bQ K t.bx "signs"
 fc:bQ K t.bx "before"
 fL:bQ K t.bx "tints"
 fh:bQ K t.bx "behind"
 e9:bQ K t.bx "folded"
 aV:oi K t.aJ
 ku:Mk K t.aJ t.lS
 gx:bQ K t.aJ "rules"
 bF:bQ K t.aJ "gone_rows"
 Od:Meth K t.aJ "rows" t.nJ
 IG:Meth K t.aJ "begin" t.mq
 IY:Meth K t.aJ "colours" t.lU
 IS:Meth K t.aJ "marks" t.mT
 Oc:Meth K t.aJ "change" t.nU
 Oo:Meth K t.aJ "put" t.oz
 OB:Meth K t.aJ "cut" t.oF
 N3:Meth K t.aJ "part" t.nV
 Nb:Meth K t.aJ "go_over" t.oq
 tG:Meth K t.aJ "gone_row" t.lO
 EI:Meth K t.aJ "ask_row" t.mK
 EB:Meth K t.aJ "ask_place" t.oE
 IJ:Meth K t.aJ "ask_places" t.oB
 Oz:Meth K t.aJ "ask_taken" t.nW
 nM:zw K t.bg
 mG:W.excIn K t.bg VE "ValueError.__new__" = true
 t7:zw K t.aI
 cY:W.excIn K t.aI VE "ValueError.__new__" = true
 kB:zw K t.aN
 pL:W.findIn K (.ref t.aN) "__init__" = some (some (.ref t.mV)) /\ W.isFn K (.ref t.mV) = true /\ W.keepIn K (.ref t.aN) = true
 jF:bQ K t.aN "ring"
 jG:bQ K t.aN "sign"
 eU:W.mroIn K t.aI (.ref t.bg) = some true
 fP:W.mroIn K t.aN (.ref t.bg) = some true
 jH:W.specialIn K (.ref t.bg) "__getattribute__" = some (some (.builtin "type.__getattribute__")) /\ W.readsIn K t.bg (.type "type") = true /\ W.findCls K (.ref t.bg) (.type "type") "__init__" = some (.val (.builtin "ValueError.__init__"))
 fU:W.kitOne K (.ref t.aI) (.ref t.cO) = some false
 fV:W.kitOne K (.ref t.aI) (.ref t.cP) = some false
 gw:W.kitOne K (.ref t.aI) (.ref t.dJ) = some false
 gu:W.kitOne K (.ref t.aI) (.ref t.dM) = some false
 gH:W.kitOne K (.ref t.aN) (.ref t.cO) = some false
 gI:W.kitOne K (.ref t.aN) (.ref t.cP) = some false
 iE:W.kitOne K (.ref t.aN) (.ref t.dJ) = some false
 iF:W.kitOne K (.ref t.aN) (.ref t.dM) = some false
 fQ:W.kitOne K (.ref t.aI) (.ref t.aI) = some true
 gO:W.kitOne K (.ref t.aI) (.ref t.aN) = some false
 gP:W.kitOne K (.ref t.aN) (.ref t.aI) = some false
 jb:W.kitOne K (.ref t.aN) (.ref t.aN) = some true
 eE:W.kitOne K (.ref t.aI) (.type "ValueError") = some true
 fz:W.kitOne K (.ref t.aN) (.type "ValueError") = some true
 cg:W.specialIn K (.builtin "object.__class__") "__get__" = some (some (.builtin "getset_descriptor.__get__"))
 ct:W.takesIn K (.builtin "object.__class__") = some true
 vh:W.findIn K (.ref t.bY) "__class__" = some (some (.builtin "object.__class__"))
 vv:W.mroIn K t.bY (.type "object") = some true
 Ac:W.findIn K (.ref t.cV) "__class__" = some (some (.builtin "object.__class__"))
 Ag:W.mroIn K t.cV (.type "object") = some true
 lI:W.findIn K (.ref t.bh) "__class__" = some (some (.builtin "object.__class__"))
 kZ:W.mroIn K t.bh (.type "object") = some true
 uH:W.findIn K (.ref t.b6) "__class__" = some (some (.builtin "object.__class__"))
 uX:W.mroIn K t.b6 (.type "object") = some true
 Ai:W.findIn K (.ref t.dB) "__class__" = some (some (.builtin "object.__class__"))
 z9:W.mroIn K t.dB (.type "object") = some true
 qi:W.findIn K (.ref t.bP) "__class__" = some (some (.builtin "object.__class__"))
 rm:W.mroIn K t.bP (.type "object") = some true
 AG:W.findIn K (.ref t.dF) "__class__" = some (some (.builtin "object.__class__"))
 AE:W.mroIn K t.dF (.type "object") = some true
 kO:W.kitOne K (.ref t.bY) (.ref t.bY) = some true
 nR:W.kitOne K (.ref t.cV) (.ref t.cV) = some true
 iI:W.kitOne K (.ref t.bh) (.ref t.bh) = some true
 kL:W.kitOne K (.ref t.b6) (.ref t.b6) = some true
 om:W.kitOne K (.ref t.dB) (.ref t.dB) = some true
 jQ:W.kitOne K (.ref t.bP) (.ref t.bP) = some true
 nZ:W.kitOne K (.ref t.dF) (.ref t.dF) = some true
 zx:∃ u,mg "LETTERS" = some u /\ RelV (.str "abcdefghijklmnopqrstuvwxyz") u
 nC:∃ u,mg "LONGEST_NAME" = some u /\ RelV (.int 8) u
 nG:∃ u,mg "START" = some u /\ RelV (.int 0) u
 B8:∃ u,mg "SIGNS" = some u /\ RelV (.str " !\"#$&'()*+,-./0123456789:;<=>?@ABCDEFGHIJKLMNOPQRSTUVWXYZ[\\]^_`abcdefghijklmnopqrstuvwxyz{|}~") u
 rG:∃ u,mg "MOST_MODES" = some u /\ RelV (.int 12) u
 pF:∃ u,mg "MOST_RULES" = some u /\ RelV (.int 12) u
 uV:mg "PATTERNS" = some (.ref t.eN)
 yr:∀ H,fY K H t.eN [.str "word",.str "one",.str "none",.str "many",.str "any",.str "still",.str "end"]
 BY:mg "DEEDS" = some (.ref t.jg)
 DJ:∀ H,fY K H t.jg [.str "stay",.str "push",.str "pop",.str "into"]
 CJ:mg "GOING" = some (.ref t.jC)
 Gq:∀ H,fY K H t.jC [.str "push",.str "into"]
 Ct:mg "FOLDS" = some (.ref t.jn)
 DA:∀ H,fY K H t.jn [.str "open",.str "close"]
 jL:mg "ValueError" = none
 GG:mg "all" = none
 jk:mg "enumerate" = none
 ur:mg "int" = none
 dD:mg "isinstance" = none
 bO:mg "len" = none
 gK:mg "list" = none
 gU:mg "range" = none
 rX:mg "reversed" = none
 vC:mg "tuple" = none
 Ja:mg "zip" = none
theorem ls0:∀ {us:List Value},us.length = 0 -> us = []
 | [],_=>rfl
theorem ls1:∀ {us:List Value},us.length = 1 -> ∃ a0,us = [a0]
 | [a0],_=>⟨a0,rfl⟩
theorem IM:∀ {us:List Value},us.length = 2 -> ∃ a0 a1,us = [a0,a1]
 | [a0,a1],_=>⟨a0,a1,rfl⟩
theorem ls3:∀ {us:List Value},us.length = 3 -> ∃ a0 a1 a2,us = [a0,a1,a2]
 | [a0,a1,a2],_=>⟨a0,a1,a2,rfl⟩
theorem ls4:∀ {us:List Value},us.length = 4 -> ∃ a0 a1 a2 a3,us = [a0,a1,a2,a3]
 | [a0,a1,a2,a3],_=>⟨a0,a1,a2,a3,rfl⟩
theorem ls5:∀ {us:List Value},us.length = 5 -> ∃ a0 a1 a2 a3 a4,us = [a0,a1,a2,a3,a4]
 | [a0,a1,a2,a3,a4],_=>⟨a0,a1,a2,a3,a4,rfl⟩
theorem ls6:∀ {us:List Value},us.length = 6 -> ∃ a0 a1 a2 a3 a4 a5,us = [a0,a1,a2,a3,a4,a5]
 | [a0,a1,a2,a3,a4,a5],_=>⟨a0,a1,a2,a3,a4,a5,rfl⟩
section
variable {P:Program} {w:World} {K:W.Frag} {mg:Str -> Option Value} {base:Heap} {t:fX}
end
local macro_rules | `(tactic| walk_at "rd")=>`(tactic| simp only [M8,HX,tIf,Jc,tB,M5,OO,FP,EW,HQ,tC,L2.start,rI,Jh,sY,NP,NI,tOr,Ov,NC,NQ,tUn,rU,rEq,rNe,Pb,J8,Ob,KL,Kp,Ny,Ep,Gf,IQ,Du,IW,tBM,Nv,NT,ipI,IX,Pa,Jd,tSl,OF,IT,BC,rJoin,zA,wJ,Ff,Lp,kR,Option.join_some,Option.join_none,if_true,if_false,Bool.false_eq_true,List.map_cons,List.map_nil,List.length_cons,List.length_nil,List.replicate,List.cons_append,List.nil_append,List.append_nil,List.getElem?_cons_zero,List.getElem?_cons_succ,List.set_cons_zero,List.set_cons_succ,Option.some.injEq,exists_eq_left',exists_eq_left,V.int.injEq,V.str.injEq,V.ref.injEq,V.bl.injEq,List.cons.injEq,and_true,true_and,and_assoc,exists_and_left,exists_eq,exists_const])
local macro_rules | `(tactic| walk_at "ck")=>`(tactic| exact ⟨by decide +kernel,rfl,by decide +kernel,by decide +kernel,by decide +kernel,by decide +kernel,by decide +kernel⟩)
section
variable {P:Program} {w:World} {K:PySem.W.Frag} {mg:Str -> Option Value} {base:Heap} {t:fX}
def isName (z:Str):Bool:=decide (1 <= z.length) && decide (z.length <= 8) && z.cps.toList.all λc=>decide (c ∈ (Str.ofString "abcdefghijklmnopqrstuvwxyz").cps.toList)
noncomputable def DB:Sp:=λvs H Q _=>∃ z:Str,vs = [.str z] /\ z.length <= 100000 /\ ∀ H',au H H' -> Q (.bl (isName z)) H'
theorem Le (T:Txt K mg t):bw P w K mg base dP 1 t.rA t.wV ["word"] DB:=by
 refine T.wW.ok L6 ?_ ?_
 walk_at "i"
 ·obtain ⟨z,rfl,hz,q⟩:=h
  refine aF (λZ' H'=>Z' = [some (.str z)] /\ H' = H /\ 1 <= z.length /\ z.length <= 8) (aP (PW.pt (i9 (az gC (aL bz (by rfl) T.bO (by decide +kernel) (aa (pv 0) ah)) ai (aA _)) (iG (az iY (aL bz (by rfl) T.bO (by decide +kernel) (aa (pv 0) ah)) (gX rfl T.nC) (aA _))))) ak ak) ?_ ?_
  ·walk_at "rd"
   refine ⟨bI (by omega),cI (λh=>?_) (λh=>?_)⟩
   ·refine ao (aH jS) ?_
    have:=q H (au.refl H)
    rw [isName,decide_eq_false (by omega)] at this
    exact this
   ·refine ⟨bI (by omega),cI (λh=>?_) (λh=>aX ⟨rfl,rfl,by omega,by omega⟩)⟩
    refine ao (aH jS) ?_
    have:=q H (au.refl H)
    rw [isName,decide_eq_false (p:=z.length <= 8) (by omega),Bool.and_false] at this
    exact this
  rintro Z' H' ⟨rfl,e,h1,h2⟩
  rw [e]
  clear e H'
  refine ao (aH (aL (Cc rfl) (by rfl) T.GG (by decide +kernel) (aa (iO (sc:=ay Bb) (N:=["word"]) (x:="sign") (caps:=[]) (by walk_at "ck") (LC (pv 0)) (λ_ _ _ _=>(gv jv (pv 0) (gX rfl T.zx) rfl))) ah))) ?_
  refine ⟨_,rfl,z,rfl,C8 (λi ys H2=>H2 = H /\ ys = (z.cps.toList.take i).map λc=>V.bl (decide (c ∈ (Str.ofString "abcdefghijklmnopqrstuvwxyz").cps.toList))) ⟨rfl,rfl⟩ (dw (by omega)) ?_ ?_⟩
  ·rintro i c ys H2 hc hl ⟨rfl,rfl⟩
   have hi:i < z.length:=by
    have:=(List.getElem?_eq_some_iff.mp hc).1
    simpa [Str.length] using this
   refine ⟨_,rfl,_,_,rfl,rfl,?_⟩
   rw [PySem.StrLaws.found_one]
   refine ez hi hl ⟨rfl,?_⟩
   rw [List.take_succ,hc,List.map_append]
   rfl
  ·rintro ys H2 hl ⟨rfl,rfl⟩ D hD
   refine ⟨D,(z.cps.toList.map λc=>decide (c ∈ (Str.ofString "abcdefghijklmnopqrstuvwxyz").cps.toList)),rfl,bB.of (by rw [af,List.take_of_length_le (by simp [Str.length]),List.map_map];rfl),?_⟩
   have:=q _ (au.upd (o:=.lst (((z.cps.toList.take z.length)).map λc=>V.bl (decide (c ∈ (Str.ofString "abcdefghijklmnopqrstuvwxyz").cps.toList)))) hD)
   rw [isName,decide_eq_true h1,decide_eq_true h2] at this
   rw [List.all_map]
   exact this
def cf (row:Int) (lw:Addr) (i:Nat):List (Str × V):=[("row",.int row),("words",.ref lw),("at",.int i)]
structure lN (t:fX) (H:Hp) (p dx lw:Addr) (row:Int) (ws:List Str) (i:Nat):Prop where
 ob:H p = some (.ins t.bu dx (cf row lw i))
 ls:H lw = some (.lst (ws.map V.str))
 sz:ws.length <= 1000 /\ ∀ w ∈ ws,w.length <= 100000
theorem lN.ne {H:Hp} {p dx lw:Addr} {row:Int} {ws:List Str} {i:Nat} (c:lN t H p dx lw row ws i):p ≠ lw:=cQ c.ob c.ls (by intro z;cases z)
theorem lN.same {H H':Hp} {p dx lw:Addr} {row:Int} {ws:List Str} {i:Nat} (c:lN t H p dx lw row ws i) (s:au H H'):lN t H' p dx lw row ws i:=⟨s _ _ c.ob,s _ _ c.ls,c.sz⟩
def pk (ws:List Str) (i:Nat):Str:=ws.getD i ""
theorem Jk {ws:List Str} {i:Nat} (h:i < ws.length):pk ws i = ws[i]:=by simp [pk,h]
theorem Jm {ws:List Str} {i:Nat} (h:ws.length <= i):pk ws i = "" := by
 unfold pk
 rw [List.getD_eq_getElem?_getD,List.getElem?_eq_none h]
 rfl
theorem lN.pkl {H:Hp} {p dx lw:Addr} {row:Int} {ws:List Str} {i:Nat} (c:lN t H p dx lw row ws i):(pk ws i).length <= 100000:=by
 by_cases h:i < ws.length
 ·rw [Jk h];exact c.sz.2 _ (List.getElem_mem h)
 ·rw [Jm (by omega)];decide
noncomputable def Iw (t:fX):Sp:=λvs H Q _=>∃ (p dx:Addr) (row:Int) (text:Str),vs = [.ref p,.int row,.str text] /\ H p = some (.ins t.bu dx []) /\ text.length <= 100000 /\ (PySem.Txt.split text ⟨#[32]⟩).length <= 1000 /\
 ∀ lw H',H lw = none -> lN t H' p dx lw row (PySem.Txt.split text ⟨#[32]⟩) 0 -> kh H H' p -> Q .cM H'
theorem Nl (T:Txt K mg t):bw P w K mg base dP 1 t.xN t.DN ["self","row","text"] (Iw t):=by
 refine T.Io.ok Of ?_ ?_
 walk_at "i"
 ·obtain ⟨p,dx,row,text,rfl,hp,hz,hn,q⟩:=h
  refine av (cZ (pv 0) (pv 1) rfl) ⟨_,rfl,_,rfl,p,_,dx,[],rfl,hp,T.aS,T.iP,by decide,?_⟩
  refine av (cZ (pv 0) (cJ F.plainAttrs_str F.slot_str_split F.type_str_split qU (pv 2) (aa aM ah)) rfl) ?_
  refine ⟨_,rfl,rfl,_,_,rfl,rfl,by decide,bI (by omega),λlw hl=>⟨_,rfl,p,_,dx,[("row",.int row)],rfl,?_,T.aS,T.eY,by show 1 < 1000;decide,?_⟩⟩
  ·rw [aj (aq af hl)];exact af
  have npl:p ≠ lw:=aq af hl
  refine ao (cZ (pv 0) ai rfl) ⟨_,rfl,p,_,dx,[("row",.int row),("words",.ref lw)],rfl,af,T.aS,T.eV,by show 2 < 1000;decide,?_⟩
  have hl0:H lw = none:=by rw [aj (Ne.symm npl)] at hl;exact hl
  refine q lw _ hl0 ⟨af,?_,hn,λw hw=>Nat.le_trans (PyProof.Rows.part_short hw) hz⟩ λb o hb nb=>?_
  ·rw [aj (Ne.symm npl),aj (Ne.symm npl),af];rfl
  ·rw [aj nb,aj nb,aj (aq hb hl0),aj nb];exact hb
noncomputable def Ll (t:fX):Sp:=λvs H Q _=>∃ (p dx lw:Addr) (row:Int) (ws:List Str) (i:Nat),vs = [.ref p] /\ lN t H p dx lw row ws i /\ Q (.bl (decide (i < ws.length))) H
theorem BE (T:Txt K mg t):bw P w K mg base dP 1 t.vN t.Di ["self"] (Ll t):=by
 refine T.yR.ok Ol ?_ ?_
 walk_at "i"
 ·obtain ⟨p,dx,lw,row,ws,i,rfl,C,q⟩:=h
  refine ao (aH (gv gC (aZ (pv 0) rfl) (aL aT (by rfl) T.bO (by decide +kernel) (aa (aZ (pv 0) rfl) ah)) (aA _))) ?_
  simp only [J8,M5,OO,FP,EW]
  refine HY rfl C.ob T.aS T.eV rfl ?_
  refine HY rfl C.ob T.aS T.eY rfl ?_
  refine ⟨_,_,rfl,.inl (bB.of C.ls),_,_,rfl,rfl,?_⟩
  rw [List.length_map]
  have e:decide ((i:Int) < (ws.length:Int)) = decide (i < ws.length):=by simp
  show Q (.bl (decide ((i:Int) < (ws.length:Int)))) H
  rw [e]
  exact q
noncomputable def Me (t:fX):Sp:=λvs H Q _=>∃ (p dx lw:Addr) (row:Int) (ws:List Str) (i:Nat),vs = [.ref p] /\ lN t H p dx lw row ws i /\ Q (.str (pk ws i)) H
theorem pN (T:Txt K mg t):bw P w K mg base dP 2 t.yy t.FG ["self"] (Me t):=by
 refine T.rL.ok NB ?_ ?_
 walk_at "i"
 ·obtain ⟨p,dx,lw,row,ws,i,rfl,C,q⟩:=h
  refine ao (aH (dh (gG (cu (pv 0) T.aS T.Iq (BE T) (hr.mono (by decide)) (T.yR.binds (by walk_at "1")) .nil aG)) (aU aY (aZ (pv 0) rfl) (aZ (pv 0) rfl) (λ_ _=>rfl)) aM)) ?_
  refine ⟨_,rfl,p,dx,_,rfl,C.ob,rfl,p,dx,lw,row,ws,i,rfl,C,_,rfl,cI (λh=>?_) (λh=>?_)⟩
  ·refine HY rfl C.ob T.aS T.eY rfl ?_
   refine HY rfl C.ob T.aS T.eV rfl ?_
   refine ⟨_,_,_,.str (pk ws i),rfl,rfl,bB.of C.ls,bq ?_,q⟩
   rw [List.getElem?_map,List.getElem?_eq_getElem h,Jk h]
   rfl
  ·rw [Jm (by omega)] at q
   exact q
noncomputable def Nm:Sp:=λvs H Q _=>∃ p:V,vs = [p,.bl true] /\ Q .cM H
theorem sR (T:Txt K mg t):bw P w K mg base dP 1 t.xj t.Dw ["self","good"] Nm:=by
 refine T.sE.ok Ow ?_ ?_
 walk_at "i"
 ·obtain ⟨p,rfl,q⟩:=h
  refine ao (aP (kU (gG (pv 1))) ak ak) ⟨_,rfl,true,rfl,sr (aX q)⟩
noncomputable def K8 (t:fX):Sp:=λvs H Q _=>∃ (p dx lw:Addr) (row:Int) (ws:List Str) (i:Nat),vs = [.ref p,.bl true] /\ lN t H p dx lw row ws i /\ ∀ H',lN t H' p dx lw row ws (i + 1) -> kh H H' p -> Q (.str (pk ws i)) H'
theorem DU (T:Txt K mg t):bw P w K mg base dP 3 t.xY t.GA ["self","good"] (K8 t):=by
 refine T.z0.ok IV ?_ ?_
 walk_at "i"
 ·obtain ⟨p,dx,lw,row,ws,i,rfl,C,q⟩:=h
  refine av (aR (bH (pv 0) T.aS T.Cq (sR T) (hr.mono (by decide)) (T.sE.binds (by walk_at "2")) .nil aG (aa (pv 1) ah))) ⟨_,rfl,p,dx,_,rfl,C.ob,rfl,_,rfl,_,rfl,?_⟩
  refine av (aC (i:=2) IV.nd rfl (Or.inl rfl) (cu (pv 0) T.aS T.zL (pN T) (hr.mono (by decide)) (T.rL.binds (by walk_at "1")) .nil aG)) ⟨_,rfl,p,dx,_,rfl,C.ob,rfl,p,dx,lw,row,ws,i,rfl,C,?_⟩
  refine av (B4 (pv 0) ai MT) ⟨_,rfl,p,_,dx,_,_,rfl,C.ob,T.aS,T.eV,rfl,?_⟩
  refine ⟨_,_,rfl,rfl,dx,_,C.ob,by show 3 < 1000;decide,?_⟩
  refine ao (aH (pv 2)) ⟨_,rfl,?_⟩
  have C':lN t (upd H p (.ins t.bu dx (cf row lw (i + 1)))) p dx lw row ws (i + 1):=⟨af,by rw [aj (Ne.symm C.ne)];exact C.ls,C.sz⟩
  exact q _ C' kh.upd
noncomputable def Fi (K:PySem.W.Frag) (t:fX):Sp:=λvs H Q _=>∃ (p dx lw c:Addr) (cs:List Str) (row:Int) (ws:List Str) (i:Nat),vs = [.ref p,.ref c] /\ lN t H p dx lw row ws i /\ fY K H c (cs.map V.str) /\ pk ws i ∈ cs /\ ∀ H',lN t H' p dx lw row ws (i + 1) -> kh H H' p -> Q (.str (pk ws i)) H'
theorem iX {x:Str} {cs:List Str}:Jj (.str x) (cs.map V.str) = decide (x ∈ cs):=by
 unfold Jj
 rw [List.any_map,Bool.eq_iff_iff,List.any_eq_true,decide_eq_true_eq]
 constructor
 ·rintro ⟨y,hy,e⟩
  have:(y == x) = true:=e
  rw [← eq_of_beq this];exact hy
 ·intro h
  exact ⟨x,h,by show (x == x) = true;simp⟩
theorem tY {cs:List Str}:(cs.map V.str).all iZ = true:=by
 rw [List.all_map,List.all_eq_true]
 intro _ _
 rfl
theorem Be (T:Txt K mg t):bw P w K mg base dP 4 t.wL t.D7 ["self","words"] (Fi K t):=by
 refine T.yf.ok N6 ?_ ?_
 walk_at "i"
 ·obtain ⟨p,dx,lw,c,cs,row,ws,i,rfl,C,hc,hin,q⟩:=h
  refine ao (aH (bH (pv 0) T.aS T.JZ (DU T) (hr.mono (by decide)) (T.z0.binds (by walk_at "2")) .nil aG (aa (gv fZ (cu (pv 0) T.aS T.zL (pN T) (hr.mono (by decide)) (T.rL.binds (by walk_at "1")) .nil aG) (pv 1) rfl) ah))) ?_
  refine ⟨_,rfl,p,dx,_,rfl,C.ob,rfl,?_⟩
  refine ⟨_,rfl,p,dx,_,rfl,C.ob,rfl,p,dx,lw,row,ws,i,rfl,C,_,rfl,_,_,rfl,.inr hc,rfl,tY,?_⟩
  rw [iX,decide_eq_true hin]
  exact ⟨p,dx,lw,row,ws,i,rfl,C,q⟩
noncomputable def Kq (t:fX):Sp:=λvs H Q _=>∃ (p dx lw:Addr) (row:Int) (ws:List Str) (i:Nat),vs = [.ref p] /\ lN t H p dx lw row ws i /\ isName (pk ws i) = true /\ ∀ H',lN t H' p dx lw row ws (i + 1) -> kh H H' p -> Q (.str (pk ws i)) H'
theorem BP (T:Txt K mg t):bw P w K mg base dP 4 t.yE t.F4 ["self"] (Kq t):=by
 refine T.yt.ok NK ?_ ?_
 walk_at "i"
 ·obtain ⟨p,dx,lw,row,ws,i,rfl,C,hin,q⟩:=h
  refine ao (aH (bH (pv 0) T.aS T.JZ (DU T) (hr.mono (by decide)) (T.z0.binds (by walk_at "2")) .nil aG (aa (aK (Le T) (hr.mono (by decide)) rfl T.LS T.wW.kp (T.wW.binds (by walk_at "1")) .nil aG (aa (cu (pv 0) T.aS T.zL (pN T) (hr.mono (by decide)) (T.rL.binds (by walk_at "1")) .nil aG) ah)) ah))) ?_
  refine ⟨_,rfl,p,dx,_,rfl,C.ob,rfl,?_⟩
  refine ⟨_,rfl,p,dx,_,rfl,C.ob,rfl,p,dx,lw,row,ws,i,rfl,C,pk ws i,rfl,C.pkl,λH1 s1=>?_⟩
  rw [hin]
  exact ⟨p,dx,lw,row,ws,i,rfl,C.same s1,λH2 C2 a2=>q H2 C2 (s1.Hy a2)⟩
def je (z:Str):Str:="'" ++ PySem.Txt.replace z " " "_"
theorem gE (z:Str):(je z).cps.toList = 39 :: jZ 32 95 z.cps.toList:=by
 unfold je
 rw [jl,show ((" " : Str)) = ⟨#[32]⟩ from by decide +kernel,show (("_" : Str)) = ⟨#[95]⟩ from by decide +kernel,ko]
 rfl
noncomputable def Ic (t:fX):Sp:=λvs H Q _=>∃ (p dx lw:Addr) (row:Int) (ws:List Str) (i:Nat) (z:Str),vs = [.ref p] /\ lN t H p dx lw row ws i /\ pk ws i = je z /\ 1 <= z.length /\ z.length <= 1000 /\ 95 ∉ z.cps.toList /\ ∀ H',lN t H' p dx lw row ws (i + 1) -> kh H H' p -> Q (.str z) H'
theorem K2 {w:Str} (h:1 <= w.length):(PySem.Txt.slice w (some 1) none).cps.toList = w.cps.toList.drop 1:=by
 rw [PyProof.Rows.slice_from_eq (b:=(w.length:Int)) (by decide) (by omega) rfl]
 show (w.cps.toList.drop 1).take _ = _
 refine List.take_of_length_le ?_
 rw [List.length_drop,Array.length_toList]
 show w.length - 1 <= _
 omega
theorem Ou (T:Txt K mg t):bw P w K mg base dP 4 t.vL t.DH ["self"] (Ic t):=by
 refine T.FU.ok Jo ?_ ?_
 walk_at "i"
 ·obtain ⟨p,dx,lw,row,ws,i,z,rfl,C,hw,hz1,hz2,hz3,q⟩:=h
  have hlen:(je z).length = z.length + 1:=by
   have:=congrArg List.length (gE z)
   simpa [Str.length,jZ] using this
  refine av (aC (i:=1) Jo.nd rfl (Or.inl rfl) (cu (pv 0) T.aS T.zL (pN T) (hr.mono (by decide)) (T.rL.binds (by walk_at "1")) .nil aG)) ⟨_,rfl,p,dx,_,rfl,C.ob,rfl,p,dx,lw,row,ws,i,rfl,C,?_⟩
  rw [hw]
  refine av (aR (bH (pv 0) T.aS T.JZ (DU T) (hr.mono (by decide)) (T.z0.binds (by walk_at "2")) .nil aG (aa (JC (gv iY (aL bz (by rfl) T.bO (by decide +kernel) (aa (pv 1) ah)) ai (aA _)) (MX (cJ F.plainAttrs_str F.slot_str_startswith F.type_str_startswith pM (pv 1) (aa aM ah)))) ah))) ?_
  refine ⟨_,rfl,p,dx,_,rfl,C.ob,rfl,?_⟩
  refine ⟨_,rfl,_,rfl,bI (by omega),_,_,rfl,rfl,_,rfl,?_⟩
  rw [decide_eq_true (by omega),if_pos rfl]
  refine ⟨_,rfl,rfl,_,_,rfl,rfl,?_⟩
  have hst:(decide (0 + ("'" : Str).length <= (je z).length) && Builtin.Str.subAt (je z) "'" 0) = true:=by
   have e1:("'" : Str).length = 1:=by decide +kernel
   rw [Bool.and_eq_true,decide_eq_true_eq,e1]
   refine ⟨by omega,?_⟩
   unfold Builtin.Str.subAt
   rw [beq_iff_eq,← Array.toList_inj,e1]
   have e2:=gE z
   simp only [Array.toList_extract,List.extract_eq_take_drop,e2]
   rfl
  rw [hst]
  refine ⟨p,dx,lw,row,ws,i,rfl,C,λH1 C1 a1=>?_⟩
  refine ao (aH (AA (by decide +kernel) (pv 1))) ⟨_,rfl,_,rfl,bI (by omega),_,rfl,?_,?_⟩
  ·have h1:(PySem.Txt.slice (je z) (some 1) none).length <= 1001:=Nat.le_trans (PySem.Txt.slice_le _ _ _) (by omega)
   have h2:(" " : Str).length = 1:=by decide +kernel
   rw [h2]
   omega
  ·have e:PySem.Txt.replace (PySem.Txt.slice (je z) (some 1) none) "_" " " = z:=by
    refine oY ?_
    rw [show ((" " : Str)) = ⟨#[32]⟩ from by decide +kernel,show (("_" : Str)) = ⟨#[95]⟩ from by decide +kernel,ko,K2 (by omega),gE]
    exact CU hz3
   rw [e]
   exact q H1 C1 a1
end
local macro_rules | `(tactic| walk_at "u")=>`(tactic| first | rfl | decide | exact Or.inl rfl | exact Or.inr rfl | exact Or.inr (Or.inl rfl) | exact Or.inr (Or.inr rfl) | assumption | (intro _;rfl) | exact xZ _ (by decide) (by decide))
section
variable {P:Program} {w:World} {K:PySem.W.Frag} {mg:Str -> Option Value} {base:Heap} {t:fX}
def iN (sg:List Nat):List Nat -> Nat
 | []=>0
 | c :: r=>if c ∈ sg then 1 + iN sg r else 0
def eL (sort signs row:Str) (i:Nat):V :=
 if sort = "end" then (if i = row.length then .int 0 else .cM)
 else if sort = "word" then (if (row.cps.toList.drop i).take signs.length = signs.cps.toList then .int signs.length else .cM)
 else match row.cps.toList[i]? with
  | none=>.cM
  | some c =>
   if sort = "any" ∨ sort = "still" then .int (if sort = "any" then 1 else 0)
   else if sort = "none" then (if c ∈ signs.cps.toList then .cM else .int 1)
   else if c ∈ signs.cps.toList then .int (if sort = "many" then 1 + iN signs.cps.toList (row.cps.toList.drop (i + 1)) else 1) else .cM
theorem getL {row:Str} {i:Nat}:row.cps.toList.length = row.length:=by simp [Str.length]
theorem strAt {row:Str} {i:Int} (h0:0 <= i) (h1:i < row.length):∃ c,row.cps.toList[i.toNat]? = some c /\ vF row.cps.toList i = some c:=lH _ h0 (by rw [getL (i:=0)];exact h1)
noncomputable def oj (C:Addr) (fl:Str -> List (Str × V)) (sort:Str):Sp:=λvs H Q _=>∃ (p dx:Addr) (signs row:Str) (i:Nat),vs = [.ref p,.str row,.int i] /\ H p = some (.ins C dx (fl signs)) /\ signs.length <= 1000 /\ row.length <= 1000 /\ i <= row.length /\ Q (eL sort signs row i) H
noncomputable def lz (b:Bool):Sp:=λvs H Q _=>∃ p:V,vs = [p] /\ Q (.bl b) H
noncomputable def uW (C:Addr) (f:Str):Sp:=λvs H Q _=>∃ (p dx:Addr) (z:Str),vs = [.ref p,.str z] /\ H p = some (.ins C dx []) /\ Q .cM (upd H p (.ins C dx [(f,.str z)]))
theorem MN (T:Txt K mg t):bw P w K mg base dP 1 t.nX t.wA ["self","text"] (uW t.bY "wanted"):=by
 refine T.Bl.ok JT ?_ ?_
 walk_at "i"
 ·obtain ⟨p,dx,z,rfl,hp,q⟩:=h
  refine @ao _ _ _ _ _ _ (cZ (pv 0) (pv 1) rfl) ?_
  exact ⟨_,rfl,_,rfl,p,_,dx,[],rfl,hp,T.oZ,T.fE,by decide,q⟩
theorem Ln (T:Txt K mg t):bw P w K mg base dP 1 t.nI t.vK ["self","signs"] (uW t.cV "signs"):=by
 refine T.A4.ok Ml ?_ ?_
 walk_at "i"
 ·obtain ⟨p,dx,z,rfl,hp,q⟩:=h
  refine @ao _ _ _ _ _ _ (cZ (pv 0) (pv 1) rfl) ?_
  exact ⟨_,rfl,_,rfl,p,_,dx,[],rfl,hp,T.z5,T.jj,by decide,q⟩
theorem Jx (T:Txt K mg t):bw P w K mg base dP 1 t.oG t.yU ["self","signs"] (uW t.bh "signs"):=by
 refine T.A7.ok L5 ?_ ?_
 walk_at "i"
 ·obtain ⟨p,dx,z,rfl,hp,q⟩:=h
  refine @ao _ _ _ _ _ _ (cZ (pv 0) (pv 1) rfl) ?_
  exact ⟨_,rfl,_,rfl,p,_,dx,[],rfl,hp,T.kY,T.fH,by decide,q⟩
theorem MK (T:Txt K mg t):bw P w K mg base dP 1 t.ou t.yO ["self","signs"] (uW t.b6 "signs"):=by
 refine T.BD.ok LU ?_ ?_
 walk_at "i"
 ·obtain ⟨p,dx,z,rfl,hp,q⟩:=h
  refine @ao _ _ _ _ _ _ (cZ (pv 0) (pv 1) rfl) ?_
  exact ⟨_,rfl,_,rfl,p,_,dx,[],rfl,hp,T.uF,T.iM,by decide,q⟩
theorem Dq (T:Txt K mg t):bw P w K mg base dP 1 t.jy t.qb ["self"] (lz false):=by
 refine T.rT.ok MS ?_ ?_
 walk_at "i"
 ·obtain ⟨p,rfl,q⟩:=h
  exact @ao _ _ _ _ _ _ (aH jS) q
theorem Kl (T:Txt K mg t):bw P w K mg base dP 1 t.mX t.um ["self"] (lz true):=by
 refine T.zD.ok JI ?_ ?_
 walk_at "i"
 ·obtain ⟨p,rfl,q⟩:=h
  exact @ao _ _ _ _ _ _ (aH jS) q
theorem Mr (T:Txt K mg t):bw P w K mg base dP 1 t.mw t.tN ["self"] (lz true):=by
 refine T.vY.ok Jw ?_ ?_
 walk_at "i"
 ·obtain ⟨p,rfl,q⟩:=h
  exact @ao _ _ _ _ _ _ (aH jS) q
theorem Ko (T:Txt K mg t):bw P w K mg base dP 1 t.mU t.ud ["self"] (lz true):=by
 refine T.yN.ok K7 ?_ ?_
 walk_at "i"
 ·obtain ⟨p,rfl,q⟩:=h
  exact @ao _ _ _ _ _ _ (aH jS) q
theorem JH (T:Txt K mg t):bw P w K mg base dP 1 t.mD t.uy ["self"] (lz true):=by
 refine T.zz.ok LA ?_ ?_
 walk_at "i"
 ·obtain ⟨p,rfl,q⟩:=h
  exact @ao _ _ _ _ _ _ (aH jS) q
theorem Nt (T:Txt K mg t):bw P w K mg base dP 1 t.vp t.B7 ["self"] (lz true):=by
 refine T.E6.ok Nu ?_ ?_
 walk_at "i"
 ·obtain ⟨p,rfl,q⟩:=h
  exact @ao _ _ _ _ _ _ (aH jS) q
theorem Ce {row sg:Str} {i:Nat} (hi:i <= row.length):(decide (fromIndex row.length (i:Int) + sg.length <= row.length) && Builtin.Str.subAt row sg (fromIndex row.length (i:Int))) = decide ((row.cps.toList.drop i).take sg.length = sg.cps.toList):=by
 have e:fromIndex row.length (i:Int) = i:=by unfold fromIndex;rw [if_neg (by omega)];omega
 rw [e]
 have e2:Builtin.Str.subAt row sg i = decide ((row.cps.toList.drop i).take sg.length = sg.cps.toList):=by
  unfold Builtin.Str.subAt
  rw [Bool.eq_iff_iff,beq_iff_eq,decide_eq_true_eq]
  rw [← Array.toList_inj]
  simp [Array.toList_extract,List.extract_eq_take_drop]
 rw [e2,Bool.eq_iff_iff,Bool.and_eq_true,decide_eq_true_eq,decide_eq_true_eq]
 refine ⟨λz=>z.2,λz=>⟨?_,z⟩⟩
 have:=congrArg List.length z
 rw [List.length_take,List.length_drop,getL (i:=0),getL (i:=0)] at this
 omega
theorem JY (T:Txt K mg t):bw P w K mg base dP 1 t.mC t.uh ["self","row","at"] (oj t.bY (λz=>[("wanted",.str z)]) "word"):=by
 refine T.zo.ok K1 ?_ ?_
 walk_at "i"
 ·obtain ⟨p,dx,sg,row,i,rfl,hp,hs,hw,hi,q⟩:=h
  refine @ao _ _ _ _ _ _ (aH (dh (gG (cJ F.plainAttrs_str F.slot_str_startswith F.type_str_startswith zO (pv 1) (aa (aZ (pv 0) rfl) (aa (pv 2) ah)))) (aL bz (by rfl) T.bO (by decide +kernel) (aa (aZ (pv 0) rfl) ah)) bL)) ?_
  rw [eL,if_neg (by decide),if_pos rfl] at q
  refine ⟨_,rfl,rfl,_,rfl,p,_,dx,_,_,rfl,hp,T.oZ,T.fE,rfl,_,rfl,_,_,_,rfl,rfl,_,rfl,?_⟩
  rw [Ce hi]
  refine cI (λh=>?_) (λh=>?_)
  ·rw [if_pos h] at q
   exact ⟨_,rfl,p,_,dx,_,_,rfl,hp,T.oZ,T.fE,rfl,_,rfl,bI (by omega),q⟩
  ·rw [if_neg h] at q
   exact q
theorem fK {sort sg row:Str} {i c:Nat} (h1:sort ≠ "end") (h2:sort ≠ "word") (e:row.cps.toList[i]? = some c):eL sort sg row i = if sort = "any" ∨ sort = "still" then .int (if sort = "any" then 1 else 0)
   else if sort = "none" then (if c ∈ sg.cps.toList then .cM else .int 1)
   else if c ∈ sg.cps.toList then .int (if sort = "many" then 1 + iN sg.cps.toList (row.cps.toList.drop (i + 1)) else 1) else .cM:=by
 rw [eL,if_neg h1,if_neg h2,e]
theorem g7 {sort sg row:Str} {i:Nat} (h1:sort ≠ "end") (h2:sort ≠ "word") (h:row.length <= i):eL sort sg row i = .cM:=by
 rw [eL,if_neg h1,if_neg h2,List.getElem?_eq_none (by rw [getL (i:=0)];exact h)]
theorem Kg (T:Txt K mg t):bw P w K mg base dP 1 t.lY t.uz ["self","row","at"] (oj t.cV (λz=>[("signs",.str z)]) "one"):=by
 refine T.vI.ok MJ ?_ ?_
 walk_at "i"
 ·obtain ⟨p,dx,sg,row,i,rfl,hp,hs,hw,hi,q⟩:=h
  refine @ao _ _ _ _ _ _ (aH (dh (PW.pt (fR (az gC (pv 2) (aL bz (by rfl) T.bO (by decide +kernel) (aa (pv 1) ah)) (aA _)) (fj (az jv (aU lD (pv 1) (pv 2) (λ_ _=>rfl)) (aZ (pv 0) rfl) rfl)))) ai bL)) ?_
  walk_at "rd"
  refine ⟨bI (by omega),cI (λh=>?_) (λh=>?_)⟩
  ·obtain ⟨c,e1,e2⟩:=strAt (row:=row) (i:=(i:Int)) (by omega) h
   rw [Int.toNat_natCast] at e1
   refine ⟨bI (by omega),c,e2,⟨_,rfl,_,_,_,_,_,rfl,hp,T.z5,T.jj,rfl,⟨sg,rfl,?_⟩⟩⟩
   rw [PySem.StrLaws.found_one]
   rw [fK (by decide) (by decide) e1,if_neg (by decide),if_neg (by decide)] at q
   refine cI (λh=>?_) (λh=>?_)
   ·rw [if_pos h,if_neg (by decide)] at q
    exact q
   ·rw [if_neg h] at q
    exact q
  ·rw [g7 (by decide) (by decide) (by omega)] at q
   exact q
theorem KH (T:Txt K mg t):bw P w K mg base dP 1 t.lX t.sW ["self","row","at"] (oj t.bh (λz=>[("signs",.str z)]) "none"):=by
 refine T.w9.ok Jv ?_ ?_
 walk_at "i"
 ·obtain ⟨p,dx,sg,row,i,rfl,hp,hs,hw,hi,q⟩:=h
  refine @ao _ _ _ _ _ _ (aH (dh (PW.pt (fR (az gC (pv 2) (aL bz (by rfl) T.bO (by decide +kernel) (aa (pv 1) ah)) (aA _)) (fj (az vd (aU lD (pv 1) (pv 2) (λ_ _=>rfl)) (aZ (pv 0) rfl) rfl)))) ai bL)) ?_
  walk_at "rd"
  refine ⟨bI (by omega),cI (λh=>?_) (λh=>?_)⟩
  ·obtain ⟨c,e1,e2⟩:=strAt (row:=row) (i:=(i:Int)) (by omega) h
   rw [Int.toNat_natCast] at e1
   refine ⟨bI (by omega),c,e2,⟨_,rfl,_,_,_,_,_,rfl,hp,T.kY,T.fH,rfl,⟨sg,rfl,?_⟩⟩⟩
   rw [PySem.StrLaws.found_one]
   rw [fK (by decide) (by decide) e1,if_neg (by decide),if_pos rfl] at q
   refine iB (λh=>?_) (λh=>?_)
   ·rw [if_neg h] at q
    exact q
   ·rw [if_pos h] at q
    exact q
  ·rw [g7 (by decide) (by decide) (by omega)] at q
   exact q
theorem NF (T:Txt K mg t):bw P w K mg base dP 1 t.vg t.CH ["self","row","at"] (oj t.dB (λz=>[]) "any"):=by
 refine T.DP.ok Ni ?_ ?_
 walk_at "i"
 ·obtain ⟨p,dx,sg,row,i,rfl,hp,hs,hw,hi,q⟩:=h
  refine @ao _ _ _ _ _ _ (aH (dh (az gC (pv 2) (aL bz (by rfl) T.bO (by decide +kernel) (aa (pv 1) ah)) (aA _)) ai bL)) ?_
  walk_at "rd"
  refine ⟨bI (by omega),cI (λh=>?_) (λh=>?_)⟩
  ·obtain ⟨c,e1,e2⟩:=strAt (row:=row) (i:=(i:Int)) (by omega) h
   rw [Int.toNat_natCast] at e1
   rw [fK (by decide) (by decide) e1,if_pos (by decide),if_pos rfl] at q
   exact q
  ·rw [g7 (by decide) (by decide) (by omega)] at q
   exact q
theorem Mb (T:Txt K mg t):bw P w K mg base dP 1 t.mR t.sS ["self","row","at"] (oj t.bP (λz=>[]) "still"):=by
 refine T.zl.ok JO ?_ ?_
 walk_at "i"
 ·obtain ⟨p,dx,sg,row,i,rfl,hp,hs,hw,hi,q⟩:=h
  refine @ao _ _ _ _ _ _ (aH (dh (az gC (pv 2) (aL bz (by rfl) T.bO (by decide +kernel) (aa (pv 1) ah)) (aA _)) ai bL)) ?_
  walk_at "rd"
  refine ⟨bI (by omega),cI (λh=>?_) (λh=>?_)⟩
  ·obtain ⟨c,e1,e2⟩:=strAt (row:=row) (i:=(i:Int)) (by omega) h
   rw [Int.toNat_natCast] at e1
   rw [fK (by decide) (by decide) e1,if_pos (by decide),if_neg (by decide)] at q
   exact q
  ·rw [g7 (by decide) (by decide) (by omega)] at q
   exact q
theorem JM (T:Txt K mg t):bw P w K mg base dP 1 t.lQ t.tQ ["self","row","at"] (oj t.dF (λz=>[]) "end"):=by
 refine T.zb.ok Ma ?_ ?_
 walk_at "i"
 ·obtain ⟨p,dx,sg,row,i,rfl,hp,hs,hw,hi,q⟩:=h
  refine @ao _ _ _ _ _ _ (aH (dh (az bE (pv 2) (aL bz (by rfl) T.bO (by decide +kernel) (aa (pv 1) ah)) (aA _)) ai bL)) ?_
  walk_at "rd"
  rw [eL,if_pos rfl] at q
  refine ⟨bI (by omega),rfl,cI (λh=>?_) (λh=>?_)⟩
  ·rw [if_pos (by omega)] at q
   exact q
  ·rw [if_neg (by omega)] at q
   exact q
theorem j9 {sg l:List Nat} {j c:Nat} (e:l[j]? = some c):iN sg (l.drop j) = if c ∈ sg then 1 + iN sg (l.drop (j + 1)) else 0:=by
 have hdrop:l.drop j = c :: l.drop (j + 1):=by
  rw [List.drop_eq_getElem?_toList_append,e];rfl
 rw [hdrop,iN]
theorem KO (T:Txt K mg t):bw P w K mg base dP 1 t.mO t.sP ["self","row","at"] (oj t.b6 (λz=>[("signs",.str z)]) "many"):=by
 refine T.wc.ok Az ?_ ?_
 walk_at "i"
 ·obtain ⟨p,dx,sg,row,i,rfl,hp,hs,hw,hi,q⟩:=h
  have q':Q (if 0 < iN sg.cps.toList (row.cps.toList.drop i) then .int (iN sg.cps.toList (row.cps.toList.drop i)) else .cM) H:=by
   by_cases h:i < row.length
   ·obtain ⟨c,e1,e2⟩:=strAt (row:=row) (i:=(i:Int)) (by omega) (by omega)
    rw [Int.toNat_natCast] at e1
    rw [fK (by decide) (by decide) e1,if_neg (by decide),if_neg (by decide),if_pos rfl] at q
    rw [j9 e1]
    by_cases h2:c ∈ sg.cps.toList
    ·rw [if_pos h2] at q ⊢
     rw [if_pos (by omega)]
     exact q
    ·rw [if_neg h2] at q ⊢
     exact q
   ·rw [g7 (by decide) (by decide) (by omega)] at q
    have:row.cps.toList.drop i = []:=List.drop_eq_nil_of_le (by rw [getL (i:=0)];omega)
    rw [this]
    exact q
  refine @av _ _ _ _ _ _ _ (aC (i:=3) Az.nd rfl (Or.inl rfl) (pv 2)) ?_
  walk_at "rd"
  refine aF (λZ' H'=>H' = H /\ Z' = [some (.ref p),some (.str row),some (.int i),some (.int ((i:Int) + iN sg.cps.toList (row.cps.toList.drop i)))]) (kg PassesOwn.never (PW.pt (fR (az gC (pv 3) (aL bz (by rfl) T.bO (by decide +kernel) (aa (pv 1) ah)) (aA _)) (fj (az jv (aU lD (pv 1) (pv 3) (λ_ _=>rfl)) (aZ (pv 0) rfl) rfl)))) ak) ?_ ?_
  ·refine ⟨λm Z' H'=>∃ j:Nat,Z' = [some (.ref p),some (.str row),some (.int i),some (.int (j:Int))] /\ H' = H /\ j <= row.length /\ m = row.length - j /\ i + iN sg.cps.toList (row.cps.toList.drop i) = j + iN sg.cps.toList (row.cps.toList.drop j),⟨_,i,rfl,rfl,hi,rfl,rfl⟩,?_⟩
   rintro m Z' H' ⟨j,rfl,e,hj,rfl,hr⟩
   rw [e]
   clear e H'
   walk_at "rd"
   refine ⟨bI (by omega),cI (λh=>?_) (λh=>?_)⟩
   ·obtain ⟨c,e1,e2⟩:=strAt (row:=row) (i:=(j:Int)) (by omega) h
    rw [Int.toNat_natCast] at e1
    rw [j9 (j:=j) e1] at hr
    refine ⟨bI (by omega),c,e2,⟨_,rfl,_,_,_,_,_,rfl,hp,T.uF,T.iM,rfl,⟨sg,rfl,?_⟩⟩⟩
    rw [PySem.StrLaws.found_one]
    refine cI (λh2=>?_) (λh2=>?_)
    ·rw [if_pos h2] at hr
     refine ⟨_,λZ' H' z=>z,@ao _ _ _ _ _ _ (J0 (i:=3) Az.nd rfl (Or.inl rfl) ai J5) ?_⟩
     walk_at "rd"
     exact ⟨row.length - (j + 1),by omega,j + 1,by simp,by omega,rfl,by omega⟩
    ·rw [if_neg h2] at hr
     refine ⟨rfl,?_⟩
     rw [show (i:Int) + (iN sg.cps.toList (row.cps.toList.drop i):Nat) = (j:Int) by omega]
   ·have:row.cps.toList.drop j = []:=List.drop_eq_nil_of_le (by rw [getL (i:=0)];omega)
    rw [this,iN] at hr
    omega
  rintro Z' H' ⟨e,rfl⟩
  rw [e]
  clear e H'
  refine @ao _ _ _ _ _ _ (aH (dh (az iY (pv 3) (pv 2) (aA _)) (aQ jo (pv 3) (pv 2)) bL)) ?_
  walk_at "rd"
  refine cI (λh=>?_) (λh=>?_)
  ·rw [if_pos (by omega)] at q'
   rw [show (i:Int) + (iN sg.cps.toList (row.cps.toList.drop i):Nat) - i = iN sg.cps.toList (row.cps.toList.drop i) by omega]
   exact q'
  ·rw [if_neg (by omega)] at q'
   exact q'
theorem lG (sort sg row:Str) (i:Nat):(∃ n:Int,eL sort sg row i = .int n) ∨ eL sort sg row i = .cM:=by
 unfold eL
 repeat' split
 all_goals first | exact .inl ⟨_,rfl⟩ | exact .inr rfl
def bS (sort:Str):Bool:=!decide (sort = "still" ∨ sort = "end")
structure yT (P:Program) (w:World) (K:PySem.W.Frag) (mg:Str -> Option Value) (base:Heap) (C fe fs:Addr) (de ds:FuncData) (sort:Str) (fl:Str -> List (Str × V)):Prop where
 cl:oi K C
 me:Meth K C "eaten" fe
 ms:Meth K C "eats" fs
 ne:∀ z,(fl z).lookup ("eaten" : Str) = none
 ns:∀ z,(fl z).lookup ("eats" : Str) = none
 ge:bw P w K mg base dP 1 fe de ["self","row","at"] (oj C fl sort)
 be:Binds K de ["self","row","at"] []
 gs:bw P w K mg base dP 1 fs ds ["self"] (lz (bS sort))
 bs:Binds K ds ["self"] []
 ty:PySem.W.findIn K (.ref C) "__class__" = some (some (.builtin "object.__class__"))
 mr:PySem.W.mroIn K C (.type "object") = some true
theorem Il (T:Txt K mg t):yT P w K mg base t.bY t.mC t.mX t.uh t.um "word" (λz=>[("wanted",.str z)]) :=
 ⟨T.oZ,T.Og,T.N1,λ_=>by rfl,λ_=>by rfl,JY T,T.zo.binds (by walk_at "3"),by rw [show bS "word" = true by decide +kernel];exact Kl T,T.zD.binds (by walk_at "1"),T.vh,T.vv⟩
theorem Lw (T:Txt K mg t):yT P w K mg base t.cV t.lY t.mw t.uz t.tN "one" (λz=>[("signs",.str z)]) :=
 ⟨T.z5,T.Na,T.NR,λ_=>by rfl,λ_=>by rfl,Kg T,T.vI.binds (by walk_at "3"),by rw [show bS "one" = true by decide +kernel];exact Mr T,T.vY.binds (by walk_at "1"),T.Ac,T.Ag⟩
theorem Ao (T:Txt K mg t):yT P w K mg base t.bh t.lX t.mU t.sW t.ud "none" (λz=>[("signs",.str z)]) :=
 ⟨T.kY,T.OD,T.M9,λ_=>by rfl,λ_=>by rfl,KH T,T.w9.binds (by walk_at "3"),by rw [show bS "none" = true by decide +kernel];exact Ko T,T.yN.binds (by walk_at "1"),T.lI,T.kZ⟩
theorem HL (T:Txt K mg t):yT P w K mg base t.b6 t.mO t.mD t.sP t.uy "many" (λz=>[("signs",.str z)]) :=
 ⟨T.uF,T.Nk,T.OA,λ_=>by rfl,λ_=>by rfl,KO T,T.wc.binds (by walk_at "3"),by rw [show bS "many" = true by decide +kernel];exact JH T,T.zz.binds (by walk_at "1"),T.uH,T.uX⟩
theorem Ks (T:Txt K mg t):yT P w K mg base t.dB t.vg t.vp t.CH t.B7 "any" (λz=>[]) :=
 ⟨T.Kx,T.Py,T.Pg,λ_=>by rfl,λ_=>by rfl,NF T,T.DP.binds (by walk_at "3"),by rw [show bS "any" = true by decide +kernel];exact Nt T,T.E6.binds (by walk_at "1"),T.Ai,T.z9⟩
theorem Ed (T:Txt K mg t):yT P w K mg base t.bP t.mR t.jy t.sS t.qb "still" (λz=>[]) :=
 ⟨T.Ga,T.Nx,T.uT,λ_=>by rfl,λ_=>by rfl,Mb T,T.zl.binds (by walk_at "3"),by rw [show bS "still" = false by decide +kernel];exact Dq T,T.rT.binds (by walk_at "1"),T.qi,T.rm⟩
theorem KD (T:Txt K mg t):yT P w K mg base t.dF t.lQ t.jy t.tQ t.qb "end" (λz=>[]) :=
 ⟨T.Lv,T.OE,T.Ad,λ_=>by rfl,λ_=>by rfl,JM T,T.zb.binds (by walk_at "3"),by rw [show bS "end" = false by decide +kernel];exact Dq T,T.rT.binds (by walk_at "1"),T.AG,T.AE⟩
structure bA where
 sort:Str
 signs:Str
 aO:Str
 aW:Str
 goal:Option Nat
 fold:Str
structure aE where
 name:Str
 aO:Str
 rules:List bA
abbrev sorts:List Str:=["word","one","none","many","any","still","end"]
abbrev bare (s:Str):Prop:=s = "any" ∨ s = "still" ∨ s = "end"
def iK (t:fX) (s:Str):Addr:=if s = "any" then t.dB else if s = "still" then t.bP else if s = "end" then t.dF else if s = "word" then t.bY else if s = "one" then t.cV else if s = "none" then t.bh else t.b6
def nj (s z:Str):List (Str × V):=if bare s then [] else if s = "word" then [("wanted",.str z)] else [("signs",.str z)]
theorem Bv:iK t "any" = t.dB:=by rw [iK,if_pos rfl]
theorem uo:iK t "still" = t.bP:=by rw [iK,if_neg (by decide),if_pos rfl]
theorem BI:iK t "end" = t.dF:=by rw [iK,if_neg (by decide),if_neg (by decide),if_pos rfl]
theorem yG:iK t "word" = t.bY:=by rw [iK,if_neg (by decide),if_neg (by decide),if_neg (by decide),if_pos rfl]
theorem Bg:iK t "one" = t.cV:=by rw [iK,if_neg (by decide),if_neg (by decide),if_neg (by decide),if_neg (by decide),if_pos rfl]
theorem vX:iK t "none" = t.bh:=by rw [iK,if_neg (by decide),if_neg (by decide),if_neg (by decide),if_neg (by decide),if_neg (by decide),if_pos rfl]
theorem zh:iK t "many" = t.b6:=by rw [iK,if_neg (by decide),if_neg (by decide),if_neg (by decide),if_neg (by decide),if_neg (by decide),if_neg (by decide)]
theorem Gk:nj "any" = λ_=>[]:=by funext z;rw [nj,if_pos (by decide)]
theorem yH:nj "still" = λ_=>[]:=by funext z;rw [nj,if_pos (by decide)]
theorem EY:nj "end" = λ_=>[]:=by funext z;rw [nj,if_pos (by decide)]
theorem A6:nj "word" = λz=>([("wanted",.str z)]:List (Str × V)):=by funext z;rw [nj,if_neg (by decide),if_pos rfl]
theorem tW {s:Str} (h:¬ bare s) (h2:s ≠ "word"):nj s = λz=>([("signs",.str z)]:List (Str × V)):=by funext z;rw [nj,if_neg h,if_neg h2]
theorem dW {s:Str} (h:s ∈ sorts):s = "word" ∨ s = "one" ∨ s = "none" ∨ s = "many" ∨ s = "any" ∨ s = "still" ∨ s = "end" := by simpa using h
theorem Ig (T:Txt K mg t) {s:Str} (h:s ∈ sorts):∃ fe fs de ds,yT P w K mg base (iK t s) fe fs de ds s (nj s):=by
 rcases dW h with rfl | rfl | rfl | rfl | rfl | rfl | rfl
 ·rw [yG,A6];exact ⟨_,_,_,_,Il T⟩
 ·rw [Bg,tW (by decide) (by decide)];exact ⟨_,_,_,_,Lw T⟩
 ·rw [vX,tW (by decide) (by decide)];exact ⟨_,_,_,_,Ao T⟩
 ·rw [zh,tW (by decide) (by decide)];exact ⟨_,_,_,_,HL T⟩
 ·rw [Bv,Gk];exact ⟨_,_,_,_,Ks T⟩
 ·rw [uo,yH];exact ⟨_,_,_,_,Ed T⟩
 ·rw [BI,EY];exact ⟨_,_,_,_,KD T⟩
noncomputable def jO (t:fX) (H:Hp) (p:Addr) (s z:Str):Prop:=∃ dx,H p = some (.ins (iK t s) dx (nj s z))
def jf:Option Nat -> V
 | none=>.cM
 | some g=>.int g
def rf (p:Addr) (R:bA):List (Str × V):=[("pattern",.ref p),("colour",.str R.aO),("deed",.str R.aW),("goal",jf R.goal),("fold",.str R.fold)]
def mf (M:aE) (l:Addr):List (Str × V):=[("name",.str M.name),("colour",.str M.aO),("rules",.ref l)]
noncomputable def dz (t:fX) (H:Hp) (r:Addr) (R:bA):Prop:=∃ dx p,H r = some (.ins t.cK dx (rf p R)) /\ jO t H p R.sort R.signs
theorem jO.same {H H':Hp} {p:Addr} {s z:Str} (h:jO t H p s z) (e:au H H'):jO t H' p s z:=let ⟨dx,x⟩:=h;⟨dx,e _ _ x⟩
theorem dz.same {H H':Hp} {r:Addr} {R:bA} (h:dz t H r R) (e:au H H'):dz t H' r R:=let ⟨dx,p,x,y⟩:=h;⟨dx,p,e _ _ x,y.same e⟩
noncomputable def cU {α β:Type} (R:α -> β -> Prop) (as:List α) (bs:List β):Prop:=as.length = bs.length /\ ∀ (i:Nat) a b,as[i]? = some a -> bs[i]? = some b -> R a b
theorem cU.nil {α β:Type} {R:α -> β -> Prop}:cU R [] []:=⟨rfl,λi a b h=>by simp at h⟩
theorem cU.mono {α β:Type} {R S:α -> β -> Prop} {as:List α} {bs:List β} (h:cU R as bs) (f:∀ a b,R a b -> S a b):cU S as bs:=⟨h.1,λi a b x y=>f a b (h.2 i a b x y)⟩
theorem cR {α:Type} {as:List α} {a x:α} {i:Nat} (h:(as ++ [a])[i]? = some x):as[i]? = some x ∨ (i = as.length /\ x = a):=by
 by_cases hi:i < as.length
 ·rw [List.getElem?_append_left hi] at h;exact .inl h
 ·rw [List.getElem?_append_right (by omega)] at h
  have:i - as.length = 0:=by
   cases e:i - as.length with
   | zero=>rfl
   | succ n=>rw [e] at h;simp at h
  rw [this] at h
  simp at h
  exact .inr ⟨by omega,h.symm⟩
theorem cU.snoc {α β:Type} {R:α -> β -> Prop} {as:List α} {bs:List β} {a:α} {b:β} (h:cU R as bs) (r:R a b):cU R (as ++ [a]) (bs ++ [b]):=by
 refine ⟨by simp [h.1],λi x y hx hy=>?_⟩
 have hl:=h.1
 rcases cR hx with h1 | ⟨e1,rfl⟩
 ·rcases cR hy with h2 | ⟨e2,rfl⟩
  ·exact h.2 i x y h1 h2
  ·have:=(List.getElem?_eq_some_iff.mp h1).1;omega
 ·rcases cR hy with h2 | ⟨e2,rfl⟩
  ·have:=(List.getElem?_eq_some_iff.mp h2).1;omega
  ·exact r
theorem cU.at {α β:Type} {R:α -> β -> Prop} {as:List α} {bs:List β} (h:cU R as bs) {i:Nat} {b:β} (e:bs[i]? = some b):∃ a,as[i]? = some a /\ R a b:=by
 have hi:=(List.getElem?_eq_some_iff.mp e).1
 have hi2:i < as.length:=by rw [h.1];exact hi
 exact ⟨as[i],List.getElem?_eq_getElem hi2,h.2 i _ _ (List.getElem?_eq_getElem hi2) e⟩
structure cC (t:fX) (H:Hp) (as ls:List Addr) (ms:List aE):Prop where
 la:as.length = ms.length
 ll:ls.length = ms.length
 nd:ls.Nodup
 ob:∀ (i:Nat) a l m,as[i]? = some a -> ls[i]? = some l -> ms[i]? = some m -> ∃ dx rs,H a = some (.ins t.bV dx (mf m l)) /\ H l = some (.lst (rs.map V.ref)) /\ cU (dz t H) rs m.rules
theorem cC.same {H H':Hp} {as ls:List Addr} {ms:List aE} (h:cC t H as ls ms) (e:au H H'):cC t H' as ls ms :=
 ⟨h.la,h.ll,h.nd,λi a l m h1 h2 h3=>let ⟨dx,rs,x,y,z⟩:=h.ob i a l m h1 h2 h3;⟨dx,rs,e _ _ x,e _ _ y,z.mono λ_ _ r=>r.same e⟩⟩
noncomputable def IsRules (t:fX) (H:Hp) (a:Addr) (ms:List aE):Prop:=∃ dx lm as ls,H a = some (.ins t.cT dx [("modes",.ref lm)]) /\ H lm = some (.lst (as.map V.ref)) /\ cC t H as ls ms
theorem IsRules.same {H H':Hp} {a:Addr} {ms:List aE} (h:IsRules t H a ms) (e:au H H'):IsRules t H' a ms:=let ⟨dx,lm,as,ls,x,y,z⟩:=h;⟨dx,lm,as,ls,e _ _ x,e _ _ y,z.same e⟩
theorem fN {H:Hp} {x dx:Addr} {o1 o2 o3:HO} (h1:H x = none) (h2:H dx = none):au H (upd (upd (upd H dx o1) x o2) x o3):=λb o e=>by
 rw [aj (aq e h1),aj (aq e h1),aj (aq e h2)];exact e
theorem bZ {H:Hp} {x dx:Addr} {o1 o2:HO} (h1:H x = none) (h2:H dx = none):au H (upd (upd H dx o1) x o2):=λb o e=>by
 rw [aj (aq e h1),aj (aq e h2)];exact e
noncomputable def Hu (t:fX):Sp:=λvs H Q _=>∃ (x dx p:Addr) (R:bA),vs = [.ref x,.ref p,.str R.aO,.str R.aW,jf R.goal,.str R.fold] /\ H x = some (.ins t.cK dx []) /\ Q .cM (upd H x (.ins t.cK dx (rf p R)))
theorem Gn (T:Txt K mg t):bw P w K mg base dP 1 t.nY t.vZ ["self","pattern","colour","deed","goal","fold"] (Hu t):=by
 refine T.wI.ok KI ?_ ?_
 walk_at "i"
 ·obtain ⟨x,dx,p,R,rfl,hx,q⟩:=h
  refine @av _ _ _ _ _ _ _ (cZ (pv 0) (pv 1) rfl) ⟨_,rfl,_,rfl,x,_,dx,[],rfl,hx,T.cD,T.cX,by decide,?_⟩
  refine @av _ _ _ _ _ _ _ (cZ (pv 0) (pv 2) rfl) ⟨_,rfl,_,rfl,x,_,dx,[("pattern",.ref p)],rfl,af,T.cD,T.fB,by show 1 < 1000;decide,?_⟩
  refine @av _ _ _ _ _ _ _ (cZ (pv 0) (pv 3) rfl) ⟨_,rfl,_,rfl,x,_,dx,[("pattern",.ref p),("colour",.str R.aO)],rfl,af,T.cD,T.dU,by show 2 < 1000;decide,?_⟩
  refine @av _ _ _ _ _ _ _ (cZ (pv 0) (pv 4) rfl) ⟨_,rfl,_,rfl,x,_,dx,[("pattern",.ref p),("colour",.str R.aO),("deed",.str R.aW)],rfl,af,T.cD,T.gn,by show 3 < 1000;decide,?_⟩
  refine @ao _ _ _ _ _ _ (cZ (pv 0) (pv 5) rfl) ⟨_,rfl,_,rfl,x,_,dx,[("pattern",.ref p),("colour",.str R.aO),("deed",.str R.aW),("goal",jf R.goal)],rfl,af,T.cD,T.gj,by show 4 < 1000;decide,?_⟩
  rw [iR,iR,iR,iR]
  exact q
noncomputable def Iv (t:fX):Sp:=λvs H Q _=>∃ (x dx l:Addr) (n c:Str) (rs:List V),vs = [.ref x,.str n,.str c,.ref l] /\ H x = some (.ins t.bV dx []) /\ H l = some (.lst rs) /\
 ∀ l2 H',H l2 = none -> H' x = some (.ins t.bV dx (mf ⟨n,c,[]⟩ l2)) -> H' l2 = some (.lst rs) -> kh H H' x -> Q .cM H'
theorem FL (T:Txt K mg t):bw P w K mg base dP 1 t.n6 t.zk ["self","name","colour","rules"] (Iv t):=by
 refine T.ze.ok Kf ?_ ?_
 walk_at "i"
 ·obtain ⟨x,dx,l,n,c,rs,rfl,hx,hl,q⟩:=h
  have nlx:l ≠ x:=cQ hl hx (by intro z;cases z)
  refine @av _ _ _ _ _ _ _ (cZ (pv 0) (pv 1) rfl) ⟨_,rfl,_,rfl,x,_,dx,[],rfl,hx,T.fk,T.gp,by decide,?_⟩
  refine @av _ _ _ _ _ _ _ (cZ (pv 0) (pv 2) rfl) ⟨_,rfl,_,rfl,x,_,dx,[("name",.str n)],rfl,af,T.fk,T.fF,by show 1 < 1000;decide,?_⟩
  refine @ao _ _ _ _ _ _ (cZ (pv 0) (cz cH (by rfl) T.gK (by decide +kernel) (aa (pv 3) ah)) rfl) ⟨_,rfl,l,rs,rfl,.inl (bB.of (by rw [aj nlx,aj nlx];exact hl)),λl2 hl2=>?_⟩
  have n2:x ≠ l2:=aq af hl2
  have hl0:H l2 = none:=by rw [aj (Ne.symm n2),aj (Ne.symm n2)] at hl2;exact hl2
  refine ⟨_,rfl,x,_,dx,[("name",.str n),("colour",.str c)],rfl,by rw [aj n2];exact af,T.fk,T.dI,by show 2 < 1000;decide,?_⟩
  refine q l2 _ hl0 af (by rw [aj (Ne.symm n2)];exact af) λb o hb nb=>?_
  rw [aj nb,aj (aq hb hl0),aj nb,aj nb];exact hb
noncomputable def Fo (t:fX):Sp:=λvs H Q _=>∃ (x dx l:Addr) (rs:List V),vs = [.ref x,.ref l] /\ H x = some (.ins t.cT dx []) /\ H l = some (.lst rs) /\
 ∀ l2 H',H l2 = none -> H' x = some (.ins t.cT dx [("modes",.ref l2)]) -> H' l2 = some (.lst rs) -> kh H H' x -> Q .cM H'
theorem GO (T:Txt K mg t):bw P w K mg base dP 1 t.nK t.wU ["self","modes"] (Fo t):=by
 refine T.yq.ok Lf ?_ ?_
 walk_at "i"
 ·obtain ⟨x,dx,l,rs,rfl,hx,hl,q⟩:=h
  refine @ao _ _ _ _ _ _ (cZ (pv 0) (cz cH (by rfl) T.gK (by decide +kernel) (aa (pv 1) ah)) rfl) ⟨_,rfl,l,rs,rfl,.inl (bB.of hl),λl2 hl2=>?_⟩
  have n2:x ≠ l2:=aq hx hl2
  refine ⟨_,rfl,x,_,dx,[],rfl,by rw [aj n2];exact hx,T.g9,T.b8,by decide,?_⟩
  refine q l2 _ hl2 af (by rw [aj (Ne.symm n2)];exact af) λb o hb nb=>?_
  rw [aj nb,aj (aq hb hl2)];exact hb
abbrev b9 (s z:Str):List Str:=if bare s then [s] else [s,je z]
structure oO (s z:Str):Prop where
 sort:s ∈ sorts
 Pn:bare s -> z = ""
 sg:¬ bare s -> 1 <= z.length /\ z.length <= 200 /\ 95 ∉ z.cps.toList /\ 10 ∉ z.cps.toList
theorem drop_cons {α:Type} {ws:List α} {i:Nat} {x:α} {r:List α} (h:ws.drop i = x :: r):ws[i]? = some x /\ ws.drop (i + 1) = r:=by
 constructor
 ·have:=congrArg (λl=>l[0]?) h
  simpa [List.getElem?_drop] using this
 ·rw [← List.drop_drop,h];rfl
theorem gS {ws:List Str} {i:Nat} {x:Str} {r:List Str} (h:ws.drop i = x :: r):pk ws i = x:=by
 unfold pk
 rw [List.getD_eq_getElem?_getD,(drop_cons h).1]
 rfl
theorem HJ {ws:List Str} {i:Nat} {x:Str} {r:List Str} (h:ws.drop i = x :: r):i < ws.length:=(List.getElem?_eq_some_iff.mp (drop_cons h).1).1
theorem xo {ws:List Str} {i:Nat} (h:ws.drop i = []):ws.length <= i:=List.drop_eq_nil_iff.mp h
noncomputable def HU (t:fX):Sp:=λvs H Q _=>∃ (p dx lw:Addr) (row:Int) (ws:List Str) (i:Nat) (s z:Str) (rest:List Str),vs = [.ref p] /\ lN t H p dx lw row ws i /\ ws.drop i = b9 s z ++ rest /\ oO s z /\
 ∀ a H' j,jO t H' a s z -> lN t H' p dx lw row ws j -> ws.drop j = rest -> kh H H' p -> Q (.ref a) H'
theorem Ka (T:Txt K mg t):bw P w K mg base dP 5 t.r8 t.zu ["cursor"] (HU t):=by
 refine T.yj.ok zZ ?_ ?_
 walk_at "i"
 ·obtain ⟨p,dx,lw,row,ws,i,s,z,rest,rfl,C,hd,G,q⟩:=h
  have hk:pk ws i = s:=by
   by_cases hb:bare s
   ·rw [b9,if_pos hb] at hd;exact gS hd
   ·rw [b9,if_neg hb] at hd;exact gS hd
  refine @av _ _ _ _ _ _ _ (aC (i:=1) zZ.nd rfl (Or.inl rfl) (bH (pv 0) T.aS T.Hg (Be T) (hr.mono (by decide)) (T.yf.binds (by walk_at "2")) .nil aG (aa (eG rfl T.uV (v:=V.ref t.eN) rfl) ah))) ⟨_,rfl,p,dx,_,rfl,C.ob,rfl,p,dx,lw,t.eN,sorts,row,ws,i,rfl,C,T.yr _,by rw [hk];exact G.sort,λH1 C1 a1=>?_⟩
  rw [hk]
  refine @av _ _ _ _ _ _ _ (aP (az bE (pv 1) aM (aA _)) ak ak) ⟨_,rfl,rfl,_,rfl,cI (λh=>?_) (λh1=>aX ?_)⟩
  ·have h:=V.str.inj h
   subst h
   refine @ao _ _ _ _ _ _ (aH (rj T.z7 rfl T.HP)) λx dx' nx ndx ne=>?_
   rw [b9,if_pos (by decide)] at hd
   exact q x _ (i + 1) ⟨dx',by rw [Bv,Gk];exact af⟩ (C1.same (bZ nx ndx)) (drop_cons hd).2 (a1.same (bZ nx ndx))
  refine @av _ _ _ _ _ _ _ (aP (az bE (pv 1) aM (aA _)) ak ak) ⟨_,rfl,rfl,_,rfl,cI (λh=>?_) (λh2=>aX ?_)⟩
  ·have h:=V.str.inj h
   subst h
   refine @ao _ _ _ _ _ _ (aH (rj T.qP rfl T.Cp)) λx dx' nx ndx ne=>?_
   rw [b9,if_pos (by decide)] at hd
   exact q x _ (i + 1) ⟨dx',by rw [uo,yH];exact af⟩ (C1.same (bZ nx ndx)) (drop_cons hd).2 (a1.same (bZ nx ndx))
  refine @av _ _ _ _ _ _ _ (aP (az bE (pv 1) aM (aA _)) ak ak) ⟨_,rfl,rfl,_,rfl,cI (λh=>?_) (λh3=>aX ?_)⟩
  ·have h:=V.str.inj h
   subst h
   refine @ao _ _ _ _ _ _ (aH (rj T.AV rfl T.HD)) λx dx' nx ndx ne=>?_
   rw [b9,if_pos (by decide)] at hd
   exact q x _ (i + 1) ⟨dx',by rw [BI,EY];exact af⟩ (C1.same (bZ nx ndx)) (drop_cons hd).2 (a1.same (bZ nx ndx))
  have nb:¬ bare s:=by
   rintro (e | e | e)
   ·exact h1 (by rw [e])
   ·exact h2 (by rw [e])
   ·exact h3 (by rw [e])
  rw [b9,if_neg nb] at hd
  have hd2:=(drop_cons hd).2
  obtain ⟨z1,z2,z3,z4⟩:=G.sg nb
  refine @av _ _ _ _ _ _ _ (aC (i:=2) zZ.nd rfl (Or.inl rfl) (cu (pv 0) T.aS T.PJ (Ou T) (hr.mono (by decide)) (T.FU.binds (by walk_at "1")) .nil aG)) ⟨_,rfl,p,dx,_,rfl,C1.ob,rfl,p,dx,lw,row,ws,i + 1,z,rfl,C1,gS hd2,z1,by omega,z3,λH2 C2 a2=>?_⟩
  have hd3:=(drop_cons hd2).2
  have a3:=a1.trans a2
  refine @av _ _ _ _ _ _ _ (aP (az bE (pv 1) aM (aA _)) ak ak) ⟨_,rfl,rfl,_,rfl,cI (λh=>?_) (λh4=>aX ?_)⟩
  ·have h:=V.str.inj h
   subst h
   refine @ao _ _ _ _ _ _ (aH (e7 T.uM (MN T) (hr.mono (by decide)) rfl T.D6 (T.Bl.binds (by walk_at "2")) .nil aG (aa (pv 2) ah))) ⟨_,rfl,λx dx' nx ndx ne=>⟨x,dx',z,rfl,af,rfl,?_⟩⟩
   exact q x _ (i + 1 + 1) ⟨dx',by rw [yG,A6];exact af⟩ (C2.same (fN nx ndx)) hd3 (a3.same (fN nx ndx))
  refine @av _ _ _ _ _ _ _ (aP (az bE (pv 1) aM (aA _)) ak ak) ⟨_,rfl,rfl,_,rfl,cI (λh=>?_) (λh5=>aX ?_)⟩
  ·have h:=V.str.inj h
   subst h
   refine @ao _ _ _ _ _ _ (aH (e7 T.zV (Ln T) (hr.mono (by decide)) rfl T.Hi (T.A4.binds (by walk_at "2")) .nil aG (aa (pv 2) ah))) ⟨_,rfl,λx dx' nx ndx ne=>⟨x,dx',z,rfl,af,rfl,?_⟩⟩
   exact q x _ (i + 1 + 1) ⟨dx',by rw [Bg,tW nb (by decide)];exact af⟩ (C2.same (fN nx ndx)) hd3 (a3.same (fN nx ndx))
  refine @av _ _ _ _ _ _ _ (aP (az bE (pv 1) aM (aA _)) ak ak) ⟨_,rfl,rfl,_,rfl,cI (λh=>?_) (λh6=>aX ?_)⟩
  ·have h:=V.str.inj h
   subst h
   refine @ao _ _ _ _ _ _ (aH (e7 T.k6 (Jx T) (hr.mono (by decide)) rfl T.vJ (T.A7.binds (by walk_at "2")) .nil aG (aa (pv 2) ah))) ⟨_,rfl,λx dx' nx ndx ne=>⟨x,dx',z,rfl,af,rfl,?_⟩⟩
   exact q x _ (i + 1 + 1) ⟨dx',by rw [vX,tW nb (by decide)];exact af⟩ (C2.same (fN nx ndx)) hd3 (a3.same (fN nx ndx))
  have h:s = "many" := by
   rcases dW G.sort with e | e | e | e | e | e | e
   ·exact absurd (by rw [e]) h4
   ·exact absurd (by rw [e]) h5
   ·exact absurd (by rw [e]) h6
   ·exact e
   ·exact absurd (by rw [e]) h1
   ·exact absurd (by rw [e]) h2
   ·exact absurd (by rw [e]) h3
  subst h
  refine @ao _ _ _ _ _ _ (aH (e7 T.uN (MK T) (hr.mono (by decide)) rfl T.EA (T.BD.binds (by walk_at "2")) .nil aG (aa (pv 2) ah))) ⟨_,rfl,λx dx' nx ndx ne=>⟨x,dx',z,rfl,af,rfl,?_⟩⟩
  exact q x _ (i + 1 + 1) ⟨dx',by rw [zh,tW nb (by decide)];exact af⟩ (C2.same (fN nx ndx)) hd3 (a3.same (fN nx ndx))
noncomputable def FD (t:fX):Sp:=λvs H Q _=>∃ (p dx lw d:Addr) (nw:V) (row:Int) (ws:List Str) (i g:Nat) (kvs:List (Key × V)),vs = [.ref p,.ref d,nw] /\ lN t H p dx lw row ws i /\ H d = some (.dK kvs) /\ isName (pk ws i) = true /\ jd kvs (.inr (pk ws i)) = some (.int g) /\
 ∀ H',lN t H' p dx lw row ws (i + 1) -> kh H H' p -> Q (.int g) H'
theorem Jt (T:Txt K mg t):bw P w K mg base dP 5 t.rZ t.vH ["cursor","numbers","nowhere"] (FD t):=by
 refine T.wO.ok zX ?_ ?_
 walk_at "i"
 ·obtain ⟨p,dx,lw,d,nw,row,ws,i,g,kvs,rfl,C,hd,hn,hv,q⟩:=h
  refine @av _ _ _ _ _ _ _ (aC (i:=3) zX.nd rfl (Or.inl rfl) (bR (aa (aZ (pv 0) rfl) (aa (aZ (pv 0) rfl) ah)))) ?_
  refine ⟨_,rfl,_,_,_,_,_,rfl,C.ob,T.aS,T.iP,rfl,?_⟩
  refine ⟨_,rfl,_,_,_,_,_,rfl,C.ob,T.aS,T.eV,rfl,?_⟩
  refine ⟨by show 2 <= sizeLine;decide,λpt hpt=>?_⟩
  have s1:au H (upd H pt (.tup [.int row,.int i])):=au.upd hpt
  have C1:=C.same s1
  refine @av _ _ _ _ _ _ _ (aC (i:=4) zX.nd rfl (Or.inl rfl) (cu (pv 0) T.aS T.HC (BP T) (hr.mono (by decide)) (T.yt.binds (by walk_at "1")) .nil aG)) ⟨_,rfl,p,dx,_,rfl,C1.ob,rfl,p,dx,lw,row,ws,i,rfl,C1,hn,λH2 C2 a2=>?_⟩
  have npd:d ≠ p:=cQ hd C.ob (by intro z;cases z)
  have hd2:H2 d = some (.dK kvs):=a2 _ _ (s1 _ _ hd) npd
  refine @av _ _ _ _ _ _ _ (aP (MC (Cj (pG hr) (pv 4) (pv 1))) ak ak) ⟨_,rfl,_,rfl,d,_,rfl,xD.k (k:=.inr (pk ws i)) hd2,_,rfl,?_⟩
  rw [hv]
  refine sr (aX ?_)
  refine @ao _ _ _ _ _ _ (aH (Ey (pG hr) (pv 1) (pv 4) ⟨rfl,rfl,rfl,rfl⟩)) ⟨_,rfl,d,rfl,.inl ⟨kvs,.inl hd2⟩,_,rfl,_,xD.k (k:=.inr (pk ws i)) hd2,?_⟩
  rw [hv]
  exact q H2 C2 (s1.Hy a2)
abbrev jN:List Str:=["stay","push","pop","into"]
abbrev gb (d:Str):Prop:=d = "push" ∨ d = "into"
def o5 (names:List Str):Option Nat -> List Str
 | some g=>[names.getD g ""]
 | none=>[]
theorem tO {names:List Str} {g:Option Nat}:(o5 names g).length <= 1:=by cases g <;> simp [o5]
def cG (names:List Str) (R:bA):List Str:=b9 R.sort R.signs ++ ((if bS R.sort = true then [R.aO] else []) ++ ([R.aW] ++ (o5 names R.goal ++ if R.fold = "" then [] else [R.fold])))
structure fG (names:List Str) (R:bA):Prop where
 pat:oO R.sort R.signs
 col:bS R.sort = true -> isName R.aO = true
 Iu:bS R.sort = false -> R.aO = ""
 aW:R.aW ∈ jN
 goal:gb R.aW -> ∃ g,R.goal = some g /\ g < names.length
 v8:¬ gb R.aW -> R.goal = none
 fold:R.fold = "" ∨ R.fold = "open" ∨ R.fold = "close"
noncomputable def numsOf (names:List Str) (kvs:List (Key × V)):Prop:=∀ (g:Nat) n,names[g]? = some n -> jd kvs (.inr n) = some (.int g)
noncomputable def EG (t:fX):Sp:=λvs H Q _=>∃ (p dx lw d:Addr) (nw:V) (row:Int) (ws:List Str) (kvs:List (Key × V)) (names:List Str) (R:bA),vs = [.ref p,.ref d,nw] /\ lN t H p dx lw row ws 0 /\ ws = cG names R /\ H d = some (.dK kvs) /\ numsOf names kvs /\
 (∀ n ∈ names,isName n = true) /\ fG names R /\ ∀ r H',dz t H' r R -> kh H H' p -> Q (.ref r) H'
theorem jO.Hy {H H':Hp} {p a dx lw:Addr} {row:Int} {ws:List Str} {i:Nat} {s z:Str} (h:jO t H a s z) (C:lN t H p dx lw row ws i) (e:kh H H' p):jO t H' a s z:=by
 obtain ⟨d,x⟩:=h
 refine ⟨d,e _ _ x (cQ x C.ob λq=>?_)⟩
 injection q with _ _ q
 unfold nj cf at q
 split at q
 ·cases q
 ·split at q <;> simp at q
theorem Mz (T:Txt K mg t):bw P w K mg base dP 6 t.rq t.wX ["cursor","numbers","nowhere"] (EG t):=by
 refine T.zC.ok m9 ?_ ?_
 walk_at "i"
 ·obtain ⟨p,dx,lw,d,nw,row,ws,kvs,names,R,rfl,C,hws,hd,hnum,hnm,G,q⟩:=h
  have npd:d ≠ p:=cQ hd C.ob (by intro z;cases z)
  obtain ⟨fe,fs,de,ds,PK⟩:=Ig (P:=P) (w:=w) (base:=base) T G.pat.sort
  refine @av _ _ _ _ _ _ _ (aC (i:=3) m9.nd rfl (Or.inl rfl) (aK (Ka T) (hr.mono (by decide)) rfl T.Lh T.yj.kp (T.yj.binds (by walk_at "1")) .nil aG (aa (pv 0) ah))) ⟨_,rfl,p,dx,lw,row,ws,0,R.sort,R.signs,_,rfl,C,by rw [List.drop_zero,hws,cG],G.pat,λpa H1 j1 hp1 C1 hd1 a1=>?_⟩
  refine aF (λZ' H'=>∃ j,Z' = [some (.ref p),some (.ref d),some nw,some (.ref pa),some (.str R.aO),none,none,none] /\ lN t H' p dx lw row ws j /\ jO t H' pa R.sort R.signs /\ kh H H' p /\
   ws.drop j = R.aW :: (o5 names R.goal ++ if R.fold = "" then [] else [R.fold])) (aC (i:=4) m9.nd rfl (Or.inl rfl) (dh (gG (cu (pv 3) PK.cl PK.ms PK.gs (hr.mono (by decide)) PK.bs .nil aG)) (cu (pv 0) T.aS T.HC (BP T) (hr.mono (by decide)) (T.yt.binds (by walk_at "1")) .nil aG) aM)) ?_ ?_
  ·obtain ⟨dpa,hpa⟩:=hp1
   refine ⟨_,rfl,pa,dpa,_,rfl,hpa,PK.ns _,_,rfl,_,rfl,N8 (λh=>?_) (λh=>?_)⟩
   ·rw [if_pos h] at hd1
    refine ⟨_,rfl,p,dx,_,rfl,C1.ob,rfl,p,dx,lw,row,ws,j1,rfl,C1,by rw [gS hd1];exact G.col h,λH2 C2 a2=>?_⟩
    rw [gS hd1]
    exact ⟨j1 + 1,rfl,C2,jO.Hy ⟨dpa,hpa⟩ C1 a2,a1.trans a2,(drop_cons hd1).2⟩
   ·rw [h,if_neg (by decide)] at hd1
    rw [G.Iu h]
    exact ⟨j1,rfl,C1,⟨dpa,hpa⟩,a1,hd1⟩
  rintro Z' H2 ⟨j2,rfl,C2,hp2,a2,hd2⟩
  refine @av _ _ _ _ _ _ _ (aC (i:=5) m9.nd rfl (Or.inl rfl) (bH (pv 0) T.aS T.Hg (Be T) (hr.mono (by decide)) (T.yf.binds (by walk_at "2")) .nil aG (aa (eG rfl T.BY (v:=V.ref t.jg) rfl) ah))) ⟨_,rfl,p,dx,_,rfl,C2.ob,rfl,p,dx,lw,t.jg,jN,row,ws,j2,rfl,C2,T.DJ _,by rw [gS hd2];exact G.aW,λH3 C3 a3=>?_⟩
  rw [gS hd2]
  have hp3:=hp2.Hy C2 a3
  have a3:=a2.trans a3
  have hd3:=(drop_cons hd2).2
  refine aF (λZ' H'=>∃ j,Z' = [some (.ref p),some (.ref d),some nw,some (.ref pa),some (.str R.aO),some (.str R.aW),some (jf R.goal),none] /\ lN t H' p dx lw row ws j /\ jO t H' pa R.sort R.signs /\ kh H H' p /\
   ws.drop j = if R.fold = "" then [] else [R.fold]) (aC (i:=6) m9.nd rfl (Or.inl rfl) (dh (az fZ (pv 5) (eG rfl T.CJ (v:=V.ref t.jC) rfl) rfl) (aK (Jt T) (hr.mono (by decide)) rfl T.Lo T.wO.kp (T.wO.binds (by walk_at "3")) .nil aG (aa (pv 0) (aa (pv 1) (aa (pv 2) ah)))) bL)) ?_ ?_
  ·refine ⟨_,rfl,_,_,rfl,.inr (T.Gq _),rfl,rfl,_,rfl,?_⟩
   rw [show ([.str "push",.str "into"]:List V) = (["push","into"]:List Str).map V.str from rfl,iX]
   refine cI (λh=>?_) (λh=>?_)
   ·have h:gb R.aW:=by simpa using h
    obtain ⟨g,eg,hg⟩:=G.goal h
    rw [eg] at hd3 ⊢
    have e:=gS hd3
    have hgn:names[g]? = some (names.getD g ""):=by simp [hg]
    have hv:=hnum g _ hgn
    have hin:isName (names.getD g "") = true:=hnm _ (List.mem_of_getElem? hgn)
    refine ⟨_,rfl,_,rfl,_,rfl,p,dx,lw,d,nw,row,ws,j2 + 1,g,kvs,rfl,C3,a3 _ _ hd npd,by rw [e];exact hin,by rw [e];exact hv,λH4 C4 a4=>?_⟩
    exact ⟨_,rfl,C4,hp3.Hy C3 a4,a3.trans a4,(drop_cons hd3).2⟩
   ·have h:¬ gb R.aW:=by simpa using h
    rw [G.v8 h] at hd3 ⊢
    exact ⟨_,rfl,C3,hp3,a3,hd3⟩
  rintro Z' H4 ⟨j4,rfl,C4,hp4,a4,hd4⟩
  refine aF (λZ' H'=>∃ j,Z' = [some (.ref p),some (.ref d),some nw,some (.ref pa),some (.str R.aO),some (.str R.aW),some (jf R.goal),some (.str R.fold)] /\ lN t H' p dx lw row ws j /\ jO t H' pa R.sort R.signs /\ kh H H' p /\
   ws.drop j = []) (aC (i:=7) m9.nd rfl (Or.inl rfl) (dh (gG (cu (pv 0) T.aS T.Iq (BE T) (hr.mono (by decide)) (T.yR.binds (by walk_at "1")) .nil aG)) (bH (pv 0) T.aS T.Hg (Be T) (hr.mono (by decide)) (T.yf.binds (by walk_at "2")) .nil aG (aa (eG rfl T.Ct (v:=V.ref t.jn) rfl) ah)) aM)) ?_ ?_
  ·refine ⟨_,rfl,p,dx,_,rfl,C4.ob,rfl,p,dx,lw,row,ws,j4,rfl,C4,_,rfl,cI (λh=>?_) (λh=>?_)⟩
   ·have hf:R.fold ≠ "" := λz=>by rw [if_pos z] at hd4;have:=xo hd4;omega
    rw [if_neg hf] at hd4
    refine ⟨_,rfl,p,dx,_,rfl,C4.ob,rfl,p,dx,lw,t.jn,["open","close"],row,ws,j4,rfl,C4,T.DA _,?_,λH5 C5 a5=>?_⟩
    ·rw [gS hd4]
     rcases G.fold with z | z | z
     ·exact absurd z hf
     ·rw [z];decide
     ·rw [z];decide
    ·rw [gS hd4]
     exact ⟨_,rfl,C5,hp4.Hy C4 a5,a4.trans a5,(drop_cons hd4).2⟩
   ·have hf:R.fold = "" := by
     by_cases z:R.fold = ""
     ·exact z
     ·rw [if_neg z] at hd4;exact absurd (HJ hd4) h
    rw [if_pos hf] at hd4
    rw [hf]
    exact ⟨_,rfl,C4,hp4,a4,hd4⟩
  rintro Z' H5 ⟨j5,rfl,C5,hp5,a5,hd5⟩
  have hj5:=xo hd5
  refine @av _ _ _ _ _ _ _ (aR (bH (pv 0) T.aS T.Cq (sR T) (hr.mono (by decide)) (T.sE.binds (by walk_at "2")) .nil aG (aa (G3 (cu (pv 0) T.aS T.Iq (BE T) (hr.mono (by decide)) (T.yR.binds (by walk_at "1")) .nil aG)) ah))) ⟨_,rfl,p,dx,_,rfl,C5.ob,rfl,⟨_,rfl,p,dx,_,rfl,C5.ob,rfl,p,dx,lw,row,ws,j5,rfl,C5,_,rfl,?_⟩⟩
  rw [decide_eq_false (by omega)]
  refine ⟨_,rfl,?_⟩
  refine @ao _ _ _ _ _ _ (aH (e7 T.oW (Gn T) (hr.mono (by decide)) rfl T.wZ (T.wI.binds (by walk_at "6")) .nil aG (aa (pv 3) (aa (pv 4) (aa (pv 5) (aa (pv 6) (aa (pv 7) ah))))))) ⟨_,rfl,_,rfl,_,rfl,_,rfl,_,rfl,λx dx' nx ndx ne=>⟨x,dx',pa,R,rfl,af,rfl,?_⟩⟩
  exact q x _ ⟨dx',pa,af,hp5.same (fN nx ndx)⟩ (a5.same (fN nx ndx))
inductive Item where
 | mode (n c:Str)
 | rule (R:bA)
def Item.words (names:List Str):Item -> List Str
 | .mode n c=>["mode",n,c]
 | .rule R=>cG names R
def rowOf (names:List Str) (it:Item):Str:=Str.join ⟨#[32]⟩ (it.words names)
def jm (R:bA):List aE -> List aE
 | []=>[]
 | [m]=>[{ m with rules:=m.rules ++ [R] }]
 | m :: n :: r=>m :: jm R (n :: r)
def stepI (ms:List aE):Item -> List aE
 | .mode n c=>ms ++ [⟨n,c,[]⟩]
 | .rule R=>jm R ms
def foldI (its:List Item):List aE:=its.foldl stepI []
def wF:Item -> List Str
 | .mode n _=>[n]
 | .rule _=>[]
def namesOf (its:List Item):List Str:=its.flatMap wF
structure eu (its:List Item):Prop where
 ne:its ≠ []
 mode:∀ (i:Nat) n c,its[i]? = some (.mode n c) -> isName n = true /\ isName c = true /\ (namesOf (its.take i)).length < 12 /\ n ∉ namesOf (its.take i)
 rule:∀ (i:Nat) R,its[i]? = some (.rule R) -> fG (namesOf its) R /\ ∃ ms m,foldI (its.take i) = ms ++ [m] /\ m.rules.length < 12
theorem jB (R:bA) (m:aE):∀ ms:List aE,jm R (ms ++ [m]) = ms ++ [{ m with rules:=m.rules ++ [R] }]
 | []=>rfl
 | [x]=>rfl
 | x :: y :: r=>by
  show x :: jm R (y :: r ++ [m]) = _
  rw [jB R m (y :: r)]
  rfl
theorem kN (R:bA):∀ ms:List aE,(jm R ms).map (·.name) = ms.map (·.name)
 | []=>rfl
 | [x]=>rfl
 | x :: y :: r=>by
  show x.name :: (jm R (y :: r)).map (·.name) = _
  rw [kN R (y :: r)]
  rfl
theorem take_snoc {α:Type} {l:List α} {i:Nat} {x:α} (h:l[i]? = some x):l.take (i + 1) = l.take i ++ [x]:=by rw [List.take_succ,h];rfl
theorem qz (its:List Item) (it:Item):foldI (its ++ [it]) = stepI (foldI its) it:=by unfold foldI;rw [List.foldl_append];rfl
theorem kc (a b:List Item):namesOf (a ++ b) = namesOf a ++ namesOf b:=by unfold namesOf;rw [List.flatMap_append]
theorem i0:∀ (its:List Item) (ms:List aE),(its.foldl stepI ms).map (·.name) = ms.map (·.name) ++ namesOf its
 | [],ms=>by simp [namesOf]
 | .mode n c :: r,ms=>by
  rw [List.foldl_cons,i0 r]
  simp [stepI,namesOf,wF]
 | .rule R :: r,ms=>by
  rw [List.foldl_cons,i0 r]
  simp [stepI,namesOf,wF,kN]
theorem qc (its:List Item):(foldI its).map (·.name) = namesOf its:=by
 unfold foldI;rw [i0];rfl
structure jx (x:Str):Prop where
 b:32 ∉ x.cps.toList
 n:10 ∉ x.cps.toList
 l:x.length <= 202
theorem cj (x:Str):x.cps.toList.length = x.length:=by simp [Str.length]
theorem kI {x:Str} (h:isName x = true):jx x:=by
 unfold isName at h
 simp only [Bool.and_eq_true,decide_eq_true_eq,List.all_eq_true] at h
 obtain ⟨⟨h1,h2⟩,h3⟩:=h
 refine ⟨λz=>?_,λz=>?_,by omega⟩
 ·exact absurd (h3 _ z) (by decide +kernel)
 ·exact absurd (h3 _ z) (by decide +kernel)
theorem yJ {z:Str} (h:z.length <= 200) (h2:10 ∉ z.cps.toList):jx (je z):=by
 refine ⟨λy=>?_,λy=>?_,?_⟩
 ·rw [gE] at y
  rcases List.mem_cons.mp y with y | y
  ·exact absurd y (by decide)
  ·unfold jZ at y
   obtain ⟨c,_,e⟩:=List.mem_map.mp y
   split at e <;> omega
 ·rw [gE] at y
  rcases List.mem_cons.mp y with y | y
  ·exact absurd y (by decide)
  ·unfold jZ at y
   obtain ⟨c,hc,e⟩:=List.mem_map.mp y
   split at e
   ·omega
   ·exact h2 (e ▸ hc)
 ·have:=congrArg List.length (gE z)
  rw [cj,List.length_cons,jZ,List.length_map,cj] at this
  omega
theorem kC {s:Str} (h:s ∈ sorts):jx s /\ s ≠ "mode" := by
 rcases dW h with rfl | rfl | rfl | rfl | rfl | rfl | rfl <;> exact ⟨⟨by decide +kernel,by decide +kernel,by decide +kernel⟩,by decide +kernel⟩
theorem CQ {s z:Str} (G:oO s z):∀ x ∈ b9 s z,jx x:=by
 intro x hx
 unfold b9 at hx
 split at hx
 ·rw [List.mem_singleton.mp hx];exact (kC G.sort).1
 ·rename_i hb
  obtain ⟨z1,z2,z3,z4⟩:=G.sg hb
  rcases List.mem_cons.mp hx with e | e
  ·rw [e];exact (kC G.sort).1
  ·rw [List.mem_singleton.mp e];exact yJ z2 z4
theorem rS {names:List Str} {R:bA} (hn:∀ n ∈ names,isName n = true) (G:fG names R):∀ x ∈ cG names R,jx x:=by
 intro x hx
 unfold cG at hx
 simp only [List.mem_append] at hx
 rcases hx with hx | hx | hx | hx | hx
 ·exact CQ G.pat x hx
 ·split at hx
  ·rename_i h;rw [List.mem_singleton.mp hx];exact kI (G.col h)
  ·cases hx
 ·rw [List.mem_singleton.mp hx]
  have:=G.aW
  simp only [List.mem_cons,List.not_mem_nil,or_false] at this
  rcases this with e | e | e | e <;> rw [e] <;> exact ⟨by decide +kernel,by decide +kernel,by decide +kernel⟩
 ·cases e:R.goal with
  | some g =>
   rw [e] at hx
   rw [List.mem_singleton.mp hx]
   have hg:g < names.length:=by
    by_cases h:gb R.aW
    ·obtain ⟨g',e',h'⟩:=G.goal h
     rw [e] at e';cases e';exact h'
    ·rw [G.v8 h] at e;cases e
   refine kI (hn _ ?_)
   have:names.getD g "" = names[g]:=by simp [hg]
   rw [this];exact List.getElem_mem hg
  | none=>rw [e] at hx;cases hx
 ·split at hx
  ·cases hx
  ·rw [List.mem_singleton.mp hx]
   rcases G.fold with e | e | e <;> rw [e] <;> exact ⟨by decide +kernel,by decide +kernel,by decide +kernel⟩
theorem A9 {s z:Str}:1 <= (b9 s z).length /\ (b9 s z).length <= 2:=by
 unfold b9
 split
 ·exact ⟨by show 1 <= 1;decide,by show 1 <= 2;decide⟩
 ·exact ⟨by show 1 <= 2;decide,by show 2 <= 2;decide⟩
theorem wz {names:List Str} {R:bA}:1 <= (cG names R).length /\ (cG names R).length <= 7:=by
 have h1:=A9 (s:=R.sort) (z:=R.signs)
 have h2:(if bS R.sort = true then [R.aO] else []).length <= 1:=by split <;> simp
 have h3:=tO (names:=names) (g:=R.goal)
 have h4:(if R.fold = "" then [] else [R.fold]).length <= 1:=by split <;> simp
 unfold cG
 simp only [List.length_append,List.length_cons,List.length_nil]
 omega
theorem ql {its:List Item} (G:eu its):∀ n ∈ namesOf its,isName n = true:=by
 intro n hn
 unfold namesOf at hn
 obtain ⟨it,h1,h2⟩:=List.mem_flatMap.mp hn
 obtain ⟨i,h3⟩:=List.mem_iff_getElem?.mp h1
 cases it with
 | mode a c =>
  have e:n = a:=List.mem_singleton.mp h2
  rw [e]
  exact (G.mode i a c h3).1
 | rule R=>cases h2
theorem sd {its:List Item} (G:eu its) {i:Nat} {it:Item} (h:its[i]? = some it):(∀ x ∈ it.words (namesOf its),jx x) /\ it.words (namesOf its) ≠ [] /\ (it.words (namesOf its)).length <= 7:=by
 cases it with
 | mode n c =>
  obtain ⟨h1,h2,_⟩:=G.mode i n c h
  refine ⟨λx hx=>?_,by simp [Item.words],by simp [Item.words]⟩
  simp only [Item.words,List.mem_cons,List.not_mem_nil,or_false] at hx
  rcases hx with e | e | e
  ·rw [e];exact ⟨by decide +kernel,by decide +kernel,by decide +kernel⟩
  ·rw [e];exact kI h1
  ·rw [e];exact kI h2
 | rule R =>
  obtain ⟨h1,_⟩:=G.rule i R h
  have hl:=wz (names:=namesOf its) (R:=R)
  exact ⟨rS (ql G) h1,λz=>by simp only [Item.words] at z;rw [z] at hl;simp at hl,hl.2⟩
theorem ua {c d:Nat} (hcd:d ≠ c):∀ {ps:List (List Nat)},(∀ p ∈ ps,d ∉ p) -> d ∉ gk c ps
 | [],_,z=>by cases z
 | [x],h,z=>h x (by simp) z
 | x :: y :: r,h,z=>by
  unfold gk at z
  rcases List.mem_append.mp z with z | z
  ·exact h x (by simp) z
  ·rcases List.mem_cons.mp z with z | z
   ·exact hcd z
   ·exact ua hcd (λp hp=>h p (List.mem_cons_of_mem _ hp)) z
theorem nq {c m:Nat}:∀ {ps:List (List Nat)},(∀ p ∈ ps,p.length <= m) -> (gk c ps).length <= ps.length * (m + 1)
 | [],_=>by simp [gk]
 | [x],h=>by have:=h x (by simp);simp [gk];omega
 | x :: y :: r,h=>by
  have h1:=h x (by simp)
  have h2:=nq (c:=c) (ps:=y :: r) (λp hp=>h p (List.mem_cons_of_mem _ hp))
  unfold gk
  rw [List.length_append,List.length_cons,List.length_cons,Nat.succ_mul]
  omega
theorem jW {its:List Item} (G:eu its) {i:Nat} {it:Item} (h:its[i]? = some it):10 ∉ (rowOf (namesOf its) it).cps.toList /\ (rowOf (namesOf its) it).length <= 1421 /\ PySem.Txt.split (rowOf (namesOf its) it) ⟨#[32]⟩ = it.words (namesOf its):=by
 obtain ⟨h1,h2,h3⟩:=sd G h
 refine ⟨?_,?_,p7 h2 λp hp=>(h1 p hp).b⟩
 ·unfold rowOf
  rw [iu]
  refine ua (by decide) λp hp=>?_
  obtain ⟨x,hx,rfl⟩:=List.mem_map.mp hp
  exact (h1 x hx).n
 ·have h4:=nq (c:=32) (m:=202) (ps:=(it.words (namesOf its)).map λp=>p.cps.toList) (λp hp=>by
   obtain ⟨x,hx,rfl⟩:=List.mem_map.mp hp
   rw [cj];exact (h1 x hx).l)
  rw [← iu,cj,List.length_map] at h4
  unfold rowOf
  omega
def rowsOf (its:List Item):List Str:=its.map (rowOf (namesOf its))
theorem oS {its:List Item} {i:Nat} {x:Str} (h:(rowsOf its)[i]? = some x):∃ it,its[i]? = some it /\ x = rowOf (namesOf its) it:=by
 unfold rowsOf at h
 rw [List.getElem?_map] at h
 obtain ⟨it,h1,h2⟩:=Option.map_eq_some_iff.mp h
 exact ⟨it,h1,h2.symm⟩
theorem AO {its:List Item} (G:eu its):PySem.Txt.split (Str.join ⟨#[10]⟩ (rowsOf its)) ⟨#[10]⟩ = rowsOf its:=by
 refine p7 (by unfold rowsOf;simpa using G.ne) λp hp=>?_
 obtain ⟨i,h⟩:=List.mem_iff_getElem?.mp hp
 obtain ⟨it,h1,rfl⟩:=oS h
 exact (jW G h1).1
theorem text_len {its:List Item} (G:eu its) (hl:its.length <= 200):(Str.join ⟨#[10]⟩ (rowsOf its)).length <= 300000:=by
 have h4:=nq (c:=10) (m:=1421) (ps:=(rowsOf its).map λp=>p.cps.toList) (λp hp=>by
  obtain ⟨x,hx,rfl⟩:=List.mem_map.mp hp
  obtain ⟨i,h⟩:=List.mem_iff_getElem?.mp hx
  obtain ⟨it,h1,rfl⟩:=oS h
  rw [cj];exact (jW G h1).2.1)
 rw [← iu,cj,List.length_map,rowsOf,List.length_map] at h4
 unfold rowsOf
 omega
structure Nums (names:List Str) (kvs:List (Key × V)):Prop where
 has:numsOf names kvs
 not:∀ n,n ∉ names -> jd kvs (.inr n) = none
 len:kvs.length = names.length
theorem Nums.nil:Nums [] []:=⟨λg n h=>by simp at h,λ_ _=>rfl,rfl⟩
theorem Nums.put {names:List Str} {kvs:List (Key × V)} {n:Str} (N:Nums names kvs) (h:n ∉ names):Nums (names ++ [n]) (putK kvs (.inr n) (.int names.length)):=by
 refine ⟨λg m e=>?_,λm hm=>?_,?_⟩
 ·rw [xO]
  rcases cR e with e | ⟨e1,e2⟩
  ·have:m ≠ n:=λz=>h (z ▸ List.mem_of_getElem? e)
   rw [if_neg (λz=>this (Sum.inr.inj z))]
   exact N.has g m e
  ·rw [e2,if_pos rfl,e1]
 ·rw [xO,if_neg (λz=>hm (by rw [Sum.inr.inj z];simp))]
  exact N.not m λz=>hm (List.mem_append_left _ z)
 ·unfold putK
  rw [kj,N.not n h,if_neg (by decide),List.length_append,List.length_append,N.len]
  rfl
noncomputable def MY:Sp:=λvs H Q _=>∃ (a:Addr) (its:List Item),vs = [.ref a] /\ H a = some (.lst ((rowsOf its).map V.str)) /\ eu its /\ its.length <= 200 /\
 ∀ d kvs H',H' d = some (.dK kvs) -> Nums (namesOf its) kvs -> au H H' -> Q (.ref d) H'
theorem pR {names:List Str} {R:bA} (G:fG names R):∃ x r,cG names R = x :: r /\ x ≠ "mode" := by
 unfold cG b9
 split
 ·exact ⟨R.sort,_,rfl,(kC G.pat.sort).2⟩
 ·exact ⟨R.sort,_,rfl,(kC G.pat.sort).2⟩
theorem KQ (T:Txt K mg t):bw P w K mg base dP 1 t.qK t.zm ["rows"] MY:=by
 refine T.wY.ok vq ?_ ?_
 walk_at "i"
 ·obtain ⟨a,its,rfl,ha,G,hlen,q⟩:=h
  have sp1:(" " : Str) = ⟨#[32]⟩:=by decide +kernel
  refine @av _ _ _ _ _ _ _ (aC (i:=1) vq.nd rfl (Or.inl rfl) E3) λd hd=>?_
  refine @aF _ _ _ _ _ _ _ (λZ' H'=>∃ x y kvs,Z' = [some (.ref a),some (.ref d),x,y] /\ H' d = some (.dK kvs) /\ Nums (namesOf its) kvs /\ au H H') (dQ PassesOwn.never rfl (dZ (pv 0)) (bK (i:=2) vq.nd rfl (Or.inl rfl)) ak) ?_ ?_
  ·refine ⟨_,rfl,a,rfl,⟨_,bB.of (by rw [aj (aq ha hd)];exact ha)⟩,e8 (xs:=(rowsOf its).map V.str) (λi Z' H'=>∃ x y kvs,Z' = [some (.ref a),some (.ref d),x,y] /\ H' d = some (.dK kvs) /\ Nums (namesOf (its.take i)) kvs /\ au H H') ⟨_,_,[],rfl,af,Nums.nil,au.upd hd⟩ ?_ ?_ ?_⟩
   ·rintro i Z' H' _ ⟨x,y,kvs,rfl,h1,h2,h3⟩
    exact bB.of (h3 _ _ ha)
   ·rintro i xv Z' H1 hx ⟨x,y,kvs,rfl,h1,h2,s1⟩
    rw [List.getElem?_map] at hx
    obtain ⟨row,hrow,rfl⟩:=Option.map_eq_some_iff.mp hx
    obtain ⟨it,hit,rfl⟩:=oS hrow
    obtain ⟨g1,g2,g3⟩:=jW G hit
    refine @av _ _ _ _ _ _ _ (aC (i:=3) vq.nd rfl (Or.inl rfl) (cJ F.plainAttrs_str F.slot_str_split F.type_str_split qU (pv 2) (aa aM ah))) ⟨_,rfl,rfl,_,_,rfl,rfl,by decide,bI (by omega),λlw hlw=>?_⟩
    rw [sp1,g3]
    have s2:au H1 (upd H1 lw (.lst ((it.words (namesOf its)).map V.str))):=au.upd hlw
    have hw:upd H1 lw (.lst ((it.words (namesOf its)).map V.str)) lw = some (.lst ((it.words (namesOf its)).map V.str)):=af
    have hd2:=s2 _ _ h1
    generalize upd H1 lw (.lst ((it.words (namesOf its)).map V.str)) = H2 at s2 hw hd2
    cases it with
    | mode n c =>
     obtain ⟨m1,m2,m3,m4⟩:=G.mode i n c hit
     refine @ao _ _ _ _ _ _ (aP (PW.pt (fR (az bE (aU aY (pv 3) ai (λ_ _=>rfl)) aM (aA _)) (fj (az iY (aL aT (by rfl) T.bO (by decide +kernel) (aa (pv 3) ah)) ai (aA _))))) ak ak) ⟨_,rfl,_,_,_,_,rfl,rfl,bB.of hw,bq (j:=0) rfl,rfl,_,rfl,cI (λ_=>?_) (λh=>absurd rfl h)⟩
     refine ⟨_,rfl,_,_,rfl,.inl (bB.of hw),_,_,rfl,rfl,_,rfl,cI (λ_=>?_) (λh=>absurd (by simp [Item.words]) h)⟩
     refine @ao _ _ _ _ _ _ (G9 (pG hr) (pv 1) (aU aY (pv 3) ai (λ_ _=>rfl)) (aL Cd (by rfl) T.bO (by decide +kernel) (aa (pv 1) ah)) rfl) ⟨_,rfl,d,kvs,rfl,hd2,_,rfl,_,rfl,_,_,_,_,rfl,rfl,bB.of hw,bq (j:=1) rfl,d,_,rfl,F1.k (k:=.inr n) hd2 ?_,?_⟩
     ·rw [h2.len];exact dw (by omega)
     ·refine ⟨_,_,_,rfl,af,?_,λb o hb=>?_⟩
      ·rw [take_snoc hit,kc,h2.len]
       exact h2.put m4
      ·rw [aj (aq hb hd)];exact s2 _ _ (s1 _ _ hb)
    | rule R =>
     obtain ⟨r1,_⟩:=G.rule i R hit
     obtain ⟨fw,fr,e1,e2⟩:=pR r1
     have hw':H2 lw = some (.lst (V.str fw :: fr.map V.str)):=by rw [hw];simp only [Item.words];rw [e1];rfl
     refine @ao _ _ _ _ _ _ (aP (PW.pt (fR (az bE (aU aY (pv 3) ai (λ_ _=>rfl)) aM (aA _)) (fj (az iY (aL aT (by rfl) T.bO (by decide +kernel) (aa (pv 3) ah)) ai (aA _))))) ak ak) ⟨_,rfl,_,_,_,_,rfl,rfl,bB.of hw',bq (j:=0) rfl,rfl,_,rfl,cI (λh=>absurd (V.str.inj h) e2) (λ_=>aX ?_)⟩
     refine ⟨_,_,kvs,rfl,hd2,?_,s1.trans s2⟩
     rw [take_snoc hit,kc]
     show Nums (namesOf (its.take i) ++ []) kvs
     rw [List.append_nil]
     exact h2
   ·rintro Z' H' ⟨x,y,kvs,rfl,h1,h2,h3⟩
    refine ⟨x,y,kvs,rfl,h1,?_,h3⟩
    rw [List.length_map,rowsOf,List.length_map,List.take_length] at h2
    exact h2
  rintro Z' H' ⟨x,y,kvs,rfl,h1,h2,h3⟩
  exact @ao _ _ _ _ _ _ (aH (pv 1)) ⟨_,rfl,q d kvs H' h1 h2 h3⟩
noncomputable def D0 (t:fX):Sp:=λvs H Q _=>∃ (p dx lw lm:Addr) (row:Int) (n c:Str) (as ls:List Addr) (ms:List aE),vs = [.ref p,.ref lm] /\ lN t H p dx lw row ["mode",n,c] 0 /\ isName n = true /\ isName c = true /\ H lm = some (.lst (as.map V.ref)) /\ cC t H as ls ms /\ ms.length < 12 /\ n ∉ ms.map (·.name) /\
 ∀ m l2 dm H',H' m = some (.ins t.bV dm (mf ⟨n,c,[]⟩ l2)) -> H' l2 = some (.lst []) -> H l2 = none -> kh H H' p -> Q (.ref m) H'
theorem Im {H:Hp} {m dm l p dx lw:Addr} {M:aE} {row:Int} {ws:List Str} {i:Nat} (h:H m = some (.ins t.bV dm (mf M l))) (C:lN t H p dx lw row ws i):m ≠ p:=cQ h C.ob λq=>by
 injection q with _ _ q
 unfold mf cf at q
 simp at q
theorem Lq (T:Txt K mg t):bw P w K mg base dP 5 t.rD t.zj ["cursor","modes"] (D0 t):=by
 refine T.xB.ok zU ?_ ?_
 walk_at "i"
 ·obtain ⟨p,dx,lw,lm,row,n,c,as,ls,ms,rfl,C,hn,hc,hlm,hM,hl12,hnn,q⟩:=h
  have nlp:lm ≠ p:=cQ hlm C.ob (by intro z;cases z)
  refine @av _ _ _ _ _ _ _ (aR (bH (pv 0) T.aS T.Cq (sR T) (hr.mono (by decide)) (T.sE.binds (by walk_at "2")) .nil aG (aa (gv gC (aL aT (by rfl) T.bO (by decide +kernel) (aa (pv 1) ah)) (gX rfl T.rG) (aA _)) ah))) ⟨_,rfl,p,dx,_,rfl,C.ob,rfl,_,rfl,_,_,rfl,.inl (bB.of hlm),_,_,rfl,rfl,?_⟩
  dsimp only
  rw [decide_eq_true (by rw [List.length_map,hM.la];omega)]
  refine ⟨_,rfl,?_⟩
  refine @av _ _ _ _ _ _ _ (aR (bH (pv 0) T.aS T.Hg (Be T) (hr.mono (by decide)) (T.yf.binds (by walk_at "2")) .nil aG (aa (bR (aa aM ah)) ah))) ⟨_,rfl,p,dx,_,rfl,C.ob,rfl,by show 1 <= sizeLine;decide,λpt hpt=>?_⟩
  have s1:au H (upd H pt (.tup [.str "mode"])):=au.upd hpt
  have C1:=C.same s1
  refine ⟨p,dx,lw,pt,["mode"],row,_,0,rfl,C1,fY.of af,List.mem_singleton.mpr rfl,λH2 C2 a2=>?_⟩
  have a2:=s1.Hy a2
  have hlm2:H2 lm = some (.lst (as.map V.ref)):=a2 _ _ hlm nlp
  refine @av _ _ _ _ _ _ _ (@aR _ _ _ _ (@bH _ _ _ _ _ _ _ _ _ _ _ _ _ _ _ _ _ _ _ _ (pv 0) T.aS T.Cq (sR T) (hr.mono (by decide)) (T.sE.binds (by walk_at "2")) .nil aG (@aa _ _ _ _ _ (@gv _ _ _ _ _ _ _ _ vo (@cu _ _ _ _ _ _ _ _ _ _ _ _ _ _ _ _ _ (pv 0) T.aS T.zL (pN T) (hr.mono (by decide)) (T.rL.binds (by walk_at "1")) .nil aG (by left)) (@iO _ (ay BX) _ ["cursor","modes","name","colour"] _ _ ("mode") _ _ [] _ _ (by walk_at "ck") (@dZ _ _ _ _ (pv 1)) (λ_ _ _ _=>by exact (@oX _ K _ _ _ _ (pv 0) rfl (by left))) (by left) (by left) (by left) (by left)) rfl) ah (by left)) (by left) (by left) (by left)) (by left)) ?_
  refine ⟨_,rfl,p,dx,_,rfl,C2.ob,rfl,⟨_,rfl,p,dx,_,rfl,C2.ob,rfl,p,dx,lw,row,_,0 + 1,rfl,C2,?_⟩⟩
  refine ⟨_,rfl,lm,rfl,⟨_,bB.of hlm2⟩,iU (xs:=as.map V.ref) (λi ys H'=>H' = H2 /\ ys = ((ms.map (·.name)).take i).map V.str) ⟨rfl,rfl⟩ (dw (by rw [List.length_map,hM.la];omega)) ?_ ?_ ?_⟩
  ·rintro i ys H' _ ⟨rfl,_⟩
   exact bB.of hlm2
  ·rintro i xv ys H' hx hyl ⟨rfl,rfl⟩
   rw [List.getElem?_map] at hx
   obtain ⟨a,ha,rfl⟩:=Option.map_eq_some_iff.mp hx
   have hi:i < as.length:=(List.getElem?_eq_some_iff.mp ha).1
   obtain ⟨m,hm⟩:∃ m,ms[i]? = some m:=⟨ms[i]'(by rw [← hM.la];exact hi),List.getElem?_eq_getElem _⟩
   obtain ⟨l,hll⟩:∃ l,ls[i]? = some l:=⟨ls[i]'(by rw [hM.ll,← hM.la];exact hi),List.getElem?_eq_getElem _⟩
   obtain ⟨dm,rs,o1,o2,o3⟩:=hM.ob i a l m ha hll hm
   refine ⟨_,rfl,a,t.bV,dm,_,_,rfl,a2 _ _ o1 (Im o1 C),T.fk,T.gp,rfl,?_⟩
   refine ez (by rw [List.length_map];exact hi) hyl ⟨rfl,?_⟩
   rw [take_snoc (l:=ms.map (·.name)) (x:=m.name) (by rw [List.getElem?_map,hm];rfl),List.map_append]
   rfl
  ·rintro ys H' hyl ⟨rfl,rfl⟩ D hD
   have hall:(ms.map (·.name)).take (as.map V.ref).length = ms.map (·.name):=List.take_of_length_le (by rw [List.length_map,List.length_map,hM.la];omega)
   rw [hall]
   have s3:au H' (upd H' D (.lst ((ms.map (·.name)).map V.str))):=au.upd hD
   have C3:=C2.same s3
   refine ⟨D,_,rfl,.inl (bB.of af),rfl,tY,?_⟩
   rw [if_pos rfl,iX,decide_eq_false (p:=pk ["mode",n,c] (0 + 1) ∈ ms.map (·.name)) hnn]
   refine ⟨_,rfl,?_⟩
   refine @av _ _ _ _ _ _ _ (aC (i:=2) zU.nd rfl (Or.inl rfl) (cu (pv 0) T.aS T.HC (BP T) (hr.mono (by decide)) (T.yt.binds (by walk_at "1")) .nil aG)) ⟨_,rfl,p,dx,_,rfl,C3.ob,rfl,p,dx,lw,row,_,0 + 1,rfl,C3,hn,λH4 C4 a4=>?_⟩
   refine @av _ _ _ _ _ _ _ (aC (i:=3) zU.nd rfl (Or.inl rfl) (cu (pv 0) T.aS T.HC (BP T) (hr.mono (by decide)) (T.yt.binds (by walk_at "1")) .nil aG)) ⟨_,rfl,p,dx,_,rfl,C4.ob,rfl,p,dx,lw,row,_,0 + 1 + 1,rfl,C4,hc,λH5 C5 a5=>?_⟩
   have a5:=(a2.same s3).trans (a4.trans a5)
   refine @av _ _ _ _ _ _ _ (aR (bH (pv 0) T.aS T.Cq (sR T) (hr.mono (by decide)) (T.sE.binds (by walk_at "2")) .nil aG (aa (G3 (cu (pv 0) T.aS T.Iq (BE T) (hr.mono (by decide)) (T.yR.binds (by walk_at "1")) .nil aG)) ah))) ⟨_,rfl,p,dx,_,rfl,C5.ob,rfl,⟨_,rfl,p,dx,_,rfl,C5.ob,rfl,p,dx,lw,row,_,0 + 1 + 1 + 1,rfl,C5,_,rfl,?_⟩⟩
   refine ⟨_,rfl,?_⟩
   refine @ao _ _ _ _ _ _ (aH (e7 T.o4 (FL T) (hr.mono (by decide)) rfl T.yz (T.ze.binds (by walk_at "4")) .nil aG (aa (pv 2) (aa (pv 3) (aa (bC ah) ah))))) ⟨_,rfl,_,rfl,by show 0 <= sizeLine;decide,λl1 hl1=>?_⟩
   intro x dm nx ndm ne
   have nl1:l1 ≠ x:=aq af nx
   have nl2:l1 ≠ dm:=aq af ndm
   refine ⟨x,dm,l1,n,c,[],rfl,af,by rw [aj nl1,aj nl2];exact af,λl2 H6 h1 h2 h3 h4=>⟨rfl,?_⟩⟩
   have key:∀ b o,H5 b = some o -> b ≠ x /\ b ≠ dm /\ b ≠ l1:=λb o hb=>by
    have e1:b ≠ l1:=aq hb hl1
    have hb':upd H5 l1 (.lst []) b = some o:=by rw [aj e1];exact hb
    exact ⟨aq hb' nx,aq hb' ndm,e1⟩
   have hadv:∀ b o,H5 b = some o -> H6 b = some o:=λb o hb=>by
    obtain ⟨k1,k2,k3⟩:=key b o hb
    refine h4 b o ?_ k1
    rw [aj k1,aj k2,aj k3];exact hb
   refine q x l2 dm H6 h2 h3 ?_ λb o hb nb=>hadv b o (a5 b o hb nb)
   cases e:H l2 with
   | none=>rfl
   | some o =>
    by_cases z:l2 = p
    ·have h5:=hadv p _ C5.ob
     rw [z,h5] at h3
     cases h3
    ·have h5:=a5 _ _ e z
     obtain ⟨k1,k2,k3⟩:=key _ _ h5
     rw [aj k1,aj k2,aj k3,h5] at h1
     cases h1
noncomputable def Ly (t:fX):Sp:=λvs H Q _=>∃ (its:List Item),vs = [.str (Str.join ⟨#[10]⟩ (rowsOf its))] /\ eu its /\ its.length <= 200 /\ ∀ a H',IsRules t H' a (foldI its) -> au H H' -> Q (.ref a) H'
theorem tK (its:List Item):(foldI its).length = (namesOf its).length:=by rw [← qc,List.length_map]
theorem kh.fresh {H H1 H2:Hp} {p:Addr} (s:au H H1) (h:H p = none) (a:kh H1 H2 p):au H H2:=λb o hb=>a b o (s b o hb) (aq hb h)
theorem dz.kP {H:Hp} {r l:Addr} {R:bA} {xs:List V} {o:HO} (h:dz t H r R) (hl:H l = some (.lst xs)):dz t (upd H l o) r R:=by
 obtain ⟨dx,p,x,⟨dp,y⟩⟩:=h
 exact ⟨dx,p,by rw [aj (cQ x hl (by intro z;cases z))];exact x,dp,by rw [aj (cQ y hl (by intro z;cases z))];exact y⟩
theorem cC.kP {H:Hp} {as ls:List Addr} {ms:List aE} {l:Addr} {xs:List V} {o:HO} (h:cC t H as ls ms) (hl:H l = some (.lst xs)) (hn:l ∉ ls):cC t (upd H l o) as ls ms :=
 ⟨h.la,h.ll,h.nd,λi a l' m h1 h2 h3=>by
  obtain ⟨dx,rs,x,y,z⟩:=h.ob i a l' m h1 h2 h3
  exact ⟨dx,rs,by rw [aj (cQ x hl (by intro z;cases z))];exact x,by rw [aj (show l' ≠ l from λe=>hn (e ▸ List.mem_of_getElem? h2))];exact y,z.mono λ_ _ r=>r.kP hl⟩⟩
theorem cC.alive {H:Hp} {as ls:List Addr} {ms:List aE} (h:cC t H as ls ms) {l:Addr} (hl:l ∈ ls):∃ xs,H l = some (.lst xs):=by
 obtain ⟨i,e⟩:=List.mem_iff_getElem?.mp hl
 have hi:=(List.getElem?_eq_some_iff.mp e).1
 obtain ⟨dx,rs,x,y,z⟩:=h.ob i _ l _ (List.getElem?_eq_getElem (by rw [h.la,← h.ll];exact hi)) e (List.getElem?_eq_getElem (by rw [← h.ll];exact hi))
 exact ⟨_,y⟩
theorem cC.Pq {H:Hp} {as ls:List Addr} {ms:List aE} {m l dm:Addr} {n c:Str} (h:cC t H as ls ms) (hm:H m = some (.ins t.bV dm (mf ⟨n,c,[]⟩ l))) (hl:H l = some (.lst [])) (hn:l ∉ ls):cC t H (as ++ [m]) (ls ++ [l]) (ms ++ [⟨n,c,[]⟩]):=by
 refine ⟨by simp [h.la],by simp [h.ll],?_,λi a l' m' h1 h2 h3=>?_⟩
 ·refine List.nodup_append.mpr ⟨h.nd,by simp,λa ha b hb=>?_⟩
  rw [List.mem_singleton.mp hb]
  exact λe=>hn (e ▸ ha)
 ·have e1:=h.la
  have e2:=h.ll
  rcases cR h1 with h1 | ⟨i1,rfl⟩
  ·have:=(List.getElem?_eq_some_iff.mp h1).1
   rcases cR h2 with h2 | ⟨i2,rfl⟩
   ·rcases cR h3 with h3 | ⟨i3,rfl⟩
    ·exact h.ob i a l' m' h1 h2 h3
    ·omega
   ·omega
  ·rcases cR h2 with h2 | ⟨i2,rfl⟩
   ·have:=(List.getElem?_eq_some_iff.mp h2).1;omega
   ·rcases cR h3 with h3 | ⟨i3,rfl⟩
    ·have:=(List.getElem?_eq_some_iff.mp h3).1;omega
    ·exact ⟨dm,[],hm,hl,cU.nil⟩
theorem Er {l:List Addr} (h:l.Nodup) {i j:Nat} {a:Addr} (h1:l[i]? = some a) (h2:l[j]? = some a):i = j:=by
 obtain ⟨i1,e1⟩:=List.getElem?_eq_some_iff.mp h1
 obtain ⟨j1,e2⟩:=List.getElem?_eq_some_iff.mp h2
 exact (List.getElem_inj h).mp (e1.trans e2.symm)
theorem cC.Px {H:Hp} {as ls:List Addr} {ms:List aE} {m:aE} {l r:Addr} {rs:List Addr} {R:bA} (h:cC t H as ls (ms ++ [m])) (hl:ls[ms.length]? = some l) (hH:H l = some (.lst (rs.map V.ref))) (hA:cU (dz t H) rs m.rules) (hr:dz t H r R) :
  cC t (upd H l (.lst (rs.map V.ref ++ [.ref r]))) as ls (ms ++ [{ m with rules:=m.rules ++ [R] }]):=by
 refine ⟨by rw [h.la];simp,by rw [h.ll];simp,h.nd,λi a l' m' h1 h2 h3=>?_⟩
 rcases cR h3 with h3 | ⟨i3,rfl⟩
 ·have hi:=(List.getElem?_eq_some_iff.mp h3).1
  obtain ⟨dx,rs',x,y,z⟩:=h.ob i a l' m' h1 h2 (by rw [List.getElem?_append_left hi];exact h3)
  refine ⟨dx,rs',by rw [aj (cQ x hH (by intro z;cases z))];exact x,?_,z.mono λ_ _ r=>r.kP hH⟩
  rw [aj (λe=>?_)]
  ·exact y
  ·subst e
   have:=Er h.nd h2 hl
   omega
 ·subst i3
  rw [hl] at h2
  cases h2
  obtain ⟨dx,rs',x,y,z⟩:=h.ob _ a l m h1 hl (by simp)
  refine ⟨dx,rs ++ [r],by rw [aj (cQ x hH (by intro z;cases z))];exact x,by rw [af,List.map_append];rfl,?_⟩
  exact cU.snoc (hA.mono λ_ _ r=>r.kP hH) (hr.kP hH)
theorem uA {α β:Type} {f:α -> β} {as:List α} {k:Nat} {a:α} (hl:as.length = k + 1) (h:as[k]? = some a):vF (as.map f) (-1) = some (f a):=by
 unfold vF G5
 rw [List.length_map,hl]
 have e:((-1:Int) + ((k + 1:Nat):Int)).toNat = k:=by omega
 first
  | (rw [if_neg (by omega),if_pos (by omega)];simp only [Option.bind_some];rw [show (((k + 1:Nat):Int) + (-1:Int)).toNat = k by omega,List.getElem?_map,h];rfl)
  | (rw [if_neg (by omega),if_pos (by omega)];simp only [Option.bind_some];rw [e,List.getElem?_map,h];rfl)
theorem zJ (T:Txt K mg t):bw P w K mg base dP 7 t.qx t.zq ["text"] (Ly t):=by
 refine T.mW.ok jD ?_ ?_
 walk_at "i"
 ·obtain ⟨its,rfl,G,hlen,q⟩:=h
  have nl1:("\n" : Str) = ⟨#[10]⟩:=by decide +kernel
  refine @av _ _ _ _ _ _ _ (aC (i:=1) jD.nd rfl (Or.inl rfl) (cJ F.plainAttrs_str F.slot_str_split F.type_str_split qU (pv 0) (aa aM ah))) ⟨_,rfl,rfl,_,_,rfl,rfl,by decide,bI (by have:=text_len G hlen;omega),λlr hlr=>?_⟩
  rw [nl1,AO G]
  have s1:au H (upd H lr (.lst ((rowsOf its).map V.str))):=au.upd hlr
  have hr1:upd H lr (.lst ((rowsOf its).map V.str)) lr = some (.lst ((rowsOf its).map V.str)):=af
  generalize upd H lr (.lst ((rowsOf its).map V.str)) = H1 at s1 hr1
  refine @av _ _ _ _ _ _ _ (aC (i:=2) jD.nd rfl (Or.inl rfl) (aK (KQ T) (hr.mono (by decide)) rfl T.LY T.wY.kp (T.wY.binds (by walk_at "1")) .nil aG (aa (pv 1) ah))) ⟨_,rfl,lr,its,rfl,hr1,G,hlen,λd kvs H2 hd2 hN s2=>?_⟩
  have hr2:=s2 _ _ hr1
  have s2:=s1.trans s2
  refine @av _ _ _ _ _ _ _ (aC (i:=3) jD.nd rfl (Or.inl rfl) (bC ah)) ⟨by show 0 <= sizeLine;decide,λlm hlm=>?_⟩
  have s3:au H2 (upd H2 lm (.lst [])):=au.upd hlm
  have hm3:upd H2 lm (.lst []) lm = some (.lst []):=af
  generalize upd H2 lm (.lst []) = H3 at s3 hm3
  have hlm0:H lm = none:=s2.free hlm
  have hr3:=s3 _ _ hr2
  have hd3:=s3 _ _ hd2
  have s3:=s2.trans s3
  refine @av _ _ _ _ _ _ _ (aC (i:=4) jD.nd rfl (Or.inl rfl) (bC ah)) ⟨by show 0 <= sizeLine;decide,λnw hnw=>?_⟩
  have s4:au H3 (upd H3 nw (.lst [])):=au.upd hnw
  have hw4:upd H3 nw (.lst []) nw = some (.lst []):=af
  generalize upd H3 nw (.lst []) = H4 at s4 hw4
  have hr4:=s4 _ _ hr3
  have hd4:=s4 _ _ hd3
  have hm4:=s4 _ _ hm3
  have nmw:lm ≠ nw:=aq hm3 hnw
  have s4:=s3.trans s4
  have nlr:lr ≠ lm:=aq hr2 hlm
  have nlrw:lr ≠ nw:=aq hr3 hnw
  refine @aF _ _ _ _ _ _ _ (λZ' H'=>∃ x5 x6 x7 x8 as ls,Z' = [some (.str (Str.join ⟨#[10]⟩ (rowsOf its))),some (.ref lr),some (.ref d),some (.ref lm),some (.ref nw),x5,x6,x7,x8] /\ H' lm = some (.lst (as.map V.ref)) /\ H' nw = some (.lst []) /\ cC t H' as ls (foldI its) /\ au H H') (dQ PassesOwn.never rfl (Br rfl T.jk (aa (pv 1) ah)) (pJ rfl (cE (bK (i:=5) jD.nd rfl (Or.inl rfl)) (cE (bK (i:=6) jD.nd rfl (Or.inl rfl)) mQ))) ak) ?_ ?_
  ·refine ⟨_,rfl,lr,_,rfl,bB.of hr4,uu (xs:=(rowsOf its).map V.str) (λi Z' H'=>∃ x5 x6 x7 x8 as ls,Z' = [some (.str (Str.join ⟨#[10]⟩ (rowsOf its))),some (.ref lr),some (.ref d),some (.ref lm),some (.ref nw),x5,x6,x7,x8] /\ H' lm = some (.lst (as.map V.ref)) /\ H' nw = some (.lst []) /\ H' lr = some (.lst ((rowsOf its).map V.str)) /\ H' d = some (.dK kvs) /\ cC t H' as ls (foldI (its.take i)) /\ lm ∉ ls /\ nw ∉ ls /\ lr ∉ ls /\ (∀ l ∈ ls,H l = none) /\ au H H') ?_ ?_ ?_ ?_⟩
   ·exact ⟨_,_,_,_,[],[],rfl,hm4,hw4,hr4,hd4,⟨rfl,rfl,List.nodup_nil,λi a l m h=>by simp at h⟩,by simp,by simp,by simp,by simp,s4⟩
   ·rintro i Z' H' _ ⟨x5,x6,x7,x8,as,ls,rfl,h1,h2,h3,_⟩
    exact bB.of h3
   ·rintro i xv pt Z' H5 hx hpt ⟨x5,x6,x7,x8,as,ls,rfl,hm5,hw5,hr5,hd5,hM,nl1',nl2',nl3',hfr,s5⟩
    rw [List.getElem?_map] at hx
    obtain ⟨row,hrow,rfl⟩:=Option.map_eq_some_iff.mp hx
    obtain ⟨it,hit,rfl⟩:=oS hrow
    obtain ⟨g1,g2,g3⟩:=jW G hit
    obtain ⟨w1,w2,w3⟩:=sd G hit
    have s6:au H5 (upd H5 pt (.tup [.int i,.str (rowOf (namesOf its) it)])):=au.upd hpt
    refine ⟨pt,[.int i,.str (rowOf (namesOf its) it)],rfl,fY.of af,rfl,_,_,rfl,_,_,rfl,rfl,?_⟩
    generalize upd H5 pt (.tup [.int i,.str (rowOf (namesOf its) it)]) = H6 at s6
    refine @av _ _ _ _ _ _ _ (aC (i:=7) jD.nd rfl (Or.inl rfl) (e7 T.nF (Nl T) (hr.mono (by decide)) rfl T.Ak (T.Io.binds (by walk_at "3")) .nil aG (aa (pv 5) (aa (pv 6) ah)))) ⟨_,rfl,_,rfl,λp dx np ndx ne=>⟨p,dx,i,_,rfl,af,by omega,by rw [g3];omega,λlw H7 hlw C7 a7=>⟨rfl,?_⟩⟩⟩
    rw [g3] at C7
    have s7:au H5 H7:=λb o hb=>a7 b o (by rw [aj (aq (s6 _ _ hb) np),aj (aq (s6 _ _ hb) ndx)];exact s6 _ _ hb) (aq (s6 _ _ hb) np)
    have hp5:H5 p = none:=s6.free np
    have hm7:=s7 _ _ hm5
    have hM7:=hM.same s7
    have hml:as.length = (foldI (its.take i)).length:=hM.la
    cases it with
    | mode n c =>
     obtain ⟨m1,m2,m3,m4⟩:=G.mode i n c hit
     refine @ao _ _ _ _ _ _ (aP (PW.pt (i9 (kU (jt (pv 3) (λ_=>rfl))) (iG (az bE (cu (pv 7) T.aS T.zL (pN T) (hr.mono (by decide)) (T.rL.binds (by walk_at "1")) .nil aG) aM (aA _))))) ak ak) ⟨_,rfl,_,.inl ⟨_,bB.of hm7,rfl⟩,?_⟩
     refine (λhb=>N8 (λ_=>zW hb) (λ_=>⟨_,rfl,p,dx,_,rfl,C7.ob,rfl,p,dx,lw,i,_,0,rfl,C7,rfl,_,rfl,cI (λ_=>hb) (λh=>absurd rfl h)⟩)) ?_
     refine @ao _ _ _ _ _ _ (aR (cJ F.plainAttrs_list F.slot_list_append F.type_list_append bJ (pv 3) (aa (aK (Lq T) (hr.mono (by decide)) rfl T.Lj T.xB.kp (T.xB.binds (by walk_at "2")) .nil aG (aa (pv 7) (aa (pv 3) ah))) ah))) ⟨_,rfl,.inl ⟨rfl,_,bB.of hm7⟩,_,rfl,_,rfl,p,dx,lw,lm,i,n,c,as,ls,_,rfl,C7,m1,m2,hm7,hM7,by rw [tK];exact m3,by rw [qc];exact m4,λm l2 dm H8 e1 e2 e3 a8=>?_⟩
     have s8:au H5 H8:=kh.fresh s7 hp5 a8
     have hm8:=s8 _ _ hm5
     have n1:lm ≠ l2:=aq hm7 e3
     have hn2:l2 ∉ ls:=λz=>by
      obtain ⟨xs,hx⟩:=hM7.alive z
      rw [hx] at e3;cases e3
     refine ⟨lm,_,_,rfl,rfl,hm8,dw (by rw [List.length_map,hml,tK];omega),?_⟩
     refine ⟨_,_,_,_,as ++ [m],ls ++ [l2],rfl,by rw [af,List.map_append];rfl,?_,?_,?_,?_,?_,?_,?_,?_,?_⟩
     ·rw [aj (Ne.symm nmw)];exact s8 _ _ hw5
     ·rw [aj nlr];exact s8 _ _ hr5
     ·rw [aj (cQ hd5 hm5 (by intro z;cases z))];exact s8 _ _ hd5
     ·rw [take_snoc hit,qz]
      exact cC.Pq ((hM.same s8).kP hm8 nl1') (by rw [aj (cQ e1 hm8 (by intro z;cases z))];exact e1) (by rw [aj (Ne.symm n1)];exact e2) hn2
     ·intro z
      rcases List.mem_append.mp z with z | z
      ·exact nl1' z
      ·exact n1 (List.mem_singleton.mp z)
     ·intro z
      rcases List.mem_append.mp z with z | z
      ·exact nl2' z
      ·exact aq (s7 _ _ hw5) e3 (List.mem_singleton.mp z)
     ·intro z
      rcases List.mem_append.mp z with z | z
      ·exact nl3' z
      ·exact aq (s7 _ _ hr5) e3 (List.mem_singleton.mp z)
     ·intro l hl
      rcases List.mem_append.mp hl with z | z
      ·exact hfr l z
      ·rw [List.mem_singleton.mp z];exact (s5.trans s7).free e3
     ·intro b o hb
      rw [aj (aq hb hlm0)]
      exact s8 _ _ (s5 _ _ hb)
    | rule R =>
     obtain ⟨r1,ms,m,hms,hm12⟩:=G.rule i R hit
     obtain ⟨fw,fr,f1,f2⟩:=pR r1
     rw [hms] at hM hM7 hml
     have hk:as.length = ms.length + 1:=by rw [hml];simp
     obtain ⟨a,ha⟩:∃ a,as[ms.length]? = some a:=⟨as[ms.length]'(by omega),List.getElem?_eq_getElem _⟩
     obtain ⟨l,hl⟩:∃ l,ls[ms.length]? = some l:=⟨ls[ms.length]'(by rw [hM.ll];simp),List.getElem?_eq_getElem _⟩
     obtain ⟨dm,rs,o1,o2,o3⟩:=hM.ob ms.length a l m ha hl (by simp)
     have o1':=s7 _ _ o1
     have o2':=s7 _ _ o2
     have hrl:rs.length < 12:=by rw [o3.1];exact hm12
     have hl0:H l = none:=hfr l (List.mem_of_getElem? hl)
     have hnl:l ∈ ls:=List.mem_of_getElem? hl
     refine @ao _ _ _ _ _ _ (aP (PW.pt (i9 (kU (jt (pv 3) (λ_=>rfl))) (iG (az bE (cu (pv 7) T.aS T.zL (pN T) (hr.mono (by decide)) (T.rL.binds (by walk_at "1")) .nil aG) aM (aA _))))) ak ak) ⟨_,rfl,_,.inl ⟨_,bB.of hm7,rfl⟩,N8 (λh=>?_) (λ_=>?_)⟩
     ·exfalso
      have:as ≠ []:=λz=>by rw [z] at hk;simp at hk
      cases as with
      | nil=>exact this rfl
      | cons _ _=>simp at h
     refine ⟨_,rfl,p,dx,_,rfl,C7.ob,rfl,p,dx,lw,i,_,0,rfl,C7,rfl,_,rfl,cI (λh=>?_) (λ_=>?_)⟩
     ·exfalso
      refine f2 ?_
      have h:=V.str.inj h
      simp only [Item.words,f1] at h
      exact h
     refine @av _ _ _ _ _ _ _ (aC (i:=8) jD.nd rfl (Or.inl rfl) (aZ (aU aY (pv 3) (jh gA ai) (λ_ _=>rfl)) rfl)) ⟨_,rfl,_,rfl,_,_,_,_,rfl,rfl,bB.of hm7,uA hk ha,a,t.bV,dm,_,_,rfl,o1',T.fk,T.dI,rfl,?_⟩
     refine @av _ _ _ _ _ _ _ (aR (bH (pv 7) T.aS T.Cq (sR T) (hr.mono (by decide)) (T.sE.binds (by walk_at "2")) .nil aG (aa (gv gC (aL aT (by rfl) T.bO (by decide +kernel) (aa (pv 8) ah)) (gX rfl T.pF) (aA _)) ah))) ⟨_,rfl,p,dx,_,rfl,C7.ob,rfl,_,rfl,_,_,rfl,.inl (bB.of o2'),_,_,rfl,rfl,?_⟩
     dsimp only
     rw [decide_eq_true (by rw [List.length_map];omega)]
     refine ⟨_,rfl,?_⟩
     refine @ao _ _ _ _ _ _ (aR (cJ F.plainAttrs_list F.slot_list_append F.type_list_append bJ (pv 8) (aa (aK (Mz T) (hr.mono (by decide)) rfl T.Kz T.zC.kp (T.zC.binds (by walk_at "3")) .nil aG (aa (pv 7) (aa (pv 2) (aa (pv 4) ah)))) ah))) ⟨_,rfl,.inl ⟨rfl,_,bB.of o2'⟩,_,rfl,_,rfl,_,rfl,p,dx,lw,d,_,i,_,kvs,namesOf its,R,rfl,C7,rfl,s7 _ _ hd5,hN.has,ql G,r1,λr H8 hr8 a8=>?_⟩
     have s8:au H5 H8:=kh.fresh s7 hp5 a8
     have o2'':=s8 _ _ o2
     refine ⟨l,_,_,rfl,rfl,o2'',dw (by rw [List.length_map];omega),?_⟩
     refine ⟨_,_,_,_,as,ls,rfl,?_,?_,?_,?_,?_,nl1',nl2',nl3',hfr,?_⟩
     ·rw [aj (show lm ≠ l from λz=>nl1' (z ▸ hnl))];exact s8 _ _ hm5
     ·rw [aj (show nw ≠ l from λz=>nl2' (z ▸ hnl))];exact s8 _ _ hw5
     ·rw [aj (show lr ≠ l from λz=>nl3' (z ▸ hnl))];exact s8 _ _ hr5
     ·rw [aj (cQ hd5 o2 (by intro z;cases z))];exact s8 _ _ hd5
     ·rw [take_snoc hit,qz,hms]
      show cC _ _ _ _ (jm R (ms ++ [m]))
      rw [jB]
      exact (hM.same s8).Px hl o2'' (o3.mono λ_ _ r=>r.same s8) hr8
     ·intro b o hb
      rw [aj (aq hb hl0)]
      exact s8 _ _ (s5 _ _ hb)
   ·rintro Z' H' ⟨x5,x6,x7,x8,as,ls,rfl,h1,h2,h3,h4,h5,_,_,_,_,h6⟩
    rw [List.length_map,rowsOf,List.length_map,List.take_length] at h5
    exact ⟨_,_,_,_,as,ls,rfl,h1,h2,h5,h6⟩
  rintro Z' H' ⟨x5,x6,x7,x8,as,ls,rfl,h1,h2,h5,h6⟩
  refine @av _ _ _ _ _ _ _ (aP (jt (pv 4) (λ_=>rfl)) ak ak) ⟨_,rfl,_,.inl ⟨_,bB.of h2,rfl⟩,sr (aX ?_)⟩
  refine @ao _ _ _ _ _ _ (aH (e7 T.lR (GO T) (hr.mono (by decide)) rfl T.uc (T.yq.binds (by walk_at "2")) .nil aG (aa (pv 3) ah))) ⟨_,rfl,λx dx nx ndx ne=>⟨x,dx,lm,_,rfl,af,by rw [aj (aq h1 nx),aj (aq h1 ndx)];exact h1,λl2 H8 e1 e2 e3 e4=>⟨rfl,?_⟩⟩⟩
  have s8:au H' H8:=λb o hb=>e4 b o (by rw [aj (aq hb nx),aj (aq hb ndx)];exact hb) (aq hb nx)
  exact q x H8 ⟨dx,l2,as,ls,e2,e3,h5.same s8⟩ (h6.trans s8)
def eF (R:bA) (row:Str) (i:Nat):Bool:=decide (eL R.sort R.signs row i ≠ .cM)
def iW (row:Str) (i:Nat):Nat -> List bA -> Option Nat
 | _,[]=>none
 | k,R :: r=>if eF R row i = true then some k else iW row i (k + 1) r
def firstM (rs:List bA) (row:Str) (i:Nat):Option Nat:=iW row i 0 rs
noncomputable def GoodR (R:bA):Prop:=R.sort ∈ sorts /\ R.signs.length <= 200
noncomputable def u0 (rs:List bA):Prop:=rs.length <= 200 /\ ∀ R ∈ rs,GoodR R
theorem oU {α:Type} {l:List α} {i:Nat} {x:α} (h:l[i]? = some x):l.drop i = x :: l.drop (i + 1):=by
 rw [List.drop_eq_getElem?_toList_append,h];rfl
theorem sZ {row:Str} {i k:Nat} {rs:List bA} {R:bA} {n:Nat} (h:rs[n]? = some R):iW row i k (rs.drop n) = if eF R row i = true then some k else iW row i (k + 1) (rs.drop (n + 1)):=by
 rw [oU h];rfl
theorem IsRules.mode {H:Hp} {a:Addr} {ms:List aE} (h:IsRules t H a ms) {k:Nat} {m:aE} (hm:ms[k]? = some m) :
  ∃ (dx lm:Addr) (as:List Addr) (b lr dm:Addr) (rs:List Addr),H a = some (.ins t.cT dx [("modes",.ref lm)]) /\ H lm = some (.lst (as.map V.ref)) /\ as.length = ms.length /\ as[k]? = some b /\ H b = some (.ins t.bV dm (mf m lr)) /\ H lr = some (.lst (rs.map V.ref)) /\ cU (dz t H) rs m.rules:=by
 obtain ⟨dx,lm,as,ls,ha,hlm,hM⟩:=h
 have hk:=(List.getElem?_eq_some_iff.mp hm).1
 obtain ⟨b,hb⟩:∃ b,as[k]? = some b:=⟨as[k]'(by rw [hM.la];exact hk),List.getElem?_eq_getElem _⟩
 obtain ⟨lr,hlr⟩:∃ b,ls[k]? = some b:=⟨ls[k]'(by rw [hM.ll];exact hk),List.getElem?_eq_getElem _⟩
 obtain ⟨dm,rs,o1,o2,o3⟩:=hM.ob k b lr m hb hlr hm
 exact ⟨dx,lm,as,b,lr,dm,rs,ha,hlm,hM.la,hb,o1,o2,o3⟩
theorem iH {as:List Addr} {k:Nat} {b:Addr} (h:as[k]? = some b):vF (as.map V.ref) ((k:Nat):Int) = some (.ref b):=bq (by rw [List.getElem?_map,h];rfl)
noncomputable def Hh (t:fX):Sp:=λvs H Q _=>∃ (a:Addr) (ms:List aE) (m:aE) (k i:Nat) (row:Str),vs = [.ref a,.int k,.str row,.int i] /\ IsRules t H a ms /\ ms[k]? = some m /\ u0 m.rules /\ row.length <= 1000 /\ i <= row.length /\
 ∀ H',au H H' -> Q (jf (firstM m.rules row i)) H'
theorem Dp (T:Txt K mg t):bw P w K mg base dP 2 t.p6 t.xK ["rules","mode","row","at"] (Hh t):=by
 refine T.rO.ok Ax ?_ ?_
 walk_at "i"
 ·obtain ⟨a,ms,m,k,i,row,rfl,hR,hm,hok,hrow,hi,q⟩:=h
  obtain ⟨dx,lm,as,b,lr,dm,rs,ha,hlm,hal,hb,hmo,hlr,hA⟩:=hR.mode hm
  refine @aF _ _ _ _ _ _ _ (λZ' H'=>(∃ x y,Z' = [some (.ref a),some (.int k),some (.str row),some (.int i),x,y]) /\ au H H' /\ firstM m.rules row i = none) (dQ PassesOwn.never rfl (Br rfl T.jk (aa (aZ (aU aY (aZ (pv 0) rfl) (pv 1) (λ_ _=>rfl)) rfl) ah)) (pJ rfl (cE (bK (i:=4) Ax.nd rfl (Or.inl rfl)) (cE (bK (i:=5) Ax.nd rfl (Or.inl rfl)) mQ))) ak) ?_ ?_
  ·refine ⟨_,rfl,_,_,_,_,_,rfl,ha,T.g9,T.b8,rfl,⟨_,rfl,_,_,_,_,rfl,rfl,bB.of hlm,iH hb,b,t.bV,dm,_,_,rfl,hmo,T.fk,T.dI,rfl,lr,_,rfl,bB.of hlr,uu (xs:=rs.map V.ref) (λn Z' H'=>(∃ x y,Z' = [some (.ref a),some (.int k),some (.str row),some (.int i),x,y]) /\ au H H' /\ firstM m.rules row i = iW row i n (m.rules.drop n)) ⟨⟨_,_,rfl⟩,au.refl H,rfl⟩ ?_ ?_ ?_⟩⟩
   ·rintro n Z' H' _ ⟨_,s1,_⟩
    exact bB.of (s1 _ _ hlr)
   ·rintro n xv pt Z' H1 hx hpt ⟨⟨x,y,rfl⟩,s1,hf⟩
    rw [List.getElem?_map] at hx
    obtain ⟨r,hr0,rfl⟩:=Option.map_eq_some_iff.mp hx
    obtain ⟨R,hR1⟩:∃ R,m.rules[n]? = some R:=⟨m.rules[n]'(by rw [← hA.1];exact (List.getElem?_eq_some_iff.mp hr0).1),List.getElem?_eq_getElem _⟩
    obtain ⟨dr,pa,hr1,dp,hp1⟩:=hA.2 n r R hr0 hR1
    obtain ⟨g1,g2⟩:=hok.2 R (List.mem_of_getElem? hR1)
    obtain ⟨fe,fs,de,ds,PK⟩:=Ig (P:=P) (w:=w) (base:=base) T g1
    have s2:au H (upd H1 pt (.tup [.int n,.ref r])):=s1.trans (au.upd hpt)
    refine ⟨pt,[.int n,.ref r],rfl,fY.of af,rfl,_,_,rfl,_,_,rfl,rfl,?_⟩
    rw [sZ hR1] at hf
    generalize upd H1 pt (.tup [.int n,.ref r]) = H2 at s2
    refine @ao _ _ _ _ _ _ (aP (az fJ (bH (aZ (pv 5) rfl) PK.cl PK.me PK.ge (hr.mono (by decide)) PK.be .nil aG (aa (pv 2) (aa (pv 3) ah))) bL (aA _)) ak ak) (⟨_,rfl,_,_,_,_,_,rfl,(s2 _ _ hr1),T.cD,T.cX,rfl,⟨pa,dp,_,rfl,s2 _ _ hp1,PK.ne _,_,rfl,_,rfl,pa,dp,R.signs,row,i,rfl,s2 _ _ hp1,by omega,hrow,hi,rfl,_,rfl,iB (λh=>?_) (λh=>aX ⟨⟨_,_,rfl⟩,s2,?_⟩)⟩⟩)
    ·refine @ao _ _ _ _ _ _ (aH (pv 4)) ⟨_,rfl,?_⟩
     rw [if_pos (show eF R row i = true from decide_eq_true h)] at hf
     have:=q H2 s2
     rw [hf] at this
     exact this
    ·rw [if_neg (by rw [eF,decide_eq_false (λz=>z h)];decide)] at hf
     exact hf
   ·rintro Z' H' ⟨h1,h2,h3⟩
    rw [List.length_map,hA.1,List.drop_length] at h3
    exact ⟨h1,h2,h3⟩
  rintro Z' H' ⟨⟨x,y,rfl⟩,s1,hn⟩
  refine @ao _ _ _ _ _ _ (aH bL) ?_
  have:=q H' s1
  rw [hn] at this
  exact this
def bW (n:Nat):V:=.int (n:Int)
def bD (on:List Nat) (d:Str) (g:Option Nat):List Nat :=
 if d = "push" then on ++ [g.getD 0] else if d = "into" then on.dropLast ++ [g.getD 0] else if d = "pop" then (if on.length = 1 then [0] else on.dropLast) else on
noncomputable def Bu (R:bA):Prop:=gb R.aW -> ∃ g,R.goal = some g
theorem ym {α:Type}:∀ (l:List α) (x:α),l ≠ [] -> l.set (l.length - 1) x = l.dropLast ++ [x]
 | [],_,h=>absurd rfl h
 | [a],x,_=>rfl
 | a :: b :: r,x,_=>by
  have:=ym (b :: r) x (by simp)
  show a :: (b :: r).set ((b :: r).length - 1) x = a :: ((b :: r).dropLast ++ [x])
  rw [this]
theorem Ip {n:Nat} (h:0 < n):G5 n (-1) = some (n - 1):=by
 unfold G5
 first
  | (rw [if_neg (by omega),if_pos (by omega)];congr 1;omega)
  | (rw [if_pos (by omega)];congr 1;omega)
noncomputable def KA (t:fX):Sp:=λvs H Q _=>∃ (lo r:Addr) (on:List Nat) (R:bA),vs = [.ref lo,.ref r] /\ H lo = some (.lst (on.map bW)) /\ dz t H r R /\ on ≠ [] /\ on.length <= 100000 /\ Bu R /\ Q .cM (upd H lo (.lst ((bD on R.aW R.goal).map bW)))
theorem Kw {H:Hp} {a:Addr} {o:HO} (h:H a = some o):upd H a o = H:=by
 funext b
 by_cases e:b = a
 ·rw [e,af,h]
 ·rw [aj e]
theorem Eo (T:Txt K mg t):bw P w K mg base dP 1 t.qC t.yL ["modes","rule"] (KA t):=by
 refine T.qO.ok Lx ?_ ?_
 walk_at "i"
 ·obtain ⟨lo,r,on,R,rfl,hlo,⟨dr,pa,hr1,hp1⟩,hne,hlen,hg,q⟩:=h
  have nlr:r ≠ lo:=cQ hr1 hlo (by intro z;cases z)
  have hpos:0 < on.length:=by cases on with | nil=>exact absurd rfl hne | cons _ _=>simp
  refine @ao _ _ _ _ _ _ (aP (az bE (aZ (pv 1) rfl) aM (aA _)) ak ak) (⟨_,rfl,_,_,_,_,_,rfl,hr1,T.cD,T.dU,rfl,⟨rfl,_,rfl,cI (λh=>?_) (λh1=>?_)⟩⟩)
  ·have h:=V.str.inj h
   obtain ⟨g,eg⟩:=hg (.inl h)
   refine @ao _ _ _ _ _ _ (aR (cJ F.plainAttrs_list F.slot_list_append F.type_list_append bJ (pv 0) (aa (aZ (pv 1) rfl) ah))) ⟨_,rfl,.inl ⟨rfl,_,bB.of hlo⟩,⟨_,rfl,_,_,_,_,_,rfl,hr1,T.cD,T.gn,rfl,⟨lo,_,_,rfl,rfl,hlo,dw (by rw [List.length_map];omega),?_⟩⟩⟩
   rw [bD,if_pos h,eg,List.map_append] at q
   rw [eg]
   exact q
  ·have h1:R.aW ≠ "push" := λz=>h1 (by rw [z])
   refine @ao _ _ _ _ _ _ (aP (az bE (aZ (pv 1) rfl) aM (aA _)) ak ak) (⟨_,rfl,_,_,_,_,_,rfl,hr1,T.cD,T.dU,rfl,⟨rfl,_,rfl,cI (λh=>?_) (λh2=>?_)⟩⟩)
   ·have h:=V.str.inj h
    obtain ⟨g,eg⟩:=hg (.inr h)
    refine @ao _ _ _ _ _ _ (LJ (aZ (pv 1) rfl) (ME (pv 0) (jh gA ai) set_list)) (⟨_,rfl,_,_,_,_,_,rfl,hr1,T.cD,T.gn,rfl,⟨_,rfl,_,rfl,lo,_,_,_,rfl,rfl,hlo,Ip (by rw [List.length_map];exact hpos),?_⟩⟩)
    rw [bD,if_neg h1,if_pos h,eg,List.map_append] at q
    rw [ym _ _ (by simpa using hne),eg,← List.map_dropLast]
    exact q
   ·have h2:R.aW ≠ "into" := λz=>h2 (by rw [z])
    refine @ao _ _ _ _ _ _ (aP (az bE (aZ (pv 1) rfl) aM (aA _)) ak ak) (⟨_,rfl,_,_,_,_,_,rfl,hr1,T.cD,T.dU,rfl,⟨rfl,_,rfl,cI (λh=>?_) (λh3=>aX ?_)⟩⟩)
    ·have h:=V.str.inj h
     rw [bD,if_neg h1,if_neg h2,if_pos h] at q
     obtain ⟨y,hy⟩:∃ y,(on.map bW)[(on.map bW).length - 1]? = some y:=⟨_,List.getElem?_eq_getElem (by rw [List.length_map];omega)⟩
     refine @av _ _ _ _ _ _ _ (aR (Lz F.plainAttrs_list F.slot_list_pop F.type_list_pop Lk (pv 0))) ⟨_,rfl,.inl ⟨rfl,_,bB.of hlo⟩,lo,_,y,rfl,rfl,hlo,hy,?_⟩
     refine @ao _ _ _ _ _ _ (aP (kU (jt (pv 0) (λ_=>rfl))) ak ak) ⟨_,rfl,_,.inl ⟨_,bB.of af,rfl⟩,?_⟩
     rw [← List.map_dropLast]
     by_cases h1l:on.length = 1
     ·rw [if_pos h1l] at q
      have e:on.dropLast = []:=List.eq_nil_of_length_eq_zero (by rw [List.length_dropLast,h1l])
      rw [e]
      refine zW (@ao _ _ _ _ _ _ (aR (cJ F.plainAttrs_list F.slot_list_append F.type_list_append bJ (pv 0) (aa (gX rfl T.nG) ah))) ⟨_,rfl,.inl ⟨rfl,_,bB.of af⟩,lo,_,_,rfl,rfl,af,by decide,?_⟩)
      rw [iR]
      exact q
     ·rw [if_neg h1l] at q
      have e:on.dropLast ≠ []:=λz=>by
       have:=congrArg List.length z
       rw [List.length_dropLast] at this
       simp at this
       omega
      cases hd:on.dropLast with
      | nil=>exact absurd hd e
      | cons x r =>
       rw [hd] at q
       exact sr (aX q)
    ·have h3:R.aW ≠ "pop" := λz=>h3 (by rw [z])
     rw [bD,if_neg h1,if_neg h2,if_neg h3,Kw hlo] at q
     exact q
theorem Hl {on:List Nat} {d:Str} {g:Option Nat} (h:on ≠ []):bD on d g ≠ []:=by
 unfold bD
 split
 ·simp
 ·split
  ·simp
  ·split
   ·split
    ·simp
    ·intro z
     have:=congrArg List.length z
     rw [List.length_dropLast] at this
     cases on with
     | nil=>exact h rfl
     | cons x r =>
      cases r with
      | nil=>rename_i h1 _ ;simp at *
      | cons y r=>simp at this
   ·exact h
theorem d9 {on:List Nat} {k:Nat} (h:on.getLast? = some k):vF (on.map bW) (-1) = some (bW k):=by
 obtain ⟨pre,rfl⟩:∃ pre,on = pre ++ [k]:=by
  rcases List.eq_nil_or_concat on with rfl | ⟨p,x,rfl⟩
  ·simp at h
  ·simp at h
   exact ⟨p,by rw [h,List.concat_eq_append]⟩
 exact uA (k:=pre.length) (by simp) (by simp)
structure dR (ms:List aE):Prop where
 pos:0 < ms.length
 len:ms.length <= 200
 ok:∀ m ∈ ms,u0 m.rules
 aW:∀ m ∈ ms,∀ R ∈ m.rules,R.aW ∈ jN
 goal:∀ m ∈ ms,∀ R ∈ m.rules,gb R.aW -> ∃ g,R.goal = some g /\ g < ms.length
theorem dR.gd {ms:List aE} (G:dR ms) {m:aE} {R:bA} (h:m ∈ ms) (h2:R ∈ m.rules):Bu R:=λz=>let ⟨g,e,_⟩:=G.goal m h R h2 z;⟨g,e⟩
noncomputable def iC (ms:List aE) (on:List Nat):Prop:=on ≠ [] /\ ∀ x ∈ on,x < ms.length
theorem iC.aW {ms:List aE} (G:dR ms) {on:List Nat} (h:iC ms on) {m:aE} {R:bA} (h1:m ∈ ms) (h2:R ∈ m.rules):iC ms (bD on R.aW R.goal):=by
 refine ⟨Hl h.1,λx hx=>?_⟩
 unfold bD at hx
 split at hx
 ·rename_i e
  obtain ⟨g,eg,hg⟩:=G.goal m h1 R h2 (.inl e)
  rcases List.mem_append.mp hx with hx | hx
  ·exact h.2 x hx
  ·rw [List.mem_singleton.mp hx,eg];exact hg
 ·split at hx
  ·rename_i e
   obtain ⟨g,eg,hg⟩:=G.goal m h1 R h2 (.inr e)
   rcases List.mem_append.mp hx with hx | hx
   ·exact h.2 x (List.dropLast_subset _ hx)
   ·rw [List.mem_singleton.mp hx,eg];exact hg
  ·split at hx
   ·split at hx
    ·rw [List.mem_singleton.mp hx];exact G.pos
    ·exact h.2 x (List.dropLast_subset _ hx)
   ·exact h.2 x hx
def bN (on:List Nat):Nat:=on.getLastD 0
theorem fD {on:List Nat} (h:on ≠ []):on.getLast? = some (bN on):=by
 unfold bN
 rw [List.getLastD_eq_getLast?,List.getLast?_eq_some_getLast h]
 rfl
theorem mE {on:List Nat} (h:on ≠ []):bN on ∈ on:=List.mem_of_getLast? (fD h)
theorem iC.mode {ms:List aE} {on:List Nat} (h:iC ms on):∃ m,ms[bN on]? = some m:=⟨ms[bN on]'(h.2 _ (mE h.1)),List.getElem?_eq_getElem _⟩
def dj (rs:List bA) (row:Str) (i:Nat):Option bA:=(firstM rs row i).bind (rs[·]?)
def ig (rs:List bA) (row:Str):Option bA:=(dj rs row 0).bind λR=>if bS R.sort = true then none else some R
theorem gW {row:Str} {i:Nat}:∀ {rs:List bA} {k n:Nat},iW row i k rs = some n -> k <= n /\ ∃ R,rs[n - k]? = some R /\ eF R row i = true /\ ∀ j,j < n - k -> ∀ R',rs[j]? = some R' -> eF R' row i = false
 | [],k,n,h=>by cases h
 | R :: r,k,n,h=>by
  rw [iW] at h
  split at h
  ·rename_i hf
   cases h
   refine ⟨Nat.le_refl _,R,by rw [Nat.sub_self];rfl,hf,λj hj=>?_⟩
   omega
  ·rename_i hf
   obtain ⟨h1,R',h2,h3,h4⟩:=gW h
   have e:n - k = (n - (k + 1)) + 1:=by omega
   refine ⟨by omega,R',by rw [e,List.getElem?_cons_succ];exact h2,h3,λj hj R'' hR=>?_⟩
   cases j with
   | zero =>
    rw [List.getElem?_cons_zero] at hR
    cases hR
    simpa using hf
   | succ j=>exact h4 j (by omega) R'' (by rw [List.getElem?_cons_succ] at hR;exact hR)
theorem za {rs:List bA} {row:Str} {i n:Nat} (h:firstM rs row i = some n):∃ R,rs[n]? = some R /\ dj rs row i = some R /\ eF R row i = true:=by
 obtain ⟨_,R,h2,h3,_⟩:=gW h
 rw [Nat.sub_zero] at h2
 exact ⟨R,h2,by rw [dj,h];exact h2,h3⟩
noncomputable def Ju (t:fX):Sp:=λvs H Q _=>∃ (a:Addr) (ms:List aE) (m:aE) (k:Nat) (row:Str),vs = [.ref a,.int k,.str row] /\ IsRules t H a ms /\ ms[k]? = some m /\ u0 m.rules /\ row.length <= 1000 /\
 ∀ H',au H H' -> (ig m.rules row = none -> Q .cM H') /\ ∀ R r,ig m.rules row = some R -> dz t H r R -> Q (.ref r) H'
theorem Gu (T:Txt K mg t):bw P w K mg base dP 3 t.pe t.zG ["rules","mode","row"] (Ju t):=by
 refine T.qZ.ok Ab ?_ ?_
 walk_at "i"
 ·obtain ⟨a,ms,m,k,row,rfl,hR,hm,hok,hrow,q⟩:=h
  refine @av _ _ _ _ _ _ _ (aC (i:=3) Ab.nd rfl (Or.inl rfl) (aK (Dp T) (hr.mono (by decide)) rfl T.Fd T.rO.kp (T.rO.binds (by walk_at "4")) .nil aG (aa (pv 0) (aa (pv 1) (aa (pv 2) (aa ai ah)))))) ⟨_,rfl,_,rfl,_,rfl,a,ms,m,k,0,row,rfl,hR,hm,hok,hrow,by omega,λH1 s1=>?_⟩
  obtain ⟨dx,lm,as,b,lr,dm,rs,ha,hlm,hal,hb,hmo,hlr,hA⟩:=hR.mode hm
  cases hf:firstM m.rules row 0 with
  | none =>
   have e:ig m.rules row = none:=by rw [ig,dj,hf];rfl
   exact @av _ _ _ _ _ _ _ (aP (az qq (pv 3) bL (aA _)) ak ak) ⟨_,rfl,rfl,_,rfl,cI (λ_=>@ao _ _ _ _ _ _ (aH bL) ((q H1 s1).1 e)) (λh=>absurd rfl h)⟩
  | some n =>
   obtain ⟨R,hn,hru,_⟩:=za hf
   obtain ⟨r,hr0,hr1⟩:=hA.at hn
   obtain ⟨g1,g2⟩:=hok.2 R (List.mem_of_getElem? hn)
   obtain ⟨fe,fs,de,ds,PK⟩:=Ig (P:=P) (w:=w) (base:=base) T g1
   refine @av _ _ _ _ _ _ _ (aP (az qq (pv 3) bL (aA _)) ak ak) ⟨_,rfl,rfl,_,rfl,cI (λh=>by cases h) (λ_=>aX ?_)⟩
   refine @av _ _ _ _ _ _ _ (aC (i:=4) Ab.nd rfl (Or.inl rfl) (aU aY (aZ (aU aY (aZ (pv 0) rfl) (pv 1) (λ_ _=>rfl)) rfl) (pv 3) (λ_ _=>rfl))) (⟨_,rfl,_,_,_,_,_,rfl,(s1 _ _ ha),T.g9,T.b8,rfl,⟨_,rfl,_,_,_,_,rfl,rfl,bB.of (s1 _ _ hlm),iH hb,b,t.bV,dm,_,_,rfl,s1 _ _ hmo,T.fk,T.dI,rfl,_,rfl,_,_,_,_,rfl,rfl,bB.of (s1 _ _ hlr),iH hr0,?_⟩⟩)
   obtain ⟨dr,pa,o1,dp,o2⟩:=id hr1
   have e:ig m.rules row = if bS R.sort = true then none else some R:=by rw [ig,hru];rfl
   refine @ao _ _ _ _ _ _ (aH (dh (gG (cu (aZ (pv 4) rfl) PK.cl PK.ms PK.gs (hr.mono (by decide)) PK.bs .nil aG)) bL (pv 4))) (⟨_,rfl,_,_,_,_,_,rfl,(s1 _ _ o1),T.cD,T.cX,rfl,⟨pa,dp,_,rfl,s1 _ _ o2,PK.ns _,_,rfl,_,rfl,N8 (λh=>?_) (λh=>⟨_,rfl,?_⟩)⟩⟩)
   ·rw [if_pos h] at e
    exact (q H1 s1).1 e
   ·rw [if_neg (by rw [h];decide)] at e
    exact (q H1 s1).2 R r e hr1
def dY (ms:List aE) (k:Nat) (row:Str):Option bA:=(ms[k]?).bind λm=>ig m.rules row
def gz (ms:List aE) (row:Str) (first:Nat):Nat -> List Nat -> List Nat -> Option (List Nat)
 | 0,_,_=>none
 | f + 1,on,ring=>match dY ms (bN on) row with
  | none=>none
  | some R=>if R.aW = "pop" /\ on.length = 1 /\ first ≠ 0 then none else if bN (bD on R.aW R.goal) = first then some (ring ++ [bN on]) else gz ms row first f (bD on R.aW R.goal) (ring ++ [bN on])
def dS (ms:List aE) (first:Nat) (row:Str):Option (List Nat):=gz ms row first ms.length [first] []
theorem qX {on:List Nat} {d:Str} {g:Option Nat}:(bD on d g).length <= on.length + 1:=by
 unfold bD
 split
 ·simp
 ·split
  ·simp
  ·split
   ·split
    ·simp
    ·simp;omega
   ·omega
theorem pW {rs:List bA} {row:Str} {R:bA} (h:ig rs row = some R):R ∈ rs:=by
 unfold ig at h
 cases e:dj rs row 0 with
 | none=>rw [e] at h;cases h
 | some R' =>
  rw [e] at h
  have:(if bS R'.sort = true then none else some R') = some R:=h
  split at this
  ·cases this
  ·cases this
   unfold dj at e
   cases e2:firstM rs row 0 with
   | none=>rw [e2] at e;cases e
   | some n=>rw [e2] at e;exact List.mem_of_getElem? e
noncomputable def z6 (t:fX):Sp:=λvs H Q _=>∃ (a:Addr) (ms:List aE) (first:Nat) (row:Str),vs = [.ref a,.int first,.str row] /\ IsRules t H a ms /\ dR ms /\ first < ms.length /\ row.length <= 1000 /\
 ∀ H',au H H' -> (dS ms first row = none -> Q .cM H') /\ ∀ ring l,dS ms first row = some ring -> H' l = some (.lst (ring.map bW)) -> H l = none -> Q (.ref l) H'
theorem Dz (T:Txt K mg t):bw P w K mg base dP 4 t.qT t.v5 ["rules","first","row"] (z6 t):=by
 refine T.rN.ok q8 ?_ ?_
 walk_at "i"
 ·obtain ⟨a,ms,first,row,rfl,hR,G,hfirst,hrow,q⟩:=h
  refine @av _ _ _ _ _ _ _ (aC (i:=3) q8.nd rfl (Or.inl rfl) (bC ah)) ⟨by show 0 <= sizeLine;decide,λlg hlg=>?_⟩
  have s1:au H (upd H lg (.lst [])):=au.upd hlg
  have hg1:upd H lg (.lst []) lg = some (.lst []):=af
  generalize upd H lg (.lst []) = H1 at s1 hg1
  refine @av _ _ _ _ _ _ _ (aC (i:=4) q8.nd rfl (Or.inl rfl) (bC (aa (pv 1) ah))) ⟨_,rfl,by show 1 <= sizeLine;decide,λlo hlo=>?_⟩
  have s2:au H1 (upd H1 lo (.lst [.int first])):=au.upd hlo
  have ho2:upd H1 lo (.lst [.int first]) lo = some (.lst ([first].map bW)):=af
  have hg2:=s2 _ _ hg1
  have ngo:lg ≠ lo:=aq hg1 hlo
  have hlo0:H lo = none:=s1.free hlo
  generalize upd H1 lo (.lst [.int first]) = H2 at s2 ho2 hg2
  have s2:=s1.trans s2
  show At _ _ _ [some (.ref a),some (.int first),some (.str row),some (.ref lg),some (.ref lo),none] H2
  obtain ⟨dx,lm,as,ls,ha,hlm,hM⟩:=id hR
  refine @aF _ _ _ _ _ _ _ (λZ' H'=>(∃ x,Z' = [some (.ref a),some (.int first),some (.str row),some (.ref lg),some (.ref lo),x]) /\ au H H' /\ dS ms first row = none) (kg PassesOwn.never (az gC (aL aT (by rfl) T.bO (by decide +kernel) (aa (pv 3) ah)) (aL aT (by rfl) T.bO (by decide +kernel) (aa (aZ (pv 0) rfl) ah)) (aA _)) ak) ?_ ?_
  ·refine ⟨λf Z' H'=>∃ (on ring:List Nat),(∃ x,Z' = [some (.ref a),some (.int first),some (.str row),some (.ref lg),some (.ref lo),x]) /\ H' lg = some (.lst (ring.map bW)) /\ H' lo = some (.lst (on.map bW)) /\ au H H' /\ f + ring.length = ms.length /\ iC ms on /\ on.length <= ring.length + 1 /\ dS ms first row = gz ms row first f on ring,⟨ms.length,[first],[],⟨_,rfl⟩,hg2,ho2,s2,by simp,⟨by simp,by simpa using hfirst⟩,by simp,rfl⟩,?_⟩
   rintro f Z' H3 ⟨on,ring,⟨x,rfl⟩,hg3,ho3,s3,hfl,hon,honl,hrec⟩
   have hlen:=G.len
   refine ⟨_,rfl,_,_,rfl,.inl (bB.of hg3),⟨_,rfl,_,_,_,_,_,rfl,(s3 _ _ ha),T.g9,T.b8,rfl,⟨_,_,rfl,.inl (bB.of (s3 _ _ hlm)),_,_,rfl,rfl,_,rfl,cI (λh=>?_) (λh=>?_)⟩⟩⟩
   ·rw [List.length_map,List.length_map,hM.la] at h
    obtain ⟨f',rfl⟩:∃ f',f = f' + 1:=⟨f - 1,by omega⟩
    obtain ⟨m,hm⟩:=hon.mode
    have hmm:=List.mem_of_getElem? hm
    have hid:dY ms (bN on) row = ig m.rules row:=by rw [dY,hm];rfl
    rw [gz,hid] at hrec
    refine ⟨_,λZ' H' z=>z,?_⟩
    obtain ⟨dx',lm',as',b,lr,dm,rs,ha',hlm',hal',hb,hmo,hlr,hA⟩:=(hR.same s3).mode hm
    cases hi0:ig m.rules row with
    | none =>
     rw [hi0] at hrec
     refine @av _ _ _ _ _ _ _ (aC (i:=5) q8.nd rfl (Or.inl rfl) (aK (Gu T) (hr.mono (by decide)) rfl T.GI T.qZ.kp (T.qZ.binds (by walk_at "3")) .nil aG (aa (pv 0) (aa (aU aY (pv 4) (jh gA ai) (λ_ _=>rfl)) (aa (pv 2) ah))))) ⟨_,rfl,_,rfl,_,rfl,_,_,_,_,rfl,rfl,bB.of ho3,d9 (fD hon.1),_,rfl,a,ms,m,bN on,row,rfl,hR.same s3,hm,G.ok m hmm,hrow,λH4 s4=>⟨λ_=>?_,(λR r e=>by rw [hi0] at e;cases e)⟩⟩
     exact @av _ _ _ _ _ _ _ (aP (az qq (pv 5) bL (aA _)) ak ak) ⟨_,rfl,rfl,_,rfl,cI (λ_=>@ao _ _ _ _ _ _ (aH bL) ((q H4 (s3.trans s4)).1 hrec)) (λh=>absurd rfl h)⟩
    | some R =>
     rw [hi0] at hrec
     have hRm:=pW hi0
     refine @av _ _ _ _ _ _ _ (aC (i:=5) q8.nd rfl (Or.inl rfl) (aK (Gu T) (hr.mono (by decide)) rfl T.GI T.qZ.kp (T.qZ.binds (by walk_at "3")) .nil aG (aa (pv 0) (aa (aU aY (pv 4) (jh gA ai) (λ_ _=>rfl)) (aa (pv 2) ah))))) ⟨_,rfl,_,rfl,_,rfl,_,_,_,_,rfl,rfl,bB.of ho3,d9 (fD hon.1),_,rfl,a,ms,m,bN on,row,rfl,hR.same s3,hm,G.ok m hmm,hrow,λH4 s4=>⟨(λe=>by rw [hi0] at e;cases e),λR' r e hr1=>?_⟩⟩
     rw [hi0] at e
     cases e
     refine @av _ _ _ _ _ _ _ (aP (az qq (pv 5) bL (aA _)) ak ak) ⟨_,rfl,rfl,_,rfl,cI (λh=>by cases h) (λ_=>aX ?_)⟩
     have hr4:=hr1.same s4
     have hg4:=s4 _ _ hg3
     have ho4:=s4 _ _ ho3
     obtain ⟨dr,pa,o1,hpat⟩:=id hr4
     refine @aF _ _ _ _ _ _ _ (λZ' H'=>Z' = [some (.ref a),some (.int first),some (.str row),some (.ref lg),some (.ref lo),some (.ref r)] /\ H' = H4 /\ ¬ (R.aW = "pop" /\ on.length = 1 /\ first ≠ 0)) (aP (PW.pt (fR (az bE (aZ (pv 5) rfl) aM (aA _)) (fR (az bE (aL aT (by rfl) T.bO (by decide +kernel) (aa (pv 4) ah)) ai (aA _)) (fj (az t8 (pv 1) (gX rfl T.nG) (aA _)))))) ak ak) ?_ ?_
     ·refine ⟨_,rfl,_,_,_,_,_,rfl,o1,T.cD,T.dU,rfl,⟨rfl,_,rfl,cI (λh1=>?_) (λh1=>aX ⟨rfl,rfl,λz=>h1 (by rw [z.1])⟩)⟩⟩
      refine ⟨_,rfl,_,_,rfl,.inl (bB.of ho4),rfl,_,rfl,cI (λh2=>?_) (λh2=>aX ⟨rfl,rfl,λz=>h2 (by rw [List.length_map,z.2.1];rfl)⟩)⟩
      refine ⟨_,rfl,rfl,_,rfl,iB (λh3=>?_) (λh3=>aX ⟨rfl,rfl,λz=>z.2.2 (by have:=V.int.inj h3;omega)⟩)⟩
      have h2:=V.int.inj h2
      rw [List.length_map] at h2
      have hc:R.aW = "pop" /\ on.length = 1 /\ first ≠ 0:=⟨V.str.inj h1,by omega,λz=>h3 (by rw [z];rfl)⟩
      simp only [if_pos hc] at hrec
      exact @ao _ _ _ _ _ _ (aH bL) ((q H4 (s3.trans s4)).1 hrec)
     rintro Z' H' ⟨rfl,e,hnc⟩
     rw [e]
     clear e H'
     simp only [if_neg hnc] at hrec
     refine @av _ _ _ _ _ _ _ (aR (cJ F.plainAttrs_list F.slot_list_append F.type_list_append bJ (pv 3) (aa (aU aY (pv 4) (jh gA ai) (λ_ _=>rfl)) ah))) ⟨_,rfl,.inl ⟨rfl,_,bB.of hg4⟩,_,rfl,_,rfl,_,_,_,_,rfl,rfl,bB.of ho4,d9 (fD hon.1),lg,_,_,rfl,rfl,hg4,dw (by rw [List.length_map];omega),?_⟩
     have hg5:upd H4 lg (.lst (ring.map bW ++ [bW (bN on)])) lg = some (.lst ((ring ++ [bN on]).map bW)):=by rw [af,List.map_append];rfl
     have ho5:upd H4 lg (.lst (ring.map bW ++ [bW (bN on)])) lo = some (.lst (on.map bW)):=by rw [aj (Ne.symm ngo)];exact ho4
     have hr5:dz t (upd H4 lg (.lst (ring.map bW ++ [bW (bN on)]))) r R:=hr4.kP hg4
     have s5:au H (upd H4 lg (.lst (ring.map bW ++ [bW (bN on)]))):=λb o hb=>by rw [aj (aq hb hlg)];exact s4 _ _ (s3 _ _ hb)
     generalize upd H4 lg (.lst (ring.map bW ++ [bW (bN on)])) = H5 at hg5 ho5 hr5 s5
     refine @av _ _ _ _ _ _ _ (aR (aK (Eo T) (hr.mono (by decide)) rfl T.Fp T.qO.kp (T.qO.binds (by walk_at "2")) .nil aG (aa (pv 4) (aa (pv 5) ah)))) ⟨_,rfl,_,rfl,lo,r,on,R,rfl,ho5,hr5,hon.1,by omega,G.gd hmm hRm,?_⟩
     have hon6:=hon.aW G hmm hRm
     have hol6:(bD on R.aW R.goal).length <= on.length + 1:=qX
     have hg6:upd H5 lo (.lst ((bD on R.aW R.goal).map bW)) lg = some (.lst ((ring ++ [bN on]).map bW)):=by rw [aj ngo];exact hg5
     have s6:au H (upd H5 lo (.lst ((bD on R.aW R.goal).map bW))):=λb o hb=>by rw [aj (aq hb hlo0)];exact s5 _ _ hb
     refine @ao _ _ _ _ _ _ (aP (az bE (aU aY (pv 4) (jh gA ai) (λ_ _=>rfl)) (pv 1) (aA _)) ak ak) ⟨_,rfl,_,rfl,_,_,_,_,rfl,rfl,bB.of af,d9 (fD hon6.1),_,rfl,rfl,_,rfl,cI (λh=>?_) (λh=>aX ?_)⟩
     ·have h:bN (bD on R.aW R.goal) = first:=by have:=V.int.inj h;omega
      rw [if_pos h] at hrec
      exact @ao _ _ _ _ _ _ (aH (pv 3)) ⟨_,rfl,(q _ s6).2 _ lg hrec hg6 hlg⟩
     ·have h:¬ bN (bD on R.aW R.goal) = first:=λz=>h (by rw [← z];rfl)
      rw [if_neg h] at hrec
      refine ⟨f',by omega,_,_,⟨_,rfl⟩,hg6,af,s6,?_,hon6,?_,hrec⟩
      ·simp only [List.length_append,List.length_cons,List.length_nil];omega
      ·simp only [List.length_append,List.length_cons,List.length_nil];omega
   ·rw [List.length_map,List.length_map,hM.la] at h
    have:f = 0:=by omega
    subst this
    exact ⟨⟨_,rfl⟩,s3,hrec⟩
  rintro Z' H' ⟨⟨x,rfl⟩,s3,hn⟩
  exact @ao _ _ _ _ _ _ (aH bL) ((q H' s3).1 hn)
abbrev uO:Str:=" !\"#$&'()*+,-./0123456789:;<=>?@ABCDEFGHIJKLMNOPQRSTUVWXYZ[\\]^_`abcdefghijklmnopqrstuvwxyz{|}~"
def cW:List Str:="" :: uO.cps.toList.map λc=>(⟨#[c]⟩:Str)
noncomputable def Ij:Sp:=λvs H Q _=>vs = [] /\ ∀ l H',H' l = some (.lst (cW.map V.str)) -> H l = none -> au H H' -> Q (.ref l) H'
theorem Mg (T:Txt K mg t):bw P w K mg base dP 1 t.rJ t.yc [] Ij:=by
 refine T.yo.ok MM (λvs H Q E h=>?_) (λcdv A outer s H vs Q E hr h=>uI ?_)
 ·obtain ⟨rfl,_⟩:=h
  rfl
 ·obtain ⟨rfl,q⟩:=h
  refine @ao _ _ _ _ _ _ (aH (aQ i6 (bC (aa aM ah)) (cz (AS rfl) (by rfl) T.gK (by decide +kernel) (aa (gX rfl T.B8) ah)))) ⟨by show 1 <= sizeLine;decide,λl1 hl1=>⟨_,rfl,by decide +kernel,λl2 hl2=>?_⟩⟩
  refine ⟨l1,l2,_,_,rfl,rfl,au.upd hl2 _ _ af,af,bI (by simp only [r9,List.length_map,List.length_cons,List.length_nil];decide +kernel),λl hl=>?_⟩
  refine q l _ ?_ (((au.upd hl1).to hl2).free hl) (((au.upd hl1).to hl2).to hl)
  rw [af,cW,List.map_cons,List.map_map]
  rfl
theorem B3:∀ r ∈ cW,r.length <= 1:=by
 intro r hr
 rcases List.mem_cons.mp hr with e | e
 ·rw [e];decide
 ·obtain ⟨c,_,rfl⟩:=List.mem_map.mp e
  exact Nat.le_refl 1
def gR (ms:List aE) (row:Str):Nat -> Nat -> Option (List Nat)
 | 0,_=>none
 | n + 1,k=>match dS ms k row with
  | some r=>some r
  | none=>gR ms row n (k + 1)
def gZ (ms:List aE):List Str -> Option (List Nat × Str)
 | []=>none
 | row :: r=>match gR ms row ms.length 0 with
  | some ring=>some (ring,row)
  | none=>gZ ms r
def ic (ms:List aE):Option (List Nat × Str):=gZ ms cW
theorem mP {ms:List aE} {row:Str}:∀ {n k:Nat},gR ms row n k = none -> ∀ j,k <= j -> j < k + n -> dS ms j row = none
 | 0,k,_,j,h1,h2=>by omega
 | n + 1,k,h,j,h1,h2=>by
  rw [gR] at h
  cases e:dS ms k row with
  | some r=>rw [e] at h;cases h
  | none =>
   rw [e] at h
   by_cases z:j = k
   ·rw [z];exact e
   ·exact mP h j (by omega) (by omega)
theorem kM {ms:List aE}:∀ {rows:List Str},gZ ms rows = none -> ∀ row ∈ rows,∀ j,j < ms.length -> dS ms j row = none
 | [],_,row,h,_,_=>by cases h
 | r :: rs,h,row,hr,j,hj=>by
  rw [gZ] at h
  cases e:gR ms r ms.length 0 with
  | some r=>rw [e] at h;cases h
  | none =>
   rw [e] at h
   rcases List.mem_cons.mp hr with z | z
   ·rw [z];exact mP e j (Nat.zero_le _) (by omega)
   ·exact kM h row z j hj
theorem Ae {ms:List aE} (h:ic ms = none):∀ row ∈ cW,∀ j,j < ms.length -> dS ms j row = none:=kM h
def nameAt (ms:List aE) (k:Nat):Str:=match ms[k]? with
 | some m=>m.name
 | none=>""
def Cf (row:Str):V:=if row = "" then .cM else .str row
noncomputable def J7 (t:fX):Sp:=λvs H Q _=>∃ (a:Addr) (ms:List aE),vs = [.ref a] /\ IsRules t H a ms /\ dR ms /\
 ∀ H',au H H' -> (ic ms = none -> Q .cM H') /\ ∀ ring row p l,ic ms = some (ring,row) -> H' p = some (.tup [.ref l,Cf row]) -> H' l = some (.lst ((ring.map (nameAt ms)).map V.str)) -> Q (.ref p) H'
theorem xX {ms:List aE} (G:dR ms) {row:Str} {first:Nat}:∀ {f:Nat} {on ring r:List Nat},iC ms on -> (∀ x ∈ ring,x < ms.length) -> gz ms row first f on ring = some r -> ∀ x ∈ r,x < ms.length
 | 0,on,ring,r,_,_,h=>by cases h
 | f + 1,on,ring,r,ho,hr,h=>by
  rw [gz] at h
  obtain ⟨m,hm⟩:=ho.mode
  have hid:dY ms (bN on) row = ig m.rules row:=by rw [dY,hm];rfl
  rw [hid] at h
  have h2:∀ x ∈ ring ++ [bN on],x < ms.length:=λx hx=>by
   rcases List.mem_append.mp hx with hx | hx
   ·exact hr x hx
   ·rw [List.mem_singleton.mp hx];exact ho.2 _ (mE ho.1)
  cases e:ig m.rules row with
  | none=>rw [e] at h;cases h
  | some R =>
   rw [e] at h
   have h:(if R.aW = "pop" /\ on.length = 1 /\ first ≠ 0 then none else if bN (bD on R.aW R.goal) = first then some (ring ++ [bN on]) else gz ms row first f (bD on R.aW R.goal) (ring ++ [bN on])) = some r:=h
   split at h
   ·cases h
   ·split at h
    ·cases h;exact h2
    ·exact xX G (ho.aW G (List.mem_of_getElem? hm) (pW e)) h2 h
theorem uq {ms:List aE} {row:Str} {first:Nat}:∀ {f:Nat} {on ring r:List Nat},gz ms row first f on ring = some r -> r.length <= ring.length + f
 | 0,on,ring,r,h=>by cases h
 | f + 1,on,ring,r,h=>by
  rw [gz] at h
  cases e:dY ms (bN on) row with
  | none=>rw [e] at h;cases h
  | some R =>
   rw [e] at h
   have h:(if R.aW = "pop" /\ on.length = 1 /\ first ≠ 0 then none else if bN (bD on R.aW R.goal) = first then some (ring ++ [bN on]) else gz ms row first f (bD on R.aW R.goal) (ring ++ [bN on])) = some r:=h
   split at h
   ·cases h
   ·split at h
    ·cases h;simp
    ·have:=uq h
     rw [List.length_append,List.length_cons,List.length_nil] at this
     omega
theorem Am (T:Txt K mg t):bw P w K mg base dP 5 t.rV t.yg ["rules"] (J7 t):=by
 refine T.mj.ok p9 ?_ ?_
 walk_at "i"
 ·obtain ⟨a,ms,rfl,hR,G,q⟩:=h
  have hlen:=G.len
  refine @aF _ _ _ _ _ _ _ (λZ' H'=>(∃ x y z,Z' = [some (.ref a),x,y,z]) /\ au H H' /\ ic ms = none) (dQ PassesOwn.never rfl (dZ (Dc (Mg T) (hr.mono (by decide)) rfl T.JG T.yo.kp (T.yo.binds (by walk_at "0")) .nil aG)) (bK (i:=1) p9.nd rfl (Or.inl rfl)) ak) ?_ ?_
  ·refine ⟨rfl,λl H1 hl1 hl0 s1=>⟨l,rfl,⟨_,bB.of hl1⟩,e8 (xs:=cW.map V.str) (λi Z' H'=>(∃ x y z,Z' = [some (.ref a),x,y,z]) /\ H' l = some (.lst (cW.map V.str)) /\ au H H' /\ ic ms = gZ ms (cW.drop i)) ⟨⟨_,_,_,rfl⟩,hl1,s1,rfl⟩ ?_ ?_ ?_⟩⟩
   ·rintro i Z' H' _ ⟨_,h,_⟩
    exact bB.of h
   ·rintro i xv Z' H2 hx ⟨⟨x,y,z,rfl⟩,hl2,s2,hrec⟩
    rw [List.getElem?_map] at hx
    obtain ⟨row,hrow,rfl⟩:=Option.map_eq_some_iff.mp hx
    have hrl:=B3 row (List.mem_of_getElem? hrow)
    rw [oU hrow,gZ] at hrec
    obtain ⟨dx,lm,as,ls,ha,hlm,hM⟩:=id hR
    refine @ao _ _ _ _ _ _ (dQ PassesOwn.never rfl (gi rfl T.gU (aa (aL aT (by rfl) T.bO (by decide +kernel) (aa (aZ (pv 0) rfl) ah)) ah)) (bK (i:=2) p9.nd rfl (Or.inl rfl)) ak) (⟨_,rfl,_,_,_,_,_,rfl,(s2 _ _ ha),T.g9,T.b8,rfl,⟨_,_,rfl,.inl (bB.of (s2 _ _ hlm)),(ms.length:Int),by rw [List.length_map,hM.la],by omega,by omega,jc (n:=((ms.length:Nat):Int).toNat) (λk Z' H'=>(∃ y z,Z' = [some (.ref a),some (.str row),y,z]) /\ H' l = some (.lst (cW.map V.str)) /\ au H H' /\ gR ms row ms.length 0 = gR ms row (ms.length - k) k) ⟨⟨_,_,rfl⟩,hl2,s2,rfl⟩ ?_ ?_⟩⟩)
    ·rintro k Z' H3 hk ⟨⟨y,z,rfl⟩,hl3,s3,hrow3⟩
     have hk':k < ms.length:=by omega
     rw [show ms.length - k = (ms.length - (k + 1)) + 1 by omega,gR] at hrow3
     cases hf:dS ms k row with
     | none =>
      rw [hf] at hrow3
      refine @av _ _ _ _ _ _ _ (aC (i:=3) p9.nd rfl (Or.inl rfl) (aK (Dz T) (hr.mono (by decide)) rfl T.F2 T.rN.kp (T.rN.binds (by walk_at "3")) .nil aG (aa (pv 0) (aa (pv 2) (aa (pv 1) ah))))) ⟨_,rfl,_,rfl,_,rfl,a,ms,k,row,(by rw [Int.zero_add];rfl),hR.same s3,G,hk',by omega,λH4 s4=>⟨λ_=>?_,(λring lg e=>by rw [hf] at e;cases e)⟩⟩
      exact @ao _ _ _ _ _ _ (aP (az fJ (pv 3) bL (aA _)) ak ak) ⟨_,rfl,rfl,_,rfl,iB (λh=>absurd rfl h) (λ_=>aX ⟨⟨_,_,rfl⟩,s4 _ _ hl3,s3.trans s4,hrow3⟩)⟩
     | some ring =>
      rw [hf] at hrow3
      have hrec:ic ms = some (ring,row):=by rw [hrec,hrow3]
      refine @av _ _ _ _ _ _ _ (aC (i:=3) p9.nd rfl (Or.inl rfl) (aK (Dz T) (hr.mono (by decide)) rfl T.F2 T.rN.kp (T.rN.binds (by walk_at "3")) .nil aG (aa (pv 0) (aa (pv 2) (aa (pv 1) ah))))) ⟨_,rfl,_,rfl,_,rfl,a,ms,k,row,(by rw [Int.zero_add];rfl),hR.same s3,G,hk',by omega,λH4 s4=>⟨(λe=>by rw [hf] at e;cases e),λring' lg e hlg hlg0=>?_⟩⟩
      rw [hf] at e
      cases e
      have s4':=s3.trans s4
      have hlt:∀ x ∈ ring,x < ms.length:=xX G ⟨by simp,by simpa using hk'⟩ (by simp) hf
      have hrl2:ring.length < 1000000:=by
       have:=uq hf
       simp only [List.length_nil] at this
       omega
      refine @ao _ _ _ _ _ _ (aP (az fJ (pv 3) bL (aA _)) ak ak) ⟨_,rfl,rfl,_,rfl,iB (λ_=>?_) (λh=>by cases h)⟩
      refine @ao _ _ _ _ _ _ (@aH _ _ _ _ (@bR _ _ _ _ _ (@aa _ _ _ _ _ (@iO _ (ay BH) _ ["rules","row","first","ring"] _ _ ("mode") _ _ [("rules",0)] _ _ (by walk_at "ck") (@dZ _ _ _ _ (pv 3)) (λ_ _ _ _=>by exact (@oX _ K _ _ _ _ (@aU _ _ _ _ _ _ _ (F5 (K:=K) rfl) (@oX _ K _ _ _ _ (pv 0) rfl (by left)) (pv 1) (λ_ _=>rfl)) rfl (by left))) (by left) (by left) (by left) (by left)) (@aa _ _ _ _ _ (@dh _ _ _ _ _ _ _ _ (@jt _ _ _ (pv 1) (λ_=>rfl)) (pv 1) bL) ah (by left)) (by left)))) ⟨_,rfl,lg,rfl,⟨_,bB.of hlg⟩,iU (xs:=ring.map bW) (λi ys H5=>ys = ((ring.take i).map (nameAt ms)).map V.str /\ au H4 H5) ⟨rfl,au.refl H4⟩ (by rw [List.length_map];exact Nat.lt_trans hrl2 (by decide)) ?_ ?_ ?_⟩
      ·rintro i ys H5 _ ⟨_,s5⟩
       exact bB.of (s5 _ _ hlg)
      ·rintro i xv ys H5 hx hyl ⟨rfl,s5⟩
       rw [List.getElem?_map] at hx
       obtain ⟨n,hn,rfl⟩:=Option.map_eq_some_iff.mp hx
       obtain ⟨m,hm⟩:∃ m,ms[n]? = some m:=⟨ms[n]'(hlt n (List.mem_of_getElem? hn)),List.getElem?_eq_getElem _⟩
       obtain ⟨dx,lm,as,b,lr,dm,rs,ha,hlm,hal,hb,hmo,hlr,hA⟩:=(hR.same (s4'.trans s5)).mode hm
       refine ⟨_,rfl,_,_,_,_,_,rfl,ha,T.g9,T.b8,rfl,⟨_,rfl,_,_,_,_,rfl,rfl,bB.of hlm,iH hb,b,t.bV,dm,_,_,rfl,hmo,T.fk,T.gp,rfl,?_⟩⟩
       have hi:=(List.getElem?_eq_some_iff.mp hn).1
       refine ez (by rw [List.length_map];exact hi) hyl ⟨?_,s5⟩
       rw [take_snoc hn,List.map_append,List.map_append]
       show _ = _ ++ [V.str (nameAt ms n)]
       rw [nameAt,hm]
      ·rintro ys H5 hyl ⟨rfl,s5⟩ D hD
       have e5:ring.take (ring.map bW).length = ring:=by rw [List.length_map,List.take_length]
       rw [e5]
       have s6:au H (upd H5 D (.lst ((ring.map (nameAt ms)).map V.str))):=(s4'.trans s5).to hD
       have hD6:upd H5 D (.lst ((ring.map (nameAt ms)).map V.str)) D = some (.lst ((ring.map (nameAt ms)).map V.str)):=af
       generalize upd H5 D (.lst ((ring.map (nameAt ms)).map V.str)) = H6 at s6 hD6
       by_cases h0:row = ""
       ·refine ⟨_,rfl,false,⟨bI (by omega),(by rw [h0];rfl)⟩,sr ⟨by show 2 <= sizeLine;decide,λtp htp=>?_⟩⟩
        exact (q _ (s6.to htp)).2 ring row tp D hrec (by rw [af,Cf,if_pos h0]) (au.upd htp _ _ hD6)
       ·have hrl1:row.length ≠ 0:=λz=>h0 (oY (by rw [show (Str.ofString "").cps.toList = [] from by decide +kernel];exact List.eq_nil_of_length_eq_zero (by rw [cj];exact z)))
        refine ⟨_,rfl,true,⟨bI (by omega),?_⟩,zW ⟨_,rfl,by show 2 <= sizeLine;decide,λtp htp=>?_⟩⟩
        ·have:(row.length:Int) ≠ 0:=by omega
         simpa using this
        ·exact (q _ (s6.to htp)).2 ring row tp D hrec (by rw [af,Cf,if_neg h0]) (au.upd htp _ _ hD6)
    ·rintro Z' H3 ⟨⟨y,z,rfl⟩,hl3,s3,hrow3⟩
     rw [Int.toNat_natCast,Nat.sub_self] at hrow3
     refine ⟨⟨_,_,_,rfl⟩,hl3,s3,?_⟩
     rw [hrec,hrow3]
     rfl
   ·rintro Z' H' ⟨h1,_,h2,h3⟩
    rw [List.length_map,List.drop_length] at h3
    exact ⟨h1,h2,h3⟩
  rintro Z' H' ⟨⟨x,y,z,rfl⟩,s1,hn⟩
  exact @ao _ _ _ _ _ _ (aH bL) ((q H' s1).1 hn)
def fq (R:bA) (row:Str) (i:Nat):Nat:=match eL R.sort R.signs row i with
 | .int n=>n.toNat
 | _=>0
structure Cfg where
 on:List Nat
 aB:List Str
 marks:List (Nat × Str)
def cy (ms:List aE) (k:Nat):Str:=match ms[k]? with
 | some m=>m.aO
 | none=>""
def dG (ms:List aE) (k:Nat):List bA:=match ms[k]? with
 | some m=>m.rules
 | none=>[]
def eO (c:Cfg) (R:bA) (row:Str):Cfg:=⟨bD c.on R.aW R.goal,c.aB ++ List.replicate (fq R row c.aB.length) R.aO,if R.fold = "" then c.marks else c.marks ++ [(c.aB.length,R.fold)]⟩
def fm (ms:List aE) (row:Str) (c:Cfg):Option Cfg:=match dj (dG ms (bN c.on)) row c.aB.length with
 | some R=>some (eO c R row)
 | none=>if c.aB.length < row.length then some ⟨c.on,c.aB ++ [cy ms (bN c.on)],c.marks⟩ else none
def goN (ms:List aE) (row:Str):Nat -> Cfg -> Option Cfg
 | 0,c=>match fm ms row c with
  | none=>some c
  | some _=>none
 | n + 1,c=>match fm ms row c with
  | none=>some c
  | some c'=>goN ms row n c'
theorem o9 {ms:List aE} {row:Str} {n:Nat} {c c' d:Cfg} (h:fm ms row c = some c') (g:goN ms row n c' = some d):goN ms row (n + 1) c = some d:=by
 rw [goN,h];exact g
theorem vB {ms:List aE} {row:Str} {n:Nat} {c:Cfg} (h:fm ms row c = none):goN ms row n c = some c:=by
 cases n with
 | zero=>rw [goN,h]
 | succ n=>rw [goN,h]
def cN (row:Str) (i:Nat):Str:=match row.cps.toList[i]? with
 | some c=>⟨#[c]⟩
 | none=>""
theorem BR {s sg row:Str} {i c:Nat} (h1:s ≠ "end") (h2:s ≠ "word") (e:row.cps.toList[i]? = some c):eL s sg row i ≠ .cM ↔ ((s = "any" ∨ s = "still") ∨ (s = "none" /\ c ∉ sg.cps.toList) ∨ (s ≠ "none" /\ c ∈ sg.cps.toList)):=by
 rw [fK h1 h2 e]
 by_cases h3:s = "any" ∨ s = "still"
 ·rw [if_pos h3]
  exact ⟨λ_=>.inl h3,λ_ z=>by cases z⟩
 ·rw [if_neg h3]
  by_cases h4:s = "none"
  ·rw [if_pos h4]
   by_cases h5:c ∈ sg.cps.toList
   ·rw [if_pos h5]
    exact ⟨λz=>absurd rfl z,λz=>by rcases z with z | z | z;(exact absurd z h3);(exact absurd h5 z.2);(exact absurd h4 z.1)⟩
   ·rw [if_neg h5]
    exact ⟨λ_=>.inr (.inl ⟨h4,h5⟩),λ_ z=>by cases z⟩
  ·rw [if_neg h4]
   by_cases h5:c ∈ sg.cps.toList
   ·rw [if_pos h5]
    exact ⟨λ_=>.inr (.inr ⟨h4,h5⟩),λ_ z=>by cases z⟩
   ·rw [if_neg h5]
    exact ⟨λz=>absurd rfl z,λz=>by rcases z with z | z | z;(exact absurd z h3);(exact absurd z.1 h4);(exact absurd z.2 h5)⟩
theorem zQ {R:bA} {row:Str} {i:Nat} (hi:i <= row.length) (h:eF R (cN row i) 0 = true) (hs:R.sort ∈ sorts):eF R row i = true:=by
 unfold eF at h ⊢
 rw [decide_eq_true_eq] at h ⊢
 have hl:=cj row
 cases e:row.cps.toList[i]? with
 | none =>
  have hi2:i = row.length:=by
   have:=List.getElem?_eq_none_iff.mp e
   omega
  have es:cN row i = "" := by unfold cN;rw [e]
  rw [es] at h
  have ee:(Str.ofString "").cps.toList = []:=by decide +kernel
  rcases dW hs with hs | hs | hs | hs | hs | hs | hs <;> rw [hs] at h ⊢
  ·rw [eL,if_neg (by decide),if_pos rfl] at h ⊢
   rw [show (("" : Str)).cps.toList = [] from ee] at h
   have:row.cps.toList.drop i = []:=List.drop_eq_nil_of_le (by omega)
   rw [this]
   exact h
  all_goals first
   | (exfalso;exact h (g7 (by decide) (by decide) (by decide)))
   | (rw [eL,if_pos rfl,if_pos hi2];intro z;cases z)
 | some c =>
  have hi2:i < row.length:=by
   have:=(List.getElem?_eq_some_iff.mp e).1
   omega
  have es:cN row i = ⟨#[c]⟩:=by unfold cN;rw [e]
  rw [es] at h
  have e0:(⟨#[c]⟩:Str).cps.toList[0]? = some c:=rfl
  rcases dW hs with hs | hs | hs | hs | hs | hs | hs <;> rw [hs] at h ⊢
  ·rw [eL,if_neg (by decide),if_pos rfl] at h ⊢
   have hd:=oU e
   rw [hd]
   intro z
   apply h
   by_cases y:((⟨#[c]⟩:Str).cps.toList.drop 0).take R.signs.length = R.signs.cps.toList
   ·exfalso
    have y':[c].take R.signs.length = R.signs.cps.toList:=y
    have yl:=congrArg List.length y'
    rw [cj,List.length_take] at yl
    have:(c :: row.cps.toList.drop (i + 1)).take R.signs.length = R.signs.cps.toList:=by
     rw [← y']
     cases hsl:R.signs.length with
     | zero=>rfl
     | succ n =>
      rw [hsl] at yl
      have:n = 0:=by simp at yl;omega
      subst this
      rfl
    rw [if_pos this] at z
    cases z
   ·rw [if_neg y]
  all_goals first
   | (rw [eL,if_pos rfl,if_neg (by show ¬ 0 = 1;decide)] at h;exact absurd rfl h)
   | exact (BR (by decide) (by decide) e).mpr ((BR (by decide) (by decide) e0).mp h)
theorem kX {s:Str} (h:s ∈ sorts) (h2:bS s = false):s = "still" ∨ s = "end" := by
 rcases dW h with rfl | rfl | rfl | rfl | rfl | rfl | rfl
 all_goals first
  | exact .inl rfl
  | exact .inr rfl
  | (exfalso;revert h2;decide +kernel)
theorem AJ {R:bA} {row:Str} {i:Nat} (hi:i <= row.length) (h:eF R row i = true) (hs:R.sort ∈ sorts) (h2:bS R.sort = false):eF R (cN row i) 0 = true:=by
 unfold eF at h ⊢
 rw [decide_eq_true_eq] at h ⊢
 have hl:=cj row
 cases e:row.cps.toList[i]? with
 | none =>
  have hi2:i = row.length:=by
   have:=List.getElem?_eq_none_iff.mp e
   omega
  have es:cN row i = "" := by unfold cN;rw [e]
  rw [es]
  rcases kX hs h2 with hs | hs <;> rw [hs] at h ⊢
  ·exact absurd (g7 (by decide) (by decide) (by omega)) h
  ·rw [eL,if_pos rfl,if_pos (by decide +kernel)];intro z;cases z
 | some c =>
  have hi2:i < row.length:=by
   have:=(List.getElem?_eq_some_iff.mp e).1
   omega
  have es:cN row i = ⟨#[c]⟩:=by unfold cN;rw [e]
  have e0:(⟨#[c]⟩:Str).cps.toList[0]? = some c:=rfl
  rw [es]
  rcases kX hs h2 with hs | hs <;> rw [hs] at h ⊢
  ·rw [fK (by decide) (by decide) e0,if_pos (by decide)];intro z;cases z
  ·rw [eL,if_pos rfl,if_neg (by omega)] at h;exact absurd rfl h
theorem sU {row:Str} {i:Nat}:∀ {rs:List bA} {k n:Nat} {R:bA},rs[n]? = some R -> eF R row i = true -> (∀ j,j < n -> ∀ R',rs[j]? = some R' -> eF R' row i = false) -> iW row i k rs = some (k + n)
 | [],k,n,R,h,_,_=>by simp at h
 | R0 :: r,k,0,R,h,hf,_=>by
  rw [List.getElem?_cons_zero] at h
  cases h
  rw [iW,if_pos hf]
  rfl
 | R0 :: r,k,n + 1,R,h,hf,hn=>by
  have h0:=hn 0 (by omega) R0 rfl
  rw [iW,if_neg (by rw [h0];decide),sU (rs:=r) (n:=n) h hf (λj hj R' hR=>hn (j + 1) (by omega) R' hR)]
  congr 1
  omega
theorem CM {rs:List bA} {row:Str} {i:Nat} {R:bA} (hok:∀ R ∈ rs,R.sort ∈ sorts) (hi:i <= row.length) (h:dj rs row i = some R) (h2:bS R.sort = false):ig rs (cN row i) = some R:=by
 unfold dj at h
 cases e:firstM rs row i with
 | none=>rw [e] at h;cases h
 | some n =>
  rw [e] at h
  obtain ⟨_,R',g1,g2,g3⟩:=gW e
  rw [Nat.sub_zero] at g1 g3
  have:R' = R:=Option.some.inj (g1.symm.trans h)
  subst this
  have hm:=List.mem_of_getElem? g1
  have hf:firstM rs (cN row i) 0 = some n:=by
   have:=sU (row:=cN row i) (i:=0) (k:=0) g1 (AJ hi g2 (hok _ hm) h2) (λj hj R' hR=>by
    cases z:eF R' (cN row i) 0 with
    | false=>rfl
    | true =>
     have:=zQ hi z (hok _ (List.mem_of_getElem? hR))
     rw [g3 j hj R' hR] at this
     cases this)
   rw [Nat.zero_add] at this
   exact this
  rw [ig,dj,hf]
  show (rs[n]?).bind _ = _
  rw [g1]
  show (if bS R'.sort = true then none else some R') = some R'
  rw [if_neg (by rw [h2];decide)]
theorem Gz (sg:List Nat):∀ l:List Nat,iN sg l <= l.length
 | []=>Nat.le_refl _
 | c :: r=>by
  rw [iN]
  split
  ·have:=Gz sg r;rw [List.length_cons];omega
  ·exact Nat.zero_le _
theorem JR {s sg row:Str} {i:Nat} {n:Int} (hi:i <= row.length) (h:eL s sg row i = .int n):i + n.toNat <= row.length:=by
 have hl:=cj row
 by_cases h1:s = "end"
 ·rw [eL,if_pos h1] at h
  split at h
  ·have:=V.int.inj h
   omega
  ·cases h
 ·by_cases h2:s = "word"
  ·rw [eL,if_neg h1,if_pos h2] at h
   split at h
   ·rename_i hw
    have:=congrArg List.length hw
    rw [List.length_take,List.length_drop,cj,cj] at this
    have:=V.int.inj h
    omega
   ·cases h
  ·cases e:row.cps.toList[i]? with
   | none=>rw [eL,if_neg h1,if_neg h2,e] at h;cases h
   | some c =>
    have hi2:i < row.length:=by
     have:=(List.getElem?_eq_some_iff.mp e).1
     omega
    have hr:=Gz sg.cps.toList (row.cps.toList.drop (i + 1))
    rw [List.length_drop] at hr
    rw [fK h1 h2 e] at h
    split at h
    ·have:=V.int.inj h
     split at this <;> omega
    ·split at h
     ·split at h
      ·cases h
      ·have:=V.int.inj h;omega
     ·split at h
      ·have:=V.int.inj h
       split at this <;> omega
      ·cases h
theorem zP {R:bA} {row:Str} {i:Nat} (hs:R.sort ∈ sorts) (hi:i <= row.length):i + fq R row i <= row.length:=by
 unfold fq
 rcases lG R.sort R.signs row i with ⟨n,e⟩ | e
 ·rw [e];exact JR hi e
 ·rw [e];exact hi
theorem Hw {s sg row:Str} {i:Nat} {n:Int} (he:bS s = true) (hg:s = "word" -> 1 <= sg.length) (h:eL s sg row i = .int n):1 <= n:=by
 have h1:s ≠ "end" := λz=>by rw [z] at he;revert he;decide +kernel
 have h1':s ≠ "still" := λz=>by rw [z] at he;revert he;decide +kernel
 by_cases h2:s = "word"
 ·rw [eL,if_neg h1,if_pos h2] at h
  split at h
  ·have:=V.int.inj h
   have:=hg h2
   omega
  ·cases h
 ·cases e:row.cps.toList[i]? with
  | none=>rw [eL,if_neg h1,if_neg h2,e] at h;cases h
  | some c =>
   rw [fK h1 h2 e] at h
   split at h
   ·rename_i h3
    have:=V.int.inj h
    rcases h3 with h3 | h3
    ·rw [if_pos h3] at this;omega
    ·exact absurd h3 h1'
   ·split at h
    ·split at h
     ·cases h
     ·have:=V.int.inj h;omega
    ·split at h
     ·have:=V.int.inj h
      split at this <;> omega
     ·cases h
theorem HW {R:bA} {row:Str} {i:Nat} (hs:R.sort ∈ sorts) (he:bS R.sort = true) (hg:¬ bare R.sort -> 1 <= R.signs.length) (hf:eF R row i = true):1 <= fq R row i:=by
 unfold eF at hf
 rw [decide_eq_true_eq] at hf
 unfold fq
 rcases lG R.sort R.signs row i with ⟨n,e⟩ | e
 ·have:=Hw he (λz=>hg (by rw [z];decide)) e
  rw [e]
  show 1 <= n.toNat
  omega
 ·exact absurd e hf
theorem GL {R:bA} {row:Str} {i:Nat} (hs:R.sort ∈ sorts) (he:bS R.sort = false):fq R row i = 0:=by
 unfold fq
 rcases kX hs he with h | h <;> rw [h]
 ·cases e:row.cps.toList[i]? with
  | none=>rw [eL,if_neg (by decide),if_neg (by decide),e]
  | some c=>rw [fK (by decide) (by decide) e,if_pos (by decide),if_neg (by decide)];rfl
 ·rw [eL,if_pos rfl]
  split
  ·rename_i e;split at e <;> cases e;rfl
  ·rfl
def fC (ms:List aE) (row:Str):Nat -> Nat -> Bool
 | 0,_=>false
 | f + 1,k=>match dY ms k row with
  | none=>false
  | some R=>if R.aW = "pop" then true else if R.aW = "into" then fC ms row f (R.goal.getD 0) else false
theorem tH {ms:List aE} {row:Str}:∀ {f g k:Nat},f <= g -> fC ms row f k = true -> fC ms row g k = true
 | 0,g,k,_,h=>by cases h
 | f + 1,0,k,h0,_=>by omega
 | f + 1,g + 1,k,h0,h=>by
  rw [fC] at h ⊢
  cases e:dY ms k row with
  | none=>rw [e] at h;cases h
  | some R =>
   rw [e] at h
   have h:(if R.aW = "pop" then true else if R.aW = "into" then fC ms row f (R.goal.getD 0) else false) = true:=h
   show (if R.aW = "pop" then true else if R.aW = "into" then fC ms row g (R.goal.getD 0) else false) = true
   split
   ·rfl
   ·rename_i h1
    rw [if_neg h1] at h
    split
    ·rename_i h2
     rw [if_pos h2] at h
     exact tH (by omega) h
    ·rename_i h2
     rw [if_neg h2] at h
     cases h
theorem mY (k:Nat):bN [k] = k:=rfl
theorem wN (r:List Nat) (k:Nat):bN (r ++ [k]) = k:=by unfold bN;simp
theorem qV {ms:List aE} {row:Str}:∀ {f fuel k:Nat} {ring:List Nat},f <= fuel -> fC ms row f k = true -> gz ms row 0 fuel [k] ring ≠ none
 | 0,fuel,k,ring,_,h=>by cases h
 | f + 1,0,k,ring,h0,_=>by omega
 | f + 1,fuel + 1,k,ring,h0,h=>by
  rw [fC] at h
  rw [gz,mY]
  cases e:dY ms k row with
  | none=>rw [e] at h;cases h
  | some R =>
   rw [e] at h
   have h:(if R.aW = "pop" then true else if R.aW = "into" then fC ms row f (R.goal.getD 0) else false) = true:=h
   show (if R.aW = "pop" /\ [k].length = 1 /\ (0:Nat) ≠ 0 then none else if bN (bD [k] R.aW R.goal) = 0 then some (ring ++ [k]) else gz ms row 0 fuel (bD [k] R.aW R.goal) (ring ++ [k])) ≠ none
   rw [if_neg (λz=>z.2.2 rfl)]
   by_cases hp:R.aW = "pop"
   ·have:bD [k] R.aW R.goal = [0]:=by rw [bD,hp,if_neg (by decide),if_neg (by decide),if_pos rfl];rfl
    rw [this,if_pos (mY 0)]
    intro z;cases z
   ·rw [if_neg hp] at h
    by_cases hi:R.aW = "into"
    ·rw [if_pos hi] at h
     have:bD [k] R.aW R.goal = [R.goal.getD 0]:=by rw [bD,hi,if_neg (by decide),if_pos rfl];rfl
     rw [this,mY]
     split
     ·intro z;cases z
     ·exact qV (by omega) h
    ·rw [if_neg hi] at h;cases h
theorem sO {ms:List aE} {row:Str} {y:Nat}:∀ {f fuel k:Nat} {ring:List Nat},f <= fuel -> fC ms row f k = true -> gz ms row y fuel [y,k] ring ≠ none
 | 0,fuel,k,ring,_,h=>by cases h
 | f + 1,0,k,ring,h0,_=>by omega
 | f + 1,fuel + 1,k,ring,h0,h=>by
  rw [fC] at h
  rw [gz,show bN [y,k] = k from rfl]
  cases e:dY ms k row with
  | none=>rw [e] at h;cases h
  | some R =>
   rw [e] at h
   have h:(if R.aW = "pop" then true else if R.aW = "into" then fC ms row f (R.goal.getD 0) else false) = true:=h
   show (if R.aW = "pop" /\ [y,k].length = 1 /\ y ≠ 0 then none else if bN (bD [y,k] R.aW R.goal) = y then some (ring ++ [k]) else gz ms row y fuel (bD [y,k] R.aW R.goal) (ring ++ [k])) ≠ none
   rw [if_neg (λz=>absurd z.2.1 (by show ¬ 2 = 1;decide))]
   by_cases hp:R.aW = "pop"
   ·have:bD [y,k] R.aW R.goal = [y]:=by rw [bD,hp,if_neg (by decide),if_neg (by decide),if_pos rfl,if_neg (by show ¬ 2 = 1;decide)];rfl
    rw [this,if_pos (mY y)]
    intro z;cases z
   ·rw [if_neg hp] at h
    by_cases hi:R.aW = "into"
    ·rw [if_pos hi] at h
     have:bD [y,k] R.aW R.goal = [y,R.goal.getD 0]:=by rw [bD,hi,if_neg (by decide),if_pos rfl];rfl
     rw [this,show bN [y,R.goal.getD 0] = R.goal.getD 0 from rfl]
     split
     ·intro z;cases z
     ·exact sO (by omega) h
    ·rw [if_neg hi] at h;cases h
noncomputable def Ah (ms:List aE):Prop:=∀ (k:Nat) m,ms[k]? = some m -> ∀ R ∈ m.rules,bS R.sort = false -> R.aW = "pop" ∨ (gb R.aW /\ ∃ g,R.goal = some g /\ k < g /\ g < ms.length)
structure vD (ms:List aE) (row:Str):Prop where
 start:fC ms row ms.length 0 = false
 push:∀ y R,y < ms.length -> dY ms y row = some R -> R.aW = "push" -> fC ms row (ms.length - R.goal.getD 0) (R.goal.getD 0) = false
theorem lM {ms:List aE} {k:Nat} {row:Str} {R:bA} (h:dY ms k row = some R):∃ m,ms[k]? = some m /\ R ∈ m.rules /\ bS R.sort = false:=by
 unfold dY at h
 cases e:ms[k]? with
 | none=>rw [e] at h;cases h
 | some m =>
  rw [e] at h
  have h:ig m.rules row = some R:=h
  refine ⟨m,rfl,pW h,?_⟩
  unfold ig at h
  cases e2:dj m.rules row 0 with
  | none=>rw [e2] at h;cases h
  | some R' =>
   rw [e2] at h
   have h:(if bS R'.sort = true then none else some R') = some R:=h
   split at h
   ·cases h
   ·rename_i hn;cases h;simpa using hn
theorem LW {ms:List aE} (U:Ah ms) (G:0 < ms.length) (h:ic ms = none):∀ row ∈ cW,vD ms row:=by
 intro row hr
 have hf:=Ae h row hr
 refine ⟨?_,λy R hy hi hp=>?_⟩
 ·cases e:fC ms row ms.length 0 with
  | false=>rfl
  | true=>exact absurd (hf 0 G) (qV (Nat.le_refl _) e)
 ·cases e:fC ms row (ms.length - R.goal.getD 0) (R.goal.getD 0) with
  | false=>rfl
  | true =>
   exfalso
   have h0:=hf y hy
   obtain ⟨m,hm,hR,he⟩:=lM hi
   obtain ⟨g,eg,hg1,hg2⟩:∃ g,R.goal = some g /\ y < g /\ g < ms.length:=by
    rcases U y m hm R hR he with z | ⟨_,z⟩
    ·rw [hp] at z;cases z
    ·exact z
   unfold dS at h0
   obtain ⟨n,hn⟩:∃ n,ms.length = n + 1:=⟨ms.length - 1,by omega⟩
   rw [hn,gz,mY,hi] at h0
   have h0:(if R.aW = "pop" /\ [y].length = 1 /\ y ≠ 0 then none else if bN (bD [y] R.aW R.goal) = y then some ([] ++ [y]) else gz ms row y n (bD [y] R.aW R.goal) ([] ++ [y])) = none:=h0
   rw [if_neg (λz=>by rw [hp] at z;exact absurd z.1 (by decide))] at h0
   have ed:bD [y] R.aW R.goal = [y,R.goal.getD 0]:=by rw [bD,if_pos hp];rfl
   rw [ed] at h0
   split at h0
   ·cases h0
   ·exact sO (by rw [eg];show ms.length - g <= n;omega) e h0
def wsum (N:Nat) (on:List Nat):Nat:=(on.map λk=>N - k).sum
theorem ie (N:Nat) (a b:List Nat):wsum N (a ++ b) = wsum N a + wsum N b:=by unfold wsum;rw [List.map_append,List.sum_append]
theorem gy (N k:Nat):wsum N [k] = N - k:=by simp [wsum]
theorem rH {on:List Nat} (h:on ≠ []):∃ r,on = r ++ [bN on]:=by
 rcases List.eq_nil_or_concat on with rfl | ⟨p,x,rfl⟩
 ·exact absurd rfl h
 ·exact ⟨p,by rw [List.concat_eq_append,wN]⟩
theorem sV {on:List Nat} {d:Str} {g:Nat} (h:d = "push"):bD on d (some g) = on ++ [g]:=by rw [bD,if_pos h];rfl
theorem tD {r:List Nat} {k:Nat} {d:Str} {g:Nat} (h:d = "into"):bD (r ++ [k]) d (some g) = r ++ [g]:=by
 rw [bD,h,if_neg (by decide),if_pos rfl,List.dropLast_concat];rfl
theorem FY {r:List Nat} {k:Nat} {d:Str} {g:Option Nat} (h:d = "pop") (hr:r ≠ []):bD (r ++ [k]) d g = r:=by
 have:(r ++ [k]).length ≠ 1:=by
  cases r with
  | nil=>exact absurd rfl hr
  | cons x y=>simp
 rw [bD,h,if_neg (by decide),if_neg (by decide),if_pos rfl,if_neg this,List.dropLast_concat]
theorem CI {k:Nat} {d:Str} {g:Option Nat} (h:d = "pop"):bD [k] d g = [0]:=by
 rw [bD,h,if_neg (by decide),if_neg (by decide),if_pos rfl]
 rfl
noncomputable def A8 (ms:List aE) (row:Str) (c:Cfg):Prop:=∃ R,dj (dG ms (bN c.on)) row c.aB.length = some R /\ bS R.sort = false
def Still (ms:List aE) (row:Str):Nat -> Cfg -> Cfg -> Prop
 | 0,c,d=>c = d
 | n + 1,c,d=>∃ R,dj (dG ms (bN c.on)) row c.aB.length = some R /\ bS R.sort = false /\ Still ms row n (eO c R row) d
theorem Still.go {ms:List aE} {row:Str}:∀ {n m:Nat} {c d e:Cfg},Still ms row n c d -> goN ms row m d = some e -> goN ms row (n + m) c = some e
 | 0,m,c,d,e,h,g=>by rw [Nat.zero_add,show c = d from h];exact g
 | n + 1,m,c,d,e,⟨R,h1,_,h3⟩,g=>by
  rw [show n + 1 + m = (n + m) + 1 by omega]
  exact o9 (by rw [fm,h1]) (h3.go g)
structure Good (ms:List aE) (row:Str):Prop where
 g:dR ms
 up:Ah ms
 four:ms.length <= 4
 sg:∀ m ∈ ms,∀ R ∈ m.rules,¬ bare R.sort -> 1 <= R.signs.length
 np:∀ r ∈ cW,vD ms r
 row:∀ c ∈ row.cps.toList,c ∈ uO.cps.toList
theorem Good.short {ms:List aE} {row:Str} (G:Good ms row) (i:Nat):cN row i ∈ cW:=by
 unfold cN
 cases e:row.cps.toList[i]? with
 | none=>exact List.mem_cons_self ..
 | some c=>exact List.mem_cons_of_mem _ (List.mem_map.mpr ⟨c,G.row c (List.mem_of_getElem? e),rfl⟩)
theorem Good.rule {ms:List aE} {row:Str} (G:Good ms row) {k i:Nat} {R:bA} (hk:k < ms.length) (h:dj (dG ms k) row i = some R):∃ m,ms[k]? = some m /\ R ∈ m.rules /\ R.sort ∈ sorts /\ eF R row i = true:=by
 have hm:ms[k]? = some ms[k]:=List.getElem?_eq_getElem hk
 rw [dG,hm] at h
 have h:dj ms[k].rules row i = some R:=h
 unfold dj at h
 cases e:firstM ms[k].rules row i with
 | none=>rw [e] at h;cases h
 | some n =>
  rw [e] at h
  obtain ⟨_,R',g1,g2,_⟩:=gW e
  rw [Nat.sub_zero] at g1
  have:R' = R:=Option.some.inj (g1.symm.trans h)
  subst this
  have hR:=List.mem_of_getElem? g1
  exact ⟨_,hm,hR,((G.g.ok _ (List.getElem_mem hk)).2 R' hR).1,g2⟩
theorem Good.idle {ms:List aE} {row:Str} (G:Good ms row) {k i:Nat} {R:bA} (hk:k < ms.length) (hi:i <= row.length) (h:dj (dG ms k) row i = some R) (he:bS R.sort = false):dY ms k (cN row i) = some R:=by
 have hm:ms[k]? = some ms[k]:=List.getElem?_eq_getElem hk
 rw [dG,hm] at h
 rw [dY,hm]
 exact CM (λR hR=>((G.g.ok _ (List.getElem_mem hk)).2 R hR).1) hi h he
def HR:Nat -> Nat
 | 0=>0
 | n + 1=>HR n + (n + 1)
theorem j7:∀ {a b:Nat},a <= b -> HR a <= HR b
 | a,0,h=>by
   have:a = 0:=by omega
   rw [this];exact Nat.le_refl _
 | a,b + 1,h=>by
  by_cases e:a = b + 1
  ·rw [e];exact Nat.le_refl _
  ·have:=j7 (a:=a) (b:=b) (by omega)
   rw [HR];omega
theorem qJ {c:Cfg} {R:bA} {row:Str} (hs:R.sort ∈ sorts) (he:bS R.sort = false):(eO c R row).aB = c.aB:=by
 show c.aB ++ List.replicate (fq R row c.aB.length) R.aO = c.aB
 rw [GL hs he]
 exact List.append_nil _
theorem uJ {ms:List aE} {row:Str} (G:Good ms row):∀ (w k:Nat) (r:List Nat) (c:Cfg),w = ms.length - k -> k < ms.length -> c.on = r ++ [k] -> c.aB.length <= row.length -> (∀ x ∈ r,x < ms.length) -> fC ms (cN row c.aB.length) (ms.length - k) k = false ->
  ∃ n d,Still ms row n c d /\ ¬ A8 ms row d /\ d.aB = c.aB /\ iC ms d.on /\ n <= w /\ wsum ms.length d.on <= wsum ms.length r + HR w
 | 0,k,r,c,hw,hk,_,_,_,_=>by omega
 | w + 1,k,r,c,hw,hk,hon,hi,hr,hp=>by
  have htop:bN c.on = k:=by rw [hon,wN]
  have hok:iC ms c.on:=by
   rw [hon]
   refine ⟨by simp,λx hx=>?_⟩
   rcases List.mem_append.mp hx with hx | hx
   ·exact hr x hx
   ·rw [List.mem_singleton.mp hx];exact hk
  by_cases hid:A8 ms row c
  ·obtain ⟨R,h1,h2⟩:=id hid
   rw [htop] at h1
   obtain ⟨m,hm,hR,hs,hf⟩:=G.rule hk h1
   have hia:=G.idle hk hi h1 h2
   have htt:=qJ (c:=c) (row:=row) hs h2
   rw [show ms.length - k = (ms.length - (k + 1)) + 1 by omega,fC,hia] at hp
   have hp:(if R.aW = "pop" then true else if R.aW = "into" then fC ms (cN row c.aB.length) (ms.length - (k + 1)) (R.goal.getD 0) else false) = false:=hp
   by_cases hpop:R.aW = "pop"
   ·rw [if_pos hpop] at hp;cases hp
   ·rw [if_neg hpop] at hp
    obtain ⟨hgo,g,eg,hg1,hg2⟩:gb R.aW /\ ∃ g,R.goal = some g /\ k < g /\ g < ms.length:=by
     rcases G.up k m hm R hR h2 with z | z
     ·exact absurd z hpop
     ·exact z
    by_cases hin:R.aW = "into"
    ·rw [if_pos hin,eg] at hp
     have hon2:(eO c R row).on = r ++ [g]:=by show bD c.on R.aW R.goal = _;rw [hon,eg,tD hin]
     obtain ⟨n,d,a1,a2,a3,a4,a5,a6⟩:=uJ G (ms.length - g) g r (eO c R row) rfl hg2 hon2 (by rw [htt];exact hi) hr (by
      rw [htt]
      cases e:fC ms (cN row c.aB.length) (ms.length - g) g with
      | false=>rfl
      | true =>
       have:=tH (g:=ms.length - (k + 1)) (by omega) e
       rw [show (some g).getD 0 = g from rfl] at hp
       rw [this] at hp;cases hp)
     have:=j7 (a:=ms.length - g) (b:=w + 1) (by omega)
     exact ⟨n + 1,d,⟨R,by rw [htop];exact h1,h2,a1⟩,a2,by rw [a3,htt],a4,by omega,by omega⟩
    ·have hpu:R.aW = "push" := by
      rcases hgo with z | z
      ·exact z
      ·exact absurd z hin
     have hon2:(eO c R row).on = (r ++ [k]) ++ [g]:=by show bD c.on R.aW R.goal = _;rw [hon,eg,sV hpu]
     have hnp:=(G.np _ (G.short c.aB.length)).push k R hk hia hpu
     rw [eg] at hnp
     obtain ⟨n,d,a1,a2,a3,a4,a5,a6⟩:=uJ G (ms.length - g) g (r ++ [k]) (eO c R row) rfl hg2 hon2 (by rw [htt];exact hi) (λx hx=>by
      rcases List.mem_append.mp hx with hx | hx
      ·exact hr x hx
      ·rw [List.mem_singleton.mp hx];exact hk) (by rw [htt];exact hnp)
     have h3:=j7 (a:=ms.length - g) (b:=w) (by omega)
     rw [ie,gy] at a6
     refine ⟨n + 1,d,⟨R,by rw [htop];exact h1,h2,a1⟩,a2,by rw [a3,htt],a4,by omega,?_⟩
     rw [HR]
     omega
  ·refine ⟨0,c,rfl,hid,rfl,hok,by omega,?_⟩
   rw [hon,ie,gy,← hw,HR]
   omega
termination_by w=>w
theorem MH {ms:List aE} {row:Str} (G:Good ms row):∀ (W:Nat) (c:Cfg),wsum ms.length c.on = W -> iC ms c.on -> c.aB.length <= row.length ->
  ∃ n d,Still ms row n c d /\ ¬ A8 ms row d /\ d.aB = c.aB /\ iC ms d.on /\ n + wsum ms.length d.on <= W + 14 /\ wsum ms.length d.on <= max W 4 + 6:=by
 intro W
 induction W using Nat.strongRecOn with
 | ind W ih =>
  intro c hW hok hi
  by_cases hid:A8 ms row c
  ·obtain ⟨R,h1,h2⟩:=id hid
   obtain ⟨r,hon⟩:=rH hok.1
   have hk:bN c.on < ms.length:=hok.2 _ (mE hok.1)
   obtain ⟨m,hm,hR,hs,hf⟩:=G.rule hk h1
   have hia:=G.idle hk hi h1 h2
   have htt:=qJ (c:=c) (row:=row) hs h2
   have hmm:=List.mem_of_getElem? hm
   have hok2:iC ms (eO c R row).on:=hok.aW G.g hmm hR
   have h4:=G.four
   generalize hkk:bN c.on = k at h1 hk hm hia hon
   have hWs:wsum ms.length r + (ms.length - k) = W:=by rw [← hW,hon,ie,gy]
   have hrr:∀ x ∈ r,x < ms.length:=λx hx=>hok.2 x (by rw [hon];exact List.mem_append_left _ hx)
   have t3:HR 3 = 6:=rfl
   have t4:HR 4 = 10:=rfl
   by_cases hpop:R.aW = "pop"
   ·by_cases hr:r = []
    ·have hon2:(eO c R row).on = [] ++ [0]:=by show bD c.on R.aW R.goal = _;rw [hon,hr];exact CI hpop
     obtain ⟨n,d,a1,a2,a3,a4,a5,a6⟩:=uJ G (ms.length - 0) 0 [] (eO c R row) rfl G.g.pos hon2 (by rw [htt];exact hi) (by simp) (by rw [htt];exact (G.np _ (G.short _)).start)
     have:=j7 (a:=ms.length - 0) (b:=4) (by omega)
     have e0:wsum ms.length ([]:List Nat) = 0:=rfl
     refine ⟨n + 1,d,⟨R,by rw [hkk];exact h1,h2,a1⟩,a2,by rw [a3,htt],a4,by omega,by omega⟩
    ·have hon2:(eO c R row).on = r:=by show bD c.on R.aW R.goal = _;rw [hon];exact FY hpop hr
     obtain ⟨n,d,a1,a2,a3,a4,a5,a6⟩:=ih (wsum ms.length r) (by omega) (eO c R row) (by rw [hon2]) hok2 (by rw [htt];exact hi)
     refine ⟨n + 1,d,⟨R,by rw [hkk];exact h1,h2,a1⟩,a2,by rw [a3,htt],a4,by omega,by omega⟩
   ·obtain ⟨hgo,g,eg,hg1,hg2⟩:gb R.aW /\ ∃ g,R.goal = some g /\ k < g /\ g < ms.length:=by
     rcases G.up k m hm R hR h2 with z | z
     ·exact absurd z hpop
     ·exact z
    by_cases hin:R.aW = "into"
    ·have hon2:(eO c R row).on = r ++ [g]:=by show bD c.on R.aW R.goal = _;rw [hon,eg,tD hin]
     have hW2:wsum ms.length (eO c R row).on = wsum ms.length r + (ms.length - g):=by rw [hon2,ie,gy]
     obtain ⟨n,d,a1,a2,a3,a4,a5,a6⟩:=ih _ (by omega) (eO c R row) hW2 hok2 (by rw [htt];exact hi)
     refine ⟨n + 1,d,⟨R,by rw [hkk];exact h1,h2,a1⟩,a2,by rw [a3,htt],a4,by omega,by omega⟩
    ·have hpu:R.aW = "push" := by
      rcases hgo with z | z
      ·exact z
      ·exact absurd z hin
     have hon2:(eO c R row).on = c.on ++ [g]:=by show bD c.on R.aW R.goal = _;rw [eg,sV hpu]
     have hnp:=(G.np _ (G.short c.aB.length)).push k R hk hia hpu
     rw [eg] at hnp
     obtain ⟨n,d,a1,a2,a3,a4,a5,a6⟩:=uJ G (ms.length - g) g c.on (eO c R row) rfl hg2 hon2 (by rw [htt];exact hi) hok.2 (by rw [htt];exact hnp)
     have:=j7 (a:=ms.length - g) (b:=3) (by omega)
     refine ⟨n + 1,d,⟨R,by rw [hkk];exact h1,h2,a1⟩,a2,by rw [a3,htt],a4,by omega,by omega⟩
  ·exact ⟨0,c,rfl,hid,rfl,hok,by omega,by omega⟩
theorem CW {ms:List aE} (G:dR ms) {on:List Nat} (h:iC ms on) {d:Str} {g:Option Nat}:wsum ms.length (bD on d g) <= wsum ms.length on + ms.length:=by
 obtain ⟨r,hr⟩:=rH h.1
 have hk:bN on < ms.length:=h.2 _ (mE h.1)
 generalize bN on = k at hr hk
 subst hr
 unfold bD
 split
 ·rw [ie,gy];omega
 ·split
  ·rw [List.dropLast_concat,ie,ie,gy,gy];omega
  ·split
   ·split
    ·rw [gy];omega
    ·rw [List.dropLast_concat,ie];omega
   ·omega
theorem runs {ms:List aE} {row:Str} (G:Good ms row):∀ (D:Nat) (c:Cfg),row.length - c.aB.length = D -> iC ms c.on -> c.aB.length <= row.length ->
  ∃ n d,goN ms row n c = some d /\ d.aB.length = row.length /\ iC ms d.on /\ n + wsum ms.length d.on <= wsum ms.length c.on + 19 * D + 14 /\ wsum ms.length d.on <= max (wsum ms.length c.on) 4 + 10 * D + 6:=by
 intro D
 induction D using Nat.strongRecOn with
 | ind D ih =>
  intro c hD hok hi
  obtain ⟨n1,c1,a1,a2,a3,a4,a5,a6⟩:=MH G _ c rfl hok hi
  have hi1:c1.aB.length <= row.length:=by rw [a3];exact hi
  have h4:=G.four
  have hk:bN c1.on < ms.length:=a4.2 _ (mE a4.1)
  cases hr:dj (dG ms (bN c1.on)) row c1.aB.length with
  | none =>
   by_cases hlt:c1.aB.length < row.length
   ·have hst:fm ms row c1 = some ⟨c1.on,c1.aB ++ [cy ms (bN c1.on)],c1.marks⟩:=by
     rw [fm,hr]
     show (if c1.aB.length < row.length then _ else _) = _
     rw [if_pos hlt]
    have hl2:(c1.aB ++ [cy ms (bN c1.on)]).length = c1.aB.length + 1:=by simp
    obtain ⟨n2,d,b1,b2,b3,b4,b5⟩:=ih (row.length - (c1.aB.length + 1)) (by rw [a3] at hlt ⊢;omega) ⟨c1.on,c1.aB ++ [cy ms (bN c1.on)],c1.marks⟩ (by show row.length - (c1.aB ++ [cy ms (bN c1.on)]).length = _;rw [hl2]) a4 (by show (c1.aB ++ [cy ms (bN c1.on)]).length <= _;rw [hl2];omega)
    have b4:n2 + wsum ms.length d.on <= wsum ms.length c1.on + 19 * (row.length - (c1.aB.length + 1)) + 14:=b4
    have b5:wsum ms.length d.on <= max (wsum ms.length c1.on) 4 + 10 * (row.length - (c1.aB.length + 1)) + 6:=b5
    rw [a3] at hlt b4 b5
    exact ⟨n1 + (n2 + 1),d,a1.go (o9 hst b1),b2,b3,by omega,by omega⟩
   ·have hst:fm ms row c1 = none:=by
     rw [fm,hr]
     show (if c1.aB.length < row.length then _ else _) = _
     rw [if_neg hlt]
    exact ⟨n1 + 0,c1,a1.go (vB hst),by omega,a4,by omega,by omega⟩
  | some R =>
   obtain ⟨m,hm,hR,hs,hf⟩:=G.rule hk hr
   have hmm:=List.mem_of_getElem? hm
   have he:bS R.sort = true:=by
    cases e:bS R.sort with
    | true=>rfl
    | false=>exact absurd ⟨R,hr,e⟩ a2
   have hst:fm ms row c1 = some (eO c1 R row):=by rw [fm,hr]
   have e1:=HW (i:=c1.aB.length) hs he (G.sg m hmm R hR) hf
   have e2:=zP (R:=R) (row:=row) (i:=c1.aB.length) hs hi1
   have hl2:(eO c1 R row).aB.length = c1.aB.length + fq R row c1.aB.length:=by
    show (c1.aB ++ List.replicate _ _).length = _
    rw [List.length_append,List.length_replicate]
   have hw:wsum ms.length (eO c1 R row).on <= wsum ms.length c1.on + ms.length:=CW G.g a4
   obtain ⟨n2,d,b1,b2,b3,b4,b5⟩:=ih (row.length - (eO c1 R row).aB.length) (by rw [hl2];rw [a3] at e1 e2 ⊢;omega) (eO c1 R row) rfl (a4.aW G.g hmm hR) (by rw [hl2];exact e2)
   rw [hl2] at b4 b5
   rw [a3] at e1 e2 b4 b5
   exact ⟨n1 + (n2 + 1),d,a1.go (o9 hst b1),b2,b3,by omega,by omega⟩
noncomputable def GM (H:Hp) (lk:Addr) (mk:List (Nat × Str)):Prop:=∃ ps,H lk = some (.lst (ps.map V.ref)) /\ cU (λp m=>H p = some (.tup [bW m.1,.str m.2])) ps mk
theorem GM.same {H H':Hp} {lk:Addr} {mk:List (Nat × Str)} (h:GM H lk mk) (s:au H H'):GM H' lk mk:=let ⟨ps,a,b⟩:=h;⟨ps,s _ _ a,b.mono λ_ _ e=>s _ _ e⟩
theorem GM.kP {H:Hp} {lk l:Addr} {mk:List (Nat × Str)} {xs:List V} {o:HO} (h:GM H lk mk) (hl:H l = some (.lst xs)) (hn:lk ≠ l):GM (upd H l o) lk mk:=by
 obtain ⟨ps,a,b⟩:=h
 exact ⟨ps,by rw [aj hn];exact a,b.mono λp m e=>by rw [aj (cQ e hl (by intro z;cases z))];exact e⟩
noncomputable def GF (H0 H:Hp) (lk:Addr) (mk:List (Nat × Str)):Prop:=∃ ps:List Addr,H lk = some (.lst (ps.map V.ref)) /\ cU (λp m=>H p = some (.tup [bW m.1,.str m.2])) ps mk /\ ∀ p ∈ ps,H0 p = none
theorem GF.gm {H0 H:Hp} {lk:Addr} {mk:List (Nat × Str)} (h:GF H0 H lk mk):GM H lk mk:=let ⟨ps,a,b,_⟩:=h;⟨ps,a,b⟩
theorem GF.same {H0 H H':Hp} {lk:Addr} {mk:List (Nat × Str)} (h:GF H0 H lk mk) (s:au H H'):GF H0 H' lk mk:=let ⟨ps,a,b,c⟩:=h;⟨ps,s _ _ a,b.mono λ_ _ e=>s _ _ e,c⟩
theorem GF.kP {H0 H:Hp} {lk l:Addr} {mk:List (Nat × Str)} {xs:List V} {o:HO} (h:GF H0 H lk mk) (hl:H l = some (.lst xs)) (hn:lk ≠ l):GF H0 (upd H l o) lk mk:=by
 obtain ⟨ps,a,b,c⟩:=h
 exact ⟨ps,by rw [aj hn];exact a,b.mono λp m e=>by rw [aj (cQ e hl (by intro z;cases z))];exact e,c⟩
structure Told (H:Hp) (tp lt lo lk:Addr) (d:Cfg):Prop where
 tp:H tp = some (.tup [.ref lt,.ref lo,.ref lk])
 lt:H lt = some (.lst (d.aB.map V.str))
 lo:H lo = some (.lst (d.on.map bW))
 lk:GM H lk d.marks
theorem Told.same {H H':Hp} {tp lt lo lk:Addr} {d:Cfg} (h:Told H tp lt lo lk d) (s:au H H'):Told H' tp lt lo lk d:=⟨s _ _ h.tp,s _ _ h.lt,s _ _ h.lo,h.lk.same s⟩
noncomputable def LN (t:fX):Sp:=λvs H Q _=>∃ (a lo:Addr) (ms:List aE) (on:List Nat) (row:Str) (n:Nat) (d:Cfg),vs = [.ref a,.ref lo,.str row] /\ IsRules t H a ms /\ dR ms /\ H lo = some (.lst (on.map bW)) /\ iC ms on /\ row.length <= 1000 /\ on.length <= 50000 /\ n <= 40000 /\ goN ms row n ⟨on,[],[]⟩ = some d /\
 ∀ tp lt lo' lk H',Told H' tp lt lo' lk d -> GF H H' lk d.marks -> H lt = none -> H lo' = none -> H lk = none -> lt ≠ lo' -> lt ≠ lk -> lo' ≠ lk -> au H H' -> Q (.ref tp) H'
theorem qm {α:Type} (x:α):∀ n:Nat,(List.replicate n [x]).flatten = List.replicate n x
 | 0=>rfl
 | n + 1=>by rw [List.replicate_succ,List.flatten_cons,qm x n,List.replicate_succ];rfl
theorem By {R:bA} {row:Str} {i:Nat} (h:eF R row i = true):eL R.sort R.signs row i = bW (fq R row i):=by
 unfold eF at h
 rw [decide_eq_true_eq] at h
 unfold fq
 have hn:∀ n:Int,eL R.sort R.signs row i = .int n -> 0 <= n:=by
  intro n
  unfold eL
  intro e
  repeat' split at e
  all_goals first
   | (have:=V.int.inj e;omega)
   | cases e
 rcases lG R.sort R.signs row i with ⟨n,e⟩ | e
 ·rw [e]
  have:=hn n e
  show V.int n = V.int ((n.toNat:Nat):Int)
  rw [show ((n.toNat:Nat):Int) = n by omega]
 ·exact absurd e h
theorem K4 (T:Txt K mg t):bw P w K mg base dP 3 t.o7 t.xF ["rules","modes","row"] (LN t):=by
 refine T.wC.ok j6 ?_ ?_
 walk_at "i"
 ·obtain ⟨a,lh,ms,on,row,n,d,rfl,hR,G,hlh,hok,hrow,honl,hn,hgo,q⟩:=h
  refine @av _ _ _ _ _ _ _ (aC (i:=3) j6.nd rfl (Or.inl rfl) (cz cH (by rfl) T.gK (by decide +kernel) (aa (pv 1) ah))) ⟨_,rfl,lh,_,rfl,.inl (bB.of hlh),λlo hlo=>?_⟩
  have s1:au H (upd H lo (.lst (on.map bW))):=au.upd hlo
  have ho1:upd H lo (.lst (on.map bW)) lo = some (.lst (on.map bW)):=af
  generalize upd H lo (.lst (on.map bW)) = H1 at s1 ho1
  refine @av _ _ _ _ _ _ _ (aC (i:=4) j6.nd rfl (Or.inl rfl) (bC ah)) ⟨by show 0 <= sizeLine;decide,λlt hlt=>?_⟩
  have s2:au H1 (upd H1 lt (.lst [])):=au.upd hlt
  have ht2:upd H1 lt (.lst []) lt = some (.lst []):=af
  have ho2:=s2 _ _ ho1
  have not_:lo ≠ lt:=aq ho1 hlt
  have hlt0:H lt = none:=s1.free hlt
  generalize upd H1 lt (.lst []) = H2 at s2 ht2 ho2
  have s2:=s1.trans s2
  refine @av _ _ _ _ _ _ _ (aC (i:=5) j6.nd rfl (Or.inl rfl) (bC ah)) ⟨by show 0 <= sizeLine;decide,λlk hlk=>?_⟩
  have s3:au H2 (upd H2 lk (.lst [])):=au.upd hlk
  have hk3:upd H2 lk (.lst []) lk = some (.lst []):=af
  have ho3:=s3 _ _ ho2
  have ht3:=s3 _ _ ht2
  have nok:lo ≠ lk:=aq ho2 hlk
  have ntk:lt ≠ lk:=aq ht2 hlk
  have hlk0:H lk = none:=s2.free hlk
  generalize upd H2 lk (.lst []) = H3 at s3 hk3 ho3 ht3
  have s3:=s2.trans s3
  show At _ _ _ [some (.ref a),some (.ref lh),some (.str row),some (.ref lo),some (.ref lt),some (.ref lk),none,none,none,none] H3
  refine @ao _ _ _ _ _ _ (kg PassesOwn.never (gG jS) ak) ⟨λm Z' H'=>∃ c:Cfg,(∃ x6 x7 x8 x9,Z' = [some (.ref a),some (.ref lh),some (.str row),some (.ref lo),some (.ref lt),some (.ref lk),x6,x7,x8,x9]) /\ H' lo = some (.lst (c.on.map bW)) /\ H' lt = some (.lst (c.aB.map V.str)) /\ GF H H' lk c.marks /\ iC ms c.on /\ c.aB.length <= row.length /\ c.on.length + m <= on.length + n /\ c.marks.length + m <= n /\ goN ms row m c = some d /\ au H H',⟨n,⟨on,[],[]⟩,⟨_,_,_,_,rfl⟩,ho3,ht3,⟨[],hk3,cU.nil,by simp⟩,hok,Nat.zero_le _,Nat.le_refl _,by simp,hgo,s3⟩,?_⟩
  rintro m Z' H4 ⟨c,⟨x6,x7,x8,x9,rfl⟩,ho4,ht4,hk4,hok4,htl4,hol4,hml4,hgo4,s4⟩
  refine ⟨true,rfl,zW ⟨_,λZ' H' z=>z,?_⟩⟩
  refine @av _ _ _ _ _ _ _ (aC (i:=6) j6.nd rfl (Or.inl rfl) (aL aT (by rfl) T.bO (by decide +kernel) (aa (pv 4) ah))) ⟨_,rfl,_,_,rfl,.inl (bB.of ht4),?_⟩
  rw [List.length_map]
  show At _ _ _ [some (.ref a),some (.ref lh),some (.str row),some (.ref lo),some (.ref lt),some (.ref lk),some (.int c.aB.length),x7,x8,x9] H4
  obtain ⟨md,hm⟩:=hok4.mode
  have hmm:=List.mem_of_getElem? hm
  obtain ⟨dx,lm,as,b,lr,dm,rs,ha,hlm,hal,hb,hmo,hlr,hA⟩:=(hR.same s4).mode hm
  have hru:dG ms (bN c.on) = md.rules:=by rw [dG,hm]
  refine @av _ _ _ _ _ _ _ (aC (i:=7) j6.nd rfl (Or.inl rfl) (aU aY (aZ (pv 0) rfl) (aU aY (pv 3) (jh gA ai) (λ_ _=>rfl)) (λ_ _=>rfl))) (⟨_,rfl,_,_,_,_,_,rfl,ha,T.g9,T.b8,rfl,⟨_,rfl,_,rfl,_,_,_,_,rfl,rfl,bB.of ho4,d9 (fD hok4.1),_,_,_,_,rfl,rfl,bB.of hlm,iH hb,?_⟩⟩)
  refine @av _ _ _ _ _ _ _ (aC (i:=8) j6.nd rfl (Or.inl rfl) (aK (Dp T) (hr.mono (by decide)) rfl T.Fd T.rO.kp (T.rO.binds (by walk_at "4")) .nil aG (aa (pv 0) (aa (aU aY (pv 3) (jh gA ai) (λ_ _=>rfl)) (aa (pv 2) (aa (pv 6) ah)))))) ⟨_,rfl,_,rfl,_,rfl,_,_,_,_,rfl,rfl,bB.of ho4,d9 (fD hok4.1),_,rfl,_,rfl,a,ms,md,bN c.on,c.aB.length,row,rfl,hR.same s4,hm,G.ok md hmm,hrow,htl4,λH5 s5=>?_⟩
  have ho5:=s5 _ _ ho4
  have ht5:=s5 _ _ ht4
  have hk5:=hk4.same s5
  have s5':=s4.trans s5
  cases hf:firstM md.rules row c.aB.length with
  | none =>
   have hrn:dj (dG ms (bN c.on)) row c.aB.length = none:=by rw [hru,dj,hf];rfl
   refine @ao _ _ _ _ _ _ (aP (az fJ (pv 8) bL (aA _)) ak ak) ⟨_,rfl,rfl,_,rfl,iB (λh=>absurd rfl h) (λ_=>?_)⟩
   refine @ao _ _ _ _ _ _ (aP (az gC (pv 6) (aL bz (by rfl) T.bO (by decide +kernel) (aa (pv 2) ah)) (aA _)) ak ak) ⟨_,rfl,_,rfl,_,rfl,bI (by omega),_,_,rfl,rfl,_,rfl,cI (λh=>?_) (λh=>?_)⟩
   ·have hlt':c.aB.length < row.length:=by omega
    have hst:fm ms row c = some ⟨c.on,c.aB ++ [cy ms (bN c.on)],c.marks⟩:=by
     rw [fm,hrn]
     show (if c.aB.length < row.length then _ else _) = _
     rw [if_pos hlt']
    have ecol:cy ms (bN c.on) = md.aO:=by rw [cy,hm]
    refine @ao _ _ _ _ _ _ (aR (cJ F.plainAttrs_list F.slot_list_append F.type_list_append bJ (pv 4) (aa (aZ (pv 7) rfl) ah))) ⟨_,rfl,.inl ⟨rfl,_,bB.of ht5⟩,⟨_,rfl,_,_,_,_,_,rfl,(s5 _ _ hmo),T.fk,T.fF,rfl,⟨lt,_,_,rfl,rfl,ht5,dw (by rw [List.length_map];omega),?_⟩⟩⟩
    obtain ⟨m',rfl⟩:∃ m',m = m' + 1:=by
     cases m with
     | zero=>rw [goN,hst] at hgo4;cases hgo4
     | succ m'=>exact ⟨m',rfl⟩
    rw [goN,hst] at hgo4
    refine ⟨m',by omega,⟨c.on,c.aB ++ [cy ms (bN c.on)],c.marks⟩,⟨_,_,_,_,rfl⟩,?_,?_,hk5.kP ht5 (Ne.symm ntk),hok4,?_,?_,?_,hgo4,?_⟩
    ·rw [aj not_];exact ho5
    ·rw [af]
     show _ = some (HO.lst ((c.aB ++ [cy ms (bN c.on)]).map V.str))
     rw [List.map_append,ecol]
     rfl
    ·show (c.aB ++ [cy ms (bN c.on)]).length <= _
     rw [List.length_append,List.length_cons,List.length_nil]
     omega
    ·show c.on.length + m' <= _;omega
    ·show c.marks.length + m' <= _;omega
    ·intro b o hb
     rw [aj (aq hb hlt0)]
     exact s5' _ _ hb
   ·have hst:fm ms row c = none:=by
     rw [fm,hrn]
     show (if c.aB.length < row.length then _ else _) = _
     rw [if_neg (by omega)]
    have hd:d = c:=by
     rw [vB hst] at hgo4
     exact (Option.some.inj hgo4).symm
    subst hd
    refine @ao _ _ _ _ _ _ (aH (bR (aa (pv 4) (aa (pv 3) (aa (pv 5) ah))))) ⟨_,rfl,_,rfl,_,rfl,by show 3 <= sizeLine;decide,λtp htp=>?_⟩
    refine q tp lt lo lk _ ⟨af,?_,?_,(hk5.same (au.upd htp)).gm⟩ (hk5.same (au.upd htp)) hlt0 hlo hlk0 (Ne.symm not_) ntk nok (s5'.to htp)
    ·exact au.upd htp _ _ ht5
    ·exact au.upd htp _ _ ho5
  | some j =>
   obtain ⟨R,hj,hruR,hfit⟩:=za hf
   have hRm:=List.mem_of_getElem? hj
   obtain ⟨g1,g2⟩:=(G.ok md hmm).2 R hRm
   obtain ⟨r,hr0,hr1⟩:=hA.at hj
   obtain ⟨fe,fs,de,ds,PK⟩:=Ig (P:=P) (w:=w) (base:=base) T g1
   have hst:fm ms row c = some (eO c R row):=by rw [fm,hru,hruR]
   obtain ⟨m',rfl⟩:∃ m',m = m' + 1:=by
    cases m with
    | zero=>rw [goN,hst] at hgo4;cases hgo4
    | succ m'=>exact ⟨m',rfl⟩
   rw [goN,hst] at hgo4
   have hr5:=hr1.same s5
   have hel:=zP (R:=R) (row:=row) g1 htl4
   refine @ao _ _ _ _ _ _ (aP (az fJ (pv 8) bL (aA _)) ak ak) ⟨_,rfl,rfl,_,rfl,iB (λ_=>?_) (λh=>by cases h)⟩
   refine @av _ _ _ _ _ _ _ (aC (i:=9) j6.nd rfl (Or.inl rfl) (aU aY (aZ (pv 7) rfl) (pv 8) (λ_ _=>rfl))) (⟨_,rfl,_,_,_,_,_,rfl,(s5 _ _ hmo),T.fk,T.dI,rfl,⟨_,rfl,_,_,_,_,rfl,rfl,bB.of (s5 _ _ hlr),iH hr0,?_⟩⟩)
   obtain ⟨dr,pa,o1,dp,o2⟩:=id hr5
   refine @av _ _ _ _ _ _ _ (aR (cJ F.plainAttrs_list F.slot_list_extend F.type_list_extend B9 (pv 4) (aa (aQ AK (bC (aa (aZ (pv 9) rfl) ah)) (bH (aZ (pv 9) rfl) PK.cl PK.me PK.ge (hr.mono (by decide)) PK.be .nil aG (aa (pv 2) (aa (pv 6) ah)))) ah))) ⟨_,rfl,.inl ⟨rfl,_,bB.of ht5⟩,⟨_,rfl,_,_,_,_,_,rfl,o1,T.cD,T.fB,rfl,⟨by show 1 <= sizeLine;decide,λl1 hl1=>?_⟩⟩⟩
   have s6:au H5 (upd H5 l1 (.lst [.str R.aO])):=au.upd hl1
   have hl6:upd H5 l1 (.lst [.str R.aO]) l1 = some (.lst [.str R.aO]):=af
   generalize upd H5 l1 (.lst [.str R.aO]) = H6 at s6 hl6
   refine ⟨_,rfl,_,_,_,_,_,rfl,(s6 _ _ o1),T.cD,T.cX,rfl,⟨pa,dp,_,rfl,s6 _ _ o2,PK.ne _,_,rfl,_,rfl,pa,dp,R.signs,row,c.aB.length,rfl,s6 _ _ o2,by omega,hrow,htl4,?_⟩⟩
   rw [By hfit]
   refine ⟨l1,_,_,rfl,rfl,hl6,by omega,by omega,by rw [Int.toNat_natCast];exact bI (by simp only [List.length_cons,List.length_nil];omega),λl2 hl2=>?_⟩
   rw [Int.toNat_natCast,qm]
   have s7:au H5 (upd H6 l2 (.lst (List.replicate (fq R row c.aB.length) (V.str R.aO)))):=s6.to hl2
   have hl7:upd H6 l2 (.lst (List.replicate (fq R row c.aB.length) (V.str R.aO))) l2 = some (.lst (List.replicate (fq R row c.aB.length) (V.str R.aO))):=af
   generalize upd H6 l2 (.lst (List.replicate (fq R row c.aB.length) (V.str R.aO))) = H7 at s7 hl7
   have ht7:=s7 _ _ ht5
   have ho7:=s7 _ _ ho5
   have hk7:=hk5.same s7
   refine ⟨lt,l2,_,_,rfl,rfl,ht7,hl7,bI (by rw [List.length_map,List.length_replicate];omega),?_⟩
   have ht8:upd H7 lt (.lst (c.aB.map V.str ++ List.replicate (fq R row c.aB.length) (V.str R.aO))) lt = some (.lst ((eO c R row).aB.map V.str)):=by
    rw [af]
    show _ = some (HO.lst ((c.aB ++ List.replicate (fq R row c.aB.length) R.aO).map V.str))
    rw [List.map_append,List.map_replicate]
   have ho8:upd H7 lt (.lst (c.aB.map V.str ++ List.replicate (fq R row c.aB.length) (V.str R.aO))) lo = some (.lst (c.on.map bW)):=by rw [aj not_];exact ho7
   have hk8:GF H (upd H7 lt (.lst (c.aB.map V.str ++ List.replicate (fq R row c.aB.length) (V.str R.aO)))) lk c.marks:=hk7.kP ht7 (Ne.symm ntk)
   have hr8:dz t (upd H7 lt (.lst (c.aB.map V.str ++ List.replicate (fq R row c.aB.length) (V.str R.aO)))) r R:=(hr5.same s7).kP ht7
   have s8:au H (upd H7 lt (.lst (c.aB.map V.str ++ List.replicate (fq R row c.aB.length) (V.str R.aO)))):=λb o hb=>by rw [aj (aq hb hlt0)];exact s7 _ _ (s5' _ _ hb)
   generalize upd H7 lt (.lst (c.aB.map V.str ++ List.replicate (fq R row c.aB.length) (V.str R.aO))) = H8 at ht8 ho8 hk8 hr8 s8
   refine @aF _ _ _ _ _ _ _ (λZ' H'=>(∃ x7 x8,Z' = [some (.ref a),some (.ref lh),some (.str row),some (.ref lo),some (.ref lt),some (.ref lk),some (.int c.aB.length),x7,x8,some (.ref r)]) /\ H' lo = some (.lst (c.on.map bW)) /\ H' lt = some (.lst ((eO c R row).aB.map V.str)) /\ GF H H' lk (eO c R row).marks /\ dz t H' r R /\ au H H') (aP (az t8 (aZ (pv 9) rfl) aM (aA _)) ak ak) ?_ ?_
   ·obtain ⟨dr8,pa8,o8,p8⟩:=id hr8
    refine ⟨_,rfl,_,_,_,_,_,rfl,o8,T.cD,T.gj,rfl,⟨rfl,_,rfl,iB (λh=>?_) (λh=>aX ⟨⟨_,_,rfl⟩,ho8,ht8,?_,hr8,s8⟩)⟩⟩
    ·have h:R.fold ≠ "" := λz=>h (by rw [z])
     obtain ⟨ps,hps,hAp,hfr⟩:=hk8
     refine @ao _ _ _ _ _ _ (aR (cJ F.plainAttrs_list F.slot_list_append F.type_list_append bJ (pv 5) (aa (bR (aa (pv 6) (aa (aZ (pv 9) rfl) ah))) ah))) ⟨_,rfl,.inl ⟨rfl,_,bB.of hps⟩,_,rfl,⟨_,rfl,_,_,_,_,_,rfl,o8,T.cD,T.gj,rfl,⟨by show 2 <= sizeLine;decide,λtp htp=>?_⟩⟩⟩
     have s9:au H8 (upd H8 tp (.tup [.int c.aB.length,.str R.fold])):=au.upd htp
     have hp9:upd H8 tp (.tup [.int c.aB.length,.str R.fold]) tp = some (.tup [.int c.aB.length,.str R.fold]):=af
     generalize upd H8 tp (.tup [.int c.aB.length,.str R.fold]) = H9 at s9 hp9
     have hps9:=s9 _ _ hps
     have hpl:ps.length <= 100000:=by rw [hAp.1];omega
     refine ⟨lk,_,_,rfl,rfl,hps9,dw (by rw [List.length_map];omega),⟨_,_,rfl⟩,?_,?_,?_,?_,?_⟩
     ·rw [aj nok];exact s9 _ _ ho8
     ·rw [aj ntk];exact s9 _ _ ht8
     ·have em:(eO c R row).marks = c.marks ++ [(c.aB.length,R.fold)]:=if_neg h
      rw [em]
      refine ⟨ps ++ [tp],by rw [af,List.map_append];rfl,cU.snoc (hAp.mono λp m e=>?_) ?_,λp hp=>?_⟩
      ·rw [aj (cQ (s9 _ _ e) hps9 (by intro z;cases z))];exact s9 _ _ e
      ·rw [aj (cQ hp9 hps9 (by intro z;cases z))];exact hp9
      ·rcases List.mem_append.mp hp with hp | hp
       ·exact hfr p hp
       ·rw [List.mem_singleton.mp hp];exact s8.free htp
     ·exact (hr8.same s9).kP hps9
     ·intro b o hb
      rw [aj (aq hb hlk0)]
      exact s9 _ _ (s8 _ _ hb)
    ·have h:R.fold = "" := V.str.inj h
     have em:(eO c R row).marks = c.marks:=if_pos h
     rw [em]
     exact hk8
   rintro Z' H9 ⟨⟨y7,y8,rfl⟩,ho9,ht9,hk9,hr9,s9⟩
   refine @ao _ _ _ _ _ _ (aR (aK (Eo T) (hr.mono (by decide)) rfl T.Fp T.qO.kp (T.qO.binds (by walk_at "2")) .nil aG (aa (pv 3) (aa (pv 9) ah)))) ⟨_,rfl,_,rfl,lo,r,c.on,R,rfl,ho9,hr9,hok4.1,by omega,G.gd hmm hRm,?_⟩
   have hdl:=qX (on:=c.on) (d:=R.aW) (g:=R.goal)
   refine ⟨m',by omega,eO c R row,⟨_,_,_,_,rfl⟩,af,?_,hk9.kP ho9 (Ne.symm nok),hok4.aW G hmm hRm,?_,?_,?_,hgo4,?_⟩
   ·rw [aj (Ne.symm not_)];exact ht9
   ·show (c.aB ++ List.replicate _ _).length <= _
    rw [List.length_append,List.length_replicate]
    exact hel
   ·show (bD c.on R.aW R.goal).length + m' <= _
    omega
   ·show (if R.fold = "" then c.marks else c.marks ++ [(c.aB.length,R.fold)]).length + m' <= _
    split
    ·omega
    ·rw [List.length_append,List.length_cons,List.length_nil];omega
   ·intro b o hb
    rw [aj (aq hb hlo)]
    exact s9 _ _ hb
theorem join_eq (sep:Str) (ys:List Str):PySem.Txt.join sep ys = Str.join sep ys:=eq_of_beq (PyProof.Rows.join_plain_closes sep ys)
theorem pick {xs:List Str} {d:Int} (h0:0 <= d) (h1:d < xs.length):∃ x ∈ xs,vF (xs.map V.str) d = some (.str x):=by
 obtain ⟨v,e1,e2⟩:=lH (xs.map V.str) h0 (by rw [List.length_map];exact h1)
 rw [List.getElem?_map] at e1
 obtain ⟨x,e3,rfl⟩:=Option.map_eq_some_iff.mp e1
 exact ⟨x,List.mem_of_getElem? e3,e2⟩
theorem CG {b c:Bool} {A B:Prop} (h:b = c) (k:if c = true then A else B):if b = true then A else B:=by rw [h];exact k
theorem k7:∀ (cs:List Nat),(Str.join "" (cs.map λc=>(⟨#[c]⟩:Str))).cps.toList = cs
 | []=>by decide +kernel
 | [c]=>rfl
 | c :: d :: r=>by
  have ih:=k7 (d :: r)
  show ((⟨#[c]⟩:Str) ++ "" ++ Str.join "" ((d :: r).map λc=>(⟨#[c]⟩:Str))).cps.toList = _
  rw [jl,jl,ih,show (Str.ofString "").cps.toList = [] from by decide +kernel]
  rfl
theorem nu:∀ (cs:List Nat),((cs.map λc=>(⟨#[c]⟩:Str)).map (·.length)).sum = cs.length
 | []=>rfl
 | c :: r=>by
  rw [List.map_cons,List.map_cons,List.sum_cons,nu r,List.length_cons]
  show 1 + _ = _
  omega
noncomputable def Ld (K:PySem.W.Frag):Sp:=λvs H Q _=>∃ (a:Addr) (ns:List Int) (k m:Int),vs = [.ref a,.int k,.int m] /\ bB K H a (ns.map V.int) /\ 0 <= k /\ k <= 100000 /\ 0 < m /\ ns.length <= 63 /\
 ∀ d H',0 <= d -> d < m -> au H H' -> Q (.int d) H'
theorem d7 (T:Txt K mg t):bw P w K mg base dP 1 t.qo t.xH ["_law_script","_law_k","_law_many"] (Ld K):=by
 refine T.b7.ok ny ?_ ?_
 walk_at "i"
 ·obtain ⟨a,ns,k,m,rfl,hS,hk0,hk1,hm,hl,q⟩:=h
  refine @aF _ _ _ _ _ _ _ (λZ' H'=>∃ c:Int,Z' = [some (.ref a),some (.int k),some (.int m),some (.int c),none,none,none] /\ H' = H) (aC (i:=3) ny.nd rfl (Or.inl rfl) (dh (az iY (aL aT (by rfl) T.bO (by decide +kernel) (aa (pv 0) ah)) ai (aA _)) (aU aY (pv 0) (aQ iy (pv 1) (aL aT (by rfl) T.bO (by decide +kernel) (aa (pv 0) ah))) (λ_ _=>rfl)) ai)) ?_ ?_
  ·refine ⟨_,rfl,_,_,rfl,.inl hS,_,_,rfl,rfl,_,rfl,cI (λh=>?_) (λh=>⟨0,rfl,rfl⟩)⟩
   refine ⟨_,rfl,_,rfl,_,rfl,_,_,rfl,.inl hS,_,_,rfl,rfl,h,?_⟩
   obtain ⟨h1,h2⟩:=ja k h
   obtain ⟨v,e1,e2⟩:=lH (ns.map V.int) h1 h2
   rw [List.getElem?_map] at e1
   obtain ⟨c,e3,rfl⟩:=Option.map_eq_some_iff.mp e1
   exact ⟨_,_,_,_,rfl,rfl,hS,e2,c,rfl,rfl⟩
  rintro Z' H' ⟨c,rfl,e⟩
  rw [e]
  clear e H'
  refine @av _ _ _ _ _ _ _ (aC (i:=4) ny.nd rfl (Or.inl rfl) (pv 3)) ⟨_,rfl,?_⟩
  refine @aF _ _ _ _ _ _ _ (λZ' H'=>(∃ x y,Z' = [some (.ref a),some (.int k),some (.int m),some (.int c),x,y,none]) /\ H' = H) (aP (PW.pt (fR (az iY (aL aT (by rfl) T.bO (by decide +kernel) (aa (pv 0) ah)) ai (aA _)) (fj (az bE (aQ iy (aU aY (pv 0) ai (λ_ _=>rfl)) ai) ai (aA _))))) ak ak) ?_ ?_
  ·refine ⟨_,rfl,_,_,rfl,.inl hS,_,_,rfl,rfl,_,rfl,cI (λh=>?_) (λh=>aX ⟨⟨_,_,rfl⟩,rfl⟩)⟩
   obtain ⟨n0,r0,rfl⟩:∃ n0 r0,ns = n0 :: r0:=by
    cases ns with
    | nil=>simp at h
    | cons x r=>exact ⟨x,r,rfl⟩
   refine ⟨_,rfl,_,_,_,_,rfl,rfl,hS,bq (j:=0) rfl,_,_,rfl,rfl,(by show (0:Int) < 2;decide),rfl,_,rfl,cI (λh2=>?_) (λh2=>aX ⟨⟨_,_,rfl⟩,rfl⟩)⟩
   refine @aF _ _ _ _ _ _ _ (λZ' H'=>(∃ (x:Int) (y:Option V),Z' = [some (.ref a),some (.int k),some (.int m),some (.int c),some (.int x),y,none]) /\ H' = H) (dQ PassesOwn.never rfl (gi rfl T.gU (aa (aQ iy (aQ uP (pv 1) (aL aT (by rfl) T.bO (by decide +kernel) (aa (pv 0) ah))) ai) ah)) (bK (i:=5) ny.nd rfl (Or.inl rfl)) ak) ?_ ?_
   ·have hd:=ja (k / (((n0 :: r0).map V.int).length:Int)) (m:=60) (by decide)
    refine ⟨_,rfl,_,rfl,_,_,rfl,.inl hS,_,_,rfl,rfl,⟨h,(by rw [List.length_map] at h ⊢;omega)⟩,_,_,rfl,rfl,(by show (0:Int) < 60;decide),_,rfl,by omega,by omega,jc (λj Z' H'=>(∃ (x:Int) (y:Option V),Z' = [some (.ref a),some (.int k),some (.int m),some (.int c),some (.int x),y,none]) /\ H' = H) ⟨⟨_,_,rfl⟩,rfl⟩ ?_ (λZ' H' z=>z)⟩
    rintro j Z' H1 hj ⟨⟨x,y,rfl⟩,e⟩
    rw [e]
    exact @ao _ _ _ _ _ _ (aC (i:=4) ny.nd rfl (Or.inl rfl) (aQ uP (pv 4) ai)) ⟨_,rfl,_,_,rfl,rfl,⟨by decide,by decide⟩,⟨_,_,rfl⟩,rfl⟩
   rintro Z' H' ⟨⟨x,y,rfl⟩,e⟩
   rw [e]
   clear e H'
   refine @ao _ _ _ _ _ _ (aP (az iY (pv 4) ai (aA _)) ak ak) ⟨_,rfl,_,_,rfl,rfl,_,rfl,cI (λh3=>?_) (λh3=>aX ⟨⟨_,_,rfl⟩,rfl⟩)⟩
   have hd:=ja (x / 2 % 500009) hm
   exact @ao _ _ _ _ _ _ (aH (aQ iy (aQ iy (aQ uP (pv 4) ai) ai) (pv 2))) ⟨_,rfl,_,_,rfl,rfl,⟨by decide,by decide⟩,_,_,rfl,rfl,(by show (0:Int) < 500009;decide),_,rfl,_,_,rfl,rfl,hm,q _ H hd.1 hd.2 (au.refl H)⟩
  rintro Z' H' ⟨⟨x,y,rfl⟩,e⟩
  rw [e]
  clear e H'
  refine @av _ _ _ _ _ _ _ (aC (i:=6) ny.nd rfl (Or.inl rfl) (aQ bM (aQ bM (aQ iy (pv 3) ai) (aQ lB (aQ lB ai (pv 1)) (pv 1))) ai)) ?_
  walk_at "rd"
  refine ⟨by decide,.inl ⟨by decide,by decide⟩,.inr ⟨by omega,by omega⟩,?_⟩
  refine @ao _ _ _ _ _ _ (aH (aQ iy (aQ iy (aQ lB (aQ iy (aQ lB (pv 6) ai) ai) ai) ai) (pv 2))) ?_
  walk_at "rd"
  have hd:=ja ((c % 1000003 + 31 * k * k + 1) * 48271 % 999983 * 7919 % 524287) hm
  exact ⟨.inr ⟨by decide,by decide⟩,by decide,.inr ⟨by decide,by decide⟩,by decide,hm,q _ H hd.1 hd.2 (au.refl H)⟩
abbrev Ck:List Nat:=(Str.ofString "ab()# ").cps.toList
theorem Dk:∀ c ∈ Ck,c ≠ 95 /\ c ≠ 10:=by decide +kernel
noncomputable def OJ (K:PySem.W.Frag):Sp:=λvs H Q _=>∃ (a:Addr) (ns:List Int) (b:Int),vs = [.ref a,.int b] /\ bB K H a (ns.map V.int) /\ ns.length <= 63 /\ 0 <= b /\ b <= 50000 /\
 ∀ (z:Str) H',1 <= z.length -> z.length <= 3 -> (∀ c ∈ z.cps.toList,c ∈ Ck) -> au H H' -> Q (.str z) H'
theorem JF (T:Txt K mg t):bw P w K mg base dP 2 t.qy t.ye ["_law_script","_law_base"] (OJ K):=by
 refine T.yd.ok E8 ?_ ?_
 walk_at "i"
 ·obtain ⟨a,ns,b,rfl,hS,hl,hb0,hb1,q⟩:=h
  refine @aF _ _ _ _ _ _ _ (λZ' H'=>∃ z:Nat,0 < z /\ z <= 3 /\ Z' = [some (.ref a),some (.int b),some (.int z)] /\ au H H') (aC (i:=2) E8.nd rfl (Or.inl rfl) (aQ bM ai (aK (d7 T) (hr.mono (by decide)) rfl T.d8 T.b7.kp (T.b7.binds (by walk_at "3")) .nil aG (aa (pv 0) (aa (pv 1) (aa ai ah)))))) ?_ ?_
  ·refine ⟨_,rfl,_,rfl,a,ns,_,_,rfl,hS,(by omega),(by omega),(by decide),hl,λd H1 h0 h1 s1=>⟨_,_,rfl,rfl,?_⟩⟩
   refine ⟨(1 + d).toNat,by omega,by omega,?_,s1⟩
   rw [show (((1 + d).toNat:Nat):Int) = 1 + d by omega]
   rfl
  rintro Z' H1 ⟨sz,hz0,hz1,rfl,s1⟩
  refine @ao _ _ _ _ _ _ (@aH _ _ _ _ (@cJ _ _ _ _ _ _ _ _ _ _ _ _ F.plainAttrs_str F.slot_str_join F.type_str_join mS aM (@aa _ _ _ _ _ (@iO _ (ay BA) _ ["_law_script","_law_base","_law_size"] _ _ ("_law_k") _ _ [("_law_script",0),("_law_base",1)] _ _ (by walk_at "ck") (@gi _ _ _ _ _ _ rfl T.gU (@aa _ _ _ _ _ (pv 2) ah (by left)) (by left)) (λ_ _ _ _=>by exact (@aU _ _ _ _ _ _ _ lD aM (@aK _ _ _ _ _ _ _ _ _ _ _ _ _ _ _ _ (d7 T) (hr.mono (by decide)) rfl T.d8 T.b7.kp (T.b7.binds (by walk_at "3")) .nil aG (@aa _ _ _ _ _ (pv 0) (@aa _ _ _ _ _ (@aQ _ _ _ _ _ _ _ _ bM (@aQ _ _ _ _ _ _ _ _ bM (pv 1) ai) (pv 2)) (@aa _ _ _ _ _ ai ah (by left)) (by left)) (by left)) (by left) (by left) (by left)) (λ_ _=>rfl))) (by left) (by left) (by left) (by left)) ah (by left)) (by left) (by left) (by left) (by left) (by left))) ⟨rfl,_,rfl,_,rfl,by omega,by omega,lK (n:=((sz:Nat):Int).toNat) (λj ys H2=>∃ cs:List Nat,ys = (cs.map λc=>(⟨#[c]⟩:Str)).map V.str /\ (∀ c ∈ cs,c ∈ Ck) /\ au H H2) ⟨[],rfl,by simp,s1⟩ (dw (by omega)) ?_ ?_⟩
  ·rintro j ys H2 hj hyl ⟨cs,rfl,hz,s2⟩
   refine ⟨_,rfl,_,rfl,_,_,rfl,rfl,_,rfl,_,_,rfl,rfl,a,ns,_,_,rfl,hS.same s2,(by omega),(by omega),(by decide),hl,λd H3 h0 h1 s3=>?_⟩
   have l6:Ck.length = 6:=by decide +kernel
   obtain ⟨c,e1,e2⟩:=lH Ck h0 (by rw [l6];exact h1)
   refine ⟨_,_,c,rfl,rfl,by decide +kernel,e2,ez hj hyl ⟨cs ++ [c],by simp,?_,s2.trans s3⟩⟩
   intro x hx
   rcases List.mem_append.mp hx with hx | hx
   ·exact hz x hx
   ·rw [List.mem_singleton.mp hx];exact List.mem_of_getElem? e1
  ·rintro ys H2 hyl ⟨cs,rfl,hz,s2⟩ D hD
   rw [List.length_map,List.length_map] at hyl
   refine ⟨_,D,_,rfl,rfl,bB.of af,?_,?_⟩
   ·rw [nu,show ("" : Str).length = 0 from by decide]
    omega
   ·rw [join_eq]
    have e:(Str.join (Str.ofString "") (cs.map λc=>(⟨#[c]⟩:Str))).cps.toList = cs:=k7 cs
    have el:(Str.join (Str.ofString "") (cs.map λc=>(⟨#[c]⟩:Str))).length = cs.length:=by rw [← cj,e]
    refine q _ _ (by show 1 <= (Str.join (Str.ofString "") _).length;rw [el];omega) (by show (Str.join (Str.ofString "") _).length <= 3;rw [el];omega) (λc hc=>?_) (s2.to hD)
    rw [show (("" : Str)) = Str.ofString "" from rfl,e] at hc
    exact hz c hc
noncomputable def Ot (K:PySem.W.Frag):Sp:=λvs H Q _=>∃ (a:Addr) (ns:List Int) (b:Int) (m:Nat),vs = [.ref a,.int b,.int m] /\ bB K H a (ns.map V.int) /\ ns.length <= 63 /\ 0 <= b /\ b <= 50000 /\ 0 < m /\ m <= 100 /\
 ∀ (z:Str) H',z.length < m -> (∀ c ∈ z.cps.toList,c ∈ Ck) -> au H H' -> Q (.str z) H'
abbrev Pr:List Nat:=(Str.ofString "ab()# ab").cps.toList
theorem Oe:∀ c ∈ Pr,c ∈ Ck:=by decide +kernel
theorem LQ (T:Txt K mg t):bw P w K mg base dP 2 t.pQ t.xE ["_law_script","_law_base","_law_most"] (Ot K):=by
 refine T.xT.ok GN ?_ ?_
 walk_at "i"
 ·obtain ⟨a,ns,b,m,rfl,hS,hl,hb0,hb1,hm0,hm1,q⟩:=h
  refine @aF _ _ _ _ _ _ _ (λZ' H'=>∃ z:Nat,z < m /\ Z' = [some (.ref a),some (.int b),some (.int m),some (.int z)] /\ au H H') (aC (i:=3) GN.nd rfl (Or.inl rfl) (aK (d7 T) (hr.mono (by decide)) rfl T.d8 T.b7.kp (T.b7.binds (by walk_at "3")) .nil aG (aa (pv 0) (aa (pv 1) (aa (pv 2) ah))))) ?_ ?_
  ·refine ⟨_,rfl,_,rfl,_,rfl,a,ns,_,_,rfl,hS,(by omega),(by omega),(by omega),hl,λd H1 h0 h1 s1=>?_⟩
   refine ⟨d.toNat,by omega,?_,s1⟩
   rw [show ((d.toNat:Nat):Int) = d by omega]
   rfl
  rintro Z' H1 ⟨sz,hz1,rfl,s1⟩
  refine @ao _ _ _ _ _ _ (@aH _ _ _ _ (@cJ _ _ _ _ _ _ _ _ _ _ _ _ F.plainAttrs_str F.slot_str_join F.type_str_join mS aM (@aa _ _ _ _ _ (@iO _ (ay BL) _ ["_law_script","_law_base","_law_most","_law_size"] _ _ ("_law_k") _ _ [("_law_script",0),("_law_base",1)] _ _ (by walk_at "ck") (@gi _ _ _ _ _ _ rfl T.gU (@aa _ _ _ _ _ (pv 3) ah (by left)) (by left)) (λ_ _ _ _=>by exact (@aU _ _ _ _ _ _ _ lD aM (@aK _ _ _ _ _ _ _ _ _ _ _ _ _ _ _ _ (d7 T) (hr.mono (by decide)) rfl T.d8 T.b7.kp (T.b7.binds (by walk_at "3")) .nil aG (@aa _ _ _ _ _ (pv 0) (@aa _ _ _ _ _ (@aQ _ _ _ _ _ _ _ _ bM (@aQ _ _ _ _ _ _ _ _ bM (pv 1) ai) (pv 2)) (@aa _ _ _ _ _ ai ah (by left)) (by left)) (by left)) (by left) (by left) (by left)) (λ_ _=>rfl))) (by left) (by left) (by left) (by left)) ah (by left)) (by left) (by left) (by left) (by left) (by left))) ⟨rfl,_,rfl,_,rfl,by omega,by omega,lK (n:=((sz:Nat):Int).toNat) (λj ys H2=>∃ cs:List Nat,ys = (cs.map λc=>(⟨#[c]⟩:Str)).map V.str /\ (∀ c ∈ cs,c ∈ Ck) /\ au H H2) ⟨[],rfl,by simp,s1⟩ (dw (by omega)) ?_ ?_⟩
  ·rintro j ys H2 hj hyl ⟨cs,rfl,hz,s2⟩
   refine ⟨_,rfl,_,rfl,_,_,rfl,rfl,_,rfl,_,_,rfl,rfl,a,ns,_,_,rfl,hS.same s2,(by omega),(by omega),(by decide),hl,λd H3 h0 h1 s3=>?_⟩
   have l8:Pr.length = 8:=by decide +kernel
   obtain ⟨c,e1,e2⟩:=lH Pr h0 (by rw [l8];exact h1)
   refine ⟨_,_,c,rfl,rfl,by decide +kernel,e2,ez hj hyl ⟨cs ++ [c],by simp,?_,s2.trans s3⟩⟩
   intro x hx
   rcases List.mem_append.mp hx with hx | hx
   ·exact hz x hx
   ·rw [List.mem_singleton.mp hx];exact Oe _ (List.mem_of_getElem? e1)
  ·rintro ys H2 hyl ⟨cs,rfl,hz,s2⟩ D hD
   rw [List.length_map,List.length_map] at hyl
   refine ⟨_,D,_,rfl,rfl,bB.of af,?_,?_⟩
   ·rw [nu,show ("" : Str).length = 0 from by decide]
    omega
   ·rw [join_eq]
    have e:(Str.join (Str.ofString "") (cs.map λc=>(⟨#[c]⟩:Str))).cps.toList = cs:=k7 cs
    have el:(Str.join (Str.ofString "") (cs.map λc=>(⟨#[c]⟩:Str))).length = cs.length:=by rw [← cj,e]
    refine q _ _ (by show (Str.join (Str.ofString "") _).length < m;rw [el];omega) (λc hc=>?_) (s2.to hD)
    rw [show (("" : Str)) = Str.ofString "" from rfl,e] at hc
    exact hz c hc
structure oA (N k:Nat) (calm:Bool) (R:bA) (z:Str):Prop where
 sort:R.sort ∈ sorts
 z1:1 <= z.length
 z3:z.length <= 3
 zs:∀ c ∈ z.cps.toList,c ∈ Ck
 sg:R.signs = if bare R.sort then ("" : Str) else z
 col:bS R.sort = true -> isName R.aO = true
 Iu:bS R.sort = false -> R.aO = ""
 aW:R.aW ∈ jN
 goal:gb R.aW -> ∃ g,R.goal = some g /\ g < N
 v8:¬ gb R.aW -> R.goal = none
 fold:R.fold = "" ∨ R.fold = "open" ∨ R.fold = "close"
 idle:bS R.sort = false -> calm = false /\ (R.aW = "pop" ∨ (gb R.aW /\ ∃ g,R.goal = some g /\ k < g))
def M0 (R:bA) (z:Str):List V:=[.str R.sort,.str z,.str R.aO,.str R.aW,jf R.goal,.str R.fold]
noncomputable def HM (K:PySem.W.Frag):Sp:=λvs H Q _=>∃ (a:Addr) (ns:List Int) (b:Int) (k N:Nat) (calm:Bool),vs = [.ref a,.int b,.int k,.int N,.bl calm] /\ bB K H a (ns.map V.int) /\ ns.length <= 63 /\ 0 <= b /\ b <= 40000 /\ k < N /\ N <= 4 /\
 ∀ R z tq H',oA N k calm R z -> H' tq = some (.tup (M0 R z)) -> au H H' -> Q (.ref tq) H'
theorem Bq {s:Str} (hs:s ∈ sorts):Jj (.str s) [.str "still",.str "end"] = !bS s:=by
 rw [show ([.str "still",.str "end"]:List V) = (["still","end"]:List Str).map V.str from rfl,iX]
 rcases dW hs with rfl | rfl | rfl | rfl | rfl | rfl | rfl <;> decide +kernel
theorem in2 {x a b:Str}:Jj (.str x) [.str a,.str b] = decide (x = a ∨ x = b):=by
 rw [show ([.str a,.str b]:List V) = ([a,b]:List Str).map V.str from rfl,iX]
 simp only [List.mem_cons,List.not_mem_nil,or_false]
theorem in3 {x a b c:Str}:Jj (.str x) [.str a,.str b,.str c] = decide (x = a ∨ x = b ∨ x = c):=by
 rw [show ([.str a,.str b,.str c]:List V) = ([a,b,c]:List Str).map V.str from rfl,iX]
 simp only [List.mem_cons,List.not_mem_nil,or_false]
theorem kr {d:Str} (h:d ∈ jN):d = "stay" ∨ d = "push" ∨ d = "pop" ∨ d = "into" := by simpa using h
theorem J3 (T:Txt K mg t):bw P w K mg base dP 3 t.qW t.xP ["_law_script","_law_base","_law_number","_law_many","_law_calm"] (HM K):=by
 refine T.xS.ok iw ?_ ?_
 walk_at "i"
 ·obtain ⟨a,ns,b,k,N,calm,rfl,hS,hl,hb0,hb1,hk,hN,q⟩:=h
  refine @aF _ _ _ _ _ _ _ (λZ' H'=>∃ st,st ∈ sorts /\ Z' = [some (.ref a),some (.int b),some (.int k),some (.int N),some (.bl calm),some (.str st),none,none,none,none] /\ au H H') (@aC _ _ 5 _ _ _ _ iw.nd rfl (Or.inl rfl) (@aU _ _ _ _ _ _ _ aY (@bC _ _ _ _ (@fM _ _ ["word","word","one","none","many","any","still","end"] rfl)) (@aK _ _ _ _ _ _ _ _ _ _ _ _ _ _ _ _ (d7 T) (hr.mono (by decide)) rfl T.d8 T.b7.kp (T.b7.binds (by walk_at "3")) .nil aG (@aa _ _ _ _ _ (pv 0) (@aa _ _ _ _ _ (pv 1) (@aa _ _ _ _ _ ai ah (by left)) (by left)) (by left)) (by left) (by left) (by left)) (λ_ _=>rfl)) (by left) (by left)) ?_ ?_
  ·refine ⟨by show 8 <= sizeLine;decide,λl0 hl0=>⟨_,rfl,_,rfl,a,ns,_,_,rfl,(hS.same (au.upd hl0)),hb0,(by omega),(by decide),hl,λd H1 h0 h1 s1=>?_⟩⟩
   obtain ⟨x,hx,e⟩:=pick (xs:=["word","word","one","none","many","any","still","end"]) h0 h1
   have:∀ y ∈ (["word","word","one","none","many","any","still","end"]:List Str),y ∈ sorts:=by decide +kernel
   exact ⟨l0,_,_,_,rfl,rfl,bB.of (s1 _ _ af),e,x,this x hx,rfl,(au.upd hl0).trans s1⟩
  rintro Z' H1 ⟨st0,hst0,rfl,s1⟩
  refine @aF _ _ _ _ _ _ _ (λZ' H'=>∃ st,st ∈ sorts /\ (bS st = false -> calm = false) /\ Z' = [some (.ref a),some (.int b),some (.int k),some (.int N),some (.bl calm),some (.str st),none,none,none,none] /\ au H H') (aP (PW.pt (fR (gG (pv 4)) (fj (az fZ (pv 5) (bR (aa aM (aa aM ah))) rfl)))) ak ak) ?_ ?_
  ·refine ⟨_,rfl,calm,rfl,N8 (λh=>?_) (λh=>aX ⟨st0,hst0,λ_=>h,rfl,s1⟩)⟩
   refine ⟨_,rfl,by show 2 <= sizeLine;decide,λpt hpt=>⟨pt,_,rfl,.inr (fY.of af),rfl,rfl,_,rfl,CG (Bq hst0) (NX (λh2=>?_) (λh2=>aX ⟨st0,hst0,(λz=>by rw [h2] at z;cases z),rfl,s1.to hpt⟩))⟩⟩
   exact @ao _ _ _ _ _ _ (aC (i:=5) iw.nd rfl (Or.inl rfl) aM) ⟨"word",by decide +kernel,(λz=>absurd z (by decide +kernel)),rfl,s1.to hpt⟩
  rintro Z' H2 ⟨st,hst,hcalm,rfl,s2⟩
  refine @aF _ _ _ _ _ _ _ (λZ' H'=>∃ dd,dd ∈ jN /\ Z' = [some (.ref a),some (.int b),some (.int k),some (.int N),some (.bl calm),some (.str st),some (.str dd),none,none,none] /\ au H H') (@aC _ _ 6 _ _ _ _ iw.nd rfl (Or.inl rfl) (@aU _ _ _ _ _ _ _ aY (@bC _ _ _ _ (@fM _ _ ["stay","push","pop","into"] rfl)) (@aK _ _ _ _ _ _ _ _ _ _ _ _ _ _ _ _ (d7 T) (hr.mono (by decide)) rfl T.d8 T.b7.kp (T.b7.binds (by walk_at "3")) .nil aG (@aa _ _ _ _ _ (pv 0) (@aa _ _ _ _ _ (@aQ _ _ _ _ _ _ _ _ bM (pv 1) ai) (@aa _ _ _ _ _ ai ah (by left)) (by left)) (by left)) (by left) (by left) (by left)) (λ_ _=>rfl)) (by left) (by left)) ?_ ?_
  ·refine ⟨by show 4 <= sizeLine;decide,λl0 hl0=>⟨_,rfl,_,rfl,_,_,rfl,rfl,a,ns,_,_,rfl,(hS.same (s2.to hl0)),(by omega),(by omega),(by decide),hl,λd H3 h0 h1 s3=>?_⟩⟩
   obtain ⟨x,hx,e⟩:=pick (xs:=jN) h0 h1
   exact ⟨l0,_,_,_,rfl,rfl,bB.of (s3 _ _ af),e,x,hx,rfl,(s2.to hl0).trans s3⟩
  rintro Z' H3 ⟨dd,hdd,rfl,s3⟩
  refine @aF _ _ _ _ _ _ _ (λZ' H'=>∃ g:Int,0 <= g /\ g < N /\ Z' = [some (.ref a),some (.int b),some (.int k),some (.int N),some (.bl calm),some (.str st),some (.str dd),some (.int g),none,none] /\ au H H') (aC (i:=7) iw.nd rfl (Or.inl rfl) (aK (d7 T) (hr.mono (by decide)) rfl T.d8 T.b7.kp (T.b7.binds (by walk_at "3")) .nil aG (aa (pv 0) (aa (aQ bM (pv 1) ai) (aa (pv 3) ah))))) ?_ ?_
  ·exact ⟨_,rfl,_,rfl,_,_,rfl,rfl,_,rfl,a,ns,_,_,rfl,(hS.same s3),(by omega),(by omega),(by omega),hl,λd H4 h0 h1 s4=>⟨d,h0,h1,rfl,s3.trans s4⟩⟩
  rintro Z' H4 ⟨g,hg0,hg1,rfl,s4⟩
  refine @aF _ _ _ _ _ _ _ (λZ' H'=>∃ c,isName c = true /\ Z' = [some (.ref a),some (.int b),some (.int k),some (.int N),some (.bl calm),some (.str st),some (.str dd),some (.int g),some (.str c),none] /\ au H H') (@aC _ _ 8 _ _ _ _ iw.nd rfl (Or.inl rfl) (@aU _ _ _ _ _ _ _ aY (@bC _ _ _ _ (@fM _ _ ["red","blue","green","r"] rfl)) (@aK _ _ _ _ _ _ _ _ _ _ _ _ _ _ _ _ (d7 T) (hr.mono (by decide)) rfl T.d8 T.b7.kp (T.b7.binds (by walk_at "3")) .nil aG (@aa _ _ _ _ _ (pv 0) (@aa _ _ _ _ _ (@aQ _ _ _ _ _ _ _ _ bM (pv 1) ai) (@aa _ _ _ _ _ ai ah (by left)) (by left)) (by left)) (by left) (by left) (by left)) (λ_ _=>rfl)) (by left) (by left)) ?_ ?_
  ·refine ⟨by show 4 <= sizeLine;decide,λl0 hl0=>⟨_,rfl,_,rfl,_,_,rfl,rfl,a,ns,_,_,rfl,(hS.same (s4.to hl0)),(by omega),(by omega),(by decide),hl,λd H5 h0 h1 s5=>?_⟩⟩
   obtain ⟨x,hx,e⟩:=pick (xs:=["red","blue","green","r"]) h0 h1
   have:∀ y ∈ (["red","blue","green","r"]:List Str),isName y = true:=by decide +kernel
   exact ⟨l0,_,_,_,rfl,rfl,bB.of (s5 _ _ af),e,x,this x hx,rfl,(s4.to hl0).trans s5⟩
  rintro Z' H5 ⟨c,hc,rfl,s5⟩
  refine @aF _ _ _ _ _ _ _ (λZ' H'=>∃ f:Str,(f = "" ∨ f = "open" ∨ f = "close") /\ Z' = [some (.ref a),some (.int b),some (.int k),some (.int N),some (.bl calm),some (.str st),some (.str dd),some (.int g),some (.str c),some (.str f)] /\ au H H') (@aC _ _ 9 _ _ _ _ iw.nd rfl (Or.inl rfl) (@aU _ _ _ _ _ _ _ aY (@bC _ _ _ _ (@fM _ _ ["","","open","close"] rfl)) (@aK _ _ _ _ _ _ _ _ _ _ _ _ _ _ _ _ (d7 T) (hr.mono (by decide)) rfl T.d8 T.b7.kp (T.b7.binds (by walk_at "3")) .nil aG (@aa _ _ _ _ _ (pv 0) (@aa _ _ _ _ _ (@aQ _ _ _ _ _ _ _ _ bM (pv 1) ai) (@aa _ _ _ _ _ ai ah (by left)) (by left)) (by left)) (by left) (by left) (by left)) (λ_ _=>rfl)) (by left) (by left)) ?_ ?_
  ·refine ⟨by show 4 <= sizeLine;decide,λl0 hl0=>⟨_,rfl,_,rfl,_,_,rfl,rfl,a,ns,_,_,rfl,(hS.same (s5.to hl0)),(by omega),(by omega),(by decide),hl,λd H6 h0 h1 s6=>?_⟩⟩
   obtain ⟨x,hx,e⟩:=pick (xs:=["","","open","close"]) h0 h1
   exact ⟨l0,_,_,_,rfl,rfl,bB.of (s6 _ _ af),e,x,by simpa using hx,rfl,(s5.to hl0).trans s6⟩
  rintro Z' H6 ⟨f,hf,rfl,s6⟩
  refine @aF _ _ _ _ _ _ _ (λZ' H'=>∃ (dd:Str) (g:Int) (c:Str),dd ∈ jN /\ 0 <= g /\ g < N /\ (bS st = true -> isName c = true) /\ (bS st = false -> c = "") /\ (bS st = false -> dd = "pop" ∨ (gb dd /\ (k:Int) < g)) /\ Z' = [some (.ref a),some (.int b),some (.int k),some (.int N),some (.bl calm),some (.str st),some (.str dd),some (.int g),some (.str c),some (.str f)] /\ au H H') (aP (az fZ (pv 5) (bR (aa aM (aa aM ah))) rfl) ak ak) ?_ ?_
  ·refine ⟨_,rfl,by show 2 <= sizeLine;decide,λpt hpt=>⟨pt,_,rfl,.inr (fY.of af),rfl,rfl,_,rfl,CG (Bq hst) (NX (λh=>?_) (λh=>aX ⟨dd,g,c,hdd,hg0,hg1,λ_=>hc,(λz=>by rw [h] at z;cases z),(λz=>by rw [h] at z;cases z),rfl,s6.to hpt⟩))⟩⟩
   have s7:au H (upd H6 pt (.tup [.str "still",.str "end"])):=s6.to hpt
   generalize upd H6 pt (.tup [.str "still",.str "end"]) = H7 at s7
   refine @av _ _ _ _ _ _ _ (aC (i:=8) iw.nd rfl (Or.inl rfl) aM) ?_
   refine @aF _ _ _ _ _ _ _ (λZ' H'=>∃ dd,dd ∈ jN /\ (dd = "pop" ∨ k + 1 < N) /\ Z' = [some (.ref a),some (.int b),some (.int k),some (.int N),some (.bl calm),some (.str st),some (.str dd),some (.int g),some (.str ""),some (.str f)] /\ au H H') (@aP _ _ _ _ _ _ _ _ (@PW.pt _ _ _ (@fR _ _ _ _ _ _ _ (@az _ _ _ _ _ _ _ _ fZ (pv 6) (@bR _ _ _ _ _ (@fM _ _ ["stay","push","into"] rfl)) rfl) (@fj _ _ _ _ (@az _ _ _ _ _ _ _ _ bE (@aQ _ _ _ _ _ _ _ _ bM (pv 2) ai) (pv 3) (aA _))))) ak ak) ?_ ?_
   ·refine ⟨_,rfl,by show 3 <= sizeLine;decide,λpt hpt=>⟨pt,_,rfl,.inr (fY.of af),rfl,rfl,_,rfl,CG in3 (cI (λh2=>?_) (λh2=>aX ⟨dd,hdd,?_,rfl,s7.to hpt⟩))⟩⟩
    ·refine ⟨_,rfl,_,_,rfl,rfl,_,rfl,rfl,_,rfl,cI (λh3=>?_) (λh3=>aX ⟨dd,hdd,.inr ?_,rfl,s7.to hpt⟩)⟩
     ·exact @ao _ _ _ _ _ _ (aC (i:=6) iw.nd rfl (Or.inl rfl) aM) ⟨"pop",by decide +kernel,.inl rfl,rfl,s7.to hpt⟩
     ·have:¬ (k:Int) + 1 = N:=λz=>h3 (by show V.int ((k:Int) + 1) = _;rw [z])
      omega
    ·rcases kr hdd with e | e | e | e
     ·exact absurd (.inl e) h2
     ·exact absurd (.inr (.inl e)) h2
     ·exact .inl e
     ·exact absurd (.inr (.inr e)) h2
   rintro Z' H8 ⟨dd1,hdd1,hp1,rfl,s8⟩
   refine @aF _ _ _ _ _ _ _ (λZ' H'=>∃ dd,dd ∈ jN /\ (dd = "pop" ∨ (gb dd /\ k + 1 < N)) /\ Z' = [some (.ref a),some (.int b),some (.int k),some (.int N),some (.bl calm),some (.str st),some (.str dd),some (.int g),some (.str ""),some (.str f)] /\ au H H') (aP (az bE (pv 6) aM (aA _)) ak ak) ?_ ?_
   ·refine ⟨_,rfl,rfl,_,rfl,cI (λh2=>?_) (λh2=>aX ⟨dd1,hdd1,?_,rfl,s8⟩)⟩
    ·have h2:=V.str.inj h2
     refine @ao _ _ _ _ _ _ (aC (i:=6) iw.nd rfl (Or.inl rfl) aM) ⟨"push",by decide +kernel,.inr ⟨.inl rfl,?_⟩,rfl,s8⟩
     rcases hp1 with z | z
     ·rw [z] at h2;exact absurd h2 (by decide)
     ·exact z
    ·rcases kr hdd1 with e | e | e | e
     ·exact absurd (by rw [e]) h2
     ·exact .inr ⟨.inl e,by rcases hp1 with z | z;(rw [z] at e;exact absurd e (by decide));exact z⟩
     ·exact .inl e
     ·exact .inr ⟨.inr e,by rcases hp1 with z | z;(rw [z] at e;exact absurd e (by decide));exact z⟩
   rintro Z' H9 ⟨dd2,hdd2,hp2,rfl,s9⟩
   refine @ao _ _ _ _ _ _ (aP (az fZ (pv 6) (bR (aa aM (aa aM ah))) rfl) ak ak) ⟨_,rfl,by show 2 <= sizeLine;decide,λpt hpt=>⟨pt,_,rfl,.inr (fY.of af),rfl,rfl,_,rfl,CG in2 (cI (λh2=>?_) (λh2=>aX ⟨dd2,g,"",hdd2,hg0,hg1,(λz=>by rw [h] at z;cases z),λ_=>rfl,λ_=>.inl ?_,rfl,s9.to hpt⟩))⟩⟩
   ·have hkN:k + 1 < N:=by
     rcases hp2 with z | z
     ·rw [z] at h2;exact absurd h2 (by decide)
     ·exact z.2
    have hd:=ja g (m:=(N:Int) - k - 1) (by omega)
    exact @ao _ _ _ _ _ _ (aC (i:=7) iw.nd rfl (Or.inl rfl) (aQ bM (aQ bM (pv 2) ai) (aQ iy (pv 7) (aQ jo (aQ jo (pv 3) (pv 2)) ai)))) ⟨_,rfl,_,_,rfl,rfl,_,rfl,_,rfl,_,rfl,_,_,rfl,rfl,_,_,rfl,rfl,_,_,rfl,rfl,(by show (0:Int) < (N:Int) - k - 1;omega),_,_,rfl,rfl,dd2,(k:Int) + 1 + g % ((N:Int) - k - 1),"",hdd2,by omega,by omega,(λz=>by rw [h] at z;cases z),λ_=>rfl,λ_=>.inr ⟨h2,by omega⟩,rfl,s9.to hpt⟩
   ·rcases hp2 with z | z
    ·exact z
    ·exact absurd z.1 h2
  rintro Z' H7 ⟨dd,g,c,hdd,hg0,hg1,hc1,hc2,hid,rfl,s7⟩
  refine @aF _ _ _ _ _ _ _ (λZ' H'=>∃ go:Option Nat,(gb dd -> go = some g.toNat) /\ (¬ gb dd -> go = none) /\ Z' = [some (.ref a),some (.int b),some (.int k),some (.int N),some (.bl calm),some (.str st),some (.str dd),some (jf go),some (.str c),some (.str f)] /\ au H H') (aP (az fZ (pv 6) (bR (aa aM (aa aM ah))) rfl) ak ak) ?_ ?_
  ·refine ⟨_,rfl,by show 2 <= sizeLine;decide,λpt hpt=>⟨pt,_,rfl,.inr (fY.of af),rfl,rfl,_,rfl,CG in2 (cI (λh2=>?_) (λh2=>aX ⟨some g.toNat,λ_=>rfl,λz=>?_,?_,s7.to hpt⟩))⟩⟩
   ·refine @ao _ _ _ _ _ _ (aC (i:=7) iw.nd rfl (Or.inl rfl) bL) ⟨none,λz=>?_,λ_=>rfl,rfl,s7.to hpt⟩
    rcases h2 with e | e <;> rw [e] at z <;> exact absurd z (by decide)
   ·exfalso
    rcases kr hdd with e | e | e | e
    ·exact h2 (.inl e)
    ·exact z (.inl e)
    ·exact h2 (.inr e)
    ·exact z (.inr e)
   ·show _ = [_,_,_,_,_,_,_,some (V.int ((g.toNat:Nat):Int)),_,_]
    rw [show ((g.toNat:Nat):Int) = g by omega]
  rintro Z' H8 ⟨go,hgo1,hgo2,rfl,s8⟩
  refine @ao _ _ _ _ _ _ (aH (bR (aa (pv 5) (aa (aK (JF T) (hr.mono (by decide)) rfl T.LH T.yd.kp (T.yd.binds (by walk_at "2")) .nil aG (aa (pv 0) (aa (aQ bM (pv 1) ai) ah))) (aa (pv 8) (aa (pv 6) (aa (pv 7) (aa (pv 9) ah)))))))) ⟨_,rfl,_,rfl,_,rfl,_,_,rfl,rfl,a,ns,_,rfl,(hS.same s8),hl,(by omega),(by omega),λz H9 hz1 hz3 hzs s9=>⟨_,rfl,_,rfl,_,rfl,_,rfl,by show 6 <= sizeLine;decide,λtq htq=>?_⟩⟩
  refine q ⟨st,if bare st then ("" : Str) else z,c,dd,go,f⟩ z tq _ ⟨hst,hz1,hz3,hzs,rfl,hc1,hc2,hdd,λh=>⟨_,hgo1 h,by omega⟩,hgo2,hf,λh=>⟨hcalm h,?_⟩⟩ af ((s8.trans s9).to htq)
  rcases hid h with z | ⟨z1,z2⟩
  ·exact .inl z
  ·exact .inr ⟨z1,g.toNat,hgo1 z1,by omega⟩
noncomputable def LR (H:Hp) (tr:Addr) (R:bA):Prop:=∃ z,H tr = some (.tup (M0 R z)) /\ z.length <= 200 /\ (¬ bare R.sort -> z = R.signs)
noncomputable def wR (H:Hp) (tm:Addr) (m:aE):Prop:=∃ lr rs,H tm = some (.tup [.str m.name,.str m.aO,.ref lr]) /\ H lr = some (.lst (rs.map V.ref)) /\ cU (LR H) rs m.rules
noncomputable def Gh (H:Hp) (lm:Addr) (ms:List aE):Prop:=∃ ts,H lm = some (.lst (ts.map V.ref)) /\ cU (wR H) ts ms
theorem LR.same {H H':Hp} {tr:Addr} {R:bA} (h:LR H tr R) (s:au H H'):LR H' tr R:=let ⟨z,a,b⟩:=h;⟨z,s _ _ a,b⟩
theorem wR.same {H H':Hp} {tm:Addr} {m:aE} (h:wR H tm m) (s:au H H'):wR H' tm m:=let ⟨lr,rs,x,y,z⟩:=h;⟨lr,rs,s _ _ x,s _ _ y,z.mono λ_ _ r=>r.same s⟩
theorem Gh.same {H H':Hp} {lm:Addr} {ms:List aE} (h:Gh H lm ms) (s:au H H'):Gh H' lm ms:=let ⟨ts,x,z⟩:=h;⟨ts,s _ _ x,z.mono λ_ _ r=>r.same s⟩
structure Built (calm:Bool) (ms:List aE):Prop where
 pos:0 < ms.length
 four:ms.length <= 4
 nd:(ms.map (·.name)).Nodup
 nm:∀ m ∈ ms,isName m.name = true /\ isName m.aO = true
 rules:∀ (k:Nat) m,ms[k]? = some m -> m.rules.length <= 6 /\ ∀ R ∈ m.rules,∃ z,oA ms.length k calm R z
def hide (H:Hp) (x:Addr):Hp:=λb=>if b = x then none else H b
theorem tM {H:Hp} {x:Addr}:au (hide H x) H:=λb o h=>by
 unfold hide at h
 split at h
 ·cases h
 ·exact h
theorem vE {H:Hp} {x b:Addr} {o:HO} (h:H b = some o) (h1:b ≠ x):hide H x b = some o:=by
 unfold hide
 rw [if_neg h1]
 exact h
theorem Eh {H:Hp} {x:Addr}:hide H x x = none:=by unfold hide;rw [if_pos rfl]
theorem au.hid {G H:Hp} {x:Addr} (s:au G H) (h1:G x = none):au G (hide H x):=λb o h=>vE (s b o h) (aq h h1)
theorem au.up {G H:Hp} {x:Addr} {o:HO} (s:au G H) (h:G x = none):au G (L2.upd H x o):=λb u e=>by rw [aj (aq e h)];exact s b u e
noncomputable def HB (K:PySem.W.Frag):Sp:=λvs H Q _=>∃ (a:Addr) (ns:List Int) (b:Int) (calm:Bool),vs = [.ref a,.int b,.bl calm] /\ bB K H a (ns.map V.int) /\ ns.length <= 63 /\ 0 <= b /\ b <= 30000 /\
 ∀ ms lm H',Built calm ms -> Gh H' lm ms -> au H H' -> Q (.ref lm) H'
def sJ:List (List Str):=[["a","b","c","d"],["a","ab","abc","abcdefgh"],["word","mode","end","stay"]]
theorem vn:∀ l ∈ sJ,l.length = 4 /\ l.Nodup /\ ∀ x ∈ l,isName x = true:=by decide +kernel
theorem FI (T:Txt K mg t):bw P w K mg base dP 4 t.rM t.xG ["_law_script","_law_base","_law_calm"] (HB K):=by
 refine T.pO.ok j0 ?_ ?_
 walk_at "i"
 ·obtain ⟨a,ns,b,calm,rfl,hS,hl,hb0,hb1,q⟩:=h
  refine @aF _ _ _ _ _ _ _ (λZ' H'=>∃ l l1 l2 l3,Z' = [some (.ref a),some (.int b),some (.bl calm),some (.ref l),none,none,none,none,none] /\ H' l = some (.lst [.ref l1,.ref l2,.ref l3]) /\ H' l1 = some (.lst ((["a","b","c","d"]:List Str).map V.str)) /\ H' l2 = some (.lst ((["a","ab","abc","abcdefgh"]:List Str).map V.str)) /\ H' l3 = some (.lst ((["word","mode","end","stay"]:List Str).map V.str)) /\ au H H') (@aC _ _ 3 _ _ _ _ j0.nd rfl (Or.inl rfl) (@bC _ _ _ _ (@aa _ _ _ _ _ (@bC _ _ _ _ (@fM _ _ ["a","b","c","d"] rfl)) (@aa _ _ _ _ _ (@bC _ _ _ _ (@fM _ _ ["a","ab","abc","abcdefgh"] rfl)) (@aa _ _ _ _ _ (@bC _ _ _ _ (@fM _ _ ["word","mode","end","stay"] rfl)) ah (by left)) (by left)) (by left))) (by left) (by left)) ?_ ?_
  ·refine ⟨by show 4 <= sizeLine;decide,λl1 h1=>⟨by show 4 <= sizeLine;decide,λl2 h2=>⟨by show 4 <= sizeLine;decide,λl3 h3=>⟨by show 3 <= sizeLine;decide,λl hl0=>⟨l,l1,l2,l3,rfl,af,?_,?_,?_,(((au.upd h1).to h2).to h3).to hl0⟩⟩⟩⟩⟩
   ·exact au.upd hl0 _ _ (au.upd h3 _ _ (au.upd h2 _ _ af))
   ·exact au.upd hl0 _ _ (au.upd h3 _ _ af)
   ·exact au.upd hl0 _ _ af
  rintro Z' H1 ⟨l,l1,l2,l3,rfl,e0,e1,e2,e3,s1⟩
  refine @aF _ _ _ _ _ _ _ (λZ' H'=>∃ ln nms,nms ∈ sJ /\ Z' = [some (.ref a),some (.int b),some (.bl calm),some (.ref ln),none,none,none,none,none] /\ H' ln = some (.lst (nms.map V.str)) /\ au H H') (aC (i:=3) j0.nd rfl (Or.inl rfl) (aU aY (pv 3) (aK (d7 T) (hr.mono (by decide)) rfl T.d8 T.b7.kp (T.b7.binds (by walk_at "3")) .nil aG (aa (pv 0) (aa (pv 1) (aa ai ah)))) (λ_ _=>rfl))) ?_ ?_
  ·refine ⟨_,rfl,_,rfl,_,rfl,a,ns,_,_,rfl,(hS.same s1),hb0,(by omega),(by decide),hl,λd H2 h0 h1 s2=>?_⟩
   obtain ⟨v,g1,g2⟩:=lH [V.ref l1,V.ref l2,V.ref l3] h0 h1
   have hv:=List.mem_of_getElem? g1
   simp only [List.mem_cons,List.not_mem_nil,or_false] at hv
   refine ⟨_,_,_,_,rfl,rfl,bB.of (s2 _ _ e0),g2,?_⟩
   rcases hv with rfl | rfl | rfl
   ·exact ⟨l1,_,by decide +kernel,rfl,s2 _ _ e1,s1.trans s2⟩
   ·exact ⟨l2,_,by decide +kernel,rfl,s2 _ _ e2,s1.trans s2⟩
   ·exact ⟨l3,_,by decide +kernel,rfl,s2 _ _ e3,s1.trans s2⟩
  rintro Z' H2 ⟨ln,nms,hnms,rfl,hln,s2⟩
  obtain ⟨n4,nnd,nnm⟩:=vn nms hnms
  refine @aF _ _ _ _ _ _ _ (λZ' H'=>∃ N:Nat,0 < N /\ N <= 4 /\ Z' = [some (.ref a),some (.int b),some (.bl calm),some (.ref ln),some (.int N),none,none,none,none] /\ au H2 H') (aC (i:=4) j0.nd rfl (Or.inl rfl) (aQ bM ai (aK (d7 T) (hr.mono (by decide)) rfl T.d8 T.b7.kp (T.b7.binds (by walk_at "3")) .nil aG (aa (pv 0) (aa (aQ bM (pv 1) ai) (aa ai ah)))))) ?_ ?_
  ·refine ⟨_,rfl,_,rfl,_,_,rfl,rfl,a,ns,_,_,rfl,(hS.same s2),(by omega),(by omega),(by decide),hl,λd H3 h0 h1 s3=>⟨_,_,rfl,rfl,?_⟩⟩
   refine ⟨(1 + d).toNat,by omega,by omega,?_,s3⟩
   rw [show (((1 + d).toNat:Nat):Int) = 1 + d by omega]
   rfl
  rintro Z' H3 ⟨N,hN0,hN1,rfl,s3⟩
  have hln3:=s3 _ _ hln
  have s3:=s2.trans s3
  refine @av _ _ _ _ _ _ _ (aC (i:=5) j0.nd rfl (Or.inl rfl) (bC ah)) ⟨by show 0 <= sizeLine;decide,λlm hlm=>?_⟩
  have s4:au H3 (upd H3 lm (.lst [])):=au.upd hlm
  have hm4:upd H3 lm (.lst []) lm = some (.lst []):=af
  have hln4:=s4 _ _ hln3
  have nlm:ln ≠ lm:=aq hln3 hlm
  have hlm0:H lm = none:=s3.free hlm
  show At _ _ _ [some (.ref a),some (.int b),some (.bl calm),some (.ref ln),some (.int N),some (.ref lm),none,none,none] _
  generalize upd H3 lm (.lst []) = H4 at s4 hm4 hln4
  have s4:=s3.trans s4
  refine @aF _ _ _ _ _ _ _ (λZ' H'=>(∃ x6 x7 x8,Z' = [some (.ref a),some (.int b),some (.bl calm),some (.ref ln),some (.int N),some (.ref lm),x6,x7,x8]) /\ ∃ ms,Built calm ms /\ Gh H' lm ms /\ au H H') (dQ PassesOwn.never rfl (gi rfl T.gU (aa (pv 4) ah)) (bK (i:=6) j0.nd rfl (Or.inl rfl)) ak) ?_ ?_
  ·refine ⟨_,rfl,_,rfl,by omega,by omega,jc (n:=((N:Nat):Int).toNat) (λk Z' H'=>(∃ x6 x7 x8,Z' = [some (.ref a),some (.int b),some (.bl calm),some (.ref ln),some (.int N),some (.ref lm),x6,x7,x8]) /\ ∃ ms ts G,H' lm = some (.lst (ts.map V.ref)) /\ H' ln = some (.lst (nms.map V.str)) /\ au G H' /\ G lm = none /\ cU (wR G) ts ms /\ ms.map (·.name) = nms.take k /\ ms.length = k /\ (∀ m ∈ ms,isName m.name = true /\ isName m.aO = true) /\ (∀ (k:Nat) m,ms[k]? = some m -> m.rules.length <= 6 /\ ∀ R ∈ m.rules,∃ z,oA N k calm R z) /\ au H H') ?_ ?_ ?_⟩
   ·exact ⟨⟨_,_,_,rfl⟩,[],[],hide H4 lm,hm4,hln4,tM,Eh,cU.nil,rfl,rfl,by simp,λk m h=>by simp at h,s4⟩
   ·rintro k Z' H5 hk ⟨⟨x6,x7,x8,rfl⟩,ms,ts,G,hm5,hln5,sG,G1,hA,hnames,hml,hnm,hru,s5⟩
    have hkN:k < N:=by omega
    obtain ⟨nm,hnk⟩:∃ x,nms[k]? = some x:=⟨nms[k]'(by omega),List.getElem?_eq_getElem _⟩
    have hnmk:isName nm = true:=nnm nm (List.mem_of_getElem? hnk)
    have hat:vF (nms.map V.str) ((0:Int) + (k:Int)) = some (.str nm):=by
     rw [Int.zero_add]
     refine bq ?_
     rw [List.getElem?_map,hnk]
     rfl
    refine @av _ _ _ _ _ _ _ (aC (i:=7) j0.nd rfl (Or.inl rfl) (bC ah)) ⟨by show 0 <= sizeLine;decide,λlu hlu=>?_⟩
    have hu6:upd H5 lu (.lst []) lu = some (.lst []):=af
    have s6':au H5 (upd H5 lu (.lst [])):=au.upd hlu
    have u2:lm ≠ lu:=aq hm5 hlu
    have u4:G lu = none:=sG.free hlu
    have u5:H lu = none:=s5.free hlu
    have u6:ln ≠ lu:=aq hln5 hlu
    show At _ _ _ [some (.ref a),some (.int b),some (.bl calm),some (.ref ln),some (.int N),some (.ref lm),some (.int (0 + k)),some (.ref lu),x8] _
    generalize upd H5 lu (.lst []) = H6 at hu6 s6'
    have hm6:=s6' _ _ hm5
    have hln6:=s6' _ _ hln5
    have sG6:=sG.trans s6'
    have s6:=s5.trans s6'
    refine @aF _ _ _ _ _ _ _ (λZ' H'=>(∃ x8,Z' = [some (.ref a),some (.int b),some (.bl calm),some (.ref ln),some (.int N),some (.ref lm),some (.int (0 + k)),some (.ref lu),x8]) /\ ∃ Rs rs,H' lu = some (.lst (rs.map V.ref)) /\ cU (LR H') rs Rs /\ Rs.length <= 6 /\ (∀ R ∈ Rs,∃ z,oA N k calm R z) /\ H' lm = some (.lst (ts.map V.ref)) /\ H' ln = some (.lst (nms.map V.str)) /\ au G H' /\ au H H') (dQ PassesOwn.never rfl (gi rfl T.gU (aa (aK (d7 T) (hr.mono (by decide)) rfl T.d8 T.b7.kp (T.b7.binds (by walk_at "3")) .nil aG (aa (pv 0) (aa (aQ bM (aQ bM (pv 1) ai) (pv 6)) (aa ai ah)))) ah)) (bK (i:=8) j0.nd rfl (Or.inl rfl)) ak) ?_ ?_
    ·refine ⟨_,rfl,_,rfl,_,_,rfl,rfl,_,rfl,_,_,rfl,rfl,a,ns,_,_,rfl,hS.same s6,(by omega),(by omega),(by decide),hl,λd H7 h0 h1 s7=>?_⟩
     refine ⟨d,rfl,by omega,by omega,jc (n:=d.toNat) (λj Z' H'=>(∃ x8,Z' = [some (.ref a),some (.int b),some (.bl calm),some (.ref ln),some (.int N),some (.ref lm),some (.int (0 + k)),some (.ref lu),x8]) /\ ∃ Rs rs,H' lu = some (.lst (rs.map V.ref)) /\ cU (LR H') rs Rs /\ Rs.length = j /\ (∀ R ∈ Rs,∃ z,oA N k calm R z) /\ H' lm = some (.lst (ts.map V.ref)) /\ H' ln = some (.lst (nms.map V.str)) /\ au G H' /\ au H H') ?_ ?_ ?_⟩
     ·exact ⟨⟨_,rfl⟩,[],[],s7 _ _ hu6,cU.nil,rfl,by simp,s7 _ _ hm6,s7 _ _ hln6,sG6.trans s7,s6.trans s7⟩
     ·rintro j Z' H8 hj ⟨⟨y8,rfl⟩,Rs,rs,hu8,hA8,hRl,hB8,hm8,hln8,sG8,s8⟩
      refine @ao _ _ _ _ _ _ (aR (cJ F.plainAttrs_list F.slot_list_append F.type_list_append bJ (pv 7) (aa (aK (J3 T) (hr.mono (by decide)) rfl T.JV T.xS.kp (T.xS.binds (by walk_at "5")) .nil aG (aa (pv 0) (aa (aQ bM (aQ bM (aQ bM (pv 1) ai) (aQ lB ai (pv 6))) (aQ lB ai (pv 8))) (aa (pv 6) (aa (pv 4) (aa (pv 2) ah)))))) ah))) ⟨_,rfl,.inl ⟨rfl,_,bB.of hu8⟩,_,rfl,_,rfl,_,_,rfl,rfl,_,rfl,_,_,rfl,rfl,.inl ⟨by decide,by decide⟩,_,_,rfl,rfl,_,rfl,_,_,rfl,rfl,.inl ⟨by decide,by decide⟩,_,_,rfl,rfl,_,rfl,_,rfl,_,rfl,a,ns,_,k,N,calm,(by rw [Int.zero_add];rfl),hS.same s8,hl,(by omega),(by omega),hkN,hN1,λR z tq H9 hBR htq s9=>?_⟩
      have hu9:=s9 _ _ hu8
      have rl:rs.length = j:=by rw [hA8.1,hRl]
      refine ⟨lu,_,_,rfl,rfl,hu9,dw (by rw [List.length_map];omega),⟨_,rfl⟩,Rs ++ [R],rs ++ [tq],by rw [af,List.map_append];rfl,?_,by simp [hRl],?_,?_,?_,?_,?_⟩
      ·have keep:∀ tr R',LR H9 tr R' -> LR (upd H9 lu (.lst (rs.map V.ref ++ [.ref tq]))) tr R':=λtr R' h=>by
        obtain ⟨z',a1,a2⟩:=h
        exact ⟨z',by rw [aj (cQ a1 hu9 (by intro z;cases z))];exact a1,a2⟩
       refine cU.snoc (hA8.mono λtr R' h=>keep tr R' (h.same s9)) (keep tq R ⟨z,htq,by have:=hBR.z3;omega,λh=>?_⟩)
       rw [hBR.sg,if_neg h]
      ·intro R' h
       rcases List.mem_append.mp h with h | h
       ·exact hB8 R' h
       ·rw [List.mem_singleton.mp h];exact ⟨z,hBR⟩
      ·rw [aj u2];exact s9 _ _ hm8
      ·rw [aj u6];exact s9 _ _ hln8
      ·exact au.up (sG8.trans s9) u4
      ·exact au.up (s8.trans s9) u5
     ·rintro Z' H8 ⟨hZ,Rs,rs,h1',h2',h3',r⟩
      exact ⟨hZ,Rs,rs,h1',h2',by omega,r⟩
    rintro Z' H7 ⟨⟨y8,rfl⟩,Rs,rs,hu7,hA7,hRl,hB7,hm7,hln7,sG7,s7⟩
    refine @ao _ _ _ _ _ _ (@aR _ _ _ _ (@cJ _ _ _ _ _ _ _ _ _ _ _ _ F.plainAttrs_list F.slot_list_append F.type_list_append bJ (pv 5) (@aa _ _ _ _ _ (@bR _ _ _ _ _ (@aa _ _ _ _ _ (@aU _ _ _ _ _ _ _ aY (pv 3) (pv 6) (λ_ _=>rfl)) (@aa _ _ _ _ _ (@aU _ _ _ _ _ _ _ aY (@bC _ _ _ _ (@fM _ _ ["plain","red","mode","z"] rfl)) (@aK _ _ _ _ _ _ _ _ _ _ _ _ _ _ _ _ (d7 T) (hr.mono (by decide)) rfl T.d8 T.b7.kp (T.b7.binds (by walk_at "3")) .nil aG (@aa _ _ _ _ _ (pv 0) (@aa _ _ _ _ _ (@aQ _ _ _ _ _ _ _ _ bM (@aQ _ _ _ _ _ _ _ _ bM (pv 1) ai) (pv 6)) (@aa _ _ _ _ _ ai ah (by left)) (by left)) (by left)) (by left) (by left) (by left)) (λ_ _=>rfl)) (@aa _ _ _ _ _ (pv 7) ah (by left)) (by left)) (by left))) ah (by left)) (by left) (by left) (by left) (by left) (by left)) (by left)) ⟨_,rfl,.inl ⟨rfl,_,bB.of hm7⟩,_,rfl,_,rfl,_,_,_,_,rfl,rfl,bB.of hln7,hat,by show 4 <= sizeLine;decide,λl0 hl0=>⟨_,rfl,_,rfl,_,_,rfl,rfl,_,rfl,_,_,rfl,rfl,a,ns,_,_,rfl,hS.same (s7.to hl0),(by omega),(by omega),(by decide),hl,λd H8 h0 h1 s8=>?_⟩⟩
    obtain ⟨c,hcx,e⟩:=pick (xs:=["plain","red","mode","z"]) h0 h1
    have hcn:isName c = true:=by
     have:∀ y ∈ (["plain","red","mode","z"]:List Str),isName y = true:=by decide +kernel
     exact this c hcx
    have s78:=(au.upd hl0).trans s8
    refine ⟨l0,_,_,_,rfl,rfl,bB.of (s8 _ _ af),e,_,rfl,by show 3 <= sizeLine;decide,λtm htm=>?_⟩
    have s9:au H7 (upd H8 tm (.tup [.str nm,.str c,.ref lu])):=s78.to htm
    have htm9:upd H8 tm (.tup [.str nm,.str c,.ref lu]) tm = some (.tup [.str nm,.str c,.ref lu]):=af
    generalize upd H8 tm (.tup [.str nm,.str c,.ref lu]) = H9 at s9 htm9
    have hm9:=s9 _ _ hm7
    have hh:∀ {b o},H9 b = some o -> b ≠ lm -> upd H9 lm (.lst (ts.map V.ref ++ [.ref tm])) b = some o:=λ{b o} e ne=>by rw [aj ne];exact e
    refine ⟨lm,_,_,rfl,rfl,hm9,dw (by rw [List.length_map,hA.1];omega),⟨_,_,_,rfl⟩,ms ++ [⟨nm,c,Rs⟩],ts ++ [tm],hide (upd H9 lm (.lst (ts.map V.ref ++ [.ref tm]))) lm,by rw [af,List.map_append];rfl,hh (s9 _ _ hln7) nlm,tM,Eh,?_,?_,by simp [hml],?_,?_,?_⟩
    ·refine cU.snoc (hA.mono λ_ _ r=>r.same (au.hid (au.up (sG7.trans s9) G1) G1)) ?_
     have nt:∀ {b xs},H9 b = some (.tup xs) -> hide (upd H9 lm (.lst (ts.map V.ref ++ [.ref tm]))) lm b = some (.tup xs):=λ{b xs} e=>by
      have b1:b ≠ lm:=cQ e hm9 (by intro z;cases z)
      exact vE (hh e b1) b1
     refine ⟨lu,rs,nt htm9,vE (hh (s9 _ _ hu7) (Ne.symm u2)) (Ne.symm u2),hA7.mono λ_ _ e=>?_⟩
     obtain ⟨z',a1,a2⟩:=e
     exact ⟨z',nt (s9 _ _ a1),a2⟩
    ·rw [List.map_append,hnames,take_snoc hnk];rfl
    ·intro m hm
     rcases List.mem_append.mp hm with hm | hm
     ·exact hnm m hm
     ·rw [List.mem_singleton.mp hm];exact ⟨hnmk,hcn⟩
    ·intro k' m hm
     rcases cR hm with hm | ⟨e1,e2⟩
     ·exact hru k' m hm
     ·rw [e2,e1,hml]
      exact ⟨hRl,hB7⟩
    ·exact au.up (s7.trans s9) hlm0
   ·rintro Z' H5 ⟨hZ,ms,ts,G,hm5,hln5,sG,G1,hA,hnames,hml,hnm,hru,s5⟩
    rw [Int.toNat_natCast] at hml hnames
    refine ⟨hZ,ms,⟨by omega,by omega,?_,hnm,?_⟩,⟨ts,hm5,hA.mono λ_ _ r=>r.same sG⟩,s5⟩
    ·rw [hnames];exact nnd.sublist (List.take_sublist _ _)
    ·rw [hml];exact hru
  rintro Z' H5 ⟨⟨x6,x7,x8,rfl⟩,ms,hB,hL,s5⟩
  exact @ao _ _ _ _ _ _ (aH (pv 5)) ⟨_,rfl,q ms lm H5 hB hL s5⟩
structure zH (H0 H:Hp) (l:Addr) (ws:List Str):Prop where
 at_:H l = some (.lst (ws.map V.str))
 new:H0 l = none
 same:au H0 H
theorem zH.add {H0 H:Hp} {l:Addr} {ws:List Str} {x:Str} (W:zH H0 H l ws):zH H0 (upd H l (.lst (ws.map V.str ++ [.str x]))) l (ws ++ [x]) :=
 ⟨by rw [af,List.map_append];rfl,W.new,λb o hb=>by rw [aj (aq hb W.new)];exact W.same _ _ hb⟩
theorem zH.to {H0 H H':Hp} {l:Addr} {ws:List Str} (W:zH H0 H l ws) (s:au H H'):zH H0 H' l ws:=⟨s _ _ W.at_,W.new,W.same.trans s⟩
theorem Aa {m:Nat}:∀ (ys:List Str),(∀ y ∈ ys,y.length <= m) -> (ys.map (·.length)).sum <= ys.length * m
 | [],_=>by simp
 | x :: r,h=>by
  have h1:=h x (by simp)
  have h2:=Aa r (λz hz=>h z (List.mem_cons_of_mem _ hz))
  rw [List.map_cons,List.sum_cons,List.length_cons,Nat.succ_mul]
  omega
theorem F3 (z:Str):(PySem.Txt.replace z " " "_").length = z.length:=by
 have:=congrArg List.length (ko z 32 95)
 rw [cj,jZ,List.length_map,cj] at this
 rw [show ((" " : Str)) = ⟨#[32]⟩ from by decide +kernel,show (("_" : Str)) = ⟨#[95]⟩ from by decide +kernel]
 exact this
theorem El {names:List Str} {n c:Str}:(Str.ofString "mode " ++ n ++ Str.ofString " " ++ c:Str) = rowOf names (.mode n c):=by
 refine oY ?_
 unfold rowOf
 rw [iu,jl,jl,jl]
 show _ = (Str.ofString "mode").cps.toList ++ 32 :: (n.cps.toList ++ 32 :: c.cps.toList)
 have e1:(Str.ofString "mode ").cps.toList = (Str.ofString "mode").cps.toList ++ [32]:=by decide +kernel
 have e2:(Str.ofString " ").cps.toList = [32]:=by decide +kernel
 rw [e1,e2]
 simp
def gB (m:aE):List Item:=.mode m.name m.aO :: m.rules.map .rule
def itemsOf (ms:List aE):List Item:=ms.flatMap gB
theorem ia (a b:List aE):itemsOf (a ++ b) = itemsOf a ++ itemsOf b:=by unfold itemsOf;rw [List.flatMap_append]
theorem g6 (m:aE):itemsOf [m] = gB m:=by unfold itemsOf;simp
theorem vU (rs:List bA):namesOf (rs.map Item.rule) = []:=by
 induction rs with
 | nil=>rfl
 | cons r t ih=>show wF (.rule r) ++ namesOf (t.map Item.rule) = [];rw [ih];rfl
theorem IC (m:aE):namesOf (gB m) = [m.name]:=by
 show wF (.mode m.name m.aO) ++ namesOf (m.rules.map Item.rule) = _
 rw [vU];rfl
theorem ir (ms:List aE):namesOf (itemsOf ms) = ms.map (·.name):=by
 induction ms with
 | nil=>rfl
 | cons m r ih =>
  rw [show m :: r = [m] ++ r from rfl,ia,kc,g6,IC,ih]
  rfl
theorem oN (rs:List bA):∀ (ms:List aE) (m:aE),(rs.map Item.rule).foldl stepI (ms ++ [m]) = ms ++ [{ m with rules:=m.rules ++ rs }]:=by
 induction rs with
 | nil=>intro ms m;simp
 | cons r t ih =>
  intro ms m
  rw [List.map_cons,List.foldl_cons,show stepI (ms ++ [m]) (Item.rule r) = jm r (ms ++ [m]) from rfl,jB,ih]
  simp
theorem Dr (ms:List aE) (m:aE):(gB m).foldl stepI ms = ms ++ [m]:=by
 rw [gB,List.foldl_cons]
 show (m.rules.map Item.rule).foldl stepI (ms ++ [⟨m.name,m.aO,[]⟩]) = _
 rw [oN]
 simp
theorem l9 (ms:List aE):∀ acc:List aE,(itemsOf ms).foldl stepI acc = acc ++ ms:=by
 induction ms with
 | nil=>intro acc;simp [itemsOf]
 | cons m r ih =>
  intro acc
  rw [show m :: r = [m] ++ r from rfl,ia,List.foldl_append,g6,Dr,ih]
  simp
theorem pP (ms:List aE):foldI (itemsOf ms) = ms:=by
 have:=l9 ms []
 simpa [foldI] using this
theorem oA.good {names:List Str} {k:Nat} {calm:Bool} {R:bA} {z:Str} (h:oA names.length k calm R z):fG names R:=by
 refine ⟨⟨h.sort,λhb=>?_,λhb=>?_⟩,h.col,h.Iu,h.aW,h.goal,h.v8,h.fold⟩
 ·rw [h.sg,if_pos hb]
 ·rw [h.sg,if_neg hb]
  have:=h.z3
  exact ⟨h.z1,by omega,λy=>(Dk _ (h.zs _ y)).1 rfl,λy=>(Dk _ (h.zs _ y)).2 rfl⟩
theorem Built.rule {calm:Bool} {ms:List aE} (B:Built calm ms) {k:Nat} {m:aE} (hm:ms[k]? = some m) {R:bA} (hR:R ∈ m.rules):fG (ms.map (·.name)) R:=by
 obtain ⟨z,hz⟩:=(B.rules k m hm).2 R hR
 exact oA.good (names:=ms.map (·.name)) (k:=k) (calm:=calm) (z:=z) (by rw [List.length_map];exact hz)
theorem tF {calm:Bool} {ms:List aE} (B:Built calm ms):∀ n,n <= ms.length -> ∀ (i:Nat) it,(itemsOf (ms.take n))[i]? = some it ->
  (∀ nm c,it = .mode nm c -> isName nm = true /\ isName c = true /\ (namesOf ((itemsOf (ms.take n)).take i)).length < 12 /\ nm ∉ namesOf ((itemsOf (ms.take n)).take i)) /\
  (∀ R,it = .rule R -> fG (ms.map (·.name)) R /\ ∃ ms' m,foldI ((itemsOf (ms.take n)).take i) = ms' ++ [m] /\ m.rules.length < 12)
 | 0,_,i,it,h=>by simp [itemsOf] at h
 | n + 1,hn,i,it,h=>by
  have hm:ms[n]? = some ms[n]:=List.getElem?_eq_getElem hn
  have e:itemsOf (ms.take (n + 1)) = itemsOf (ms.take n) ++ gB ms[n]:=by rw [take_snoc hm,ia,g6]
  rw [e] at h ⊢
  have hmm:=List.getElem_mem hn
  obtain ⟨r6,rB⟩:=B.rules n _ hm
  have h4:=B.four
  by_cases hi:i < (itemsOf (ms.take n)).length
  ·rw [List.getElem?_append_left hi] at h
   rw [List.take_append_of_le_length (by omega)]
   exact tF B n (by omega) i it h
  ·rw [List.getElem?_append_right (by omega)] at h
   rw [show (itemsOf (ms.take n) ++ gB ms[n]).take i = itemsOf (ms.take n) ++ (gB ms[n]).take (i - (itemsOf (ms.take n)).length) by
    rw [List.take_append,List.take_of_length_le (by omega)]]
   generalize i - (itemsOf (ms.take n)).length = j at h
   cases j with
   | zero =>
    have h:Item.mode ms[n].name ms[n].aO = it:=by simpa [gB] using h
    subst h
    refine ⟨λnm c e=>?_,(λR e=>by cases e)⟩
    cases e
    obtain ⟨n1,n2⟩:=B.nm _ hmm
    rw [List.take_zero,List.append_nil,ir]
    refine ⟨n1,n2,by rw [List.length_map,List.length_take];omega,λhmem=>?_⟩
    rw [List.map_take] at hmem
    have hnd:=B.nd
    obtain ⟨j,hj⟩:=List.mem_iff_getElem?.mp hmem
    have hjn:j < n:=by
     have:=(List.getElem?_eq_some_iff.mp hj).1
     rw [List.length_take] at this
     omega
    rw [List.getElem?_take_of_lt hjn] at hj
    have hk:(ms.map (·.name))[n]? = some ms[n].name:=by rw [List.getElem?_map,hm];rfl
    obtain ⟨j1,e1⟩:=List.getElem?_eq_some_iff.mp hj
    obtain ⟨k1,e2⟩:=List.getElem?_eq_some_iff.mp hk
    have:=(List.getElem_inj hnd).mp (e1.trans e2.symm)
    omega
   | succ j =>
    have h:(ms[n].rules.map Item.rule)[j]? = some it:=by simpa [gB] using h
    rw [List.getElem?_map] at h
    obtain ⟨R0,hR0,rfl⟩:=Option.map_eq_some_iff.mp h
    refine ⟨(λnm c e=>by cases e),λR e=>?_⟩
    cases e
    refine ⟨B.rule hm (List.mem_of_getElem? hR0),ms.take n,⟨ms[n].name,ms[n].aO,ms[n].rules.take j⟩,?_,?_⟩
    ·unfold foldI
     rw [List.foldl_append,l9,List.nil_append]
     have:=Dr (ms.take n) ⟨ms[n].name,ms[n].aO,ms[n].rules.take j⟩
     rw [← this]
     congr 1
     rw [gB,gB,List.take_succ_cons,List.map_take]
    ·show (ms[n].rules.take j).length < 12
     rw [List.length_take]
     omega
theorem Built.items {calm:Bool} {ms:List aE} (B:Built calm ms):eu (itemsOf ms):=by
 have h:=tF B ms.length (Nat.le_refl _)
 rw [List.take_length] at h
 refine ⟨?_,λi n c e=>(h i _ e).1 n c rfl,λi R e=>?_⟩
 ·intro z
  have:=ir ms
  rw [z] at this
  have hl:=congrArg List.length this
  rw [List.length_map] at hl
  have:=B.pos
  simp [namesOf] at hl
  omega
 ·rw [ir]
  exact (h i _ e).2 R rfl
theorem Built.len {calm:Bool} {ms:List aE} (B:Built calm ms):∀ n,n <= ms.length -> (itemsOf (ms.take n)).length <= n * 7
 | 0,_=>by simp [itemsOf]
 | n + 1,hn=>by
  have hm:ms[n]? = some ms[n]:=List.getElem?_eq_getElem hn
  have ih:=B.len n (by omega)
  have h6:=(B.rules n _ hm).1
  rw [take_snoc hm,ia,g6,List.length_append,gB,List.length_cons,List.length_map]
  omega
theorem Built.Fw {calm:Bool} {ms:List aE} (B:Built calm ms):(itemsOf ms).length <= 28:=by
 have:=B.len ms.length (Nat.le_refl _)
 rw [List.take_length] at this
 have:=B.four
 omega
theorem Built.uS {calm:Bool} {ms:List aE} (B:Built calm ms):dR ms:=by
 have at_:∀ m ∈ ms,∃ k:Nat,ms[k]? = some m:=λm h=>List.mem_iff_getElem?.mp h
 have h4:=B.four
 refine ⟨B.pos,by omega,λm hm=>?_,λm hm R hR=>?_,λm hm R hR hg=>?_⟩
 ·obtain ⟨k,e⟩:=at_ m hm
  obtain ⟨h6,hB⟩:=B.rules k m e
  refine ⟨by omega,λR hR=>?_⟩
  obtain ⟨z,hz⟩:=hB R hR
  refine ⟨hz.sort,?_⟩
  rw [hz.sg]
  split
  ·decide
  ·have:=hz.z3;omega
 ·obtain ⟨k,e⟩:=at_ m hm
  obtain ⟨z,hz⟩:=(B.rules k m e).2 R hR
  exact hz.aW
 ·obtain ⟨k,e⟩:=at_ m hm
  obtain ⟨z,hz⟩:=(B.rules k m e).2 R hR
  exact hz.goal hg
theorem Built.up {calm:Bool} {ms:List aE} (B:Built calm ms):Ah ms:=λk m hm R hR he=>by
 obtain ⟨z,hz⟩:=(B.rules k m hm).2 R hR
 rcases (hz.idle he).2 with h | ⟨h1,g,h2,h3⟩
 ·exact .inl h
 ·obtain ⟨g',e1,e2⟩:=hz.goal h1
  rw [h2] at e1
  cases e1
  exact .inr ⟨h1,g,h2,h3,e2⟩
theorem Built.Ec {ms:List aE} (B:Built true ms) (row:Str):vD ms row:=by
 have hn:∀ k,dY ms k row = none:=λk=>by
  cases e:dY ms k row with
  | none=>rfl
  | some R =>
   obtain ⟨m,hm,hR,he⟩:=lM e
   obtain ⟨z,hz⟩:=(B.rules k m hm).2 R hR
   cases (hz.idle he).1
 refine ⟨?_,λy R hy hi=>by rw [hn] at hi;cases hi⟩
 cases hN:ms.length with
 | zero=>rfl
 | succ n=>rw [fC,hn]
theorem Built.Gy {ms:List aE} (B:Built true ms) (row:Str) (k:Nat):dY ms k row = none:=by
 cases e:dY ms k row with
 | none=>rfl
 | some R =>
  obtain ⟨m,hm,hR,he⟩:=lM e
  obtain ⟨z,hz⟩:=(B.rules k m hm).2 R hR
  cases (hz.idle he).1
theorem Built.BK {ms:List aE} (B:Built true ms) (row:Str):∀ n k,gR ms row n k = none
 | 0,_=>rfl
 | n + 1,k=>by
  have:dS ms k row = none:=by
   unfold dS
   cases ms.length with
   | zero=>rfl
   | succ f=>rw [gz,B.Gy]
  rw [gR,this]
  exact B.BK row n (k + 1)
theorem Built.Gm {ms:List aE} (B:Built true ms):ic ms = none:=by
 have:∀ rows:List Str,gZ ms rows = none:=by
  intro rows
  induction rows with
  | nil=>rfl
  | cons r rs ih=>rw [gZ,B.BK];exact ih
 exact this _
structure qQ (ms:List aE):Prop where
 b:∃ calm,Built calm ms
 np:∀ r ∈ cW,vD ms r
 ring:ic ms = none
theorem qQ.good {ms:List aE} (L:qQ ms) {row:Str} (h:∀ c ∈ row.cps.toList,c ∈ Ck):Good ms row:=by
 obtain ⟨calm,B⟩:=L.b
 have h94:∀ c ∈ Ck,c ∈ uO.cps.toList:=by decide +kernel
 refine ⟨B.uS,B.up,B.four,λm hm R hR hb=>?_,L.np,λc hc=>h94 c (h c hc)⟩
 obtain ⟨k,e⟩:=List.mem_iff_getElem?.mp hm
 obtain ⟨z,hz⟩:=(B.rules k m e).2 R hR
 rw [hz.sg,if_neg hb]
 exact hz.z1
noncomputable def L3:Sp:=λvs H Q _=>∃ (lm:Addr) (ms:List aE) (calm:Bool),vs = [.ref lm] /\ Gh H lm ms /\ Built calm ms /\ ∀ H',au H H' -> Q (.str (Str.join ⟨#[10]⟩ (rowsOf (itemsOf ms)))) H'
theorem pK {x:Str} (h:isName x = true):x.length <= 8 /\ x ≠ "" := by
 unfold isName at h
 simp only [Bool.and_eq_true,decide_eq_true_eq] at h
 refine ⟨h.1.2,λz=>?_⟩
 rw [z] at h
 exact absurd h.1.1 (by decide)
theorem GP (T:Txt K mg t):bw P w K mg base dP 1 t.qI t.v9 ["_law_modes_here"] L3:=by
 refine T.rK.ok iA ?_ ?_
 walk_at "i"
 ·obtain ⟨lm,ms,calm,rfl,⟨ts,hlm,hA⟩,B,q⟩:=h
  obtain ⟨names,hnames⟩:∃ names,names = ms.map (·.name):=⟨_,rfl⟩
  have hnl:names.length = ms.length:=by rw [hnames,List.length_map]
  have hnm:∀ x ∈ names,isName x = true:=λx hx=>by
   rw [hnames] at hx
   obtain ⟨m,hm,rfl⟩:=List.mem_map.mp hx
   exact (B.nm m hm).1
  have hitems:=B.Fw
  have h4:=B.four
  refine @av _ _ _ _ _ _ _ (aC (i:=1) iA.nd rfl (Or.inl rfl) (bC ah)) ⟨by show 0 <= sizeLine;decide,λlr hlr=>?_⟩
  have W0:zH H (upd H lr (.lst [])) lr []:=⟨af,hlr,au.upd hlr⟩
  generalize upd H lr (.lst []) = H0 at W0
  refine @aF _ _ _ _ _ _ _ (λZ' H'=>(∃ x2 x3 x4 x5 x6 x7 x8 x9 x10 x11,Z' = [some (.ref lm),some (.ref lr),x2,x3,x4,x5,x6,x7,x8,x9,x10,x11]) /\ zH H H' lr ((itemsOf ms).map (rowOf names))) (dQ PassesOwn.never rfl (dZ (pv 0)) (pJ rfl (cE (bK (i:=2) iA.nd rfl (Or.inl rfl)) (cE (bK (i:=3) iA.nd rfl (Or.inl rfl)) (cE (bK (i:=4) iA.nd rfl (Or.inl rfl)) mQ)))) ak) ?_ ?_
  ·refine ⟨_,rfl,lm,rfl,⟨_,bB.of (W0.same _ _ hlm)⟩,e8 (xs:=ts.map V.ref) (λi Z' H'=>(∃ x2 x3 x4 x5 x6 x7 x8 x9 x10 x11,Z' = [some (.ref lm),some (.ref lr),x2,x3,x4,x5,x6,x7,x8,x9,x10,x11]) /\ zH H H' lr ((itemsOf (ms.take i)).map (rowOf names))) ⟨⟨_,_,_,_,_,_,_,_,_,_,rfl⟩,W0⟩ ?_ ?_ ?_⟩
   ·rintro i Z' H' _ ⟨_,W⟩
    exact bB.of (W.same _ _ hlm)
   ·rintro i xv Z' H1 hx ⟨⟨x2,x3,x4,x5,x6,x7,x8,x9,x10,x11,rfl⟩,W1⟩
    rw [List.getElem?_map] at hx
    obtain ⟨tm,htm,rfl⟩:=Option.map_eq_some_iff.mp hx
    have hi:i < ms.length:=by rw [← hA.1];exact (List.getElem?_eq_some_iff.mp htm).1
    have hm:ms[i]? = some ms[i]:=List.getElem?_eq_getElem hi
    generalize hmd:ms[i] = m at hm
    obtain ⟨lu,rs,t1,t2,t3⟩:=hA.2 i tm m htm hm
    obtain ⟨n1,n2⟩:=B.nm m (List.mem_of_getElem? hm)
    obtain ⟨r6,rB⟩:=B.rules i m hm
    have l1:=(pK n1).1
    have l2:=(pK n2).1
    have hil:=B.len i (by omega)
    refine ⟨tm,[.str m.name,.str m.aO,.ref lu],rfl,fY.of (W1.same _ _ t1),rfl,_,_,rfl,_,_,rfl,_,_,rfl,rfl,?_⟩
    have e5:(Str.ofString "mode ").length = 5:=by decide +kernel
    have e1:(Str.ofString " ").length = 1:=by decide +kernel
    refine @av _ _ _ _ _ _ _ (aR (cJ F.plainAttrs_list F.slot_list_append F.type_list_append bJ (pv 1) (aa (aQ ek (aQ ek (aQ ek aM (pv 2)) aM) (pv 3)) ah))) ⟨_,rfl,.inl ⟨rfl,_,bB.of W1.at_⟩,_,rfl,_,_,rfl,rfl,bI (by show (Str.ofString "mode ").length + _ <= _;omega),_,_,rfl,rfl,bI (by rw [Str.length_append];show (Str.ofString "mode ").length + _ + (Str.ofString " ").length <= _;omega),_,rfl,_,_,rfl,rfl,bI (by rw [Str.length_append,Str.length_append];show (Str.ofString "mode ").length + _ + (Str.ofString " ").length + _ <= _;omega),lr,_,_,rfl,rfl,W1.at_,dw (by rw [List.length_map,List.length_map];omega),?_⟩
    rw [show (Str.ofString "mode " ++ m.name ++ Str.ofString " " ++ m.aO:Str) = rowOf names (.mode m.name m.aO) from El]
    have W2:=W1.add (x:=rowOf names (.mode m.name m.aO))
    generalize upd H1 lr _ = H2 at W2
    refine @ao _ _ _ _ _ _ (dQ PassesOwn.never rfl (dZ (pv 4)) (pJ rfl (cE (bK (i:=5) iA.nd rfl (Or.inl rfl)) (cE (bK (i:=6) iA.nd rfl (Or.inl rfl)) (cE (bK (i:=7) iA.nd rfl (Or.inl rfl)) (cE (bK (i:=8) iA.nd rfl (Or.inl rfl)) (cE (bK (i:=9) iA.nd rfl (Or.inl rfl)) (cE (bK (i:=10) iA.nd rfl (Or.inl rfl)) mQ))))))) ak) ⟨_,rfl,lu,rfl,⟨_,bB.of (W2.same _ _ t2)⟩,e8 (xs:=rs.map V.ref) (λj Z' H'=>(∃ x2 x3 x4 x5 x6 x7 x8 x9 x10 x11,Z' = [some (.ref lm),some (.ref lr),x2,x3,x4,x5,x6,x7,x8,x9,x10,x11]) /\ zH H H' lr ((itemsOf (ms.take i)).map (rowOf names) ++ [rowOf names (.mode m.name m.aO)] ++ (m.rules.take j).map λR=>rowOf names (.rule R))) ⟨⟨_,_,_,_,_,_,_,_,_,_,rfl⟩,by rw [List.take_zero,List.map_nil,List.append_nil];exact W2⟩ ?_ ?_ ?_⟩
    ·rintro j Z' H' _ ⟨_,W⟩
     exact bB.of (W.same _ _ t2)
    ·rintro j xv Z' H3 hx ⟨⟨y2,y3,y4,y5,y6,y7,y8,y9,y10,y11,rfl⟩,W3⟩
     rw [List.getElem?_map] at hx
     obtain ⟨tr,htr,rfl⟩:=Option.map_eq_some_iff.mp hx
     have hj:j < m.rules.length:=by rw [← t3.1];exact (List.getElem?_eq_some_iff.mp htr).1
     have hRj:m.rules[j]? = some m.rules[j]:=List.getElem?_eq_getElem hj
     generalize hRd:m.rules[j] = R at hRj
     obtain ⟨z,u1,u2,u3⟩:=t3.2 j tr R htr hRj
     have hRm:=List.mem_of_getElem? hRj
     have GR:fG names R:=by rw [hnames];exact B.rule hm hRm
     refine ⟨tr,M0 R z,rfl,fY.of (W3.same _ _ u1),rfl,_,_,rfl,_,_,rfl,_,_,rfl,_,_,rfl,_,_,rfl,_,_,rfl,rfl,?_⟩
     show At _ _ _ [some (.ref lm),some (.ref lr),y2,y3,y4,some (.str R.sort),some (.str z),some (.str R.aO),some (.str R.aW),some (jf R.goal),some (.str R.fold),y11] H3
     refine @av _ _ _ _ _ _ _ (aC (i:=11) iA.nd rfl (Or.inl rfl) (bC (aa (pv 5) ah))) ⟨_,rfl,by show 1 <= sizeLine;decide,λl hl0=>?_⟩
     have V0:zH H3 (upd H3 l (.lst [.str R.sort])) l [R.sort]:=⟨af,hl0,au.upd hl0⟩
     show At _ _ _ [some (.ref lm),some (.ref lr),y2,y3,y4,some (.str R.sort),some (.str z),some (.str R.aO),some (.str R.aW),some (jf R.goal),some (.str R.fold),some (.ref l)] _
     generalize upd H3 l (.lst [.str R.sort]) = H4 at V0
     have hs:=GR.pat.sort
     refine @aF _ _ _ _ _ _ _ (λZ' H'=>Z' = [some (.ref lm),some (.ref lr),y2,y3,y4,some (.str R.sort),some (.str z),some (.str R.aO),some (.str R.aW),some (jf R.goal),some (.str R.fold),some (.ref l)] /\ zH H3 H' l (b9 R.sort R.signs)) (@aP _ _ _ _ _ _ _ _ (@az _ _ _ _ _ _ _ _ fZ (pv 5) (@bR _ _ _ _ _ (@fM _ _ ["word","one","none","many"] rfl)) rfl) ak ak) ?_ ?_
     ·refine ⟨_,rfl,by show 4 <= sizeLine;decide,λpt hpt=>⟨pt,_,rfl,.inr (fY.of af),rfl,rfl,_,rfl,?_⟩⟩
      have V1:zH H3 (upd H4 pt (.tup ((["word","one","none","many"]:List Str).map V.str))) l [R.sort]:=V0.to (au.upd hpt)
      generalize upd H4 pt (.tup ((["word","one","none","many"]:List Str).map V.str)) = H5 at V1
      have hin:Jj (.str R.sort) [.str "word",.str "one",.str "none",.str "many"] = decide (¬ bare R.sort):=by
       rw [show ([.str "word",.str "one",.str "none",.str "many"]:List V) = (["word","one","none","many"]:List Str).map V.str from rfl,iX]
       generalize R.sort = st at hs
       rcases dW hs with rfl | rfl | rfl | rfl | rfl | rfl | rfl <;> decide +kernel
      refine CG hin (cI (λh=>?_) (λh=>aX ⟨rfl,?_⟩))
      ·have hz:z = R.signs:=u3 h
       refine @ao _ _ _ _ _ _ (aR (cJ F.plainAttrs_list F.slot_list_append F.type_list_append bJ (pv 11) (aa (wD (by decide +kernel) (pv 6)) ah))) ⟨_,rfl,.inl ⟨rfl,_,bB.of V1.at_⟩,_,rfl,z,rfl,?_,_,rfl,?_,?_⟩
       ·rw [show ("_" : Str).length = 1 from by decide +kernel]
        omega
       ·rw [F3,show ("'" : Str).length = 1 from by decide +kernel]
        exact bI (by omega)
       ·refine ⟨l,_,_,rfl,rfl,V1.at_,by show 1 < sizeLine;decide,rfl,?_⟩
        rw [b9,if_neg h,← hz]
        exact V1.add (x:=je z)
      ·rw [b9,if_pos (Decidable.not_not.mp h)]
       exact V1
     rintro Z' H5 ⟨rfl,V5⟩
     have plen:=A9 (s:=R.sort) (z:=R.signs)
     refine @aF _ _ _ _ _ _ _ (λZ' H'=>Z' = [some (.ref lm),some (.ref lr),y2,y3,y4,some (.str R.sort),some (.str z),some (.str R.aO),some (.str R.aW),some (jf R.goal),some (.str R.fold),some (.ref l)] /\ zH H3 H' l (b9 R.sort R.signs ++ (if bS R.sort = true then [R.aO] else []))) (aP (az t8 (pv 7) aM (aA _)) ak ak) ?_ ?_
     ·refine ⟨_,rfl,rfl,_,rfl,iB (λh=>?_) (λh=>aX ⟨rfl,?_⟩)⟩
      ·have he:bS R.sort = true:=by
        cases e:bS R.sort with
        | true=>rfl
        | false=>exact absurd (by rw [GR.Iu e]) h
       refine @ao _ _ _ _ _ _ (aR (cJ F.plainAttrs_list F.slot_list_append F.type_list_append bJ (pv 11) (aa (pv 7) ah))) ⟨_,rfl,.inl ⟨rfl,_,bB.of V5.at_⟩,_,rfl,l,_,_,rfl,rfl,V5.at_,dw (by rw [List.length_map];omega),rfl,?_⟩
       rw [if_pos he]
       exact V5.add
      ·have he:¬ bS R.sort = true:=λe=>(pK (GR.col e)).2 (V.str.inj h)
       rw [if_neg he,List.append_nil]
       exact V5
     rintro Z' H6 ⟨rfl,V6⟩
     have l4:(if bS R.sort = true then [R.aO] else []).length <= 1:=by split <;> simp
     refine @av _ _ _ _ _ _ _ (aR (cJ F.plainAttrs_list F.slot_list_append F.type_list_append bJ (pv 11) (aa (pv 8) ah))) ⟨_,rfl,.inl ⟨rfl,_,bB.of V6.at_⟩,_,rfl,l,_,_,rfl,rfl,V6.at_,dw (by rw [List.length_map,List.length_append];omega),?_⟩
     have V7:=V6.add (x:=R.aW)
     generalize upd H6 l _ = H7 at V7
     refine @aF _ _ _ _ _ _ _ (λZ' H'=>Z' = [some (.ref lm),some (.ref lr),y2,y3,y4,some (.str R.sort),some (.str z),some (.str R.aO),some (.str R.aW),some (jf R.goal),some (.str R.fold),some (.ref l)] /\ zH H3 H' l (b9 R.sort R.signs ++ (if bS R.sort = true then [R.aO] else []) ++ [R.aW] ++ o5 names R.goal)) (aP (az fJ (pv 9) bL (aA _)) ak ak) ?_ ?_
     ·cases hg:R.goal with
      | none =>
       refine ⟨_,rfl,rfl,_,rfl,iB (λh=>absurd rfl h) (λ_=>aX ⟨rfl,?_⟩)⟩
       rw [show o5 names none = [] from rfl,List.append_nil]
       exact V7
      | some g =>
       have hgl:g < ms.length:=by
        by_cases hgo:gb R.aW
        ·obtain ⟨g',e,hg'⟩:=GR.goal hgo
         rw [hg] at e;cases e;omega
        ·rw [GR.v8 hgo] at hg;cases hg
       have hmg:ms[g]? = some ms[g]:=List.getElem?_eq_getElem hgl
       obtain ⟨tg,htg,hLg⟩:=hA.at hmg
       obtain ⟨lg,rg,v1,v2,v3⟩:=hLg
       have hng:names.getD g "" = ms[g].name:=by rw [hnames];simp [hgl]
       refine ⟨_,rfl,rfl,_,rfl,iB (λ_=>?_) (λh=>by cases h)⟩
       refine @ao _ _ _ _ _ _ (aR (cJ F.plainAttrs_list F.slot_list_append F.type_list_append bJ (pv 11) (aa (aU bU (aU aY (pv 0) (pv 9) (λ_ _=>rfl)) ai (λ_ _=>rfl)) ah))) ⟨_,rfl,.inl ⟨rfl,_,bB.of V7.at_⟩,_,rfl,_,rfl,_,_,_,_,rfl,rfl,bB.of ((W3.same.trans V7.same) _ _ hlm),iH htg,_,_,_,_,rfl,rfl,fY.of ((W3.same.trans V7.same) _ _ v1),bq (j:=0) rfl,l,_,_,rfl,rfl,V7.at_,dw (by simp only [List.length_map,List.length_append,List.length_cons,List.length_nil];omega),rfl,?_⟩
       rw [show o5 names (some g) = [ms[g].name] by rw [← hng];rfl]
       exact V7.add
     rintro Z' H8 ⟨rfl,V8⟩
     have l7:=tO (names:=names) (g:=R.goal)
     refine @aF _ _ _ _ _ _ _ (λZ' H'=>Z' = [some (.ref lm),some (.ref lr),y2,y3,y4,some (.str R.sort),some (.str z),some (.str R.aO),some (.str R.aW),some (jf R.goal),some (.str R.fold),some (.ref l)] /\ zH H3 H' l (cG names R)) (aP (az t8 (pv 10) aM (aA _)) ak ak) ?_ ?_
     ·refine ⟨_,rfl,rfl,_,rfl,iB (λh=>?_) (λh=>aX ⟨rfl,?_⟩)⟩
      ·have h:R.fold ≠ "" := λy=>h (by rw [y])
       refine @ao _ _ _ _ _ _ (aR (cJ F.plainAttrs_list F.slot_list_append F.type_list_append bJ (pv 11) (aa (pv 10) ah))) ⟨_,rfl,.inl ⟨rfl,_,bB.of V8.at_⟩,_,rfl,l,_,_,rfl,rfl,V8.at_,dw (by simp only [List.length_map,List.length_append,List.length_cons,List.length_nil];omega),rfl,?_⟩
       have:=V8.add (x:=R.fold)
       rw [cG]
       simp only [if_neg h]
       simp only [List.append_assoc] at this ⊢
       exact this
      ·have h:R.fold = "" := V.str.inj h
       rw [cG]
       simp only [if_pos h]
       simp only [List.append_assoc,List.append_nil] at V8 ⊢
       exact V8
     rintro Z' H9 ⟨rfl,V9⟩
     have rl:=wz (names:=names) (R:=R)
     have W9:=W3.to V9.same
     refine @ao _ _ _ _ _ _ (aR (cJ F.plainAttrs_list F.slot_list_append F.type_list_append bJ (pv 1) (aa (cJ F.plainAttrs_str F.slot_str_join F.type_str_join mS aM (aa (pv 11) ah)) ah))) ⟨_,rfl,.inl ⟨rfl,_,bB.of W9.at_⟩,rfl,_,rfl,_,l,_,rfl,rfl,bB.of V9.at_,?_,?_⟩
     ·have h1:=Aa (m:=202) (cG names R) (λy hy=>(rS hnm GR y hy).l)
      rw [show (" " : Str).length = 1 from by decide +kernel]
      have h2:(cG names R).length * 202 <= 7 * 202:=Nat.mul_le_mul_right _ rl.2
      omega
     ·rw [join_eq,show ((" " : Str)) = ⟨#[32]⟩ from by decide +kernel]
      refine ⟨lr,_,_,rfl,rfl,W9.at_,dw (by simp only [List.length_map,List.length_append,List.length_cons,List.length_nil,List.length_take];omega),⟨_,_,_,_,_,_,_,_,_,_,rfl⟩,?_⟩
      have e:(m.rules.take (j + 1)).map (λR=>rowOf names (.rule R)) = (m.rules.take j).map (λR=>rowOf names (.rule R)) ++ [rowOf names (.rule R)]:=by rw [take_snoc hRj,List.map_append];rfl
      rw [e,← List.append_assoc]
      exact W9.add (x:=rowOf names (.rule R))
    ·rintro Z' H3 ⟨hZ,W3⟩
     refine ⟨hZ,?_⟩
     rw [List.length_map,t3.1,List.take_length] at W3
     rw [take_snoc hm,ia,g6,List.map_append,gB,List.map_cons,List.map_map]
     rw [List.append_assoc] at W3
     exact W3
   ·rintro Z' H1 ⟨hZ,W1⟩
    rw [List.length_map,hA.1,List.take_length] at W1
    exact ⟨hZ,W1⟩
  rintro Z' H1 ⟨⟨x2,x3,x4,x5,x6,x7,x8,x9,x10,x11,rfl⟩,W1⟩
  have hGI:=B.items
  have hrows:rowsOf (itemsOf ms) = (itemsOf ms).map (rowOf names):=by rw [rowsOf,ir,hnames]
  refine @ao _ _ _ _ _ _ (aH (cJ F.plainAttrs_str F.slot_str_join F.type_str_join mS aM (aa (pv 1) ah))) ⟨rfl,_,rfl,_,lr,_,rfl,rfl,bB.of W1.at_,?_,?_⟩
  ·have h5:=Aa (m:=1421) ((itemsOf ms).map (rowOf names)) (λy hy=>by
    obtain ⟨it,hi,rfl⟩:=List.mem_map.mp hy
    obtain ⟨i,e⟩:=List.mem_iff_getElem?.mp hi
    have:=(jW hGI e).2.1
    rw [ir,← hnames] at this
    exact this)
   rw [show ("\n" : Str).length = 1 from by decide +kernel]
   rw [List.length_map] at h5 ⊢
   have h6:(itemsOf ms).length * 1421 <= 28 * 1421:=Nat.mul_le_mul_right _ hitems
   omega
  ·rw [join_eq,show ((("\n" : Str))) = ⟨#[10]⟩ from by decide +kernel,← hrows]
   exact q _ W1.same
noncomputable def Nr (K:PySem.W.Frag):Sp:=λvs H Q _=>∃ (a:Addr) (ns:List Int) (b:Int),vs = [.ref a,.int b] /\ bB K H a (ns.map V.int) /\ ns.length <= 63 /\ 0 <= b /\ b <= 30000 /\ ∀ ms lm H',qQ ms -> Gh H' lm ms -> au H H' -> Q (.ref lm) H'
theorem MI (T:Txt K mg t):bw P w K mg base dP 8 t.qH t.zy ["_law_script","_law_base"] (Nr K):=by
 refine T.wB.ok zI ?_ ?_
 walk_at "i"
 ·obtain ⟨a,ns,b,rfl,hS,hl,hb0,hb1,q⟩:=h
  refine @av _ _ _ _ _ _ _ (aC (i:=2) zI.nd rfl (Or.inl rfl) (aK (FI T) (hr.mono (by decide)) rfl T.Fv T.pO.kp (T.pO.binds (by walk_at "3")) .nil aG (aa (pv 0) (aa (pv 1) (aa jS ah))))) ⟨_,rfl,_,rfl,a,ns,b,false,rfl,hS,hl,hb0,hb1,λms lm H1 B hL s1=>?_⟩
  refine @aF _ _ _ _ _ _ _ (λZ' H'=>∃ ms lm,qQ ms /\ Gh H' lm ms /\ Z' = [some (.ref a),some (.int b),some (.ref lm)] /\ au H H') (aP (az fJ (aK (Am T) (hr.mono (by decide)) rfl T.Af T.mj.kp (T.mj.binds (by walk_at "1")) .nil aG (aa (aK (zJ T) (hr.mono (by decide)) rfl T.AB T.mW.kp (T.mW.binds (by walk_at "1")) .nil aG (aa (aK (GP T) (hr.mono (by decide)) rfl T.Fy T.rK.kp (T.rK.binds (by walk_at "1")) .nil aG (aa (pv 2) ah)) ah)) ah)) bL (aA _)) ak ak) ?_ ?_
  ·refine ⟨_,rfl,lm,ms,false,rfl,hL,B,λH2 s2=>⟨itemsOf ms,rfl,B.items,(by have:=B.Fw;omega),λr H3 hR s3=>?_⟩⟩
   rw [pP] at hR
   have s3':=s1.trans (s2.trans s3)
   refine ⟨r,ms,rfl,hR,B.uS,λH4 s4=>⟨λhn=>?_,λring row p l _ _ _=>?_⟩⟩
   ·exact ⟨rfl,_,rfl,iB (λh=>absurd rfl h) (λ_=>aX ⟨ms,lm,⟨⟨false,B⟩,LW B.up B.pos hn,hn⟩,hL.same (s2.trans (s3.trans s4)),rfl,s3'.trans s4⟩)⟩
   ·refine ⟨rfl,_,rfl,iB (λ_=>?_) (λh=>by cases h)⟩
    exact @ao _ _ _ _ _ _ (aC (i:=2) zI.nd rfl (Or.inl rfl) (aK (FI T) (hr.mono (by decide)) rfl T.Fv T.pO.kp (T.pO.binds (by walk_at "3")) .nil aG (aa (pv 0) (aa (pv 1) (aa jS ah))))) ⟨_,rfl,_,rfl,a,ns,b,true,rfl,hS.same (s3'.trans s4),hl,hb0,hb1,λms2 lm2 H5 B2 hL2 s5=>⟨ms2,lm2,⟨⟨true,B2⟩,λr _=>B2.Ec r,B2.Gm⟩,hL2,rfl,(s3'.trans s4).trans s5⟩⟩
  rintro Z' H2 ⟨ms2,lm2,L2',hL2,rfl,s2⟩
  exact @ao _ _ _ _ _ _ (aH (pv 2)) ⟨_,rfl,q ms2 lm2 H2 L2' hL2 s2⟩
noncomputable def NS (R:bA):Prop:=¬ bare R.sort -> 1 <= R.signs.length
theorem AN (x:Str) (i:Nat) (hi:i <= x.length):(PySem.Txt.slice x (some (i:Int)) none).cps.toList = x.cps.toList.drop i:=by
 have:=eq_of_beq (PyProof.Rows.slice_closes_fromL (x:=x) (i:=(i:Int)) (b:=(x.length:Int)) (by omega) (by omega) rfl)
 rw [this]
 show (x.cps.toList.drop (i:Int).toNat).take ((x.length:Int) - (i:Int)).toNat = _
 rw [Int.toNat_natCast,List.take_of_length_le (by rw [List.length_drop,cj];omega)]
theorem AD {x sg:Str}:(decide (0 + sg.length <= x.length) && Builtin.Str.subAt x sg 0) = decide (x.cps.toList.take sg.length = sg.cps.toList):=by
 have e2:Builtin.Str.subAt x sg 0 = decide (x.cps.toList.take sg.length = sg.cps.toList):=by
  unfold Builtin.Str.subAt
  rw [Bool.eq_iff_iff,beq_iff_eq,decide_eq_true_eq]
  rw [← Array.toList_inj]
  simp [Array.toList_extract,List.extract_eq_take_drop]
 rw [e2,Bool.eq_iff_iff,Bool.and_eq_true,decide_eq_true_eq,decide_eq_true_eq]
 refine ⟨λz=>z.2,λz=>⟨?_,z⟩⟩
 have:=congrArg List.length z
 rw [List.length_take,cj,cj] at this
 omega
theorem BO {b:Bool} {x y:V}:vF [x,y] (if b = true then (1:Int) else 0) = some (if b = true then y else x):=by
 cases b <;> rfl
noncomputable def Jr:Sp:=λvs H Q _=>∃ (tr:Addr) (R:bA) (row:Str) (i:Nat),vs = [.ref tr,.str row,.int i] /\ LR H tr R /\ R.sort ∈ sorts /\ NS R /\ row.length <= 1000 /\ i <= row.length /\ ∀ H',au H H' -> Q (eL R.sort R.signs row i) H'
theorem C6 (T:Txt K mg t):bw P w K mg base dP 1 t.qL t.zE ["_law_rule_here","_law_row_here","_law_at"] Jr:=by
 refine T.q9.ok uE ?_ ?_
 walk_at "i"
 ·obtain ⟨tr,R,row,i,rfl,⟨z,htr,hzl,hzs⟩,hs,hsg,hrow,hi,q⟩:=h
  have hT:=λ{H':Hp} (s':au H H')=>fY.of (K:=K) (s' _ _ htr)
  have hT0:=fY.of (K:=K) htr
  refine @av _ _ _ _ _ _ _ (aP (az bE (aU bU (pv 0) ai (λ_ _=>rfl)) aM (aA _)) ak ak) ⟨_,rfl,_,_,_,_,rfl,rfl,hT0,bq (j:=0) rfl,rfl,_,rfl,cI (λh=>?_) (λh1=>aX ?_)⟩
  ·have h:=V.str.inj h
   refine @ao _ _ _ _ _ _ (aH (aU aY (bC (aa bL (aa ai ah))) (cz kD (by rfl) T.ur (by decide +kernel) (aa (gv bE (pv 2) (aL bz (by rfl) T.bO (by decide +kernel) (aa (pv 1) ah)) (aA _)) ah)) (λ_ _=>rfl))) ⟨by show 2 <= sizeLine;decide,λl hl=>⟨_,rfl,_,rfl,_,rfl,bI (by omega),rfl,.inr ⟨_,rfl,l,_,_,_,rfl,rfl,bB.of af,BO,?_⟩⟩⟩
   have q0:=q _ (au.upd (o:=.lst [.cM,.int 0]) hl)
   rw [eL,if_pos h] at q0
   by_cases e:i = row.length
   ·rw [if_pos e] at q0
    rw [decide_eq_true (show V.int (i:Int) = V.int (row.length:Int) by rw [e])]
    exact q0
   ·rw [if_neg e] at q0
    rw [decide_eq_false (show ¬ V.int (i:Int) = V.int (row.length:Int) from λy=>e (by have:=V.int.inj y;omega))]
    exact q0
  have h1:R.sort ≠ "end" := λy=>h1 (by rw [y])
  refine @av _ _ _ _ _ _ _ (aP (az bE (pv 2) (aL bz (by rfl) T.bO (by decide +kernel) (aa (pv 1) ah)) (aA _)) ak ak) ⟨_,rfl,_,rfl,_,rfl,bI (by omega),rfl,_,rfl,cI (λh=>?_) (λh3=>aX ?_)⟩
  ·have h:i = row.length:=by have:=V.int.inj h;omega
   have q0:=q H (au.refl H)
   have e:eL R.sort R.signs row i = .cM:=by
    by_cases h2:R.sort = "word"
    ·rw [eL,if_neg h1,if_pos h2,if_neg]
     intro y
     have:=congrArg List.length y
     rw [List.length_take,List.length_drop,cj,cj] at this
     have:=hsg (by rw [h2];decide)
     omega
    ·exact g7 h1 h2 (by omega)
   rw [e] at q0
   exact @ao _ _ _ _ _ _ (aH bL) q0
  have h3:i < row.length:=by
   have:¬ i = row.length:=λy=>h3 (by rw [y])
   omega
  obtain ⟨c,e1,e2⟩:=strAt (row:=row) (i:=(i:Int)) (by omega) (by omega)
  rw [Int.toNat_natCast] at e1
  refine @av _ _ _ _ _ _ _ (aP (az bE (aU bU (pv 0) ai (λ_ _=>rfl)) aM (aA _)) ak ak) ⟨_,rfl,_,_,_,_,rfl,rfl,hT0,bq (j:=0) rfl,rfl,_,rfl,cI (λh=>?_) (λh4=>aX ?_)⟩
  ·have h:=V.str.inj h
   have q0:=q H (au.refl H)
   rw [fK h1 (by rw [h];decide) e1,if_pos (.inr h),if_neg (by rw [h];decide)] at q0
   exact @ao _ _ _ _ _ _ (aH ai) q0
  have h4:R.sort ≠ "still" := λy=>h4 (by rw [y])
  refine @av _ _ _ _ _ _ _ (aP (az bE (aU bU (pv 0) ai (λ_ _=>rfl)) aM (aA _)) ak ak) ⟨_,rfl,_,_,_,_,rfl,rfl,hT0,bq (j:=0) rfl,rfl,_,rfl,cI (λh=>?_) (λh5=>aX ?_)⟩
  ·have h:=V.str.inj h
   have hz:z = R.signs:=hzs (by rw [h];decide)
   refine @ao _ _ _ _ _ _ (aH (aU aY (bC (aa bL (aa (aL bz (by rfl) T.bO (by decide +kernel) (aa (aU bU (pv 0) ai (λ_ _=>rfl)) ah)) ah))) (cz kD (by rfl) T.ur (by decide +kernel) (aa (cJ F.plainAttrs_str F.slot_str_startswith F.type_str_startswith pM (qj DE (pv 1) (uU (pv 2)) uQ) (aa (aU bU (pv 0) ai (λ_ _=>rfl)) ah)) ah)) (λ_ _=>rfl))) ⟨_,rfl,_,_,_,_,rfl,rfl,hT0,bq (j:=1) rfl,_,rfl,bI (by omega),by show 2 <= sizeLine;decide,λl hl=>⟨_,rfl,_,rfl,_,rfl,_,rfl,bI (by omega),rfl,_,rfl,_,_,_,_,rfl,rfl,hT (au.upd hl),bq (j:=1) rfl,_,_,rfl,rfl,.inr ⟨_,rfl,l,_,_,_,rfl,rfl,bB.of af,BO,?_⟩⟩⟩
   have q0:=q _ (au.upd (o:=.lst [.cM,.int z.length]) hl)
   rw [eL,if_neg h1,if_pos h,← hz] at q0
   rw [AD,AN row i hi]
   by_cases e:(row.cps.toList.drop i).take z.length = z.cps.toList
   ·rw [if_pos e] at q0
    rw [decide_eq_true e]
    exact q0
   ·rw [if_neg e] at q0
    rw [decide_eq_false e]
    exact q0
  have h5:R.sort ≠ "word" := λy=>h5 (by rw [y])
  have qd:=λH' (s':au H H')=>q H' s'
  simp only [fK h1 h5 e1] at qd
  refine @av _ _ _ _ _ _ _ (aP (az bE (aU bU (pv 0) ai (λ_ _=>rfl)) aM (aA _)) ak ak) ⟨_,rfl,_,_,_,_,rfl,rfl,hT0,bq (j:=0) rfl,rfl,_,rfl,cI (λh=>?_) (λh6=>aX ?_)⟩
  ·have h:=V.str.inj h
   have q0:=qd H (au.refl H)
   rw [if_pos (.inl h),if_pos h] at q0
   exact @ao _ _ _ _ _ _ (aH ai) q0
  have h6:R.sort ≠ "any" := λy=>h6 (by rw [y])
  have h7:¬ (R.sort = "any" ∨ R.sort = "still"):=λy=>y.elim h6 h4
  have hb:¬ bare R.sort:=λy=>by
   rcases y with y | y | y
   ·exact h6 y
   ·exact h4 y
   ·exact h1 y
  have hz:z = R.signs:=hzs hb
  refine @av _ _ _ _ _ _ _ (aP (az bE (aU bU (pv 0) ai (λ_ _=>rfl)) aM (aA _)) ak ak) ⟨_,rfl,_,_,_,_,rfl,rfl,hT0,bq (j:=0) rfl,rfl,_,rfl,cI (λh=>?_) (λh8=>aX ?_)⟩
  ·have h:=V.str.inj h
   refine @ao _ _ _ _ _ _ (aH (aU aY (bC (aa ai (aa bL ah))) (cz kD (by rfl) T.ur (by decide +kernel) (aa (gv jv (aU lD (pv 1) (pv 2) (λ_ _=>rfl)) (aU bU (pv 0) ai (λ_ _=>rfl)) rfl) ah)) (λ_ _=>rfl))) ⟨by show 2 <= sizeLine;decide,λl hl=>⟨_,rfl,_,rfl,_,_,c,rfl,rfl,bI (by omega),e2,_,rfl,_,_,_,_,rfl,rfl,hT (au.upd hl),bq (j:=1) rfl,_,_,rfl,rfl,.inr ⟨_,rfl,l,_,_,_,rfl,rfl,bB.of af,BO,?_⟩⟩⟩
   have q0:=qd _ (au.upd (o:=.lst [.int 1,.cM]) hl)
   rw [if_neg h7,if_pos h,← hz] at q0
   rw [PySem.StrLaws.found_one]
   by_cases e:c ∈ z.cps.toList
   ·rw [if_pos e] at q0
    rw [decide_eq_true e]
    exact q0
   ·rw [if_neg e] at q0
    rw [decide_eq_false e]
    exact q0
  have h8:R.sort ≠ "none" := λy=>h8 (by rw [y])
  simp only [if_neg h7,if_neg h8,← hz] at qd
  refine @av _ _ _ _ _ _ _ (aC (i:=3) uE.nd rfl (Or.inl rfl) ai) ?_
  show At _ _ _ [some (.ref tr),some (.str row),some (.int i),some (.int 0)] H
  refine @aF _ _ _ _ _ _ _ (λZ' H'=>H' = H /\ ∃ j:Nat,Z' = [some (.ref tr),some (.str row),some (.int i),some (.int j)] /\ j = if c ∈ z.cps.toList then (if R.sort = "many" then 1 + iN z.cps.toList (row.cps.toList.drop (i + 1)) else 1) else 0) (kg PassesOwn.never (PW.pt (fR (az gC (aQ bM (pv 2) (pv 3)) (aL bz (by rfl) T.bO (by decide +kernel) (aa (pv 1) ah)) (aA _)) (fR (az jv (aU lD (pv 1) (aQ bM (pv 2) (pv 3)) (λ_ _=>rfl)) (aU bU (pv 0) ai (λ_ _=>rfl)) rfl) (fj (PW.pt (i9 (az bE (aU bU (pv 0) ai (λ_ _=>rfl)) aM (aA _)) (iG (az bE (pv 3) ai (aA _))))))))) ak) ?_ ?_
  ·refine ⟨λm Z' H'=>H' = H /\ ∃ j:Nat,Z' = [some (.ref tr),some (.str row),some (.int i),some (.int j)] /\ i + j <= row.length /\ m = row.length - j /\ (R.sort = "many" -> iN z.cps.toList (row.cps.toList.drop i) = j + iN z.cps.toList (row.cps.toList.drop (i + j))) /\ (R.sort ≠ "many" -> j <= 1) /\ (0 < j -> c ∈ z.cps.toList),⟨_,rfl,0,rfl,by omega,rfl,λ_=>by rw [Nat.zero_add,Nat.add_zero],λ_=>by omega,λy=>by omega⟩,?_⟩
   rintro m Z' H' ⟨e,j,rfl,hj,rfl,hm,ho,hc⟩
   rw [e]
   clear e H'
   have hstep:=j9 (sg:=z.cps.toList) e1
   refine ⟨_,rfl,_,rfl,_,_,rfl,rfl,_,rfl,_,rfl,bI (by omega),_,_,rfl,rfl,_,rfl,cI (λh=>?_) (λh=>?_)⟩
   ·have hlt:i + j < row.length:=by omega
    obtain ⟨c2,g1,g2⟩:=strAt (row:=row) (i:=(i:Int) + (j:Int)) (by omega) (by omega)
    rw [show ((i:Int) + (j:Int)).toNat = i + j by omega] at g1
    refine ⟨_,rfl,_,rfl,_,rfl,_,_,rfl,rfl,_,_,c2,rfl,rfl,bI (by omega),g2,_,rfl,_,_,_,_,rfl,rfl,hT0,bq (j:=1) rfl,_,_,rfl,rfl,_,rfl,?_⟩
    rw [PySem.StrLaws.found_one]
    refine cI (λh2=>?_) (λh2=>?_)
    ·have hj0:j = 0 -> c ∈ z.cps.toList:=λy=>by
      subst y
      rw [Nat.add_zero,e1] at g1
      rw [Option.some.inj g1];exact h2
     have key:∀ {G:Prop},(R.sort = "many" ∨ j = 0 -> G) -> (¬ R.sort = "many" -> ¬ j = 0 -> G) -> G:=λa b=>by
      by_cases y:R.sort = "many"
      ·exact a (.inl y)
      ·by_cases y2:j = 0
       ·exact a (.inr y2)
       ·exact b y y2
     have go:(R.sort = "many" ∨ j = 0) -> i + (j + 1) <= row.length /\ (R.sort = "many" -> iN z.cps.toList (row.cps.toList.drop i) = (j + 1) + iN z.cps.toList (row.cps.toList.drop (i + (j + 1)))) /\ (R.sort ≠ "many" -> j + 1 <= 1) /\ (0 < j + 1 -> c ∈ z.cps.toList):=λy=>by
      refine ⟨by omega,λy2=>?_,λy2=>?_,λ_=>?_⟩
      ·have:=hm y2
       rw [j9 (j:=i + j) g1,if_pos h2] at this
       rw [show i + (j + 1) = i + j + 1 by omega]
       omega
      ·rcases y with y | y
       ·exact absurd y y2
       ·omega
      ·by_cases y3:j = 0
       ·exact hj0 y3
       ·exact hc (by omega)
     refine ⟨_,rfl,_,_,_,_,rfl,rfl,hT0,bq (j:=0) rfl,rfl,_,rfl,cI (λh3=>?_) (λh3=>?_)⟩
     ·obtain ⟨a1,a2,a3,a4⟩:=go (.inl (V.str.inj h3))
      refine ⟨_,λZ' H' z=>z,@ao _ _ _ _ _ _ (aC (i:=3) uE.nd rfl (Or.inl rfl) (aQ bM (pv 3) ai)) ⟨_,rfl,_,_,rfl,rfl,row.length - (j + 1),by omega,rfl,j + 1,by simp,a1,rfl,a2,a3,a4⟩⟩
     ·refine ⟨_,rfl,rfl,_,rfl,cI (λh4=>?_) (λh4=>?_)⟩
      ·have h4:j = 0:=by have:=V.int.inj h4;omega
       obtain ⟨a1,a2,a3,a4⟩:=go (.inr h4)
       refine ⟨_,λZ' H' z=>z,@ao _ _ _ _ _ _ (aC (i:=3) uE.nd rfl (Or.inl rfl) (aQ bM (pv 3) ai)) ⟨_,rfl,_,_,rfl,rfl,row.length - (j + 1),by omega,rfl,j + 1,by simp,a1,rfl,a2,a3,a4⟩⟩
      ·have h3:¬ R.sort = "many" := λy=>h3 (by rw [y])
       have h4:¬ j = 0:=λy=>h4 (by rw [y];rfl)
       have:=ho h3
       refine ⟨rfl,j,rfl,?_⟩
       rw [if_pos (hc (by omega)),if_neg h3]
       omega
    ·refine ⟨rfl,j,rfl,?_⟩
     by_cases hm2:R.sort = "many"
     ·have:=hm hm2
      rw [j9 (j:=i + j) g1,if_neg h2,hstep] at this
      split
      ·rename_i y;rw [if_pos y] at this;omega
      ·rename_i y;rw [if_neg y] at this;omega
     ·have hj1:=ho hm2
      split
      ·rename_i y
       by_cases y2:j = 0
       ·subst y2
        rw [Nat.add_zero,e1] at g1
        exact absurd (Option.some.inj g1 ▸ y) h2
       ·omega
      ·rename_i y
       by_cases y2:j = 0
       ·exact y2
       ·exact absurd (hc (by omega)) y
   ·have hge:i + j = row.length:=by omega
    have hjp:0 < j:=by omega
    have hcm:=hc hjp
    refine ⟨rfl,j,rfl,?_⟩
    rw [if_pos hcm]
    by_cases hm2:R.sort = "many"
    ·have:=hm hm2
     have hd:row.cps.toList.drop (i + j) = []:=List.drop_eq_nil_of_le (by rw [cj];omega)
     rw [hd,iN,hstep,if_pos hcm] at this
     rw [if_pos hm2]
     omega
    ·have:=ho hm2
     rw [if_neg hm2]
     omega
  rintro Z' H' ⟨e,j,rfl,hj⟩
  rw [e]
  clear e H'
  refine @ao _ _ _ _ _ _ (aH (aU aY (bC (aa bL (aa (pv 3) ah))) (cz kD (by rfl) T.ur (by decide +kernel) (aa (gv iY (pv 3) ai (aA _)) ah)) (λ_ _=>rfl))) ⟨_,rfl,by show 2 <= sizeLine;decide,λl hl=>⟨_,rfl,_,_,rfl,rfl,.inr ⟨_,rfl,l,_,_,_,rfl,rfl,bB.of af,BO,?_⟩⟩⟩
  have q0:=qd _ (au.upd (o:=.lst [.cM,.int j]) hl)
  by_cases y:c ∈ z.cps.toList
  ·rw [if_pos y] at q0 hj
   rw [decide_eq_true (show (0:Int) < (j:Int) by split at hj <;> omega)]
   by_cases hm2:R.sort = "many"
   ·rw [if_pos hm2] at q0 hj
    rw [show (1:Int) + ((iN z.cps.toList (row.cps.toList.drop (i + 1)):Nat):Int) = ((j:Nat):Int) by omega] at q0
    exact q0
   ·rw [if_neg hm2] at q0 hj
    have q1:Q (.int ((j:Nat):Int)) (upd H l (.lst [.cM,.int j])):=by rw [hj] at q0 ⊢;exact q0
    exact q1
  ·rw [if_neg y] at q0 hj
   rw [decide_eq_false (show ¬ (0:Int) < (j:Int) by omega)]
   exact q0
theorem ya {xs:List V} (h:xs ≠ []):uY xs none (some (-1:Int)) = xs.dropLast:=by
 have hp:0 < xs.length:=List.length_pos_iff.mpr h
 unfold uY
 have e:HT.vR xs.length xs.length (some (-1:Int)) = xs.length - 1:=by
  show (if (-1:Int) < 0 then ((-1:Int) + (xs.length:Int)).toNat else min (-1:Int).toNat xs.length) = _
  rw [if_pos (by decide)]
  omega
 rw [HT.Gp,e,List.drop_zero,Nat.sub_zero,List.dropLast_eq_take]
structure Wk (ms:List aE):Prop where
 g:dR ms
 sg:∀ m ∈ ms,∀ R ∈ m.rules,NS R
noncomputable def Mm:Sp:=λvs H Q _=>∃ (lm:Addr) (ms:List aE) (m:aE) (k i:Nat) (row:Str),vs = [.ref lm,.int k,.str row,.int i] /\ Gh H lm ms /\ Wk ms /\ ms[k]? = some m /\ row.length <= 1000 /\ i <= row.length /\
 ∀ H',au H H' -> (dj m.rules row i = none -> Q .cM H') /\ ∀ R tr,dj m.rules row i = some R -> R ∈ m.rules -> LR H tr R -> Q (.ref tr) H'
theorem G0 (T:Txt K mg t):bw P w K mg base dP 2 t.pV t.yx ["_law_modes_here","_law_top","_law_row_here","_law_at"] Mm:=by
 refine T.qg.ok ER ?_ ?_
 walk_at "i"
 ·obtain ⟨lm,ms,m,k,i,row,rfl,⟨ts,hlm,hA⟩,W,hm,hrow,hi,q⟩:=h
  obtain ⟨tm,htm,lu,rs,t1,t2,t3⟩:=hA.at hm
  have hmm:=List.mem_of_getElem? hm
  refine @aF _ _ _ _ _ _ _ (λZ' H'=>(∃ x,Z' = [some (.ref lm),some (.int k),some (.str row),some (.int i),x]) /\ au H H' /\ dj m.rules row i = none) (dQ PassesOwn.never rfl (dZ (aU bU (aU aY (pv 0) (pv 1) (λ_ _=>rfl)) ai (λ_ _=>rfl))) (bK (i:=4) ER.nd rfl (Or.inl rfl)) ak) ?_ ?_
  ·refine ⟨_,rfl,_,rfl,_,_,_,_,rfl,rfl,bB.of hlm,iH htm,_,_,_,_,rfl,rfl,fY.of t1,bq (j:=2) rfl,lu,rfl,⟨_,bB.of t2⟩,e8 (xs:=rs.map V.ref) (λn Z' H'=>(∃ x,Z' = [some (.ref lm),some (.int k),some (.str row),some (.int i),x]) /\ au H H' /\ firstM m.rules row i = iW row i n (m.rules.drop n)) ⟨⟨_,rfl⟩,au.refl H,rfl⟩ ?_ ?_ ?_⟩
   ·rintro n Z' H' _ ⟨_,s1,_⟩
    exact bB.of (s1 _ _ t2)
   ·rintro n xv Z' H1 hx ⟨⟨x,rfl⟩,s1,hf⟩
    rw [List.getElem?_map] at hx
    obtain ⟨tr,htr,rfl⟩:=Option.map_eq_some_iff.mp hx
    have hn:n < m.rules.length:=by rw [← t3.1];exact (List.getElem?_eq_some_iff.mp htr).1
    have hR:m.rules[n]? = some m.rules[n]:=List.getElem?_eq_getElem hn
    generalize m.rules[n] = R at hR
    have hRm:=List.mem_of_getElem? hR
    have hLR:=t3.2 n tr R htr hR
    rw [sZ hR] at hf
    refine @ao _ _ _ _ _ _ (aP (az fJ (aK (C6 T) (hr.mono (by decide)) rfl T.DC T.q9.kp (T.q9.binds (by walk_at "3")) .nil aG (aa (pv 4) (aa (pv 2) (aa (pv 3) ah)))) bL (aA _)) ak ak) ⟨_,rfl,_,rfl,_,rfl,tr,R,row,i,rfl,hLR.same s1,((W.g.ok m hmm).2 R hRm).1,W.sg m hmm R hRm,hrow,hi,λH2 s2=>⟨rfl,_,rfl,iB (λh=>?_) (λh=>aX ⟨⟨_,rfl⟩,s1.trans s2,?_⟩)⟩⟩
    ·rw [if_pos (show eF R row i = true from decide_eq_true h)] at hf
     exact @ao _ _ _ _ _ _ (aH (pv 4)) ⟨_,rfl,(q H2 (s1.trans s2)).2 R tr (by rw [dj,hf];exact hR) hRm hLR⟩
    ·rw [if_neg (by rw [eF,decide_eq_false (λz=>z h)];decide)] at hf
     exact hf
   ·rintro Z' H' ⟨h1,h2,h3⟩
    rw [List.length_map,t3.1,List.drop_length] at h3
    exact ⟨h1,h2,by rw [dj,h3];rfl⟩
  rintro Z' H' ⟨⟨x,rfl⟩,s1,hn⟩
  exact @ao _ _ _ _ _ _ (aH bL) ((q H' s1).1 hn)
noncomputable def IB:Sp:=λvs H Q _=>∃ (lo tr:Addr) (on:List Nat) (R:bA),vs = [.ref tr,.ref lo] /\ H lo = some (.lst (on.map bW)) /\ LR H tr R /\ R.aW ∈ jN /\ Bu R /\ on ≠ [] /\ on.length <= 100000 /\
 ∀ l H',H' l = some (.lst ((bD on R.aW R.goal).map bW)) -> (l = lo ∨ H l = none) -> au H H' -> Q (.ref l) H'
theorem Jy (T:Txt K mg t):bw P w K mg base dP 1 t.rY t.yD ["_law_rule_here","_law_on"] IB:=by
 refine T.wo.ok Li ?_ ?_
 walk_at "i"
 ·obtain ⟨lo,tr,on,R,rfl,hlo,⟨z,htr,hzl,hzs⟩,hdd,hgd,hne,hlen,q⟩:=h
  have ht:=fY.of (K:=K) htr
  have hL:=bB.of (K:=K) hlo
  have hne':on.map bW ≠ []:=by simpa using hne
  have hl0:on.length ≠ 0:=λy=>hne (List.eq_nil_of_length_eq_zero y)
  refine @av _ _ _ _ _ _ _ (aP (az bE (aU bU (pv 0) ai (λ_ _=>rfl)) aM (aA _)) ak ak) ⟨_,rfl,_,_,_,_,rfl,rfl,ht,bq (j:=3) rfl,rfl,_,rfl,cI (λh=>?_) (λh2=>aX ?_)⟩
  ·have h:=V.str.inj h
   obtain ⟨g,eg⟩:=hgd (.inl h)
   refine @ao _ _ _ _ _ _ (aH (aQ i6 (pv 1) (bC (aa (aU bU (pv 0) ai (λ_ _=>rfl)) ah)))) ⟨_,rfl,_,rfl,_,_,_,_,rfl,rfl,ht,bq (j:=4) rfl,by show 1 <= sizeLine;decide,λl1 hl1=>⟨lo,l1,_,_,rfl,rfl,au.upd hl1 _ _ hlo,af,bI (by simp only [List.length_map,List.length_cons,List.length_nil];omega),λl2 hl2=>q l2 _ ?_ (.inr ((au.upd hl1).free hl2)) ((au.upd hl1).to hl2)⟩⟩
   rw [af,bD,if_pos h,eg,List.map_append]
   rfl
  have h2:R.aW ≠ "push" := λy=>h2 (by rw [y])
  refine @av _ _ _ _ _ _ _ (aP (az bE (aU bU (pv 0) ai (λ_ _=>rfl)) aM (aA _)) ak ak) ⟨_,rfl,_,_,_,_,rfl,rfl,ht,bq (j:=3) rfl,rfl,_,rfl,cI (λh=>?_) (λh3=>aX ?_)⟩
  ·have h:=V.str.inj h
   obtain ⟨g,eg⟩:=hgd (.inr h)
   refine @ao _ _ _ _ _ _ (aH (aQ i6 (qj BJ (pv 1) uQ (uU (jh gA ai))) (bC (aa (aU bU (pv 0) ai (λ_ _=>rfl)) ah)))) ⟨_,rfl,_,rfl,_,rfl,lo,_,rfl,hL,λl0 hl0'=>?_⟩
   have s0:au H (upd H l0 (.lst (uY (on.map bW) none (some (-1:Int))))):=au.upd hl0'
   have hl2:upd H l0 (.lst (uY (on.map bW) none (some (-1:Int)))) l0 = some (.lst ((on.map bW).dropLast)):=by rw [af,ya hne']
   generalize upd H l0 (.lst (uY (on.map bW) none (some (-1:Int)))) = H0 at s0 hl2
   refine ⟨_,rfl,_,_,_,_,rfl,rfl,fY.of (s0 _ _ htr),bq (j:=4) rfl,by show 1 <= sizeLine;decide,λl1 hl1=>⟨l0,l1,_,_,rfl,rfl,au.upd hl1 _ _ hl2,af,bI (by simp only [List.length_dropLast,List.length_map,List.length_cons,List.length_nil];omega),λl2 hl2=>q l2 _ ?_ (.inr ((s0.to hl1).free hl2)) (s0.trans ((au.upd hl1).to hl2))⟩⟩
   rw [af,bD,if_neg h2,if_pos h,eg,List.map_append,List.map_dropLast]
   rfl
  have h3:R.aW ≠ "into" := λy=>h3 (by rw [y])
  refine @aF _ _ _ _ _ _ _ (λZ' H'=>Z' = [some (.ref tr),some (.ref lo)] /\ H' = H /\ ¬ (R.aW = "pop" /\ on.length = 1)) (aP (PW.pt (fR (az bE (aU bU (pv 0) ai (λ_ _=>rfl)) aM (aA _)) (fj (az bE (aL aT (by rfl) T.bO (by decide +kernel) (aa (pv 1) ah)) ai (aA _))))) ak ak) ?_ ?_
  ·refine ⟨_,rfl,_,_,_,_,rfl,rfl,ht,bq (j:=3) rfl,rfl,_,rfl,cI (λh=>?_) (λh=>aX ⟨rfl,rfl,λy=>h (by rw [y.1])⟩)⟩
   have h:=V.str.inj h
   refine ⟨_,rfl,_,_,rfl,.inl hL,rfl,_,rfl,cI (λh5=>?_) (λh5=>aX ⟨rfl,rfl,λy=>h5 (by rw [List.length_map,y.2];rfl)⟩)⟩
   have h5:=V.int.inj h5
   rw [List.length_map] at h5
   refine @ao _ _ _ _ _ _ (aH (bC (aa ai ah))) ⟨by show 1 <= sizeLine;decide,λl hl=>q l _ ?_ (.inr hl) (au.upd hl)⟩
   rw [af,bD,if_neg h2,if_neg h3,if_pos h,if_pos (by omega)]
   rfl
  rintro Z' H' ⟨rfl,e,h5⟩
  rw [e]
  clear e H'
  refine @av _ _ _ _ _ _ _ (aP (az bE (aU bU (pv 0) ai (λ_ _=>rfl)) aM (aA _)) ak ak) ⟨_,rfl,_,_,_,_,rfl,rfl,ht,bq (j:=3) rfl,rfl,_,rfl,cI (λh=>?_) (λh6=>aX ?_)⟩
  ·have h:=V.str.inj h
   refine @ao _ _ _ _ _ _ (aH (qj BJ (pv 1) uQ (uU (jh gA ai)))) ⟨_,rfl,_,rfl,_,rfl,lo,_,rfl,hL,λl0 hl0'=>q l0 _ ?_ (.inr hl0') (au.upd hl0')⟩
   rw [af,ya hne',bD,if_neg h2,if_neg h3,if_pos h,if_neg (λy=>h5 ⟨h,y⟩),List.map_dropLast]
  ·have h6:R.aW ≠ "pop" := λy=>h6 (by rw [y])
   refine @ao _ _ _ _ _ _ (aH (pv 1)) ⟨_,rfl,q lo H ?_ (.inl rfl) (au.refl H)⟩
   rw [bD,if_neg h2,if_neg h3,if_neg h6]
   exact hlo
noncomputable def G8:Sp:=λvs H Q _=>∃ (lm lo:Addr) (ms:List aE) (on:List Nat) (row:Str) (n:Nat) (d:Cfg),vs = [.ref lm,.ref lo,.str row] /\ Gh H lm ms /\ Wk ms /\ H lo = some (.lst (on.map bW)) /\ iC ms on /\ row.length <= 1000 /\ on.length <= 40000 /\ n <= 5000 /\ goN ms row n ⟨on,[],[]⟩ = some d /\
 ∀ tp lt lo' lk H',Told H' tp lt lo' lk d -> H lt = none -> H lk = none -> (lo' = lo ∨ H lo' = none) -> au H H' -> Q (.ref tp) H'
theorem LZ (T:Txt K mg t):bw P w K mg base dP 3 t.qR t.zB ["_law_modes_here","_law_on","_law_row_here"] G8:=by
 refine T.zd.ok gJ ?_ ?_
 walk_at "i"
 ·obtain ⟨lm,lh,ms,on,row,n,d,rfl,hL,W,hlh,hok,hrow,honl,hn,hgo,q⟩:=h
  refine @av _ _ _ _ _ _ _ (aC (i:=3) gJ.nd rfl (Or.inl rfl) (bC ah)) ⟨by show 0 <= sizeLine;decide,λlt hlt=>?_⟩
  have s1:au H (upd H lt (.lst [])):=au.upd hlt
  have ht1:upd H lt (.lst []) lt = some (.lst []):=af
  have nht:lh ≠ lt:=aq hlh hlt
  generalize upd H lt (.lst []) = H1 at s1 ht1
  refine @av _ _ _ _ _ _ _ (aC (i:=4) gJ.nd rfl (Or.inl rfl) (bC ah)) ⟨by show 0 <= sizeLine;decide,λlk hlk=>?_⟩
  have s2:au H1 (upd H1 lk (.lst [])):=au.upd hlk
  have hk2:upd H1 lk (.lst []) lk = some (.lst []):=af
  have ht2:=s2 _ _ ht1
  have ntk:lt ≠ lk:=aq ht1 hlk
  have nhk:lh ≠ lk:=aq (s1 _ _ hlh) hlk
  have hlk0:H lk = none:=s1.free hlk
  generalize upd H1 lk (.lst []) = H2 at s2 hk2 ht2
  have s2:=s1.trans s2
  refine @av _ _ _ _ _ _ _ (aC (i:=5) gJ.nd rfl (Or.inl rfl) ai) ?_
  refine @av _ _ _ _ _ _ _ (aC (i:=6) gJ.nd rfl (Or.inl rfl) ai) ?_
  show At _ _ _ [some (.ref lm),some (.ref lh),some (.str row),some (.ref lt),some (.ref lk),some (.int 0),some (.int 5000),none,none] H2
  have look:∀ {H':Hp} {c:Cfg},iC ms c.on -> ∃ m,ms[bN c.on]? = some m /\ dG ms (bN c.on) = m.rules:=λ{H' c} h=>by
   obtain ⟨m,hm⟩:=h.mode
   exact ⟨m,hm,by rw [dG,hm]⟩
  obtain ⟨m0,hm0,hr0⟩:=look (H':=H) (c:=⟨on,[],[]⟩) hok
  refine @aF _ _ _ _ _ _ _ (λZ' H'=>∃ rv,Z' = [some (.ref lm),some (.ref lh),some (.str row),some (.ref lt),some (.ref lk),some (.int 0),some (.int 5000),some rv,none] /\ au H2 H' /\ ((dj (dG ms (bN on)) row 0 = none /\ rv = .cM) ∨ ∃ R tr,dj (dG ms (bN on)) row 0 = some R /\ R ∈ m0.rules /\ rv = .ref tr /\ LR H' tr R)) (aC (i:=7) gJ.nd rfl (Or.inl rfl) (aK (G0 T) (hr.mono (by decide)) rfl T.Ej T.qg.kp (T.qg.binds (by walk_at "4")) .nil aG (aa (pv 0) (aa (aU aY (pv 1) (jh gA ai) (λ_ _=>rfl)) (aa (pv 2) (aa (pv 5) ah)))))) ?_ ?_
  ·refine ⟨_,rfl,_,rfl,_,rfl,_,_,_,_,rfl,rfl,bB.of (s2 _ _ hlh),d9 (fD hok.1),_,rfl,_,rfl,lm,ms,m0,bN on,0,row,rfl,hL.same s2,W,hm0,hrow,Nat.zero_le _,λH3 s3=>⟨λe=>⟨_,rfl,s3,.inl ⟨by rw [hr0];exact e,rfl⟩⟩,λR tr e hR hLR=>⟨_,rfl,s3,.inr ⟨R,tr,by rw [hr0];exact e,hR,rfl,hLR.same s3⟩⟩⟩⟩
  rintro Z' H3 ⟨rv0,rfl,s3,hrv0⟩
  have s3':=s2.trans s3
  refine @aF _ _ _ _ _ _ _ (λZ' H'=>∃ lt lo x5 x6 x7 x8,Z' = [some (.ref lm),some (.ref lo),some (.str row),some (.ref lt),some (.ref lk),x5,x6,x7,x8] /\ H' lt = some (.lst (d.aB.map V.str)) /\ H' lo = some (.lst (d.on.map bW)) /\ GM H' lk d.marks /\ H lt = none /\ (lo = lh ∨ H lo = none) /\ au H H') (kg PassesOwn.never (PW.pt (fR (az iY (pv 6) ai (aA _)) (fj (PW.pt (i9 (az fJ (pv 7) bL (aA _)) (iG (az gC (pv 5) (aL bz (by rfl) T.bO (by decide +kernel) (aa (pv 2) ah)) (aA _)))))))) ak) ?_ ?_
  ·refine ⟨λm Z' H'=>∃ (c:Cfg) (lt lo:Addr) (left:Int) (rv:V) (x8:Option V),Z' = [some (.ref lm),some (.ref lo),some (.str row),some (.ref lt),some (.ref lk),some (.int c.aB.length),some (.int left),some rv,x8] /\ H' lo = some (.lst (c.on.map bW)) /\ H' lt = some (.lst (c.aB.map V.str)) /\ GM H' lk c.marks /\ H lt = none /\ (lo = lh ∨ H lo = none) /\ lo ≠ lt /\ lo ≠ lk /\ lt ≠ lk /\ iC ms c.on /\ c.aB.length <= row.length /\ c.on.length + m <= on.length + n /\ c.marks.length + m <= n /\ (m:Int) <= left /\ goN ms row m c = some d /\ ((dj (dG ms (bN c.on)) row c.aB.length = none /\ rv = .cM) ∨ ∃ R tr m',ms[bN c.on]? = some m' /\ dj (dG ms (bN c.on)) row c.aB.length = some R /\ R ∈ m'.rules /\ rv = .ref tr /\ LR H' tr R) /\ au H H',
    ⟨n,⟨on,[],[]⟩,lt,lh,5000,rv0,_,rfl,s3' _ _ hlh,s3 _ _ ht2,⟨[],s3 _ _ hk2,cU.nil⟩,hlt,.inl rfl,nht,nhk,ntk,hok,Nat.zero_le _,Nat.le_refl _,by simp,by omega,hgo,?_,s3'⟩,?_⟩
   ·rcases hrv0 with h | ⟨R,tr,h1,h2,h3,h4⟩
    ·exact .inl h
    ·exact .inr ⟨R,tr,m0,hm0,h1,h2,h3,h4⟩
   rintro m Z' H4 ⟨c,lt,lo,left,rv,x8,rfl,ho4,ht4,hk4,hlt0,hlo0,not_,nok,ntk,hok4,htl4,hol4,hml4,hleft,hgo4,hrv,s4⟩
   obtain ⟨md,hmd,hru⟩:=look (H':=H) hok4
   have hmm:=List.mem_of_getElem? hmd
   cases hst:fm ms row c with
   | none =>
    have hd:d = c:=by
     rw [vB hst] at hgo4
     exact (Option.some.inj hgo4).symm
    subst hd
    rw [fm] at hst
    rcases hrv with ⟨hnone,rfl⟩ | ⟨R,tr,m',_,h1,_⟩
    ·rw [hnone] at hst
     have hnl:¬ d.aB.length < row.length:=λz=>by
      have hst:(if d.aB.length < row.length then some _ else none) = none:=hst
      rw [if_pos z] at hst;cases hst
     have fin:∃ lt' lo' x5 x6 x7 x8',[some (V.ref lm),some (V.ref lo),some (V.str row),some (V.ref lt),some (V.ref lk),some (V.int d.aB.length),some (V.int left),some V.cM,x8] = [some (.ref lm),some (.ref lo'),some (.str row),some (.ref lt'),some (.ref lk),x5,x6,x7,x8'] /\ H4 lt' = some (.lst (d.aB.map V.str)) /\ H4 lo' = some (.lst (d.on.map bW)) /\ GM H4 lk d.marks /\ H lt' = none /\ (lo' = lh ∨ H lo' = none) /\ au H H4:=⟨lt,lo,_,_,_,_,rfl,ht4,ho4,hk4,hlt0,hlo0,s4⟩
     refine ⟨_,rfl,_,_,rfl,rfl,_,rfl,cI (λh=>?_) (λh=>fin)⟩
     refine ⟨_,rfl,rfl,_,rfl,iB (λh=>absurd rfl h) (λ_=>?_)⟩
     exact ⟨_,rfl,_,rfl,_,rfl,bI (by omega),_,_,rfl,rfl,_,rfl,cI (λh=>absurd h (by omega)) (λh=>fin)⟩
    ·rw [h1] at hst;cases hst
   | some c' =>
    obtain ⟨m',rfl⟩:∃ m',m = m' + 1:=by
     cases m with
     | zero=>rw [goN,hst] at hgo4;cases hgo4
     | succ m'=>exact ⟨m',rfl⟩
    rw [goN,hst] at hgo4
    have hgo5:goN ms row m' c' = some d:=hgo4
    have hpos:(0:Int) < left:=by omega
    refine ⟨_,rfl,_,_,rfl,rfl,_,rfl,cI (λ_=>?_) (λh=>absurd hpos h)⟩
    have hnon:rv = .cM -> c.aB.length < row.length:=λe=>by
     rcases hrv with ⟨hnone,_⟩ | ⟨R,tr,m',_,h1,_,h3,_⟩
     ·rw [fm,hnone] at hst
      have hst:(if c.aB.length < row.length then some _ else none) = some c':=hst
      by_cases z:c.aB.length < row.length
      ·exact z
      ·rw [if_neg z] at hst;cases hst
     ·rw [e] at h3;cases h3
    refine (λhb=>⟨_,rfl,rfl,_,rfl,iB (λ_=>hb) (λh=>⟨_,rfl,_,rfl,_,rfl,bI (by omega),_,_,rfl,rfl,_,rfl,cI (λ_=>hb) (λh'=>absurd (by have:=hnon h;omega) h')⟩)⟩) ?_
    refine ⟨_,λZ' H' z=>z,?_⟩
    refine @av _ _ _ _ _ _ _ (aC (i:=6) gJ.nd rfl (Or.inl rfl) (aQ jo (pv 6) ai)) ⟨_,rfl,_,_,rfl,rfl,?_⟩
    refine @av _ _ _ _ _ _ _ (aC (i:=8) gJ.nd rfl (Or.inl rfl) ai) ?_
    show At _ _ _ [some (.ref lm),some (.ref lo),some (.str row),some (.ref lt),some (.ref lk),some (.int c.aB.length),some (.int (left - 1)),some rv,some (.int 1)] H4
    refine @aF _ _ _ _ _ _ _ (λZ' H'=>∃ (lt lo:Addr) (mn:Int),Z' = [some (.ref lm),some (.ref lo),some (.str row),some (.ref lt),some (.ref lk),some (.int c.aB.length),some (.int (left - 1)),some rv,some (.int mn)] /\ (c.aB.length:Int) + mn = c'.aB.length /\ H' lo = some (.lst (c'.on.map bW)) /\ H' lt = some (.lst (c'.aB.map V.str)) /\ GM H' lk c'.marks /\ H lt = none /\ (lo = lh ∨ H lo = none) /\ lo ≠ lt /\ lo ≠ lk /\ lt ≠ lk /\ iC ms c'.on /\ c'.aB.length <= row.length /\ c'.on.length + m' <= on.length + n /\ c'.marks.length + m' <= n /\ au H H') (aP (az qq (pv 7) bL (aA _)) ak ak) ?_ ?_
    ·rcases hrv with ⟨hnone,rfl⟩ | ⟨R,tr,m2,hm2,h1,h2,rfl,h4⟩
     ·have hlt':=hnon rfl
      have ec:c' = ⟨c.on,c.aB ++ [cy ms (bN c.on)],c.marks⟩:=by
       rw [fm,hnone] at hst
       have hst:(if c.aB.length < row.length then some (Cfg.mk c.on (c.aB ++ [cy ms (bN c.on)]) c.marks) else none) = some c':=hst
       rw [if_pos hlt'] at hst
       exact (Option.some.inj hst).symm
      have ecol:cy ms (bN c.on) = md.aO:=by rw [cy,hmd]
      obtain ⟨ts,hlm,hA⟩:=hL
      obtain ⟨tm,htm,lu,rs,t1,t2,t3⟩:=hA.at hmd
      refine ⟨_,rfl,rfl,_,rfl,cI (λ_=>?_) (λh=>absurd rfl h)⟩
      refine @ao _ _ _ _ _ _ (aR (cJ F.plainAttrs_list F.slot_list_append F.type_list_append bJ (pv 3) (aa (aU bU (aU aY (pv 0) (aU aY (pv 1) (jh gA ai) (λ_ _=>rfl)) (λ_ _=>rfl)) ai (λ_ _=>rfl)) ah))) ⟨_,rfl,.inl ⟨rfl,_,bB.of ht4⟩,_,rfl,_,rfl,_,rfl,_,_,_,_,rfl,rfl,bB.of ho4,d9 (fD hok4.1),_,_,_,_,rfl,rfl,bB.of (s4 _ _ hlm),iH htm,_,_,_,_,rfl,rfl,fY.of (s4 _ _ t1),bq (j:=1) rfl,lt,_,_,rfl,rfl,ht4,dw (by rw [List.length_map];omega),lt,lo,1,rfl,?_,?_,?_,?_,hlt0,hlo0,not_,nok,ntk,?_,?_,?_,?_,?_⟩
      ·rw [ec]
       show _ = (((c.aB ++ [cy ms (bN c.on)]).length:Nat):Int)
       rw [List.length_append,List.length_cons,List.length_nil]
       omega
      ·rw [ec,aj not_];exact ho4
      ·rw [ec,af]
       show _ = some (HO.lst ((c.aB ++ [cy ms (bN c.on)]).map V.str))
       rw [List.map_append,ecol]
       rfl
      ·rw [ec];exact hk4.kP ht4 (Ne.symm ntk)
      ·rw [ec];exact hok4
      ·rw [ec]
       show (c.aB ++ [cy ms (bN c.on)]).length <= _
       rw [List.length_append,List.length_cons,List.length_nil]
       omega
      ·rw [ec];show c.on.length + m' <= _;omega
      ·rw [ec];show c.marks.length + m' <= _;omega
      ·intro b o hb
       rw [aj (aq hb hlt0)]
       exact s4 _ _ hb
     ·have ec:c' = eO c R row:=by
       rw [fm,h1] at hst
       exact (Option.some.inj hst).symm
      have hmm2:=List.mem_of_getElem? hm2
      have hs:=((W.g.ok m2 hmm2).2 R h2).1
      have hfit:eF R row c.aB.length = true:=by
       rw [hru] at h1
       unfold dj at h1
       cases ef:firstM md.rules row c.aB.length with
       | none=>rw [ef] at h1;cases h1
       | some j =>
        rw [ef] at h1
        obtain ⟨_,R',g1,g2,_⟩:=gW ef
        rw [Nat.sub_zero] at g1
        have:R' = R:=Option.some.inj (g1.symm.trans h1)
        rw [← this];exact g2
      have hel:=zP (R:=R) (row:=row) hs htl4
      have hdl:=qX (on:=c.on) (d:=R.aW) (g:=R.goal)
      refine ⟨_,rfl,rfl,_,rfl,cI (λh=>by cases h) (λ_=>?_)⟩
      refine @av _ _ _ _ _ _ _ (aC (i:=8) gJ.nd rfl (Or.inl rfl) (aK (C6 T) (hr.mono (by decide)) rfl T.DC T.q9.kp (T.q9.binds (by walk_at "3")) .nil aG (aa (pv 7) (aa (pv 2) (aa (pv 5) ah))))) ⟨_,rfl,_,rfl,_,rfl,tr,R,row,c.aB.length,rfl,h4,hs,W.sg m2 hmm2 R h2,hrow,htl4,λH5 s5=>?_⟩
      rw [By hfit]
      have h5:=h4.same s5
      obtain ⟨z,u1,u2,u3⟩:=id h5
      have ht5:=s5 _ _ ht4
      have ho5:=s5 _ _ ho4
      have hk5:=hk4.same s5
      refine @av _ _ _ _ _ _ _ (aC (i:=3) gJ.nd rfl (Or.inl rfl) (aQ i6 (pv 3) (aQ AK (bC (aa (aU bU (pv 7) ai (λ_ _=>rfl)) ah)) (pv 8)))) ⟨_,rfl,_,rfl,_,_,_,_,rfl,rfl,fY.of u1,bq (j:=2) rfl,by show 1 <= sizeLine;decide,λl1 hl1=>⟨_,rfl,l1,_,_,rfl,rfl,af,by omega,by omega,(by rw [Int.toNat_natCast];exact bI (by simp only [List.length_cons,List.length_nil];omega)),λl2 hl2=>?_⟩⟩
      rw [Int.toNat_natCast,qm]
      have s7:au H5 (upd (upd H5 l1 (.lst [.str R.aO])) l2 (.lst (List.replicate (fq R row c.aB.length) (V.str R.aO)))):=(au.upd hl1).to hl2
      have hl7:upd (upd H5 l1 (.lst [.str R.aO])) l2 (.lst (List.replicate (fq R row c.aB.length) (V.str R.aO))) l2 = some (.lst (List.replicate (fq R row c.aB.length) (V.str R.aO))):=af
      generalize upd (upd H5 l1 (.lst [.str R.aO])) l2 (.lst (List.replicate (fq R row c.aB.length) (V.str R.aO))) = H7 at s7 hl7
      refine ⟨lt,l2,_,_,rfl,rfl,s7 _ _ ht5,hl7,bI (by rw [List.length_map,List.length_replicate];omega),λlt' hlt'=>?_⟩
      have s8:au H7 (upd H7 lt' (.lst (c.aB.map V.str ++ List.replicate (fq R row c.aB.length) (V.str R.aO)))):=au.upd hlt'
      have ht8:upd H7 lt' (.lst (c.aB.map V.str ++ List.replicate (fq R row c.aB.length) (V.str R.aO))) lt' = some (.lst ((eO c R row).aB.map V.str)):=by
       rw [af]
       show _ = some (HO.lst ((c.aB ++ List.replicate (fq R row c.aB.length) R.aO).map V.str))
       rw [List.map_append,List.map_replicate]
      generalize upd H7 lt' (.lst (c.aB.map V.str ++ List.replicate (fq R row c.aB.length) (V.str R.aO))) = H8 at s8 ht8
      have s78:=s7.trans s8
      have ho8:=s78 _ _ ho5
      have hk8:=hk5.same s78
      have h8:=h5.same s78
      have no8:lo ≠ lt':=aq (s7 _ _ ho5) hlt'
      obtain ⟨ps5,hps5,_⟩:=id hk5
      have nk8:lk ≠ lt':=aq (s7 _ _ hps5) hlt'
      have s48:=s4.trans (s5.trans s78)
      have hlt0':H lt' = none:=(s4.trans (s5.trans s7)).free hlt'
      show At _ _ _ [some (.ref lm),some (.ref lo),some (.str row),some (.ref lt'),some (.ref lk),some (.int c.aB.length),some (.int (left - 1)),some (.ref tr),some (bW (fq R row c.aB.length))] H8
      refine @aF _ _ _ _ _ _ _ (λZ' H'=>Z' = [some (.ref lm),some (.ref lo),some (.str row),some (.ref lt'),some (.ref lk),some (.int c.aB.length),some (.int (left - 1)),some (.ref tr),some (bW (fq R row c.aB.length))] /\ H' lo = some (.lst (c.on.map bW)) /\ H' lt' = some (.lst ((eO c R row).aB.map V.str)) /\ GM H' lk (eO c R row).marks /\ LR H' tr R /\ au H H') (aP (az t8 (aU bU (pv 7) ai (λ_ _=>rfl)) aM (aA _)) ak ak) ?_ ?_
      ·obtain ⟨z8,u8,u9⟩:=id h8
       refine ⟨_,rfl,_,_,_,_,rfl,rfl,fY.of u8,bq (j:=5) rfl,rfl,_,rfl,iB (λh=>?_) (λh=>aX ⟨rfl,ho8,ht8,?_,h8,s48⟩)⟩
       ·have h:R.fold ≠ "" := λz=>h (by rw [z])
        obtain ⟨ps,hps,hAp⟩:=hk8
        refine @ao _ _ _ _ _ _ (aR (cJ F.plainAttrs_list F.slot_list_append F.type_list_append bJ (pv 4) (aa (bR (aa (pv 5) (aa (aU bU (pv 7) ai (λ_ _=>rfl)) ah))) ah))) ⟨_,rfl,.inl ⟨rfl,_,bB.of hps⟩,_,rfl,_,rfl,_,_,_,_,rfl,rfl,fY.of u8,bq (j:=5) rfl,by show 2 <= sizeLine;decide,λtp htp=>?_⟩
        have s9:au H8 (upd H8 tp (.tup [.int c.aB.length,.str R.fold])):=au.upd htp
        have hp9:upd H8 tp (.tup [.int c.aB.length,.str R.fold]) tp = some (.tup [.int c.aB.length,.str R.fold]):=af
        generalize upd H8 tp (.tup [.int c.aB.length,.str R.fold]) = H9 at s9 hp9
        have hps9:=s9 _ _ hps
        have hpl:ps.length <= 100000:=by rw [hAp.1];omega
        refine ⟨lk,_,_,rfl,rfl,hps9,dw (by rw [List.length_map];omega),rfl,?_,?_,?_,?_,?_⟩
        ·rw [aj nok];exact s9 _ _ ho8
        ·rw [aj (Ne.symm nk8)];exact s9 _ _ ht8
        ·have em:(eO c R row).marks = c.marks ++ [(c.aB.length,R.fold)]:=if_neg h
         rw [em]
         refine ⟨ps ++ [tp],by rw [af,List.map_append];rfl,cU.snoc (hAp.mono λp m e=>?_) ?_⟩
         ·rw [aj (cQ (s9 _ _ e) hps9 (by intro z;cases z))];exact s9 _ _ e
         ·rw [aj (cQ hp9 hps9 (by intro z;cases z))];exact hp9
        ·exact ⟨z8,by rw [aj (cQ (s9 _ _ u8) hps9 (by intro z;cases z))];exact s9 _ _ u8,u9⟩
        ·intro b o hb
         rw [aj (aq hb hlk0)]
         exact s9 _ _ (s48 _ _ hb)
       ·have h:R.fold = "" := V.str.inj h
        have em:(eO c R row).marks = c.marks:=if_pos h
        rw [em]
        exact hk8
      rintro Z' H9 ⟨rfl,ho9,ht9,hk9,h9,s9⟩
      have hgd:Bu R:=W.g.gd hmm2 h2
      refine @ao _ _ _ _ _ _ (aC (i:=1) gJ.nd rfl (Or.inl rfl) (aK (Jy T) (hr.mono (by decide)) rfl T.JE T.wo.kp (T.wo.binds (by walk_at "2")) .nil aG (aa (pv 7) (aa (pv 1) ah)))) ⟨_,rfl,_,rfl,lo,tr,c.on,R,rfl,ho9,h9,W.g.aW m2 hmm2 R h2,hgd,hok4.1,by omega,λlo' H10 ho10 hor s10=>?_⟩
      obtain ⟨ps9,hps9,_⟩:=id hk9
      have no1:lo' ≠ lt':=by
       rcases hor with z | z
       ·rw [z];exact no8
       ·exact Ne.symm (aq ht9 z)
      have no2:lo' ≠ lk:=by
       rcases hor with z | z
       ·rw [z];exact nok
       ·exact Ne.symm (aq hps9 z)
      have hlo':lo' = lh ∨ H lo' = none:=by
       rcases hor with z | z
       ·rw [z];exact hlo0
       ·exact .inr (s9.free z)
      refine ⟨lt',lo',((fq R row c.aB.length:Nat):Int),rfl,?_,?_,?_,?_,hlt0',hlo',no1,no2,Ne.symm nk8,?_,?_,?_,?_,s9.trans s10⟩
      ·rw [ec]
       show _ = (((c.aB ++ List.replicate _ _).length:Nat):Int)
       rw [List.length_append,List.length_replicate]
       omega
      ·rw [ec];exact ho10
      ·rw [ec];exact s10 _ _ ht9
      ·rw [ec];exact hk9.same s10
      ·rw [ec];exact hok4.aW W.g hmm2 h2
      ·rw [ec]
       show (c.aB ++ List.replicate _ _).length <= _
       rw [List.length_append,List.length_replicate]
       exact hel
      ·rw [ec]
       show (bD c.on R.aW R.goal).length + m' <= _
       omega
      ·rw [ec]
       show (if R.fold = "" then c.marks else c.marks ++ [(c.aB.length,R.fold)]).length + m' <= _
       split
       ·omega
       ·rw [List.length_append,List.length_cons,List.length_nil];omega
    rintro Z' H5 ⟨lt5,lo5,mn,rfl,hmn,ho5,ht5,hk5,hlt5,hlo5,no5,nok5,ntk5,hok5,htl5,hol5,hml5,s5⟩
    refine @av _ _ _ _ _ _ _ (aC (i:=5) gJ.nd rfl (Or.inl rfl) (aQ bM (pv 5) (pv 8))) ⟨_,rfl,_,rfl,_,_,rfl,rfl,?_⟩
    show At _ _ _ [some (.ref lm),some (.ref lo5),some (.str row),some (.ref lt5),some (.ref lk),some (.int ((c.aB.length:Int) + mn)),some (.int (left - 1)),some rv,some (.int mn)] H5
    rw [hmn]
    obtain ⟨m5,hm5,hr5⟩:=look (H':=H) hok5
    refine @ao _ _ _ _ _ _ (aC (i:=7) gJ.nd rfl (Or.inl rfl) (aK (G0 T) (hr.mono (by decide)) rfl T.Ej T.qg.kp (T.qg.binds (by walk_at "4")) .nil aG (aa (pv 0) (aa (aU aY (pv 1) (jh gA ai) (λ_ _=>rfl)) (aa (pv 2) (aa (pv 5) ah)))))) ⟨_,rfl,_,rfl,_,rfl,_,_,_,_,rfl,rfl,bB.of ho5,d9 (fD hok5.1),_,rfl,_,rfl,lm,ms,m5,bN c'.on,c'.aB.length,row,rfl,hL.same s5,W,hm5,hrow,htl5,λH6 s6=>⟨λe=>?_,λR tr e hR hLR=>?_⟩⟩
    ·exact ⟨m',by omega,c',lt5,lo5,left - 1,.cM,_,rfl,s6 _ _ ho5,s6 _ _ ht5,hk5.same s6,hlt5,hlo5,no5,nok5,ntk5,hok5,htl5,hol5,hml5,by omega,hgo5,.inl ⟨by rw [hr5];exact e,rfl⟩,s5.trans s6⟩
    ·exact ⟨m',by omega,c',lt5,lo5,left - 1,.ref tr,_,rfl,s6 _ _ ho5,s6 _ _ ht5,hk5.same s6,hlt5,hlo5,no5,nok5,ntk5,hok5,htl5,hol5,hml5,by omega,hgo5,.inr ⟨R,tr,m5,hm5,by rw [hr5];exact e,hR,rfl,hLR.same s6⟩,s5.trans s6⟩
  rintro Z' H4 ⟨lt',lo',x5,x6,x7,x8,rfl,ht,ho,hk,f1,f2,s4⟩
  refine @ao _ _ _ _ _ _ (aH (bR (aa (pv 3) (aa (pv 1) (aa (pv 4) ah))))) ⟨_,rfl,_,rfl,_,rfl,by show 3 <= sizeLine;decide,λtp htp=>?_⟩
  exact q tp lt' lo' lk _ ⟨af,au.upd htp _ _ ht,au.upd htp _ _ ho,hk.same (au.upd htp)⟩ f1 hlk0 f2 (s4.to htp)
theorem qQ.wk {ms:List aE} (L:qQ ms):Wk ms:=by
 obtain ⟨calm,B⟩:=L.b
 refine ⟨B.uS,λm hm R hR hb=>?_⟩
 obtain ⟨k,e⟩:=List.mem_iff_getElem?.mp hm
 obtain ⟨z,hz⟩:=(B.rules k m e).2 R hR
 rw [hz.sg,if_neg hb]
 exact hz.z1
theorem rW {N:Nat}:∀ {on:List Nat},(∀ x ∈ on,x < N) -> on.length <= wsum N on
 | [],_=>by simp [wsum]
 | x :: r,h=>by
  have:=rW (on:=r) (λy hy=>h y (List.mem_cons_of_mem _ hy))
  have hx:=h x (by simp)
  have e:wsum N (x :: r) = (N - x) + wsum N r:=by simp [wsum]
  rw [e,List.length_cons]
  omega
open Classical in
noncomputable def hid (S:Addr -> Prop) (H:Hp):Hp:=λb=>if S b then none else H b
theorem bX {S:Addr -> Prop} {H:Hp}:au (hid S H) H:=λb o h=>by
 unfold hid at h
 split at h
 ·cases h
 ·exact h
theorem cB {S:Addr -> Prop} {H:Hp} {b:Addr} {o:HO} (h:H b = some o) (n:¬ S b):hid S H b = some o:=by
 unfold hid
 rw [if_neg n]
 exact h
theorem k9 {S:Addr -> Prop} {H:Hp} {b:Addr} {o:HO} (h:hid S H b = some o):¬ S b:=λz=>by
 unfold hid at h
 rw [if_pos z] at h
 cases h
theorem eK {S:Addr -> Prop} {H H':Hp} (s:au H H'):au (hid S H) (hid S H'):=λb o h=>cB (s _ _ (bX _ _ h)) (k9 h)
theorem mh {S:Addr -> Prop} {H:Hp} {l:Addr} {o:HO} (hl:S l):hid S (upd H l o) = hid S H:=by
 funext b
 unfold hid
 split
 ·rfl
 ·rename_i h;rw [aj (λz=>h (by rw [z];exact hl))]
theorem xy {S S':Addr -> Prop} {H:Hp} (h:∀ b,S b -> S' b):au (hid S' H) (hid S H):=λb o e=>cB (bX _ _ e) (λz=>k9 e (h b z))
noncomputable def Ex (S:Addr -> Prop) (H:Hp):Prop:=∀ b,S b -> ∃ o,H b = some o
theorem Ex.new {S:Addr -> Prop} {H:Hp} (e:Ex S H) {b:Addr} (h:H b = none):¬ S b:=λz=>by
 obtain ⟨o,ho⟩:=e b z
 rw [h] at ho
 cases ho
theorem Ex.same {S:Addr -> Prop} {H H':Hp} (e:Ex S H) (s:au H H'):Ex S H':=λb z=>let ⟨o,ho⟩:=e b z;⟨o,s _ _ ho⟩
theorem Ex.none (H:Hp):Ex (λ_=>False) H:=λ_ z=>z.elim
noncomputable def NL (t:fX):Sp:=λvs H Q _=>∃ (r:Addr) (S:Addr -> Prop) (R:bA),vs = [.ref r] /\ dz t (hid S H) r R /\ Ex S H /\ ∀ r' H',dz t (hid S H') r' R -> au H H' -> Q (.ref r') H'
theorem MF (T:Txt K mg t):bw P w K mg base dP 3 t.pX t.w6 ["rule"] (NL t):=by
 refine T.yM.ok JL ?_ ?_
 walk_at "i"
 ·obtain ⟨r,S,R,rfl,⟨dr,pa,o1',hp⟩,hz,q⟩:=h
  have o1:=bX _ _ o1'
  refine @ao _ _ _ _ _ _ (aH (e7 T.oW (Gn T) (hr.mono (by decide)) rfl T.wZ (T.wI.binds (by walk_at "6")) .nil aG (aa (aZ (pv 0) rfl) (aa (aZ (pv 0) rfl) (aa (aZ (pv 0) rfl) (aa (aZ (pv 0) rfl) (aa (aZ (pv 0) rfl) ah))))))) ?_
  refine ⟨_,rfl,_,_,_,_,_,rfl,o1,T.cD,T.cX,rfl,?_⟩
  refine ⟨_,rfl,_,_,_,_,_,rfl,o1,T.cD,T.fB,rfl,?_⟩
  refine ⟨_,rfl,_,_,_,_,_,rfl,o1,T.cD,T.dU,rfl,?_⟩
  refine ⟨_,rfl,_,_,_,_,_,rfl,o1,T.cD,T.gn,rfl,?_⟩
  refine ⟨_,rfl,_,_,_,_,_,rfl,o1,T.cD,T.gj,rfl,?_⟩
  refine λx dx' nx ndx ne=>⟨x,dx',pa,R,rfl,af,rfl,?_⟩
  exact q x _ ⟨dx',pa,cB af (hz.new nx),hp.same (eK (fN nx ndx))⟩ (fN nx ndx)
noncomputable def Nf (t:fX):Sp:=λvs H Q _=>∃ (b l dm:Addr) (S:Addr -> Prop) (m:aE) (rs:List Addr),vs = [.ref b] /\ hid S H b = some (.ins t.bV dm (mf m l)) /\ hid S H l = some (.lst (rs.map V.ref)) /\ cU (dz t (hid S H)) rs m.rules /\ Ex S H /\ m.rules.length <= 200 /\
 ∀ b' l' dm' rs' H',hid S H' b' = some (.ins t.bV dm' (mf m l')) -> hid S H' l' = some (.lst (rs'.map V.ref)) -> cU (dz t (hid S H')) rs' m.rules -> H l' = none -> au H H' -> Q (.ref b') H'
theorem KN (T:Txt K mg t):bw P w K mg base dP 4 t.qG t.xq ["mode"] (Nf t):=by
 refine T.w5.ok KJ ?_ ?_
 walk_at "i"
 ·obtain ⟨b,l,dm,S,m,rs,rfl,hb',hl',hA,hz,hlen,q⟩:=h
  have hb:=bX _ _ hb'
  have hl:=bX _ _ hl'
  refine @ao _ _ _ _ _ _ (@aH _ _ _ _ (@e7 _ _ _ _ _ _ _ _ _ _ _ _ _ _ _ _ _ T.o4 (FL T) (hr.mono (by decide)) rfl T.yz (T.ze.binds (by walk_at "4")) .nil aG (@aa _ _ _ _ _ (@aZ _ _ _ _ _ (pv 0) rfl) (@aa _ _ _ _ _ (@aZ _ _ _ _ _ (pv 0) rfl) (@aa _ _ _ _ _ (@iO _ (ay Bf) _ ["mode"] _ _ ("rule") _ _ [] _ _ (by walk_at "ck") (@dZ _ _ _ _ (@aZ _ _ _ _ _ (pv 0) rfl)) (λ_ _ _ _=>by exact (@aK _ _ _ _ _ _ _ _ _ _ _ _ _ _ _ _ (MF T) (hr.mono (by decide)) rfl T.JK T.yM.kp (T.yM.binds (by walk_at "1")) .nil aG (@aa _ _ _ _ _ (pv 0) ah (by left)) (by left) (by left) (by left))) (by left) (by left) (by left) (by left)) ah (by left)) (by left)) (by left)) (by left) (by left) (by left))) ?_
  refine ⟨_,rfl,_,_,_,_,_,rfl,hb,T.fk,T.gp,rfl,?_⟩
  refine ⟨_,rfl,_,_,_,_,_,rfl,hb,T.fk,T.fF,rfl,?_⟩
  refine ⟨_,rfl,_,_,_,_,_,rfl,hb,T.fk,T.dI,rfl,?_⟩
  refine ⟨l,rfl,⟨_,bB.of hl⟩,iU (xs:=rs.map V.ref) (λi ys H2=>∃ rs2:List Addr,ys = rs2.map V.ref /\ cU (dz t (hid S H2)) rs2 (m.rules.take i) /\ au H H2) ⟨[],rfl,cU.nil,au.refl H⟩ (dw (by rw [List.length_map,hA.1];omega)) ?_ ?_ ?_⟩
  ·rintro i ys H2 _ ⟨_,_,_,s2⟩
   exact bB.of (s2 _ _ hl)
  ·rintro i xv ys H2 hx hyl ⟨rs2,rfl,hA2,s2⟩
   rw [List.getElem?_map] at hx
   obtain ⟨r,hr0,rfl⟩:=Option.map_eq_some_iff.mp hx
   have hi:=(List.getElem?_eq_some_iff.mp hr0).1
   have hRi:m.rules[i]? = some (m.rules[i]'(by rw [← hA.1];exact hi)):=List.getElem?_eq_getElem _
   have hR:=hA.2 i r _ hr0 hRi
   refine ⟨_,rfl,r,S,_,rfl,hR.same (eK s2),hz.same s2,λr' H3 hr3 s3=>ez (by rw [List.length_map];exact hi) hyl ⟨rs2 ++ [r'],by rw [List.map_append];rfl,?_,s2.trans s3⟩⟩
   rw [take_snoc hRi]
   exact cU.snoc (hA2.mono λ_ _ y=>y.same (eK s3)) hr3
  ·rintro ys H2 hyl ⟨rs2,rfl,hA2,s2⟩ D hD
   rw [List.length_map,hA.1,List.take_length] at hA2
   have s3:au H (upd H2 D (.lst (rs2.map V.ref))):=s2.to hD
   have hD3:upd H2 D (.lst (rs2.map V.ref)) D = some (.lst (rs2.map V.ref)):=af
   have hA3:cU (dz t (hid S (upd H2 D (.lst (rs2.map V.ref))))) rs2 m.rules:=hA2.mono λ_ _ y=>y.same (eK (au.upd hD))
   generalize upd H2 D (.lst (rs2.map V.ref)) = H3 at s3 hD3 hA3
   refine λx dx' nx ndx ne=>⟨x,dx',D,m.name,m.aO,_,rfl,af,bZ nx ndx _ _ hD3,λl2 H4 e1 e2 e3 e4=>⟨rfl,?_⟩⟩
   have s4:au H3 H4:=λb o hb=>e4 b o (bZ nx ndx _ _ hb) (aq hb nx)
   have hz3:=hz.same s3
   have nxz:¬ S x:=hz3.new nx
   have nlz:¬ S l2:=hz3.new ((bZ nx ndx).free e1)
   exact q x l2 dx' rs2 H4 (cB e2 nxz) (cB e3 nlz) (hA3.mono λ_ _ y=>y.same (eK s4)) (s3.free ((bZ nx ndx).free e1)) (s3.trans s4)
noncomputable def Ke (t:fX):Sp:=λvs H Q _=>∃ (a:Addr) (S:Addr -> Prop) (ms:List aE),vs = [.ref a] /\ IsRules t (hid S H) a ms /\ Ex S H /\ dR ms /\ ∀ a' H',IsRules t (hid S H') a' ms -> au H H' -> Q (.ref a') H'
theorem JU (T:Txt K mg t):bw P w K mg base dP 5 t.rQ t.yZ ["rules"] (Ke t):=by
 refine T.yv.ok MV ?_ ?_
 walk_at "i"
 ·obtain ⟨a,S,ms,rfl,⟨dx,lm,as,ls,ha',hlm',hM⟩,hz,G,q⟩:=h
  have ha:=bX _ _ ha'
  have hlm:=bX _ _ hlm'
  have hlen:=G.len
  refine @ao _ _ _ _ _ _ (@aH _ _ _ _ (@e7 _ _ _ _ _ _ _ _ _ _ _ _ _ _ _ _ _ T.lR (GO T) (hr.mono (by decide)) rfl T.uc (T.yq.binds (by walk_at "2")) .nil aG (@aa _ _ _ _ _ (@iO _ (ay Bt) _ ["rules"] _ _ ("mode") _ _ [] _ _ (by walk_at "ck") (@dZ _ _ _ _ (@aZ _ _ _ _ _ (pv 0) rfl)) (λ_ _ _ _=>by exact (@aK _ _ _ _ _ _ _ _ _ _ _ _ _ _ _ _ (KN T) (hr.mono (by decide)) rfl T.MU T.w5.kp (T.w5.binds (by walk_at "1")) .nil aG (@aa _ _ _ _ _ (pv 0) ah (by left)) (by left) (by left) (by left))) (by left) (by left) (by left) (by left)) ah (by left)) (by left) (by left) (by left))) ?_
  refine ⟨_,rfl,_,_,_,_,_,rfl,ha,T.g9,T.b8,rfl,?_⟩
  refine ⟨lm,rfl,⟨_,bB.of hlm⟩,iU (xs:=as.map V.ref) (λi ys H2=>∃ as2 IM:List Addr,ys = as2.map V.ref /\ cC t (hid S H2) as2 IM (ms.take i) /\ au H H2) ⟨[],[],rfl,⟨rfl,rfl,List.nodup_nil,λi a l m h=>by simp at h⟩,au.refl H⟩ (dw (by rw [List.length_map,hM.la];omega)) ?_ ?_ ?_⟩
  ·rintro i ys H2 _ ⟨_,_,_,_,s2⟩
   exact bB.of (s2 _ _ hlm)
  ·rintro i xv ys H2 hx hyl ⟨as2,IM,rfl,hM2,s2⟩
   rw [List.getElem?_map] at hx
   obtain ⟨b,hb,rfl⟩:=Option.map_eq_some_iff.mp hx
   have hi:=(List.getElem?_eq_some_iff.mp hb).1
   have him:i < ms.length:=by rw [← hM.la];exact hi
   have hmi:ms[i]? = some ms[i]:=List.getElem?_eq_getElem him
   obtain ⟨l,hl⟩:∃ l,ls[i]? = some l:=⟨ls[i]'(by rw [hM.ll];exact him),List.getElem?_eq_getElem _⟩
   obtain ⟨dm,rs,o1,o2,o3⟩:=hM.ob i b l _ hb hl hmi
   have sh:=eK (S:=S) s2
   refine ⟨_,rfl,b,l,dm,S,ms[i],rs,rfl,sh _ _ o1,sh _ _ o2,o3.mono λ_ _ y=>y.same sh,hz.same s2,(G.ok _ (List.getElem_mem him)).1,λb' l' dm' rs' H3 e1 e2 e3 e4 s3=>ez (by rw [List.length_map];exact hi) hyl ⟨as2 ++ [b'],IM ++ [l'],by rw [List.map_append];rfl,?_,s2.trans s3⟩⟩
   have hM3:=hM2.same (eK s3)
   rw [take_snoc hmi]
   refine ⟨by rw [List.length_append,List.length_append,hM3.la];rfl,by rw [List.length_append,List.length_append,hM3.ll];rfl,?_,λj a' l'' m' h1 h2 h3=>?_⟩
   ·refine List.nodup_append.mpr ⟨hM3.nd,by simp,λx hx y hy=>?_⟩
    rw [List.mem_singleton.mp hy]
    intro e
    obtain ⟨xs,hxs⟩:=hM2.alive hx
    have hxs:=bX _ _ hxs
    rw [e,e4] at hxs
    cases hxs
   ·have k1:=hM3.la
    have k2:=hM3.ll
    rcases cR h1 with h1 | ⟨i1,rfl⟩
    ·have:=(List.getElem?_eq_some_iff.mp h1).1
     rcases cR h2 with h2 | ⟨i2,rfl⟩
     ·rcases cR h3 with h3 | ⟨i3,rfl⟩
      ·exact hM3.ob j a' l'' m' h1 h2 h3
      ·omega
     ·omega
    ·rcases cR h2 with h2 | ⟨i2,rfl⟩
     ·have:=(List.getElem?_eq_some_iff.mp h2).1;omega
     ·rcases cR h3 with h3 | ⟨i3,rfl⟩
      ·have:=(List.getElem?_eq_some_iff.mp h3).1;omega
      ·exact ⟨dm',rs',e1,e2,e3⟩
  ·rintro ys H2 hyl ⟨as2,IM,rfl,hM2,s2⟩ D hD
   rw [List.length_map,hM.la,List.take_length] at hM2
   have s3:au H (upd H2 D (.lst (as2.map V.ref))):=s2.to hD
   have hD3:upd H2 D (.lst (as2.map V.ref)) D = some (.lst (as2.map V.ref)):=af
   have hM3:cC t (hid S (upd H2 D (.lst (as2.map V.ref)))) as2 IM ms:=hM2.same (eK (au.upd hD))
   generalize upd H2 D (.lst (as2.map V.ref)) = H3 at s3 hD3 hM3
   refine λx dx' nx ndx ne=>⟨x,dx',D,_,rfl,af,bZ nx ndx _ _ hD3,λl2 H4 e1 e2 e3 e4=>⟨rfl,?_⟩⟩
   have s4:au H3 H4:=λb o hb=>e4 b o (bZ nx ndx _ _ hb) (aq hb nx)
   have hz3:=hz.same s3
   have nxz:¬ S x:=hz3.new nx
   have nlz:¬ S l2:=hz3.new ((bZ nx ndx).free e1)
   exact q x H4 ⟨dx',l2,as2,IM,cB e2 nxz,cB e3 nlz,hM3.same (eK s4)⟩ (s3.trans s4)
noncomputable def L4 (t:fX):Sp:=λvs H Q _=>∃ (a:Addr) (ms:List aE),vs = [.ref a] /\ IsRules t H a ms /\ dR ms /\ ic ms = none /\ ∀ H',au H H' -> Q .cM H'
theorem JS (T:Txt K mg t):bw P w K mg base dP 6 t.ow t.tL ["rules"] (L4 t):=by
 refine T.n9.ok uD ?_ ?_
 walk_at "i"
 ·obtain ⟨a,ms,rfl,hR,G,hn,q⟩:=h
  refine @av _ _ _ _ _ _ _ (aC (i:=1) uD.nd rfl (Or.inl rfl) (aK (Am T) (hr.mono (by decide)) rfl T.Af T.mj.kp (T.mj.binds (by walk_at "1")) .nil aG (aa (pv 0) ah))) ⟨_,rfl,a,ms,rfl,hR,G,λH1 s1=>⟨λ_=>?_,(λring row p l e=>by rw [hn] at e;cases e)⟩⟩
  exact @ao _ _ _ _ _ _ (aP (az fJ (pv 1) bL (aA _)) ak ak) ⟨_,rfl,rfl,_,rfl,iB (λh=>absurd rfl h) (λ_=>aX (q H1 s1))⟩
structure cL where
 row:Str
 before:List Nat
 d:Cfg
def gf (row:Str) (lb lt lo lk:Addr):List (Str × V):=[("signs",.str row),("before",.ref lb),("tints",.ref lt),("behind",.ref lo),("folded",.ref lk)]
structure xm (t:fX) (H:Hp) (g dx lb lt lo lk:Addr) (G:cL):Prop where
 ob:H g = some (.ins t.bx dx (gf G.row lb lt lo lk))
 lb:H lb = some (.lst (G.before.map bW))
 lt:H lt = some (.lst (G.d.aB.map V.str))
 lo:H lo = some (.lst (G.d.on.map bW))
 lk:GM H lk G.d.marks
noncomputable def j8 (t:fX) (H:Hp) (g:Addr) (G:cL):Prop:=∃ dx lb lt lo lk,xm t H g dx lb lt lo lk G
theorem j8.same {H H':Hp} {g:Addr} {G:cL} (h:j8 t H g G) (s:au H H'):j8 t H' g G :=
 let ⟨dx,lb,lt,lo,lk,e⟩:=h;⟨dx,lb,lt,lo,lk,s _ _ e.ob,s _ _ e.lb,s _ _ e.lt,s _ _ e.lo,e.lk.same s⟩
structure DQ (ms:List aE) (G:cL):Prop where
 ok:iC ms G.before
 len:G.before.length <= 20000
 row:G.row.length <= 1000
 go:∃ n,n <= 5000 /\ goN ms G.row n ⟨G.before,[],[]⟩ = some G.d
 ok2:iC ms G.d.on
 len2:G.d.on.length <= 20000
 tl:G.d.aB.length = G.row.length
noncomputable def ID (t:fX):Sp:=λvs H Q _=>∃ (x dx a lb:Addr) (S:Addr -> Prop) (ms:List aE) (G:cL),vs = [.ref x,.ref a,.ref lb,.str G.row] /\ H x = some (.ins t.bx dx []) /\ IsRules t H a ms /\ dR ms /\ hid S H lb = some (.lst (G.before.map bW)) /\ Ex S H /\ ¬ S x /\ DQ ms G /\
 ∀ lt lo lk H',xm t (hid S H') x dx lb lt lo lk G -> kh H H' x -> Q .cM H'
theorem K0 (T:Txt K mg t):bw P w K mg base dP 4 t.nL t.yw ["self","rules","modes","row"] (ID t):=by
 refine T.BW.ok DK ?_ ?_
 walk_at "i"
 ·obtain ⟨x,dx,a,lb,Sh,ms,G,rfl,hx,hR,GM_,hlb',hE,hxS,S,q⟩:=h
  have hlb:=bX _ _ hlb'
  obtain ⟨n,hn,hgo⟩:=S.go
  have hbl:=S.len
  refine @av _ _ _ _ _ _ _ (aC (i:=4) DK.nd rfl (Or.inl rfl) (aK (K4 T) (hr.mono (by decide)) rfl T.Jz T.wC.kp (T.wC.binds (by walk_at "3")) .nil aG (aa (pv 1) (aa (pv 2) (aa (pv 3) ah))))) ⟨_,rfl,_,rfl,_,rfl,a,lb,ms,G.before,G.row,n,G.d,rfl,hR,GM_,hlb,S.ok,S.row,by omega,by omega,hgo,λtp lt lo lk H1 D GF1 f1 f2 f3 n1 n2 n3 s1=>?_⟩
  have hx1:=s1 _ _ hx
  have nx:∀ {b o},H1 b = some o -> (∀ C dx fs,o ≠ .ins C dx fs) -> b ≠ x:=λ{b o} e h=>cQ e hx1 (λz=>h _ _ _ z)
  have x1:tp ≠ x:=nx D.tp (by intro _ _ _ z;cases z)
  have x2:lt ≠ x:=nx D.lt (by intro _ _ _ z;cases z)
  have x3:lo ≠ x:=nx D.lo (by intro _ _ _ z;cases z)
  have x4:lb ≠ x:=nx (s1 _ _ hlb) (by intro _ _ _ z;cases z)
  refine @av _ _ _ _ _ _ _ (cZ (pv 0) (pv 3) rfl) ⟨_,rfl,_,rfl,x,_,dx,[],rfl,hx1,T.dc,T.er,by decide,?_⟩
  refine @av _ _ _ _ _ _ _ (cZ (pv 0) (pv 2) rfl) ⟨_,rfl,_,rfl,x,_,dx,[("signs",.str G.row)],rfl,af,T.dc,T.fc,by show 1 < 1000;decide,?_⟩
  refine @av _ _ _ _ _ _ _ (cZ (pv 0) (aU bU (pv 4) ai (λ_ _=>rfl)) rfl) ⟨_,rfl,_,_,_,_,rfl,rfl,fY.of (by rw [aj x1,aj x1];exact D.tp),bq (j:=0) rfl,_,rfl,x,_,dx,[("signs",.str G.row),("before",.ref lb)],rfl,af,T.dc,T.fL,by show 2 < 1000;decide,?_⟩
  refine @av _ _ _ _ _ _ _ (cZ (pv 0) (aU bU (pv 4) ai (λ_ _=>rfl)) rfl) ⟨_,rfl,_,_,_,_,rfl,rfl,fY.of (by rw [aj x1,aj x1,aj x1];exact D.tp),bq (j:=1) rfl,_,rfl,x,_,dx,[("signs",.str G.row),("before",.ref lb),("tints",.ref lt)],rfl,af,T.dc,T.fh,by show 3 < 1000;decide,?_⟩
  refine @ao _ _ _ _ _ _ (cZ (pv 0) (aU bU (pv 4) ai (λ_ _=>rfl)) rfl) ⟨_,rfl,_,_,_,_,rfl,rfl,fY.of (by rw [aj x1,aj x1,aj x1,aj x1];exact D.tp),bq (j:=2) rfl,_,rfl,x,_,dx,[("signs",.str G.row),("before",.ref lb),("tints",.ref lt),("behind",.ref lo)],rfl,af,T.dc,T.e9,by show 4 < 1000;decide,?_⟩
  rw [iR,iR,iR,iR]
  obtain ⟨ps,k1,k2⟩:=D.lk
  have x5:lk ≠ x:=nx k1 (by intro _ _ _ z;cases z)
  obtain ⟨ps',k1',k2',k3'⟩:=GF1
  refine q lt lo lk _ ⟨cB af hxS,?_,?_,?_,ps',?_,⟨k2'.1,λi p m hp hm=>?_⟩⟩ λb o hb nb=>?_
  ·exact cB (by rw [aj x4];exact s1 _ _ hlb) (k9 hlb')
  ·exact cB (by rw [aj x2];exact D.lt) (hE.new f1)
  ·exact cB (by rw [aj x3];exact D.lo) (hE.new f2)
  ·exact cB (by rw [aj x5];exact k1') (hE.new f3)
  ·have e:=k2'.2 i p m hp hm
   exact cB (by rw [aj (nx e (by intro _ _ _ z;cases z))];exact e) (hE.new (k3' p (List.mem_of_getElem? hp)))
  ·rw [aj nb];exact s1 _ _ hb
def Chain (ms:List aE):List Nat -> List Str -> List cL -> Prop
 | _,[],[]=>True
 | b,r :: rs,G :: Gs=>G.row = r /\ G.before = b /\ DQ ms G /\ Chain ms G.d.on rs Gs
 | _,_,_=>False
theorem Chain.len {ms:List aE}:∀ {b:List Nat} {rs:List Str} {Gs:List cL},Chain ms b rs Gs -> Gs.length = rs.length
 | _,[],[],_=>rfl
 | _,_ :: _,_ :: _,h=>by simp [h.2.2.2.len]
 | _,[],_ :: _,h=>h.elim
 | _,_ :: _,[],h=>h.elim
theorem Chain.rows {ms:List aE}:∀ {b:List Nat} {rs:List Str} {Gs:List cL},Chain ms b rs Gs -> Gs.map (·.row) = rs
 | _,[],[],_=>rfl
 | _,_ :: _,_ :: _,h=>by rw [List.map_cons,h.1,h.2.2.2.rows]
 | _,[],_ :: _,h=>h.elim
 | _,_ :: _,[],h=>h.elim
theorem yb {ms:List aE} (L:qQ ms):∀ (rs:List Str) (b:List Nat) (W N:Nat),(∀ r ∈ rs,r.length <= N /\ ∀ c ∈ r.cps.toList,c ∈ Ck) -> N <= 200 -> iC ms b -> max (wsum ms.length b) 4 <= W -> W + rs.length * (10 * N + 6) + 19 * N + 20 <= 5000 -> ∃ Gs,Chain ms b rs Gs
 | [],b,W,N,_,_,_,_,_=>⟨[],trivial⟩
 | r :: rs,b,W,N,hr,hN,hb,hW,hs=>by
  obtain ⟨h1,h2⟩:=hr r (by simp)
  obtain ⟨n,d,hgo,hdl,hdok,hn1,hn2⟩:=runs (L.good h2) r.length ⟨b,[],[]⟩ (by simp) hb (Nat.zero_le _)
  have hn1:n + wsum ms.length d.on <= wsum ms.length b + 19 * r.length + 14:=hn1
  have hn2:wsum ms.length d.on <= max (wsum ms.length b) 4 + 10 * r.length + 6:=hn2
  have hl1:=rW hb.2
  have hl2:=rW hdok.2
  rw [List.length_cons,Nat.succ_mul] at hs
  obtain ⟨Gs,hG⟩:=yb L rs d.on (W + (10 * N + 6)) N (λx hx=>hr x (List.mem_cons_of_mem _ hx)) hN hdok (by omega) (by omega)
  exact ⟨⟨r,b,d⟩ :: Gs,rfl,rfl,⟨hb,by show b.length <= _;omega,by show r.length <= _;omega,⟨n,by omega,hgo⟩,hdok,by show d.on.length <= _;omega,hdl⟩,hG⟩
theorem qM {ms:List aE} {b:List Nat} {rs:List Str} {Gs:List cL} {r:Str} {i:Nat} (hc:Chain ms b (rs.drop i) (Gs.drop i)) (hr:rs[i]? = some r):∃ G,Gs[i]? = some G /\ G.row = r /\ G.before = b /\ DQ ms G /\ Chain ms G.d.on (rs.drop (i + 1)) (Gs.drop (i + 1)):=by
 rw [oU hr] at hc
 cases e:Gs.drop i with
 | nil=>rw [e] at hc;exact hc.elim
 | cons G t =>
  rw [e] at hc
  have hG:Gs[i]? = some G:=by
   have:=congrArg (λl=>l[0]?) e
   simpa [List.getElem?_drop] using this
  have ht:Gs.drop (i + 1) = t:=by rw [← List.drop_drop,e];rfl
  rw [ht]
  exact ⟨G,hG,hc⟩
structure cF (t:fX) (H:Hp) (x dx a lg:Addr) (gs:List Addr) (ms:List aE) (Gs:List cL):Prop where
 ob:H x = some (.ins t.aJ dx [("rules",.ref a),("gone_rows",.ref lg)])
 ru:IsRules t H a ms
 lg:H lg = some (.lst (gs.map V.ref))
 go:cU (j8 t H) gs Gs
theorem cF.same {H H':Hp} {x dx a lg:Addr} {gs:List Addr} {ms:List aE} {Gs:List cL} (h:cF t H x dx a lg gs ms Gs) (s:au H H'):cF t H' x dx a lg gs ms Gs:=⟨s _ _ h.ob,h.ru.same s,s _ _ h.lg,h.go.mono λ_ _ z=>z.same s⟩
noncomputable def GW (t:fX):Sp:=λvs H Q _=>∃ (x dx a lb lr:Addr) (S:Addr -> Prop) (fs:List (Str × V)) (ms:List aE) (b:List Nat) (rs:List Str) (Gs:List cL),vs = [.ref x,.ref lb,.ref lr] /\ H x = some (.ins t.aJ dx fs) /\ fs.lookup ("rules" : Str) = some (.ref a) /\ IsRules t H a ms /\ dR ms /\ hid S H lb = some (.lst (b.map bW)) /\ Ex S H /\ H lr = some (.lst (rs.map V.str)) /\ rs.length <= 100000 /\ Chain ms b rs Gs /\
 ∀ lg gs H',H' lg = some (.lst (gs.map V.ref)) -> cU (j8 t (hid S H')) gs Gs -> H lg = none -> au H H' -> Q (.ref lg) H'
theorem Mf (T:Txt K mg t):bw P w K mg base dP 6 t.oq t.wj ["self","modes","rows"] (GW t):=by
 refine T.yS.ok pS ?_ ?_
 walk_at "i"
 ·obtain ⟨x,dx,a,lb,lr,S,fs,ms,b,rs,Gs,rfl,hx,hfs,hR,G,hlb,hE,hlr,hrl,hC,q⟩:=h
  have hGl:=hC.len
  refine @av _ _ _ _ _ _ _ (aC (i:=3) pS.nd rfl (Or.inl rfl) (bC ah)) ⟨by show 0 <= sizeLine;decide,λlg hlg=>?_⟩
  have s1:au H (upd H lg (.lst [])):=au.upd hlg
  have hg1:upd H lg (.lst []) lg = some (.lst []):=af
  generalize upd H lg (.lst []) = H1 at s1 hg1
  obtain ⟨S2,hS2⟩:∃ S2:Addr -> Prop,S2 = λc=>S c ∨ c = lg:=⟨_,rfl⟩
  have hSl:S2 lg:=by rw [hS2];exact .inr rfl
  have hE2:∀ {H':Hp} {xs:List V},au H H' -> H' lg = some (.lst xs) -> Ex S2 H':=λ{H' xs} s' h' c hc=>by
   rw [hS2] at hc
   rcases hc with hc | hc
   ·exact (hE.same s') c hc
   ·rw [hc];exact ⟨_,h'⟩
  refine @aF _ _ _ _ _ _ _ (λZ' H'=>∃ gs,(∃ x1 x4 x5,Z' = [some (.ref x),x1,some (.ref lr),some (.ref lg),x4,x5]) /\ H' lg = some (.lst (gs.map V.ref)) /\ cU (j8 t (hid S H')) gs Gs /\ au H H') (dQ PassesOwn.never rfl (dZ (pv 2)) (bK (i:=4) pS.nd rfl (Or.inl rfl)) ak) ?_ ?_
  ·refine ⟨_,rfl,lr,rfl,⟨_,bB.of (s1 _ _ hlr)⟩,e8 (xs:=rs.map V.str) (λi Z' H'=>∃ (gs:List Addr) (lb:Addr) (b:List Nat),(∃ x4 x5,Z' = [some (.ref x),some (.ref lb),some (.ref lr),some (.ref lg),x4,x5]) /\ H' lg = some (.lst (gs.map V.ref)) /\ cU (j8 t (hid S2 H')) gs (Gs.take i) /\ hid S2 H' lb = some (.lst (b.map bW)) /\ Chain ms b (rs.drop i) (Gs.drop i) /\ au H H') ⟨[],lb,b,⟨_,_,rfl⟩,hg1,cU.nil,cB (s1 _ _ (bX _ _ hlb)) (by rw [hS2];rintro (z | z);(exact k9 hlb z);(exact aq (bX _ _ hlb) hlg z)),hC,s1⟩ ?_ ?_ ?_⟩
   ·rintro i Z' H' _ ⟨_,_,_,_,_,_,_,_,s2⟩
    exact bB.of (s2 _ _ hlr)
   ·rintro i xv Z' H2 hxv ⟨gs,lb,b,⟨x4,x5,rfl⟩,hg2,hA2,hlb2,hC2,s2⟩
    rw [List.getElem?_map] at hxv
    obtain ⟨r,hri,rfl⟩:=Option.map_eq_some_iff.mp hxv
    obtain ⟨Gi,hGi,e1,e2,hS,hC3⟩:=qM hC2 hri
    subst e1 e2
    have hi:=(List.getElem?_eq_some_iff.mp hri).1
    have hEx:=hE2 s2 hg2
    refine @av _ _ _ _ _ _ _ (aC (i:=5) pS.nd rfl (Or.inl rfl) (e7 T.lE (K0 T) (hr.mono (by decide)) rfl T.wm (T.BW.binds (by walk_at "4")) .nil aG (aa (aZ (pv 0) rfl) (aa (pv 1) (aa (pv 4) ah))))) (⟨_,rfl,_,_,_,_,_,rfl,(s2 _ _ hx),T.aV,T.gx,hfs,⟨_,rfl,_,rfl,λg dg ng ndg ne=>⟨g,dg,a,lb,S2,ms,Gi,rfl,af,(hR.same s2).same (bZ ng ndg),G,(eK (bZ ng ndg)) _ _ hlb2,hEx.same (bZ ng ndg),hEx.new ng,hS,λlt lo lk H3 hG3 a3=>⟨rfl,?_⟩⟩⟩⟩)
    have s3:au H2 H3:=λb o hb=>a3 b o (bZ ng ndg _ _ hb) (aq hb ng)
    have hg3:=s3 _ _ hg2
    have hob:=bX _ _ hG3.ob
    have ngl:g ≠ lg:=cQ hob hg3 (by intro z;cases z)
    have hlen:gs.length <= 100000:=by rw [hA2.1,List.length_take];omega
    refine @av _ _ _ _ _ _ _ (aR (cJ F.plainAttrs_list F.slot_list_append F.type_list_append bJ (pv 3) (aa (pv 5) ah))) ⟨_,rfl,.inl ⟨rfl,_,bB.of hg3⟩,_,rfl,lg,_,_,rfl,rfl,hg3,dw (by rw [List.length_map];omega),?_⟩
    refine @ao _ _ _ _ _ _ (aC (i:=1) pS.nd rfl (Or.inl rfl) (aZ (pv 5) rfl)) ⟨_,rfl,g,t.bx,dg,_,_,rfl,(by rw [aj ngl];exact hob),T.dc,T.fh,rfl,?_⟩
    refine ⟨gs ++ [g],lo,Gi.d.on,⟨_,_,rfl⟩,by rw [af,List.map_append];rfl,?_,?_,hC3,λb o hb=>?_⟩
    ·rw [take_snoc hGi,mh hSl]
     exact cU.snoc (hA2.mono λ_ _ z=>z.same (eK s3)) ⟨dg,lb,lt,lo,lk,hG3⟩
    ·rw [mh hSl];exact hG3.lo
    ·rw [aj (aq hb hlg)];exact s3 _ _ (s2 _ _ hb)
   ·rintro Z' H2 ⟨gs,lb,b,⟨x4,x5,rfl⟩,hg2,hA2,_,_,s2⟩
    rw [List.length_map,← hGl,List.take_length] at hA2
    exact ⟨gs,⟨_,_,_,rfl⟩,hg2,hA2.mono λ_ _ z=>z.same (xy (λc hc=>by rw [hS2];exact .inl hc)),s2⟩
  rintro Z' H2 ⟨gs,⟨x1,x4,x5,rfl⟩,hg2,hA2,s2⟩
  exact @ao _ _ _ _ _ _ (aH (pv 3)) ⟨_,rfl,q lg gs H2 hg2 hA2 hlg s2⟩
noncomputable def HK (t:fX):Sp:=λvs H Q _=>∃ (x dx a lr:Addr) (S:Addr -> Prop) (ms:List aE) (rs:List Str) (Gs:List cL),vs = [.ref x,.ref a,.ref lr] /\ H x = some (.ins t.aJ dx []) /\ ¬ S x /\ Ex S H /\ IsRules t (hid (λc=>S c ∨ c = x) H) a ms /\ dR ms /\ ic ms = none /\ H lr = some (.lst (rs.map V.str)) /\ rs.length <= 100000 /\ Chain ms [0] rs Gs /\
 ∀ a' lg gs H',cF t (hid S H') x dx a' lg gs ms Gs -> H lg = none -> kh H H' x -> Q .cM H'
theorem Mq (T:Txt K mg t):bw P w K mg base dP 7 t.lS t.tu ["self","rules","rows"] (HK t):=by
 refine T.tP.ok GY ?_ ?_
 walk_at "i"
 ·obtain ⟨x,dx,a,lr,S,ms,rs,Gs,rfl,hx,hxS,hE,hR,G,hring,hlr,hrl,hC,q⟩:=h
  obtain ⟨S2,hS2⟩:∃ S2:Addr -> Prop,S2 = λc=>S c ∨ c = x:=⟨_,rfl⟩
  rw [← hS2] at hR
  have hSx:S2 x:=by rw [hS2];exact .inr rfl
  have hE2:Ex S2 H:=λc hc=>by
   rw [hS2] at hc
   rcases hc with hc | hc
   ·exact hE c hc
   ·rw [hc];exact ⟨_,hx⟩
  have hle:∀ c,S c -> S2 c:=λc hc=>by rw [hS2];exact .inl hc
  refine @av _ _ _ _ _ _ _ (aR (aK (JS T) (hr.mono (by decide)) rfl T.E2 T.n9.kp (T.n9.binds (by walk_at "1")) .nil aG (aa (pv 1) ah))) ⟨_,rfl,a,ms,rfl,hR.same bX,G,hring,λH1 s1=>?_⟩
  refine @av _ _ _ _ _ _ _ (cZ (pv 0) (aK (JU T) (hr.mono (by decide)) rfl T.Lr T.yv.kp (T.yv.binds (by walk_at "1")) .nil aG (aa (pv 1) ah)) rfl) ⟨_,rfl,a,S2,ms,rfl,hR.same (eK s1),hE2.same s1,G,λa' H2 hR2 s2=>?_⟩
  have s2:=s1.trans s2
  have hx2:=s2 _ _ hx
  refine ⟨_,rfl,x,_,dx,[],rfl,hx2,T.aV,T.gx,by decide,?_⟩
  have hx3:upd H2 x (.ins t.aJ dx (iz "rules" (.ref a') [])) x = some (.ins t.aJ dx [("rules",.ref a')]):=af
  have a3:kh H (upd H2 x (.ins t.aJ dx (iz "rules" (.ref a') []))) x:=s2.Hy kh.upd
  have nl:lr ≠ x:=cQ (s2 _ _ hlr) hx2 (by intro z;cases z)
  have hlr3:upd H2 x (.ins t.aJ dx (iz "rules" (.ref a') [])) lr = some (.lst (rs.map V.str)):=by rw [aj nl];exact s2 _ _ hlr
  have hH3:hid S2 (upd H2 x (.ins t.aJ dx (iz "rules" (.ref a') []))) = hid S2 H2:=mh hSx
  have hE3:Ex S (upd H2 x (.ins t.aJ dx (iz "rules" (.ref a') []))):=λc hc=>by
   obtain ⟨o,ho⟩:=(hE.same s2) c hc
   exact ⟨o,by rw [aj (λz=>hxS (by rw [← z];exact hc))];exact ho⟩
  rw [← hH3] at hR2
  generalize upd H2 x (.ins t.aJ dx (iz "rules" (.ref a') [])) = H3 at hx3 a3 hlr3 hR2 hE3
  refine @ao _ _ _ _ _ _ (cZ (pv 0) (bH (pv 0) T.aV T.Nb (Mf T) (hr.mono (by decide)) (T.yS.binds (by walk_at "3")) .nil aG (aa (bC (aa (gX rfl T.nG) ah)) (aa (pv 2) ah))) rfl) ⟨_,rfl,x,dx,_,rfl,hx3,rfl,by show 1 <= sizeLine;decide,λlb hlb=>⟨_,rfl,x,dx,a',lb,lr,S,_,ms,[0],rs,Gs,rfl,au.upd hlb _ _ hx3,rfl,(hR2.same bX).same (au.upd hlb),G,cB af (hE3.new hlb),hE3.same (au.upd hlb),au.upd hlb _ _ hlr3,hrl,hC,λlg gs H4 hg4 hA4 f4 s4=>?_⟩⟩
  have s34:au H3 H4:=(au.upd hlb).trans s4
  have hx4:=s34 _ _ hx3
  refine ⟨_,rfl,x,_,dx,[("rules",.ref a')],rfl,hx4,T.aV,T.bF,by show 1 < 1000;decide,?_⟩
  have h3n:H3 lg = none:=(au.upd hlb).free f4
  have nlg:lg ≠ x:=cQ hg4 hx4 (by intro z;cases z)
  have hlg0:H lg = none:=by
   cases e:H lg with
   | none=>rfl
   | some o=>have:=a3 _ _ e nlg;rw [h3n] at this;cases this
  have sh:au (hid S2 H4) (hid S (upd H4 x (.ins t.aJ dx (iz "gone_rows" (.ref lg) [("rules",.ref a')])))):=λb o hb=>by
   have hb2:=k9 hb
   exact cB (by rw [aj (λz=>hb2 (by rw [z];exact hSx))];exact bX _ _ hb) (λz=>hb2 (hle b z))
  refine q a' lg gs _ ⟨cB af hxS,(hR2.same (eK s34)).same sh,cB (by rw [aj nlg];exact hg4) (hE3.new h3n),hA4.mono λg Gi hg=>?_⟩ hlg0 ?_
  ·obtain ⟨dg,lb',lt,lo,lk,e⟩:=hg
   have key:∀ {b o},hid S H4 b = some o -> b ≠ x -> hid S (upd H4 x (.ins t.aJ dx (iz "gone_rows" (.ref lg) [("rules",.ref a')]))) b = some o:=λ{b o} hb h=>cB (by rw [aj h];exact bX _ _ hb) (k9 hb)
   have nk:∀ {b o},hid S H4 b = some o -> (∀ C d fs,o ≠ .ins C d fs) -> b ≠ x:=λ{b o} hb h=>cQ (bX _ _ hb) hx4 (λz=>h _ _ _ z)
   obtain ⟨ps,k1,k2⟩:=e.lk
   refine ⟨dg,lb',lt,lo,lk,key e.ob (cQ (bX _ _ e.ob) hx4 (by intro z;injection z with _ _ z;cases z)),key e.lb (nk e.lb (by intro _ _ _ z;cases z)),key e.lt (nk e.lt (by intro _ _ _ z;cases z)),key e.lo (nk e.lo (by intro _ _ _ z;cases z)),ps,key k1 (nk k1 (by intro _ _ _ z;cases z)),k2.mono λp m h=>key h (nk h (by intro _ _ _ z;cases z))⟩
  ·intro b o hb nb
   rw [aj nb]
   exact s34 _ _ (a3 _ _ hb nb)
noncomputable def JQ (t:fX):Sp:=λvs H Q _=>∃ (x dx a lg:Addr) (gs:List Addr) (ms:List aE) (Gs:List cL),vs = [.ref x] /\ cF t H x dx a lg gs ms Gs /\ Gs.length <= 100000 /\ ∀ l H',H' l = some (.lst ((Gs.map (·.row)).map V.str)) -> H l = none -> au H H' -> Q (.ref l) H'
theorem Mh (T:Txt K mg t):bw P w K mg base dP 1 t.nJ t.xR ["self"] (JQ t):=by
 refine T.wK.ok Kd ?_ ?_
 walk_at "i"
 ·obtain ⟨x,dx,a,lg,gs,ms,Gs,rfl,I,hl,q⟩:=h
  refine @ao _ _ _ _ _ _ (@aH _ _ _ _ (@iO _ (ay Bw) _ ["self"] _ _ ("gone") _ _ [] _ _ (by walk_at "ck") (@dZ _ _ _ _ (@aZ _ _ _ _ _ (pv 0) rfl)) (λ_ _ _ _=>by exact (@oX _ K _ _ _ _ (pv 0) rfl (by left))) (by left) (by left) (by left) (by left))) (⟨_,rfl,_,_,_,_,_,rfl,I.ob,T.aV,T.bF,rfl,⟨lg,rfl,⟨_,bB.of I.lg⟩,iU (xs:=gs.map V.ref) (λi ys H2=>ys = ((Gs.take i).map (·.row)).map V.str /\ H2 = H) ⟨rfl,rfl⟩ (dw (by rw [List.length_map,I.go.1];omega)) ?_ ?_ ?_⟩⟩)
  ·rintro i ys H2 _ ⟨_,rfl⟩
   exact bB.of I.lg
  ·rintro i xv ys H2 hx hyl ⟨rfl,rfl⟩
   rw [List.getElem?_map] at hx
   obtain ⟨g,hg,rfl⟩:=Option.map_eq_some_iff.mp hx
   have hi:=(List.getElem?_eq_some_iff.mp hg).1
   have hGi:Gs[i]? = some (Gs[i]'(by rw [← I.go.1];exact hi)):=List.getElem?_eq_getElem _
   obtain ⟨dg,lb,lt,lo,lk,e⟩:=I.go.2 i g _ hg hGi
   refine ⟨_,rfl,_,_,_,_,_,rfl,e.ob,T.dc,T.er,rfl,(ez (by rw [List.length_map];exact hi) hyl ⟨?_,rfl⟩)⟩
   rw [take_snoc hGi,List.map_append,List.map_append]
   rfl
  ·rintro ys H2 hyl ⟨rfl,rfl⟩ D hD
   have e5:Gs.take (gs.map V.ref).length = Gs:=by rw [List.length_map,I.go.1,List.take_length]
   rw [e5]
   exact q D _ af hD (au.upd hD)
noncomputable def ED (t:fX):Sp:=λvs H Q _=>∃ (x dx a lg:Addr) (gs:List Addr) (ms:List aE) (Gs:List cL) (i:Nat),vs = [.ref x,.int i] /\ cF t H x dx a lg gs ms Gs /\ i < Gs.length /\ Q .cM H
theorem Mc (T:Txt K mg t):bw P w K mg base dP 1 t.mK t.ue ["self","row"] (ED t):=by
 refine T.nP.ok DF ?_ ?_
 walk_at "i"
 ·obtain ⟨x,dx,a,lg,gs,ms,Gs,i,rfl,I,hi,q⟩:=h
  have hl:=I.go.1
  refine @ao _ _ _ _ _ _ (aP (PW.pt (i9 (az gC (pv 1) ai (aA _)) (iG (az Jg (pv 1) (aL aT (by rfl) T.bO (by decide +kernel) (aa (aZ (pv 0) rfl) ah)) (aA _))))) ak ak) ⟨_,rfl,_,_,rfl,rfl,_,rfl,cI (λh=>absurd h (by omega)) (λ_=>?_)⟩
  exact ⟨_,rfl,⟨_,rfl,_,_,_,_,_,rfl,I.ob,T.aV,T.bF,rfl,⟨_,_,rfl,.inl (bB.of I.lg),_,_,rfl,rfl,_,rfl,cI (λh=>absurd h (by rw [List.length_map];omega)) (λ_=>aX q)⟩⟩⟩
noncomputable def Cb (t:fX):Sp:=λvs H Q _=>∃ (x dx a lg:Addr) (gs:List Addr) (ms:List aE) (Gs:List cL) (G:cL) (i:Nat),vs = [.ref x,.int i] /\ cF t H x dx a lg gs ms Gs /\ Gs[i]? = some G /\ ∀ g,j8 t H g G -> Q (.ref g) H
theorem As (T:Txt K mg t):bw P w K mg base dP 2 t.lO t.tT ["self","row"] (Cb t):=by
 refine T.jX.ok GQ ?_ ?_
 walk_at "i"
 ·obtain ⟨x,dx,a,lg,gs,ms,Gs,G,i,rfl,I,hG,q⟩:=h
  obtain ⟨g,hg,hgo⟩:=I.go.at hG
  refine @av _ _ _ _ _ _ _ (aR (bH (pv 0) T.aV T.EI (Mc T) (hr.mono (by decide)) (T.nP.binds (by walk_at "2")) .nil aG (aa (pv 1) ah))) ⟨_,rfl,x,dx,_,rfl,I.ob,rfl,_,rfl,x,dx,a,lg,gs,ms,Gs,i,rfl,I,(List.getElem?_eq_some_iff.mp hG).1,?_⟩
  exact @ao _ _ _ _ _ _ (aH (aU aY (aZ (pv 0) rfl) (pv 1) (λ_ _=>rfl))) (⟨_,rfl,_,_,_,_,_,rfl,I.ob,T.aV,T.bF,rfl,⟨_,rfl,_,_,_,_,rfl,rfl,bB.of I.lg,iH hg,q g hgo⟩⟩)
noncomputable def Eu (t:fX) (f:cL -> List V):Sp:=λvs H Q _=>∃ (x dx a lg:Addr) (gs:List Addr) (ms:List aE) (Gs:List cL) (G:cL) (i:Nat),vs = [.ref x,.int i] /\ cF t H x dx a lg gs ms Gs /\ Gs[i]? = some G /\ ∀ l H',H' l = some (.lst (f G)) -> H l = none -> au H H' -> Q (.ref l) H'
theorem JX (T:Txt K mg t):bw P w K mg base dP 3 t.mq t.t9 ["self","row"] (Eu t λG=>G.before.map bW):=by
 refine T.qp.ok EO ?_ ?_
 walk_at "i"
 ·obtain ⟨x,dx,a,lg,gs,ms,Gs,G,i,rfl,I,hG,q⟩:=h
  refine @ao _ _ _ _ _ _ (aH (cz cH (by rfl) T.gK (by decide +kernel) (aa (aZ (bH (pv 0) T.aV T.tG (As T) (hr.mono (by decide)) (T.jX.binds (by walk_at "2")) .nil aG (aa (pv 1) ah)) rfl) ah))) ⟨_,rfl,x,dx,_,rfl,I.ob,rfl,_,rfl,x,dx,a,lg,gs,ms,Gs,G,i,rfl,I,hG,λg ⟨dg,lb,lt,lo,lk,e⟩=>?_⟩
  exact ⟨g,t.bx,dg,_,_,rfl,e.ob,T.dc,T.fc,rfl,lb,_,rfl,.inl (bB.of e.lb),λl hl=>q l _ af hl (au.upd hl)⟩
theorem Ms (T:Txt K mg t):bw P w K mg base dP 3 t.lU t.uB ["self","row"] (Eu t λG=>G.d.aB.map V.str):=by
 refine T.rE.ok Gg ?_ ?_
 walk_at "i"
 ·obtain ⟨x,dx,a,lg,gs,ms,Gs,G,i,rfl,I,hG,q⟩:=h
  refine @ao _ _ _ _ _ _ (aH (cz cH (by rfl) T.gK (by decide +kernel) (aa (aZ (bH (pv 0) T.aV T.tG (As T) (hr.mono (by decide)) (T.jX.binds (by walk_at "2")) .nil aG (aa (pv 1) ah)) rfl) ah))) ⟨_,rfl,x,dx,_,rfl,I.ob,rfl,_,rfl,x,dx,a,lg,gs,ms,Gs,G,i,rfl,I,hG,λg ⟨dg,lb,lt,lo,lk,e⟩=>?_⟩
  exact ⟨g,t.bx,dg,_,_,rfl,e.ob,T.dc,T.fL,rfl,lt,_,rfl,.inl (bB.of e.lt),λl hl=>q l _ af hl (au.upd hl)⟩
noncomputable def IF (t:fX):Sp:=λvs H Q _=>∃ (x dx a lg:Addr) (gs:List Addr) (ms:List aE) (Gs:List cL) (G:cL) (i:Nat),vs = [.ref x,.int i] /\ cF t H x dx a lg gs ms Gs /\ Gs[i]? = some G /\ ∀ l H' ps,H' l = some (.lst (ps.map V.ref)) -> cU (λp m=>H p = some (.tup [bW m.1,.str m.2])) ps G.d.marks -> H l = none -> au H H' -> Q (.ref l) H'
theorem LO (T:Txt K mg t):bw P w K mg base dP 3 t.mT t.tX ["self","row"] (IF t):=by
 refine T.qh.ok EE ?_ ?_
 walk_at "i"
 ·obtain ⟨x,dx,a,lg,gs,ms,Gs,G,i,rfl,I,hG,q⟩:=h
  refine @ao _ _ _ _ _ _ (aH (cz cH (by rfl) T.gK (by decide +kernel) (aa (aZ (bH (pv 0) T.aV T.tG (As T) (hr.mono (by decide)) (T.jX.binds (by walk_at "2")) .nil aG (aa (pv 1) ah)) rfl) ah))) ⟨_,rfl,x,dx,_,rfl,I.ob,rfl,_,rfl,x,dx,a,lg,gs,ms,Gs,G,i,rfl,I,hG,λg ⟨dg,lb,lt,lo,lk,e⟩=>?_⟩
  obtain ⟨ps,k1,k2⟩:=e.lk
  exact ⟨g,t.bx,dg,_,_,rfl,e.ob,T.dc,T.e9,rfl,lk,_,rfl,.inl (bB.of k1),λl hl=>q l _ ps af k2 hl (au.upd hl)⟩
noncomputable def FF (H:Hp) (p:Addr) (G:cL):Prop:=∃ lo lt lk,H p = some (.tup [.str G.row,.ref lo,.ref lt,.ref lk]) /\ H lo = some (.lst (G.before.map bW)) /\ H lt = some (.lst (G.d.aB.map V.str)) /\ GM H lk G.d.marks
theorem FF.same {H H':Hp} {p:Addr} {G:cL} (h:FF H p G) (s:au H H'):FF H' p G:=let ⟨lo,lt,lk,a,b,c,d⟩:=h;⟨lo,lt,lk,s _ _ a,s _ _ b,s _ _ c,d.same s⟩
noncomputable def KP (H:Hp) (l:Addr) (Gs:List cL):Prop:=∃ ps:List Addr,H l = some (.lst (ps.map V.ref)) /\ cU (FF H) ps Gs
theorem KP.same {H H':Hp} {l:Addr} {Gs:List cL} (h:KP H l Gs) (s:au H H'):KP H' l Gs:=let ⟨ps,a,b⟩:=h;⟨ps,s _ _ a,b.mono λ_ _ z=>z.same s⟩
noncomputable def HF:Sp:=λvs H Q _=>∃ (S:Addr -> Prop) (lm lr:Addr) (ms:List aE) (rs:List Str) (Gs:List cL),vs = [.ref lm,.ref lr] /\ (∀ b,S b -> ∃ xs,H b = some (.lst xs)) /\ Gh H lm ms /\ Wk ms /\ H lr = some (.lst (rs.map V.str)) /\ rs.length <= 1000 /\ Chain ms [0] rs Gs /\ ∀ l H',KP (hid S H') l Gs -> H l = none -> au H H' -> Q (.ref l) H'
theorem ML (T:Txt K mg t):bw P w K mg base dP 4 t.rP t.zc ["_law_modes_here","_law_rows"] HF:=by
 refine T.xU.ok m8 ?_ ?_
 walk_at "i"
 ·obtain ⟨S,lm,lr,ms,rs,Gs,rfl,hES,hL,W,hlr,hrl,hC,q⟩:=h
  have hGl:=hC.len
  have new:∀ {H':Hp} {b:Addr},au H H' -> H' b = none -> ¬ S b:=λ{H' b} s e z=>by
   obtain ⟨xs,hx⟩:=hES b z
   rw [s _ _ hx] at e
   cases e
  have tup:∀ {H':Hp} {b:Addr} {xs:List V},au H H' -> H' b = some (.tup xs) -> ¬ S b:=λ{H' b xs} s e z=>by
   obtain ⟨xs,hx⟩:=hES b z
   rw [s _ _ hx] at e
   cases e
  refine @av _ _ _ _ _ _ _ (aC (i:=2) m8.nd rfl (Or.inl rfl) (bC (aa ai ah))) ⟨by show 1 <= sizeLine;decide,λlo hlo=>?_⟩
  have s1:au H (upd H lo (.lst [.int 0])):=au.upd hlo
  have ho1:upd H lo (.lst [.int 0]) lo = some (.lst ([0].map bW)):=af
  have nSo:=new (au.refl H) hlo
  generalize upd H lo (.lst [.int 0]) = H1 at s1 ho1
  refine @av _ _ _ _ _ _ _ (aC (i:=3) m8.nd rfl (Or.inl rfl) (bC ah)) ⟨by show 0 <= sizeLine;decide,λlf hlf=>?_⟩
  have s2:au H1 (upd H1 lf (.lst [])):=au.upd hlf
  have hf2:upd H1 lf (.lst []) lf = some (.lst []):=af
  have ho2:=s2 _ _ ho1
  have nof:lo ≠ lf:=aq ho1 hlf
  have hlf0:H lf = none:=s1.free hlf
  have nSf:=new (au.refl H) hlf0
  generalize upd H1 lf (.lst []) = H2 at s2 hf2 ho2
  have s2:=s1.trans s2
  refine @aF _ _ _ _ _ _ _ (λZ' H'=>(∃ x2 x4 x5,Z' = [some (.ref lm),some (.ref lr),x2,some (.ref lf),x4,x5]) /\ KP (hid S H') lf Gs /\ au H H') (dQ PassesOwn.never rfl (dZ (pv 1)) (bK (i:=4) m8.nd rfl (Or.inl rfl)) ak) ?_ ?_
  ·refine ⟨_,rfl,lr,rfl,⟨_,bB.of (s2 _ _ hlr)⟩,e8 (xs:=rs.map V.str) (λi Z' H'=>∃ (ps:List Addr) (lo:Addr) (b:List Nat),(∃ x4 x5,Z' = [some (.ref lm),some (.ref lr),some (.ref lo),some (.ref lf),x4,x5]) /\ H' lf = some (.lst (ps.map V.ref)) /\ cU (FF (hid (λc=>S c ∨ c = lf) H')) ps (Gs.take i) /\ hid (λc=>S c ∨ c = lf) H' lo = some (.lst (b.map bW)) /\ Chain ms b (rs.drop i) (Gs.drop i) /\ au H H') ⟨[],lo,[0],⟨_,_,rfl⟩,hf2,cU.nil,cB ho2 (λz=>z.elim nSo nof),hC,s2⟩ ?_ ?_ ?_⟩
   ·rintro i Z' H' _ ⟨_,_,_,_,_,_,_,_,s3⟩
    exact bB.of (s3 _ _ hlr)
   ·rintro i xv Z' H3 hxv ⟨ps,lo,b,⟨x4,x5,rfl⟩,hf3,hA3,hlo3,hC3,s3⟩
    rw [List.getElem?_map] at hxv
    obtain ⟨r,hri,rfl⟩:=Option.map_eq_some_iff.mp hxv
    obtain ⟨G,hGi,e1,e2,hS,hC4⟩:=qM hC3 hri
    subst e1 e2
    obtain ⟨n,hn,hgo⟩:=hS.go
    have hbl:=hS.len
    have hlo3':=bX _ _ hlo3
    have nlo:¬ (S lo ∨ lo = lf):=k9 (S:=λc=>S c ∨ c = lf) hlo3
    have hplen:ps.length <= 1000:=by rw [hA3.1,List.length_take];omega
    refine @av _ _ _ _ _ _ _ (aC (i:=5) m8.nd rfl (Or.inl rfl) (aK (LZ T) (hr.mono (by decide)) rfl T.MO T.zd.kp (T.zd.binds (by walk_at "3")) .nil aG (aa (pv 0) (aa (pv 2) (aa (pv 4) ah))))) ⟨_,rfl,_,rfl,_,rfl,lm,lo,ms,G.before,G.row,n,G.d,rfl,hL.same s3,W,hlo3',hS.ok,hS.row,by omega,hn,hgo,λtp lt lo' lk H4 D f1 f2 f3 s4=>?_⟩
    have hf4:=s4 _ _ hf3
    have n1:¬ (S lt ∨ lt = lf):=λz=>z.elim (new s3 f1) (Ne.symm (aq hf3 f1))
    have n2:¬ (S lk ∨ lk = lf):=λz=>z.elim (new s3 f2) (Ne.symm (aq hf3 f2))
    have n3:¬ (S lo' ∨ lo' = lf):=by
     rcases f3 with z | z
     ·rw [z];exact nlo
     ·exact λy=>y.elim (new s3 z) (Ne.symm (aq hf3 z))
    refine @av _ _ _ _ _ _ _ (aR (cJ F.plainAttrs_list F.slot_list_append F.type_list_append bJ (pv 3) (aa (bR (aa (pv 4) (aa (pv 2) (aa (aU bU (pv 5) ai (λ_ _=>rfl)) (aa (aU bU (pv 5) ai (λ_ _=>rfl)) ah))))) ah))) ⟨_,rfl,.inl ⟨rfl,_,bB.of hf4⟩,_,rfl,_,rfl,_,rfl,_,_,_,_,rfl,rfl,fY.of D.tp,bq (j:=0) rfl,_,rfl,_,_,_,_,rfl,rfl,fY.of D.tp,bq (j:=2) rfl,by show 4 <= sizeLine;decide,λtq htq=>?_⟩
    have s5:au H4 (upd H4 tq (.tup [.str G.row,.ref lo,.ref lt,.ref lk])):=au.upd htq
    have htq5:upd H4 tq (.tup [.str G.row,.ref lo,.ref lt,.ref lk]) tq = some (.tup [.str G.row,.ref lo,.ref lt,.ref lk]):=af
    generalize upd H4 tq (.tup [.str G.row,.ref lo,.ref lt,.ref lk]) = H5 at s5 htq5
    have hf5:=s5 _ _ hf4
    have D5:=D.same s5
    have s35:=s4.trans s5
    have tp5:∀ {b:Addr} {xs:List V},H5 b = some (.tup xs) -> ¬ (S b ∨ b = lf):=λ{b xs} e z=>z.elim (tup (s3.trans s35) e) (cQ e hf5 (by intro y;cases y))
    have ntp:tp ≠ lf:=λz=>tp5 D5.tp (.inr z)
    refine ⟨lf,_,_,rfl,rfl,hf5,dw (by rw [List.length_map];omega),?_⟩
    refine @ao _ _ _ _ _ _ (aC (i:=2) m8.nd rfl (Or.inl rfl) (aU bU (pv 5) ai (λ_ _=>rfl))) ⟨_,rfl,_,_,_,_,rfl,rfl,fY.of (by rw [aj ntp];exact D5.tp),bq (j:=1) rfl,?_⟩
    refine ⟨ps ++ [tq],lo',G.d.on,⟨_,_,rfl⟩,by rw [af,List.map_append];rfl,?_,?_,hC4,λb o hb=>?_⟩
    ·rw [take_snoc hGi,mh (.inr rfl)]
     refine cU.snoc (hA3.mono λ_ _ z=>z.same (eK s35)) ⟨lo,lt,lk,cB htq5 (tp5 htq5),cB (s35 _ _ hlo3') nlo,cB D5.lt n1,?_⟩
     obtain ⟨ms',k1,k2⟩:=D5.lk
     exact ⟨ms',cB k1 n2,k2.mono λp m e=>cB e (tp5 e)⟩
    ·rw [mh (.inr rfl)];exact cB D5.lo n3
    ·rw [aj (aq hb hlf0)];exact s35 _ _ (s3 _ _ hb)
   ·rintro Z' H3 ⟨ps,lo,b,⟨x4,x5,rfl⟩,hf3,hA3,_,_,s3⟩
    rw [List.length_map,← hGl,List.take_length] at hA3
    exact ⟨⟨_,_,_,rfl⟩,⟨ps,cB hf3 nSf,hA3.mono λ_ _ z=>z.same (xy λb y=>.inl y)⟩,s3⟩
  rintro Z' H3 ⟨⟨x2,x4,x5,rfl⟩,hK,s3⟩
  exact @ao _ _ _ _ _ _ (aH (pv 3)) ⟨_,rfl,q lf H3 hK hlf0 s3⟩
theorem u7 {H:Hp} {ps qs:List Addr} {mk:List (Nat × Str)} (a2:cU (λp (m:Nat × Str)=>H p = some (.tup [bW m.1,.str m.2])) ps mk) (b2:cU (λp (m:Nat × Str)=>H p = some (.tup [bW m.1,.str m.2])) qs mk):∀ (j:Nat) (x y:V),(ps.map V.ref)[j]? = some x -> (qs.map V.ref)[j]? = some y -> nH K H 1 x y:=by
 intro j x y hx hy
 rw [List.getElem?_map] at hx hy
 obtain ⟨p,hp,rfl⟩:=Option.map_eq_some_iff.mp hx
 obtain ⟨q,hq,rfl⟩:=Option.map_eq_some_iff.mp hy
 have hj:j < mk.length:=by rw [← a2.1];exact (List.getElem?_eq_some_iff.mp hp).1
 have hm:mk[j]? = some mk[j]:=List.getElem?_eq_getElem hj
 have e1:=a2.2 j p _ hp hm
 have e2:=b2.2 j q _ hq hm
 refine .inr ⟨p,q,_,_,rfl,rfl,.inr ⟨fY.of e1,fY.of e2⟩,rfl,λj' x y hx hy=>?_⟩
 rw [hx] at hy
 cases hy
 cases j' with
 | zero=>cases hx;exact ⟨rfl,.inl rfl⟩
 | succ j' =>
  cases j' with
  | zero=>cases hx;exact ⟨rfl,.inl rfl⟩
  | succ j'=>cases hx
noncomputable def IA (t:fX):Sp:=λvs H Q _=>∃ (x dx a lg lq:Addr) (gs:List Addr) (ms:List aE) (Gs:List cL),vs = [.ref x,.ref lq] /\ cF t H x dx a lg gs ms Gs /\ KP H lq Gs /\ Gs.length <= 1000 /\ ∀ H',au H H' -> Q (.bl true) H'
theorem KY (T:Txt K mg t):bw P w K mg base dP 4 t.qD t.yV ["_law_text_here","_law_kept"] (IA t):=by
 refine T.wH.ok DX ?_ ?_
 walk_at "i"
 ·obtain ⟨x,dx,a,lg,lq,gs,ms,Gs,rfl,I,⟨ps,hlq,hK⟩,hl,q⟩:=h
  refine @aF _ _ _ _ _ _ _ (λZ' H'=>(∃ y,Z' = [some (.ref x),some (.ref lq),y]) /\ au H H') (@aP _ _ _ _ _ _ _ _ (@az _ _ _ _ _ _ _ _ (ve (Nat.lt_of_succ_lt (pG hr))) (@cu _ _ _ _ _ _ _ _ _ _ _ _ _ _ _ _ _ (pv 0) T.aV T.Od (Mh T) (hr.mono (by decide)) (T.wK.binds (by walk_at "1")) .nil aG (by left)) (@iO _ (ay Bo) _ ["_law_text_here","_law_kept","_law_k"] _ _ ("_law_one") _ _ [] _ _ (by walk_at "ck") (@dZ _ _ _ _ (pv 1)) (λ_ _ _ _=>by exact (@aU _ _ _ _ _ _ _ (Ie (K:=K) rfl) (pv 0) ai (λ_ _=>rfl))) (by left) (by left) (by left) (by left)) (aA _)) ak ak) ?_ ?_
  ·refine ⟨_,rfl,x,dx,_,rfl,I.ob,rfl,x,dx,a,lg,gs,ms,Gs,rfl,I,by omega,λl H1 hl1 f1 s1=>⟨_,rfl,lq,rfl,⟨_,bB.of (s1 _ _ hlq)⟩,iU (xs:=ps.map V.ref) (λi ys H2=>ys = ((Gs.take i).map (·.row)).map V.str /\ H2 = H1) ⟨rfl,rfl⟩ (dw (by rw [List.length_map,hK.1];omega)) ?_ ?_ ?_⟩⟩
   ·rintro i ys H2 _ ⟨_,rfl⟩
    exact bB.of (s1 _ _ hlq)
   ·rintro i xv ys H2 hx hyl ⟨rfl,rfl⟩
    rw [List.getElem?_map] at hx
    obtain ⟨p,hp,rfl⟩:=Option.map_eq_some_iff.mp hx
    have hi:=(List.getElem?_eq_some_iff.mp hp).1
    have hGi:Gs[i]? = some (Gs[i]'(by rw [← hK.1];exact hi)):=List.getElem?_eq_getElem _
    obtain ⟨lo,lt,lk,e,_⟩:=hK.2 i p _ hp hGi
    refine ⟨_,rfl,_,_,_,_,rfl,rfl,fY.of (s1 _ _ e),bq (j:=0) rfl,ez (by rw [List.length_map];exact hi) hyl ⟨?_,rfl⟩⟩
    rw [take_snoc hGi,List.map_append,List.map_append]
    rfl
   ·rintro ys H2 hyl ⟨rfl,rfl⟩ D hD
    have e5:Gs.take (ps.map V.ref).length = Gs:=by rw [List.length_map,hK.1,List.take_length]
    rw [e5]
    exact ⟨l,D,_,_,rfl,rfl,bB.of (au.upd hD _ _ hl1),bB.of af,qk _ _,_,rfl,iB (λh=>absurd rfl h) (λ_=>aX ⟨⟨_,rfl⟩,s1.to hD⟩)⟩
  rintro Z' H1 ⟨⟨y,rfl⟩,s1⟩
  refine @aF _ _ _ _ _ _ _ (λZ' H'=>(∃ y,Z' = [some (.ref x),some (.ref lq),y]) /\ au H H') (dQ PassesOwn.never rfl (gi rfl T.gU (aa (aL aT (by rfl) T.bO (by decide +kernel) (aa (pv 1) ah)) ah)) (bK (i:=2) DX.nd rfl (Or.inl rfl)) ak) ?_ ?_
  ·refine ⟨_,rfl,_,_,rfl,.inl (bB.of (s1 _ _ hlq)),(ps.length:Int),by rw [List.length_map],by omega,by rw [hK.1];omega,jc (n:=((ps.length:Nat):Int).toNat) (λk Z' H'=>(∃ y,Z' = [some (.ref x),some (.ref lq),y]) /\ au H H') ⟨⟨_,rfl⟩,s1⟩ ?_ (λZ' H' z=>z)⟩
   rintro k Z' H2 hk ⟨⟨y,rfl⟩,s2⟩
   have hk':k < Gs.length:=by rw [← hK.1];omega
   have hGk:Gs[k]? = some Gs[k]:=List.getElem?_eq_getElem hk'
   generalize Gs[k] = G at hGk
   obtain ⟨p,hp,lo,lt,lk,e1,e2,e3,qs,e4,e5⟩:=hK.at hGk
   have hat:vF (ps.map V.ref) ((0:Int) + (k:Int)) = some (.ref p):=by rw [Int.zero_add];exact iH hp
   have I2:=I.same s2
   refine @ao _ _ _ _ _ _ (aP (PW.pt (i9 (az (ve (Nat.lt_of_succ_lt (pG hr))) (bH (pv 0) T.aV T.IG (JX T) (hr.mono (by decide)) (T.qp.binds (by walk_at "2")) .nil aG (aa (pv 2) ah)) (aU bU (aU aY (pv 1) (pv 2) (λ_ _=>rfl)) ai (λ_ _=>rfl)) (aA _)) (i9 (az (ve (Nat.lt_of_succ_lt (pG hr))) (bH (pv 0) T.aV T.IY (Ms T) (hr.mono (by decide)) (T.rE.binds (by walk_at "2")) .nil aG (aa (pv 2) ah)) (aU bU (aU aY (pv 1) (pv 2) (λ_ _=>rfl)) ai (λ_ _=>rfl)) (aA _)) (iG (az (Jq 1 (Nat.lt_of_le_of_lt (Nat.add_le_add_left (by decide:2 <= 64) _) hr.units)) (bH (pv 0) T.aV T.IS (LO T) (hr.mono (by decide)) (T.qh.binds (by walk_at "2")) .nil aG (aa (pv 2) ah)) (aU bU (aU aY (pv 1) (pv 2) (λ_ _=>rfl)) ai (λ_ _=>rfl)) (aA _)))))) ak ak) ⟨_,rfl,x,dx,_,rfl,I2.ob,rfl,_,rfl,x,dx,a,lg,gs,ms,Gs,G,k,(by rw [Int.zero_add];rfl),I2,hGk,λl3 H3 h3 f3 s3=>?_⟩
   have s3':=s2.trans s3
   refine ⟨_,rfl,_,rfl,_,_,_,_,rfl,rfl,bB.of (s3' _ _ hlq),hat,_,_,_,_,rfl,rfl,fY.of (s3' _ _ e1),bq (j:=1) rfl,l3,lo,_,_,rfl,rfl,bB.of h3,bB.of (s3' _ _ e2),zY _ _ _ _,_,rfl,iB (λh=>absurd rfl h) (λ_=>?_)⟩
   have I3:=I.same s3'
   refine ⟨_,rfl,x,dx,_,rfl,I3.ob,rfl,_,rfl,x,dx,a,lg,gs,ms,Gs,G,k,(by rw [Int.zero_add];rfl),I3,hGk,λl4 H4 h4 f4 s4=>?_⟩
   have s4':=s3'.trans s4
   refine ⟨_,rfl,_,rfl,_,_,_,_,rfl,rfl,bB.of (s4' _ _ hlq),hat,_,_,_,_,rfl,rfl,fY.of (s4' _ _ e1),bq (j:=2) rfl,l4,lt,_,_,rfl,rfl,bB.of h4,bB.of (s4' _ _ e3),qk _ _,_,rfl,iB (λh=>absurd rfl h) (λ_=>?_)⟩
   have I4:=I.same s4'
   refine ⟨_,rfl,x,dx,_,rfl,I4.ob,rfl,_,rfl,x,dx,a,lg,gs,ms,Gs,G,k,(by rw [Int.zero_add];rfl),I4,hGk,λl5 H5 ps5 h5 m5 f5 s5=>?_⟩
   have s5':=s4'.trans s5
   refine ⟨_,rfl,_,rfl,_,_,_,_,rfl,rfl,bB.of (s5' _ _ hlq),hat,_,_,_,_,rfl,rfl,fY.of (s5' _ _ e1),bq (j:=3) rfl,l5,lk,_,_,rfl,rfl,.inl ⟨bB.of h5,bB.of (s5' _ _ e4)⟩,(by rw [List.length_map,List.length_map,m5.1,e5.1]),u7 (m5.mono λ_ _ z=>s5 _ _ z) (e5.mono λ_ _ z=>s5' _ _ z),_,rfl,sr (aX ⟨⟨_,rfl⟩,s5'⟩)⟩
  rintro Z' H2 ⟨⟨y2,rfl⟩,s2⟩
  exact @ao _ _ _ _ _ _ (aH jS) (q H2 s2)
noncomputable def Np (t:fX) (E:XK) (H:Hp):Prop:=∀ e H',H e = none -> H' e = some (gr e t.aI none) -> au H H' -> E (.ref t.aI) (some e) H'
theorem Np.same {E:XK} {H H1:Hp} (h:Np t E H) (s:au H H1):Np t E H1:=λe H' he h1 h2=>h e H' (s.free he) h1 (s.trans h2)
noncomputable abbrev n8 (i:Int):Prop:=i.natAbs.log2 < 1000
theorem mH {i:Int} (h:n8 i):(Str.ofString (toString i)).length <= 1001:=by rw [ofString_length];exact int_text_length_le (by decide) h
noncomputable def rF (Gs:List cL) (i:Int):Prop:=0 <= i /\ i < Gs.length
def o6 (Gs:List cL) (i:Int):Nat:=match Gs[i.toNat]? with
 | some G=>G.row.length
 | none=>0
noncomputable def nc (Gs:List cL) (i j:Int):Prop:=rF Gs i /\ 0 <= j /\ j <= o6 Gs i
noncomputable def CK (t:fX):Sp:=λvs H Q E=>∃ (x dx a lg:Addr) (gs:List Addr) (ms:List aE) (Gs:List cL) (i:Int),vs = [.ref x,.int i] /\ cF t H x dx a lg gs ms Gs /\ n8 i /\ (rF Gs i -> Q .cM H) /\ (¬ rF Gs i -> Np t E H)
theorem i7 (T:Txt K mg t):bw P w K mg base (jz P w) 2 t.mK t.ue ["self","row"] (CK t):=by
 refine T.nP.Ba DF (λvs H Q E h=>?_) (λcdv A outer s H vs Q E hr h=>?_)
 ·obtain ⟨x,dx,a,lg,gs,ms,Gs,i,rfl,_⟩:=h
  rfl
 ·obtain ⟨x,dx,a,lg,gs,ms,Gs,i,rfl,I,hf,q,qe⟩:=h
  have hl:=I.go.1
  have sz:=sizeLine_eq
  have hlen:=mH hf
  have hw:(Str.ofString "there is no row ").length = 16:=by decide +kernel
  have l2:(Str.empty ++ Str.ofString "there is no row " ++ Str.ofString (toString i)).length <= sizeLine:=by
   rw [PySem.W.KT.empty_app,PySem.strLen_append];omega
  refine @ao _ _ _ _ _ _ (aP (PW.pt (i9 (az gC (pv 1) ai (aA _)) (iG (az Jg (pv 1) (aL aT (by rfl) T.bO (by decide +kernel) (aa (aZ (pv 0) rfl) ah)) (aA _))))) ak ak) ⟨_,rfl,_,_,rfl,rfl,_,rfl,cI (λh=>?_) (λh=>?_)⟩
  ·refine @ao _ _ _ _ _ _ (eZ T.cY rfl T.cA (aa (jK (fW (iD (pv 1) lJ))) ah)) ⟨(by rw [PySem.W.KT.empty_app];exact Nat.le_trans (Nat.le_of_eq hw) (by omega)),_,rfl,_,.inr ⟨i,rfl,(by omega),rfl⟩,l2,l2,by show 1 <= sizeLine;decide,λe he=>qe (λz=>by have:=z.1;omega) e _ he af (au.upd he)⟩
  ·refine ⟨_,rfl,⟨_,rfl,_,_,_,_,_,rfl,I.ob,T.aV,T.bF,rfl,⟨_,_,rfl,.inl (bB.of I.lg),_,_,rfl,rfl,_,rfl,cI (λh2=>?_) (λh2=>?_)⟩⟩⟩
   ·refine @ao _ _ _ _ _ _ (eZ T.cY rfl T.cA (aa (jK (fW (iD (pv 1) lJ))) ah)) ⟨(by rw [PySem.W.KT.empty_app];exact Nat.le_trans (Nat.le_of_eq hw) (by omega)),_,rfl,_,.inr ⟨i,rfl,(by omega),rfl⟩,l2,l2,by show 1 <= sizeLine;decide,λe he=>qe (λz=>by have:=z.2;rw [List.length_map] at h2;omega) e _ he af (au.upd he)⟩
   ·rw [List.length_map] at h2
    exact aX (q ⟨by omega,by omega⟩)
noncomputable def oQ (t:fX):Sp:=λvs H Q E=>∃ (x dx a lg:Addr) (gs:List Addr) (ms:List aE) (Gs:List cL) (i:Int),vs = [.ref x,.int i] /\ cF t H x dx a lg gs ms Gs /\ n8 i /\ ¬ rF Gs i /\ Np t E H
theorem fu (T:Txt K mg t):bw P w K mg base (jz P w) 3 t.lO t.tT ["self","row"] (oQ t):=by
 refine T.jX.Ba GQ (λvs H Q E h=>?_) (λcdv A outer s H vs Q E hr h=>?_)
 ·obtain ⟨x,dx,a,lg,gs,ms,Gs,i,rfl,_⟩:=h
  rfl
 ·obtain ⟨x,dx,a,lg,gs,ms,Gs,i,rfl,I,hf,hn,qe⟩:=h
  exact @av _ _ _ _ _ _ _ (aR (bH (pv 0) T.aV T.EI (i7 T) (hr.mono (by decide)) (T.nP.binds (by walk_at "2")) .nil jR (aa (pv 1) ah))) ⟨_,rfl,x,dx,_,rfl,I.ob,rfl,_,rfl,x,dx,a,lg,gs,ms,Gs,i,rfl,I,hf,λz=>absurd z hn,λ_=>qe⟩
theorem nB (T:Txt K mg t):bw P w K mg base (jz P w) 4 t.mq t.t9 ["self","row"] (oQ t):=by
 refine T.qp.Ba EO (λvs H Q E h=>?_) (λcdv A outer s H vs Q E hr h=>?_)
 ·obtain ⟨x,dx,a,lg,gs,ms,Gs,i,rfl,_⟩:=h
  rfl
 ·obtain ⟨x,dx,a,lg,gs,ms,Gs,i,rfl,I,hf,hn,qe⟩:=h
  exact @ao _ _ _ _ _ _ (aH (cz cH (by rfl) T.gK (by decide +kernel) (aa (aZ (bH (pv 0) T.aV T.tG (fu T) (hr.mono (by decide)) (T.jX.binds (by walk_at "2")) .nil jR (aa (pv 1) ah)) rfl) ah))) ⟨_,rfl,x,dx,_,rfl,I.ob,rfl,_,rfl,x,dx,a,lg,gs,ms,Gs,i,rfl,I,hf,hn,qe⟩
theorem lA (T:Txt K mg t):bw P w K mg base (jz P w) 4 t.lU t.uB ["self","row"] (oQ t):=by
 refine T.rE.Ba Gg (λvs H Q E h=>?_) (λcdv A outer s H vs Q E hr h=>?_)
 ·obtain ⟨x,dx,a,lg,gs,ms,Gs,i,rfl,_⟩:=h
  rfl
 ·obtain ⟨x,dx,a,lg,gs,ms,Gs,i,rfl,I,hf,hn,qe⟩:=h
  exact @ao _ _ _ _ _ _ (aH (cz cH (by rfl) T.gK (by decide +kernel) (aa (aZ (bH (pv 0) T.aV T.tG (fu T) (hr.mono (by decide)) (T.jX.binds (by walk_at "2")) .nil jR (aa (pv 1) ah)) rfl) ah))) ⟨_,rfl,x,dx,_,rfl,I.ob,rfl,_,rfl,x,dx,a,lg,gs,ms,Gs,i,rfl,I,hf,hn,qe⟩
theorem nv (T:Txt K mg t):bw P w K mg base (jz P w) 4 t.mT t.tX ["self","row"] (oQ t):=by
 refine T.qh.Ba EE (λvs H Q E h=>?_) (λcdv A outer s H vs Q E hr h=>?_)
 ·obtain ⟨x,dx,a,lg,gs,ms,Gs,i,rfl,_⟩:=h
  rfl
 ·obtain ⟨x,dx,a,lg,gs,ms,Gs,i,rfl,I,hf,hn,qe⟩:=h
  exact @ao _ _ _ _ _ _ (aH (cz cH (by rfl) T.gK (by decide +kernel) (aa (aZ (bH (pv 0) T.aV T.tG (fu T) (hr.mono (by decide)) (T.jX.binds (by walk_at "2")) .nil jR (aa (pv 1) ah)) rfl) ah))) ⟨_,rfl,x,dx,_,rfl,I.ob,rfl,_,rfl,x,dx,a,lg,gs,ms,Gs,i,rfl,I,hf,hn,qe⟩
noncomputable def xQ (t:fX):Sp:=λvs H Q E=>∃ (x dx a lg:Addr) (gs:List Addr) (ms:List aE) (Gs:List cL) (i j:Int),vs = [.ref x,.int i,.int j] /\ cF t H x dx a lg gs ms Gs /\ (∀ G ∈ Gs,G.row.length <= 1000) /\ n8 i /\ n8 j /\ (nc Gs i j -> Q .cM H) /\ (¬ nc Gs i j -> Np t E H)
theorem eX (T:Txt K mg t):bw P w K mg base (jz P w) 3 t.oE t.v7 ["self","row","at"] (xQ t):=by
 refine T.pU.Ba Kv (λvs H Q E h=>?_) (λcdv A outer s H vs Q E hr h=>?_)
 ·obtain ⟨x,dx,a,lg,gs,ms,Gs,i,j,rfl,_⟩:=h
  rfl
 ·obtain ⟨x,dx,a,lg,gs,ms,Gs,i,j,rfl,I,hs,hfi,hfj,q,qe⟩:=h
  have sz:=sizeLine_eq
  refine @av _ _ _ _ _ _ _ (aR (bH (pv 0) T.aV T.EI (i7 T) (hr.mono (by decide)) (T.nP.binds (by walk_at "2")) .nil jR (aa (pv 1) ah))) ⟨_,rfl,x,dx,_,rfl,I.ob,rfl,_,rfl,x,dx,a,lg,gs,ms,Gs,i,rfl,I,hfi,λhin=>?_,λhn=>qe (λz=>hn z.1)⟩
  obtain ⟨k,rfl⟩:∃ k:Nat,i = k:=⟨i.toNat,by have:=hin.1;omega⟩
  have hk:k < Gs.length:=by have:=hin.2;omega
  obtain ⟨G,hG⟩:∃ G,Gs[k]? = some G:=⟨Gs[k],List.getElem?_eq_getElem hk⟩
  obtain ⟨g,hg,dg,lb,lt,lo,lk,e⟩:=I.go.at hG
  have hrl:o6 Gs (k:Int) = G.row.length:=by unfold o6;rw [Int.toNat_natCast,hG]
  have hgl:=hs G (List.mem_of_getElem? hG)
  have li:=mH hfi
  have lj:=mH hfj
  have w1:(Str.ofString "there is no place ").length = 18:=by decide +kernel
  have w2:(Str.ofString " in row ").length = 8:=by decide +kernel
  refine @ao _ _ _ _ _ _ (aP (PW.pt (i9 (az gC (pv 2) ai (aA _)) (iG (az iY (pv 2) (aL bz (by rfl) T.bO (by decide +kernel) (aa (aZ (aU aY (aZ (pv 0) rfl) (pv 1) (λ_ _=>rfl)) rfl) ah)) (aA _))))) ak ak) ⟨_,rfl,_,_,rfl,rfl,_,rfl,cI (λh=>?_) (λh=>?_)⟩
  ·exact @ao _ _ _ _ _ _ (eZ T.cY rfl T.cA (aa (jK (fW (iD (pv 2) (fW (iD (pv 1) lJ))))) ah)) ⟨(by simp only [PySem.W.KT.empty_app,PySem.strLen_append];omega),_,rfl,_,.inr ⟨j,rfl,(by omega),rfl⟩,(by simp only [PySem.W.KT.empty_app,PySem.strLen_append];omega),(by simp only [PySem.W.KT.empty_app,PySem.strLen_append];omega),_,rfl,_,.inr ⟨(k:Int),rfl,(by omega),rfl⟩,(by simp only [PySem.W.KT.empty_app,PySem.strLen_append];omega),(by simp only [PySem.W.KT.empty_app,PySem.strLen_append];omega),by show 1 <= sizeLine;decide,λe he=>qe (λz=>by have:=z.2.1;omega) e _ he af (au.upd he)⟩
  ·refine ⟨_,rfl,⟨_,rfl,_,_,_,_,_,rfl,I.ob,T.aV,T.bF,rfl,⟨_,rfl,_,_,_,_,rfl,rfl,bB.of I.lg,iH hg,g,t.bx,dg,_,_,rfl,e.ob,T.dc,T.er,rfl,_,rfl,bI (by omega),_,_,rfl,rfl,_,rfl,cI (λh2=>?_) (λh2=>aX (q ⟨hin,by omega,by rw [hrl];omega⟩))⟩⟩⟩
   exact @ao _ _ _ _ _ _ (eZ T.cY rfl T.cA (aa (jK (fW (iD (pv 2) (fW (iD (pv 1) lJ))))) ah)) ⟨(by simp only [PySem.W.KT.empty_app,PySem.strLen_append];omega),_,rfl,_,.inr ⟨j,rfl,(by omega),rfl⟩,(by simp only [PySem.W.KT.empty_app,PySem.strLen_append];omega),(by simp only [PySem.W.KT.empty_app,PySem.strLen_append];omega),_,rfl,_,.inr ⟨(k:Int),rfl,(by omega),rfl⟩,(by simp only [PySem.W.KT.empty_app,PySem.strLen_append];omega),(by simp only [PySem.W.KT.empty_app,PySem.strLen_append];omega),by show 1 <= sizeLine;decide,λe he=>qe (λz=>by have:=z.2.2;rw [hrl] at this;omega) e _ he af (au.upd he)⟩
noncomputable def kW (t:fX):Sp:=λvs H Q E=>∃ (x dx a lg:Addr) (gs:List Addr) (ms:List aE) (Gs:List cL) (i j i2 j2:Int),vs = [.ref x,.int i,.int j,.int i2,.int j2] /\ cF t H x dx a lg gs ms Gs /\ (∀ G ∈ Gs,G.row.length <= 1000) /\ n8 i /\ n8 j /\ n8 i2 /\ n8 j2 /\ (nc Gs i j -> nc Gs i2 j2 -> HT.iL [i,j] [i2,j2] = true) /\ Np t E H
theorem gD (T:Txt K mg t):bw P w K mg base (jz P w) 4 t.oB t.yY ["self","row","at","row2","at2"] (kW t):=by
 refine T.sQ.Ba LM (λvs H Q E h=>?_) (λcdv A outer s H vs Q E hr h=>?_)
 ·obtain ⟨x,dx,a,lg,gs,ms,Gs,i,j,i2,j2,rfl,_⟩:=h
  rfl
 ·obtain ⟨x,dx,a,lg,gs,ms,Gs,i,j,i2,j2,rfl,I,hs,h1,h2,h3,h4,hgt,qe⟩:=h
  refine @av _ _ _ _ _ _ _ (aR (bH (pv 0) T.aV T.EB (eX T) (hr.mono (by decide)) (T.pU.binds (by walk_at "3")) .nil jR (aa (pv 1) (aa (pv 2) ah)))) ⟨_,rfl,x,dx,_,rfl,I.ob,rfl,_,rfl,_,rfl,x,dx,a,lg,gs,ms,Gs,i,j,rfl,I,hs,h1,h2,λp1=>?_,λ_=>qe⟩
  refine @av _ _ _ _ _ _ _ (aR (bH (pv 0) T.aV T.EB (eX T) (hr.mono (by decide)) (T.pU.binds (by walk_at "3")) .nil jR (aa (pv 3) (aa (pv 4) ah)))) ⟨_,rfl,x,dx,_,rfl,I.ob,rfl,_,rfl,_,rfl,x,dx,a,lg,gs,ms,Gs,i2,j2,rfl,I,hs,h3,h4,λp2=>?_,λ_=>qe⟩
  refine @ao _ _ _ _ _ _ (aP (az (Ho (Nat.lt_of_succ_lt (pG hr))) (bR (aa (pv 1) (aa (pv 2) ah))) (bR (aa (pv 3) (aa (pv 4) ah))) (aA _)) ak ak) ⟨_,rfl,_,rfl,by show 2 <= sizeLine;decide,λt1 e1=>⟨_,rfl,_,rfl,by show 2 <= sizeLine;decide,λt2 e2=>⟨t1,t2,[i,j],[i2,j2],rfl,rfl,fY.of (au.upd e2 _ _ af),fY.of af,_,rfl,?_⟩⟩⟩
  rw [hgt p1 p2]
  refine zW (@ao _ _ _ _ _ _ (eZ T.cY rfl T.cA (aa aM ah)) ⟨by show 1 <= sizeLine;decide,λe he=>?_⟩)
  have s2:=(au.upd (o:=.tup [.int i,.int j]) e1).trans (au.upd (o:=.tup [.int i2,.int j2]) e2)
  exact (qe.same s2) e _ he af (au.upd he)
theorem qf (T:Txt K mg t):bw P w K mg base (jz P w) 5 t.oF t.wM ["self","row","at","row2","at2"] (kW t):=by
 refine T.yI.Ba Mu (λvs H Q E h=>?_) (λcdv A outer s H vs Q E hr h=>?_)
 ·obtain ⟨x,dx,a,lg,gs,ms,Gs,i,j,i2,j2,rfl,_⟩:=h
  rfl
 ·obtain ⟨x,dx,a,lg,gs,ms,Gs,i,j,i2,j2,rfl,I,hs,h1,h2,h3,h4,hgt,qe⟩:=h
  exact @av _ _ _ _ _ _ _ (aR (bH (pv 0) T.aV T.IJ (gD T) (hr.mono (by decide)) (T.sQ.binds (by walk_at "5")) .nil jR (aa (pv 1) (aa (pv 2) (aa (pv 3) (aa (pv 4) ah)))))) ⟨_,rfl,x,dx,_,rfl,I.ob,rfl,_,rfl,_,rfl,_,rfl,_,rfl,x,dx,a,lg,gs,ms,Gs,i,j,i2,j2,rfl,I,hs,h1,h2,h3,h4,hgt,qe⟩
theorem oK (T:Txt K mg t):bw P w K mg base (jz P w) 5 t.nV t.wg ["self","row","at","row2","at2"] (kW t):=by
 refine T.zf.Ba Ky (λvs H Q E h=>?_) (λcdv A outer s H vs Q E hr h=>?_)
 ·obtain ⟨x,dx,a,lg,gs,ms,Gs,i,j,i2,j2,rfl,_⟩:=h
  rfl
 ·obtain ⟨x,dx,a,lg,gs,ms,Gs,i,j,i2,j2,rfl,I,hs,h1,h2,h3,h4,hgt,qe⟩:=h
  exact @av _ _ _ _ _ _ _ (aR (bH (pv 0) T.aV T.IJ (gD T) (hr.mono (by decide)) (T.sQ.binds (by walk_at "5")) .nil jR (aa (pv 1) (aa (pv 2) (aa (pv 3) (aa (pv 4) ah)))))) ⟨_,rfl,x,dx,_,rfl,I.ob,rfl,_,rfl,_,rfl,_,rfl,_,rfl,x,dx,a,lg,gs,ms,Gs,i,j,i2,j2,rfl,I,hs,h1,h2,h3,h4,hgt,qe⟩
noncomputable def HE (t:fX):Sp:=λvs H Q E=>∃ (x dx a lg:Addr) (gs:List Addr) (ms:List aE) (Gs:List cL) (i j:Int) (z:Str),vs = [.ref x,.int i,.int j,.str z] /\ cF t H x dx a lg gs ms Gs /\ (∀ G ∈ Gs,G.row.length <= 1000) /\ n8 i /\ n8 j /\ ¬ nc Gs i j /\ Np t E H
theorem qv (T:Txt K mg t):bw P w K mg base (jz P w) 4 t.oz t.xu ["self","row","at","text"] (HE t):=by
 refine T.wQ.Ba Mw (λvs H Q E h=>?_) (λcdv A outer s H vs Q E hr h=>?_)
 ·obtain ⟨x,dx,a,lg,gs,ms,Gs,i,j,z,rfl,_⟩:=h
  rfl
 ·obtain ⟨x,dx,a,lg,gs,ms,Gs,i,j,z,rfl,I,hs,h1,h2,hn,qe⟩:=h
  exact @av _ _ _ _ _ _ _ (aR (bH (pv 0) T.aV T.EB (eX T) (hr.mono (by decide)) (T.pU.binds (by walk_at "3")) .nil jR (aa (pv 1) (aa (pv 2) ah)))) ⟨_,rfl,x,dx,_,rfl,I.ob,rfl,_,rfl,_,rfl,x,dx,a,lg,gs,ms,Gs,i,j,rfl,I,hs,h1,h2,λp1=>absurd p1 hn,λ_=>qe⟩
noncomputable def Ii (Gs:List cL) (i m:Int):Prop:=0 <= i /\ 0 <= m /\ i + m <= Gs.length
noncomputable def vP (t:fX):Sp:=λvs H Q E=>∃ (x dx a lg:Addr) (gs:List Addr) (ms:List aE) (Gs:List cL) (i m:Int),vs = [.ref x,.int i,.int m] /\ cF t H x dx a lg gs ms Gs /\ n8 i /\ n8 m /\ (Ii Gs i m -> Q .cM H) /\ (¬ Ii Gs i m -> Np t E H)
theorem jV (T:Txt K mg t):bw P w K mg base (jz P w) 2 t.nW t.yC ["self","row","many"] (vP t):=by
 refine T.xM.Ba JB (λvs H Q E h=>?_) (λcdv A outer s H vs Q E hr h=>?_)
 ·obtain ⟨x,dx,a,lg,gs,ms,Gs,i,m,rfl,_⟩:=h
  rfl
 ·obtain ⟨x,dx,a,lg,gs,ms,Gs,i,m,rfl,I,hfi,hfm,q,qe⟩:=h
  have sz:=sizeLine_eq
  have hl:=I.go.1
  have li:=mH hfi
  have lj:=mH hfm
  have w1:(Str.ofString "there are no ").length = 13:=by decide +kernel
  have w2:(Str.ofString " rows from row ").length = 15:=by decide +kernel
  have w3:(Str.ofString " on").length = 3:=by decide +kernel
  refine @ao _ _ _ _ _ _ (aP (PW.pt (i9 (az gC (pv 1) ai (aA _)) (i9 (az gC (pv 2) ai (aA _)) (iG (az iY (aQ bM (pv 1) (pv 2)) (aL aT (by rfl) T.bO (by decide +kernel) (aa (aZ (pv 0) rfl) ah)) (aA _)))))) ak ak) ⟨_,rfl,_,_,rfl,rfl,_,rfl,cI (λh=>?_) (λh=>?_)⟩
  ·exact @ao _ _ _ _ _ _ (eZ T.cY rfl T.cA (aa (jK (fW (iD (pv 2) (fW (iD (pv 1) (fW lJ)))))) ah)) ⟨(by simp only [PySem.W.KT.empty_app,PySem.strLen_append];omega),_,rfl,_,.inr ⟨m,rfl,(by omega),rfl⟩,(by simp only [PySem.W.KT.empty_app,PySem.strLen_append];omega),(by simp only [PySem.W.KT.empty_app,PySem.strLen_append];omega),_,rfl,_,.inr ⟨i,rfl,(by omega),rfl⟩,(by simp only [PySem.W.KT.empty_app,PySem.strLen_append];omega),(by simp only [PySem.W.KT.empty_app,PySem.strLen_append];omega),(by simp only [PySem.W.KT.empty_app,PySem.strLen_append];omega),by show 1 <= sizeLine;decide,λe he=>qe (λz=>by have:=z.1;omega) e _ he af (au.upd he)⟩
  refine ⟨_,rfl,_,_,rfl,rfl,_,rfl,cI (λh2=>?_) (λh2=>?_)⟩
  ·exact @ao _ _ _ _ _ _ (eZ T.cY rfl T.cA (aa (jK (fW (iD (pv 2) (fW (iD (pv 1) (fW lJ)))))) ah)) ⟨(by simp only [PySem.W.KT.empty_app,PySem.strLen_append];omega),_,rfl,_,.inr ⟨m,rfl,(by omega),rfl⟩,(by simp only [PySem.W.KT.empty_app,PySem.strLen_append];omega),(by simp only [PySem.W.KT.empty_app,PySem.strLen_append];omega),_,rfl,_,.inr ⟨i,rfl,(by omega),rfl⟩,(by simp only [PySem.W.KT.empty_app,PySem.strLen_append];omega),(by simp only [PySem.W.KT.empty_app,PySem.strLen_append];omega),(by simp only [PySem.W.KT.empty_app,PySem.strLen_append];omega),by show 1 <= sizeLine;decide,λe he=>qe (λz=>by have:=z.2.1;omega) e _ he af (au.upd he)⟩
  refine ⟨_,rfl,_,rfl,_,_,rfl,rfl,⟨_,rfl,_,_,_,_,_,rfl,I.ob,T.aV,T.bF,rfl,⟨_,_,rfl,.inl (bB.of I.lg),_,_,rfl,rfl,_,rfl,cI (λh3=>?_) (λh3=>aX (q ⟨by omega,by omega,by rw [List.length_map] at h3;omega⟩))⟩⟩⟩
  exact @ao _ _ _ _ _ _ (eZ T.cY rfl T.cA (aa (jK (fW (iD (pv 2) (fW (iD (pv 1) (fW lJ)))))) ah)) ⟨(by simp only [PySem.W.KT.empty_app,PySem.strLen_append];omega),_,rfl,_,.inr ⟨m,rfl,(by omega),rfl⟩,(by simp only [PySem.W.KT.empty_app,PySem.strLen_append];omega),(by simp only [PySem.W.KT.empty_app,PySem.strLen_append];omega),_,rfl,_,.inr ⟨i,rfl,(by omega),rfl⟩,(by simp only [PySem.W.KT.empty_app,PySem.strLen_append];omega),(by simp only [PySem.W.KT.empty_app,PySem.strLen_append];omega),(by simp only [PySem.W.KT.empty_app,PySem.strLen_append];omega),by show 1 <= sizeLine;decide,λe he=>qe (λz=>by have:=z.2.2;rw [List.length_map] at h3;omega) e _ he af (au.upd he)⟩
noncomputable def AH (t:fX):Sp:=λvs H Q E=>∃ (x dx a lg lf:Addr) (gs:List Addr) (ms:List aE) (Gs:List cL) (i m:Int) (fs:List V),vs = [.ref x,.int i,.int m,.ref lf] /\ cF t H x dx a lg gs ms Gs /\ H lf = some (.lst fs) /\ n8 i /\ n8 m /\ (Ii Gs i m -> m = Gs.length /\ fs = []) /\ Np t E H
theorem mJ (T:Txt K mg t):bw P w K mg base (jz P w) 3 t.nU t.yh ["self","row","many","rows"] (AH t):=by
 refine T.vG.Ba Lb (λvs H Q E h=>?_) (λcdv A outer s H vs Q E hr h=>?_)
 ·obtain ⟨x,dx,a,lg,lf,gs,ms,Gs,i,m,fs,rfl,_⟩:=h
  rfl
 ·obtain ⟨x,dx,a,lg,lf,gs,ms,Gs,i,m,fs,rfl,I,hlf,hfi,hfm,hall,qe⟩:=h
  have hl:=I.go.1
  refine @av _ _ _ _ _ _ _ (aR (bH (pv 0) T.aV T.Oz (jV T) (hr.mono (by decide)) (T.xM.binds (by walk_at "3")) .nil jR (aa (pv 1) (aa (pv 2) ah)))) ⟨_,rfl,x,dx,_,rfl,I.ob,rfl,_,rfl,_,rfl,x,dx,a,lg,gs,ms,Gs,i,m,rfl,I,hfi,hfm,λhin=>?_,λ_=>qe⟩
  obtain ⟨h1,rfl⟩:=hall hin
  refine @av _ _ _ _ _ _ _ (aP (PW.pt (fR (az bE (pv 2) (aL aT (by rfl) T.bO (by decide +kernel) (aa (aZ (pv 0) rfl) ah)) (aA _)) (fj (kU (jt (pv 3) (λ_=>rfl)))))) ak ak) ⟨_,rfl,⟨_,rfl,_,_,_,_,_,rfl,I.ob,T.aV,T.bF,rfl,⟨_,_,rfl,.inl (bB.of I.lg),rfl,_,rfl,cI (λ_=>?_) (λz=>absurd (by rw [h1,List.length_map,hl]) z)⟩⟩⟩
  refine ⟨_,rfl,_,.inl ⟨_,bB.of hlf,rfl⟩,zW ?_⟩
  exact @ao _ _ _ _ _ _ (eZ T.cY rfl T.cA (aa aM ah)) ⟨by show 1 <= sizeLine;decide,λe he=>qe e _ he af (au.upd he)⟩
noncomputable def Nz (t:fX):Sp:=λvs H Q _=>∃ e l xs y,vs = [.ref e,.ref l,y] /\ H e = some (jw e t.aN none) /\ H l = some (.lst xs) /\
 ∀ tp l2 dx H1,H1 = upd (upd H tp (.tup xs)) l2 (.lst xs) -> H tp = none -> H l2 = none -> l2 ≠ tp -> H1 dx = none -> Q .cM (upd (upd (upd H1 dx (.xd [("ring",.ref l2)])) e (jw e t.aN (some dx))) dx (.xd [("sign",y),("ring",.ref l2)]))
theorem J1 (T:Txt K mg t):bw P w K mg base dP 1 t.mV t.xV ["self","ring","sign"] (Nz t):=by
 refine T.Bh.ok LK ?_ ?_
 walk_at "i"
 ·obtain ⟨e,l,xs,y,rfl,he,hl,q⟩:=h
  have nel:l ≠ e:=λz=>by rw [z,he] at hl;cases hl
  refine @av _ _ _ _ _ _ _ (aR (Fc rfl T.jr T.jH.1 T.jH.2.1 T.jH.2.2 (aa (pv 0) (aa (cz su rfl T.vC rfl (aa (pv 1) ah)) (aa (pv 2) ah))))) ?_
  refine ⟨_,rfl,_,rfl,l,xs,rfl,.inl ⟨bB.of hl,λtp ftp=>⟨_,rfl,e,t.aN,none,_,rfl,?_,T.kB.toExcC,by show 2 <= sizeLine;decide,?_⟩⟩⟩
  ·rw [aj (λz=>by rw [← z,he] at ftp;cases ftp)];exact he
  have hl1:upd H tp (.tup xs) l = some (.lst xs):=by rw [aj (λz=>by rw [← z,hl] at ftp;cases ftp)];exact hl
  have he1:upd H tp (.tup xs) e = some (jw e t.aN none):=by rw [aj (λz=>by rw [← z,he] at ftp;cases ftp)];exact he
  refine @av _ _ _ _ _ _ _ (BU (pv 0) (cz cH rfl T.gK rfl (aa (pv 1) ah)) rfl) ⟨_,rfl,l,xs,rfl,.inl (bB.of hl1),λl2 f2=>?_⟩
  have n2:l2 ≠ tp:=λz=>by rw [z,af] at f2;cases f2
  have f2':H l2 = none:=by rw [aj n2] at f2;exact f2
  have he2:upd (upd H tp (.tup xs)) l2 (.lst xs) e = some (jw e t.aN none):=by rw [aj (λz=>by rw [← z,he1] at f2;cases f2)];exact he1
  refine ⟨_,rfl,e,_,rfl,T.kB.toExcC,T.jF,.inl ⟨he2,λdx fr=>?_⟩⟩
  have ne:dx ≠ e:=λz=>by rw [z,he2] at fr;cases fr
  exact @ao _ _ _ _ _ _ (BU (pv 0) (pv 2) rfl) ⟨_,rfl,_,rfl,e,_,rfl,T.kB.toExcC,T.jG,.inr ⟨dx,_,af,by rw [aj ne,af],by show 1 < 1000;decide,q tp l2 dx _ rfl ftp f2' n2 fr⟩⟩
noncomputable def Rg (t:fX) (E:XK) (H:Hp) (xs:List V) (y:V):Prop:=∀ e dx l2 H',H' e = some (gr e t.aN (some dx)) -> H' dx = some (.xd [("sign",y),("ring",.ref l2)]) -> H' l2 = some (.lst xs) -> au H H' -> E (.ref t.aN) (some e) H'
theorem Rg.go {E:XK} {H:Hp} {xs:List V} {y:V} {l e:Addr} (h:Rg t E H xs y) (hl:H l = some (.lst xs)) (he:H e = none):Nz t [.ref e,.ref l,y] (upd H e (jw e t.aN none)) (λv H3=>v = .cM /\ ∃ d,H3 e = some (jw e t.aN d) /\ E (.ref t.aN) (some e) (upd H3 e (gr e t.aN d))) E0:=by
 have nl:l ≠ e:=aq hl he
 refine ⟨e,l,xs,y,rfl,af,by rw [aj nl];exact hl,λtp l2 dx H1 hH1 ftp f2 n2 fd=>⟨rfl,some dx,?_,?_⟩⟩
 ·subst hH1
  have e1:e ≠ tp:=λz=>by rw [← z,af] at ftp;cases ftp
  have e2:e ≠ l2:=λz=>by rw [← z,af] at f2;cases f2
  have ed:e ≠ dx:=λz=>by rw [← z,aj e2,aj e1,af] at fd;cases fd
  rw [aj ed,af]
 ·subst hH1
  have e1:e ≠ tp:=λz=>by rw [← z,af] at ftp;cases ftp
  have e2:e ≠ l2:=λz=>by rw [← z,af] at f2;cases f2
  have ed:e ≠ dx:=λz=>by rw [← z,aj e2,aj e1,af] at fd;cases fd
  have d2:l2 ≠ dx:=λz=>by rw [← z,af] at fd;cases fd
  have d1:dx ≠ tp:=λz=>by rw [aj (Ne.symm d2),z,af] at fd;cases fd
  have ftp':H tp = none:=by rw [aj (Ne.symm e1)] at ftp;exact ftp
  have f2':H l2 = none:=by rw [aj (Ne.symm e2)] at f2;exact f2
  have fd':H dx = none:=by rw [aj (Ne.symm d2),aj d1,aj (Ne.symm ed)] at fd;exact fd
  refine h e dx l2 _ af (by rw [aj (Ne.symm ed),af]) ?_ λb o hb=>?_
  ·rw [aj (Ne.symm e2),aj d2,aj (Ne.symm e2),aj d2,af]
  ·have n1:=aq hb he
   have n3:=aq hb ftp'
   have n4:=aq hb f2'
   have n5:=aq hb fd'
   rw [aj n1,aj n5,aj n1,aj n5,aj n4,aj n3,aj n1];exact hb
noncomputable def Ir (t:fX):Sp:=λvs H Q E=>∃ (a:Addr) (ms:List aE),vs = [.ref a] /\ IsRules t H a ms /\ dR ms /\ (ic ms = none -> ∀ H',au H H' -> Q .cM H') /\ ∀ ring row,ic ms = some (ring,row) -> Rg t E H ((ring.map (nameAt ms)).map V.str) (Cf row)
theorem sC (T:Txt K mg t):bw P w K mg base (jz P w) 6 t.ow t.tL ["rules"] (Ir t):=by
 refine T.n9.Ba uD (λvs H Q E h=>?_) (λcdv A outer s H vs Q E hr h=>?_)
 ·obtain ⟨a,ms,rfl,_⟩:=h
  rfl
 ·obtain ⟨a,ms,rfl,hR,G,q1,q2⟩:=h
  refine @av _ _ _ _ _ _ _ (aC (i:=1) uD.nd rfl (Or.inl rfl) (aK (Am T) (hr.mono (by decide)) rfl T.Af T.mj.kp (T.mj.binds (by walk_at "1")) .nil aG (aa (pv 0) ah))) ⟨_,rfl,a,ms,rfl,hR,G,λH1 s1=>⟨λhn=>?_,λring row p l hm hp hl=>?_⟩⟩
  ·exact @ao _ _ _ _ _ _ (aP (az fJ (pv 1) bL (aA _)) ak ak) ⟨_,rfl,rfl,_,rfl,iB (λh=>absurd rfl h) (λ_=>aX (q1 hn H1 s1))⟩
  ·refine @ao _ _ _ _ _ _ (aP (az fJ (pv 1) bL (aA _)) ak ak) ⟨_,rfl,rfl,_,rfl,iB (λ_=>?_) (λh=>by cases h)⟩
   have g:Rg t E H1 ((ring.map (nameAt ms)).map V.str) (Cf row):=λe dx l2 H' h1 h2 h3 h4=>q2 ring row hm e dx l2 H' h1 h2 h3 (s1.trans h4)
   exact @ao _ _ _ _ _ _ (CD T.kB.toExcC T.pL.1 T.pL.2.1 T.pL.2.2 (J1 T) (T.Bh.binds (by walk_at "3")) (hr.mono (by decide)) rfl T.tU (aa (aU bU (pv 1) ai (λ_ _=>rfl)) (aa (aU bU (pv 1) ai (λ_ _=>rfl)) ah))) ⟨_,rfl,_,_,_,_,rfl,rfl,fY.of hp,bq (j:=0) rfl,_,rfl,_,_,_,_,rfl,rfl,fY.of hp,bq (j:=1) rfl,by show 2 <= sizeLine;decide,λe he=>g.go hl he⟩
structure LX (K:PySem.W.Frag) (t:fX) (C:Addr) (b1 b2:Bool):Prop where
 x:zw K C
 n1:PySem.W.kitOne K (.ref C) (.ref t.dM) = some false
 n2:PySem.W.kitOne K (.ref C) (.ref t.dJ) = some false
 n3:PySem.W.kitOne K (.ref C) (.ref t.cO) = some false
 n4:PySem.W.kitOne K (.ref C) (.ref t.cP) = some false
 p:PySem.W.kitOne K (.ref C) (.ref t.aI) = some b1
 r:PySem.W.kitOne K (.ref C) (.ref t.aN) = some b2
 v:PySem.W.kitOne K (.ref C) (.type "ValueError") = some true
theorem HZ (T:Txt K mg t):LX K t t.aI true false:=⟨T.t7,T.gu,T.gw,T.fU,T.fV,T.fQ,T.gO,T.eE⟩
theorem HS (T:Txt K mg t):LX K t t.aN false true:=⟨T.kB,T.iF,T.iE,T.gH,T.gI,T.gP,T.jb,T.fz⟩
def ofS (b:Bool):Str:=if b = true then "place" else "rings"
noncomputable def OY (K:PySem.W.Frag) (t:fX):Sp:=λvs H Q _=>∃ (e C:Addr) (d:Option Addr) (b:Bool),vs = [.ref e] /\ H e = some (gr e C d) /\ (∀ dx,d = some dx -> ∃ fs,H dx = some (.xd fs)) /\ LX K t C b (!b) /\ ∀ H',au H H' -> Q (.str (ofS b)) H'
theorem DM (T:Txt K mg t):OP P w K mg base dP 1 t.qt t.yp ["_law_e"] (OY K t):=by
 refine T.qu.okH Gd (λvs H Q E h=>?_) (λcdv A outer s H vs Q E hr h=>?_)
 ·obtain ⟨e,C,d,b,rfl,_⟩:=h
  rfl
 ·obtain ⟨e,C,d,b,rfl,he,hd,X,q⟩:=h
  refine @av _ _ _ _ _ _ _ (aC (i:=1) Gd.nd rfl (Or.inl rfl) (aL AX (by rfl) T.dD (by decide +kernel) (aa (pv 0) (aa (bR (aa (eG rfl T.Av (v:=V.ref _) rfl) (aa (eG rfl T.An (v:=V.ref _) rfl) (aa (eG rfl T.yK (v:=V.ref _) rfl) (aa (eG rfl T.yk (v:=V.ref _) rfl) ah))))) ah)))) ⟨_,rfl,by show 4 <= sizeLine;decide,λtp htp=>⟨e,C,d,tp,[t.dM,t.dJ,t.cO,t.cP],false,rfl,fY.of af,au.upd htp _ _ he,λdx z=>let ⟨fs,y⟩:=hd dx z;⟨fs,au.upd htp _ _ y⟩,X.x,nS ?_,?_⟩⟩
  ·intro a ha
   simp only [List.mem_cons,List.not_mem_nil,or_false] at ha
   rcases ha with rfl | rfl | rfl | rfl
   ·exact X.n1
   ·exact X.n2
   ·exact X.n3
   ·exact X.n4
  have s1:=au.upd (o:=.tup [.ref t.dM,.ref t.dJ,.ref t.cO,.ref t.cP]) htp
  have he1:=s1 _ _ he
  have hd1:∀ dx,d = some dx -> ∃ fs,upd H tp (.tup [.ref t.dM,.ref t.dJ,.ref t.cO,.ref t.cP]) dx = some (.xd fs):=λdx z=>let ⟨fs,y⟩:=hd dx z;⟨fs,s1 _ _ y⟩
  show At _ _ _ [some (.ref e),some (.bl false)] (upd H tp (.tup [.ref t.dM,.ref t.dJ,.ref t.cO,.ref t.cP]))
  generalize upd H tp (.tup [.ref t.dM,.ref t.dJ,.ref t.cO,.ref t.cP]) = H1 at s1 he1 hd1 ⊢
  refine @aF _ _ _ _ _ _ _ (λZ' H'=>Z' = [some (.ref e),some (.bl false)] /\ H1 = H') (aP (PW.pt (i9 (gG (pv 1)) (i9 (az bE (aL kF (by rfl) T.dD (by decide +kernel) (aa (pv 0) (aa (eG rfl T.cA (v:=V.ref _) rfl) ah))) (aL kF (by rfl) T.dD (by decide +kernel) (aa (pv 0) (aa (eG rfl T.tU (v:=V.ref _) rfl) ah))) (aA _)) (iG (kU (gG (aL zM (by rfl) T.dD (by decide +kernel) (aa (pv 0) (aa (Hs (v:=V.ty "ValueError") (u:=Value.type "ValueError") rfl T.jL (by decide +kernel) rfl) ah))))))))) ak ak) ?_ ?_
  ·refine ⟨_,rfl,false,rfl,sr ⟨_,rfl,e,C,d,t.aI,b,rfl,he1,hd1,X.x,X.p,_,rfl,e,C,d,t.aN,!b,rfl,he1,hd1,X.x,X.r,rfl,_,rfl,cI (λz=>?_) (λ_=>?_)⟩⟩
   ·have:=V.bl.inj z
    cases b <;> cases this
   ·exact ⟨_,rfl,e,C,d,"ValueError",true,rfl,he1,hd1,X.x,X.v,true,rfl,sr (aX ⟨rfl,rfl⟩)⟩
  rintro Z' H' ⟨rfl,rfl⟩
  cases b with
  | true=>exact @av _ _ _ _ _ _ _ (aP (gG (aL kF (by rfl) T.dD (by decide +kernel) (aa (pv 0) (aa (eG rfl T.cA (v:=V.ref _) rfl) ah)))) ak ak) ⟨_,rfl,e,C,d,t.aI,true,rfl,he1,hd1,X.x,X.p,true,rfl,zW (@ao _ _ _ _ _ _ (aH aM) (q H1 s1))⟩
  | false=>exact @av _ _ _ _ _ _ _ (aP (gG (aL kF (by rfl) T.dD (by decide +kernel) (aa (pv 0) (aa (eG rfl T.cA (v:=V.ref _) rfl) ah)))) ak ak) ⟨_,rfl,e,C,d,t.aI,false,rfl,he1,hd1,X.x,X.p,false,rfl,sr (aX (@ao _ _ _ _ _ _ (aH aM) (q H1 s1)))⟩
noncomputable def C9 (t:fX):Sp:=λvs H Q E=>∃ (x dx a:Addr) (ms:List aE) (v:V) (ring:List Nat) (row:Str),vs = [.ref x,.ref a,v] /\ H x = some (.ins t.aJ dx []) /\ IsRules t H a ms /\ dR ms /\ ic ms = some (ring,row) /\ Rg t E H ((ring.map (nameAt ms)).map V.str) (Cf row)
theorem kJ (T:Txt K mg t):bw P w K mg base (jz P w) 7 t.lS t.tu ["self","rules","rows"] (C9 t):=by
 refine T.tP.Ba GY (λvs H Q E h=>?_) (λcdv A outer s H vs Q E hr h=>?_)
 ·obtain ⟨x,dx,a,ms,v,ring,row,rfl,_⟩:=h
  rfl
 ·obtain ⟨x,dx,a,ms,v,ring,row,rfl,hx,hR,G,hm,g⟩:=h
  refine @av _ _ _ _ _ _ _ (aR (aK (sC T) (hr.mono (by decide)) rfl T.E2 T.n9.kp (T.n9.binds (by walk_at "1")) .nil jR (aa (pv 1) ah))) ⟨_,rfl,a,ms,rfl,hR,G,(λhn=>by rw [hm] at hn;cases hn),λring2 row2 hm2=>?_⟩
  rw [hm] at hm2
  have hm2:=Option.some.inj hm2
  injection hm2 with e1 e2
  subst e1 e2
  exact g
noncomputable def Ref (Gs:List cL) (w a b c d:Int):Prop :=
 (w = 0 /\ 0 <= c /\ c <= 10 /\ n8 a /\ n8 b /\ (Ii Gs a b -> b = Gs.length /\ c = 0)) ∨ (w = 1 /\ n8 a /\ n8 b /\ ¬ nc Gs a b) ∨ ((w = 2 ∨ w = 3) /\ n8 a /\ n8 b /\ n8 c /\ n8 d /\ (nc Gs a b -> nc Gs c d -> HT.iL [a,b] [c,d] = true)) ∨ ((w = 4 ∨ w = 5 ∨ w = 6) /\ n8 a /\ ¬ rF Gs a)
noncomputable def Ea (t:fX):Sp:=λvs H Q _=>∃ (x dx a lg:Addr) (gs:List Addr) (ms:List aE) (Gs:List cL) (w i j k l:Int),vs = [.ref x,.int w,.int i,.int j,.int k,.int l] /\ cF t H x dx a lg gs ms Gs /\ (∀ G ∈ Gs,G.row.length <= 1000) /\ Ref Gs w i j k l /\ ∀ H',au H H' -> Q (.str "place") H'
theorem L7 (T:Txt K mg t):bw P w K mg base dP 7 t.pZ t.zp ["_law_text_here","_law_way","_law_a","_law_b","_law_c","_law_d"] (Ea t):=by
 refine T.yP.ok vc ?_ ?_
 walk_at "i"
 ·obtain ⟨x,dx,a,lg,gs,ms,Gs,wy,i,j,k,l,rfl,I,hs,hR,q⟩:=h
  refine @av _ _ _ _ _ _ _ (aC (i:=6) vc.nd rfl (Or.inl rfl) aM) ?_
  show At _ _ _ [some (.ref x),some (.int wy),some (.int i),some (.int j),some (.int k),some (.int l),some (.str "done"),none] H
  refine @aF _ _ _ _ _ _ _ (λZ' H'=>au H H' /\ ∃ y,Z' = [some (.ref x),some (.int wy),some (.int i),some (.int j),some (.int k),some (.int l),some (.str "place"),y]) (Bs (i:=7) rfl rfl vc.nd rfl rfl rfl T.jr (by decide) T.nM.at_) ?_ ?_
  ·refine ⟨λZ' C e H'=>Z' = [some (.ref x),some (.int wy),some (.int i),some (.int j),some (.int k),some (.int l),some (.str "done"),none] /\ C = t.aI /\ au H H' /\ H' e = some (gr e t.aI none),λpins=>?_,?_⟩
   ·have E1:∀ H1,au H H1 -> Np t (λCv eo H'=>∃ e,Cv = .ref t.aI /\ eo = some e /\ au H H' /\ H' e = some (gr e t.aI none)) H1:=λH1 s1 e H' _ h2 h3=>⟨e,rfl,rfl,s1.trans h3,h2⟩
    have P1:∀ (C e:Addr) (H':Hp),(∃ e2,(Value.ref C) = .ref t.aI /\ some e = some e2 /\ au H H' /\ H' e2 = some (gr e2 t.aI none)) -> [some (.ref x),some (.int wy),some (.int i),some (.int j),some (.int k),some (.int l),some (.str "done"),none] = ([some (.ref x),some (.int wy),some (.int i),some (.int j),some (.int k),some (.int l),some (.str "done"),none]:St) /\ C = t.aI /\ au H H' /\ H' e = some (gr e t.aI none):=by
     rintro C e H' ⟨e2,z1,z2,h3⟩
     cases z1
     cases z2
     exact ⟨rfl,rfl,h3⟩
    rcases hR with ⟨rfl,h1,h2,h3,h4,h5⟩ | ⟨rfl,h3,h4,h5⟩ | ⟨hw,h1,h2,h3,h4,h5⟩ | ⟨hw,h1,h5⟩
    ·refine @ao _ _ _ _ _ _ (aP (az bE (pv 1) ai (aA _)) ak ak) ⟨_,rfl,rfl,_,rfl,cI (λ_=>?_) (λz=>absurd rfl z)⟩
     refine @ao _ _ _ _ _ _ (aR (i8 (pv 0) T.aV T.Oc (mJ T) (hr.mono (by decide)) (T.vG.binds (by walk_at "4")) .nil (aa (pv 2) (aa (pv 3) (aa (aQ AK (bC (aa aM ah)) (pv 4)) ah))))) ⟨_,rfl,x,dx,_,rfl,I.ob,rfl,_,rfl,_,rfl,by show 1 <= sizeLine;decide,λl1 e1=>?_⟩
     refine ⟨_,rfl,l1,_,_,rfl,rfl,af,by omega,by omega,bI (by simp only [List.length_cons,List.length_nil];omega),λl2 e2=>?_⟩
     have s1:au H (upd H l1 (.lst [.str "a"])):=au.upd e1
     have s2:=s1.trans (au.upd (o:=.lst ((List.replicate k.toNat [V.str "a"]).flatten)) e2)
     exact ⟨_,gY rfl rfl P1,x,dx,a,lg,l2,gs,ms,Gs,i,j,_,rfl,I.same s2,af,h3,h4,(λz=>⟨(h5 z).1,by rw [(h5 z).2];rfl⟩),E1 _ s2⟩
    ·refine @ao _ _ _ _ _ _ (aP (az bE (pv 1) ai (aA _)) ak ak) ⟨_,rfl,rfl,_,rfl,cI (λz=>absurd (V.int.inj z) (by decide)) (λ_=>?_)⟩
     refine @ao _ _ _ _ _ _ (aP (az bE (pv 1) ai (aA _)) ak ak) ⟨_,rfl,rfl,_,rfl,cI (λ_=>?_) (λz=>absurd rfl z)⟩
     exact @ao _ _ _ _ _ _ (aR (i8 (pv 0) T.aV T.Oo (qv T) (hr.mono (by decide)) (T.wQ.binds (by walk_at "4")) .nil (aa (pv 2) (aa (pv 3) (aa aM ah))))) ⟨_,rfl,x,dx,_,rfl,I.ob,rfl,_,rfl,_,rfl,_,gY rfl rfl P1,x,dx,a,lg,gs,ms,Gs,i,j,"a",rfl,I,hs,h3,h4,h5,E1 H (au.refl _)⟩
    ·have n0:wy ≠ 0:=by rcases hw with rfl | rfl <;> decide
     have n1:wy ≠ 1:=by rcases hw with rfl | rfl <;> decide
     refine @ao _ _ _ _ _ _ (aP (az bE (pv 1) ai (aA _)) ak ak) ⟨_,rfl,rfl,_,rfl,cI (λz=>absurd (V.int.inj z) n0) (λ_=>?_)⟩
     refine @ao _ _ _ _ _ _ (aP (az bE (pv 1) ai (aA _)) ak ak) ⟨_,rfl,rfl,_,rfl,cI (λz=>absurd (V.int.inj z) n1) (λ_=>?_)⟩
     rcases hw with rfl | rfl
     ·refine @ao _ _ _ _ _ _ (aP (az bE (pv 1) ai (aA _)) ak ak) ⟨_,rfl,rfl,_,rfl,cI (λ_=>?_) (λz=>absurd rfl z)⟩
      exact @ao _ _ _ _ _ _ (aR (i8 (pv 0) T.aV T.OB (qf T) (hr.mono (by decide)) (T.yI.binds (by walk_at "5")) .nil (aa (pv 2) (aa (pv 3) (aa (pv 4) (aa (pv 5) ah)))))) ⟨_,rfl,x,dx,_,rfl,I.ob,rfl,_,rfl,_,rfl,_,rfl,_,rfl,_,gY rfl rfl P1,x,dx,a,lg,gs,ms,Gs,i,j,k,l,rfl,I,hs,h1,h2,h3,h4,h5,E1 H (au.refl _)⟩
     ·refine @ao _ _ _ _ _ _ (aP (az bE (pv 1) ai (aA _)) ak ak) ⟨_,rfl,rfl,_,rfl,cI (λz=>absurd (V.int.inj z) (by decide)) (λ_=>?_)⟩
      refine @ao _ _ _ _ _ _ (aP (az bE (pv 1) ai (aA _)) ak ak) ⟨_,rfl,rfl,_,rfl,cI (λ_=>?_) (λz=>absurd rfl z)⟩
      exact @ao _ _ _ _ _ _ (aR (i8 (pv 0) T.aV T.N3 (oK T) (hr.mono (by decide)) (T.zf.binds (by walk_at "5")) .nil (aa (pv 2) (aa (pv 3) (aa (pv 4) (aa (pv 5) ah)))))) ⟨_,rfl,x,dx,_,rfl,I.ob,rfl,_,rfl,_,rfl,_,rfl,_,rfl,_,gY rfl rfl P1,x,dx,a,lg,gs,ms,Gs,i,j,k,l,rfl,I,hs,h1,h2,h3,h4,h5,E1 H (au.refl _)⟩
    ·have n0:wy ≠ 0:=by rcases hw with rfl | rfl | rfl <;> decide
     have n1:wy ≠ 1:=by rcases hw with rfl | rfl | rfl <;> decide
     have n2:wy ≠ 2:=by rcases hw with rfl | rfl | rfl <;> decide
     have n3:wy ≠ 3:=by rcases hw with rfl | rfl | rfl <;> decide
     refine @ao _ _ _ _ _ _ (aP (az bE (pv 1) ai (aA _)) ak ak) ⟨_,rfl,rfl,_,rfl,cI (λz=>absurd (V.int.inj z) n0) (λ_=>?_)⟩
     refine @ao _ _ _ _ _ _ (aP (az bE (pv 1) ai (aA _)) ak ak) ⟨_,rfl,rfl,_,rfl,cI (λz=>absurd (V.int.inj z) n1) (λ_=>?_)⟩
     refine @ao _ _ _ _ _ _ (aP (az bE (pv 1) ai (aA _)) ak ak) ⟨_,rfl,rfl,_,rfl,cI (λz=>absurd (V.int.inj z) n2) (λ_=>?_)⟩
     refine @ao _ _ _ _ _ _ (aP (az bE (pv 1) ai (aA _)) ak ak) ⟨_,rfl,rfl,_,rfl,cI (λz=>absurd (V.int.inj z) n3) (λ_=>?_)⟩
     rcases hw with rfl | rfl | rfl
     ·refine @ao _ _ _ _ _ _ (aP (az bE (pv 1) ai (aA _)) ak ak) ⟨_,rfl,rfl,_,rfl,cI (λ_=>?_) (λz=>absurd rfl z)⟩
      exact @ao _ _ _ _ _ _ (aR (i8 (pv 0) T.aV T.IG (nB T) (hr.mono (by decide)) (T.qp.binds (by walk_at "2")) .nil (aa (pv 2) ah))) ⟨_,rfl,x,dx,_,rfl,I.ob,rfl,_,rfl,_,gY rfl rfl P1,x,dx,a,lg,gs,ms,Gs,i,rfl,I,h1,h5,E1 H (au.refl _)⟩
     ·refine @ao _ _ _ _ _ _ (aP (az bE (pv 1) ai (aA _)) ak ak) ⟨_,rfl,rfl,_,rfl,cI (λz=>absurd (V.int.inj z) (by decide)) (λ_=>?_)⟩
      refine @ao _ _ _ _ _ _ (aP (az bE (pv 1) ai (aA _)) ak ak) ⟨_,rfl,rfl,_,rfl,cI (λ_=>?_) (λz=>absurd rfl z)⟩
      exact @ao _ _ _ _ _ _ (aR (i8 (pv 0) T.aV T.IY (lA T) (hr.mono (by decide)) (T.rE.binds (by walk_at "2")) .nil (aa (pv 2) ah))) ⟨_,rfl,x,dx,_,rfl,I.ob,rfl,_,rfl,_,gY rfl rfl P1,x,dx,a,lg,gs,ms,Gs,i,rfl,I,h1,h5,E1 H (au.refl _)⟩
     ·refine @ao _ _ _ _ _ _ (aP (az bE (pv 1) ai (aA _)) ak ak) ⟨_,rfl,rfl,_,rfl,cI (λz=>absurd (V.int.inj z) (by decide)) (λ_=>?_)⟩
      refine @ao _ _ _ _ _ _ (aP (az bE (pv 1) ai (aA _)) ak ak) ⟨_,rfl,rfl,_,rfl,cI (λz=>absurd (V.int.inj z) (by decide)) (λ_=>?_)⟩
      exact @ao _ _ _ _ _ _ (aR (i8 (pv 0) T.aV T.IS (nv T) (hr.mono (by decide)) (T.qh.binds (by walk_at "2")) .nil (aa (pv 2) ah))) ⟨_,rfl,x,dx,_,rfl,I.ob,rfl,_,rfl,_,gY rfl rfl P1,x,dx,a,lg,gs,ms,Gs,i,rfl,I,h1,h5,E1 H (au.refl _)⟩
   ·rintro Z' C e H3 ⟨rfl,rfl,s3,he⟩
    refine ⟨T.t7.at_,T.eU,?_⟩
    exact @ao _ _ _ _ _ _ (aC (i:=6) vc.nd rfl (Or.inl rfl) (zF (DM T) ((hr.mono (show 1 <= 6 by decide)).less.mark _) rfl T.F8 T.qu.kp (T.qu.binds (by walk_at "1")) aG (aa (pv 7) ah))) ⟨_,rfl,e,t.aI,none,true,rfl,he,(λdx z=>by cases z),HZ T,λH4 s4=>⟨s3.trans s4,_,rfl⟩⟩
  rintro Z' H3 ⟨s3,y,rfl⟩
  exact @ao _ _ _ _ _ _ (aH (pv 6)) ⟨_,rfl,q H3 s3⟩
theorem JJ {i:Int} (h1:-10000000000000000000 <= i) (h2:i <= 10000000000000000000):n8 i:=by
 by_cases h:i.natAbs = 0
 ·show i.natAbs.log2 < 1000
  rw [h];decide
 ·refine (Nat.log2_lt h).mpr (Nat.lt_of_le_of_lt (m:=10000000000000000000) (by omega) ?_)
  exact Nat.lt_of_lt_of_le (show 10000000000000000000 < 2 ^ 64 by decide) (Nat.pow_le_pow_right (n:=2) (by decide) (by decide))
noncomputable def NU (K:PySem.W.Frag):Sp:=λvs H Q _=>∃ (a:Addr) (ns:List Int) (k lo hi:Int),vs = [.ref a,.int k,.int lo,.int hi] /\ bB K H a (ns.map V.int) /\ ns.length <= 63 /\ 0 <= k /\ k <= 1000 /\ -1000 <= lo /\ lo <= 1000 /\ -1000 <= hi /\ hi <= 1000 /\
 ∀ d H',(d < lo ∨ hi < d) -> -1000000000000010000 <= d -> d <= 1000000000000010000 -> au H H' -> Q (.int d) H'
theorem AL (T:Txt K mg t):bw P w K mg base dP 2 t.qN t.zg ["_law_script","_law_k","_law_least","_law_most"] (NU K):=by
 refine T.mL.ok Al ?_ ?_
 walk_at "i"
 ·obtain ⟨a,ns,k,lo,hi,rfl,hS,hl,hk0,hk1,hl0,hl1,hh0,hh1,q⟩:=h
  refine @aF _ _ _ _ _ _ _ (λZ' H'=>∃ c:Int,Z' = [some (.ref a),some (.int k),some (.int lo),some (.int hi),some (.int c),none] /\ H = H') (aC (i:=4) Al.nd rfl (Or.inl rfl) (dh (az iY (aL aT (by rfl) T.bO (by decide +kernel) (aa (pv 0) ah)) ai (aA _)) (aU aY (pv 0) (aQ iy (pv 1) (aL aT (by rfl) T.bO (by decide +kernel) (aa (pv 0) ah))) (λ_ _=>rfl)) ai)) ?_ ?_
  ·refine ⟨_,rfl,_,_,rfl,.inl hS,_,_,rfl,rfl,_,rfl,cI (λh=>?_) (λh=>⟨0,rfl,rfl⟩)⟩
   refine ⟨_,rfl,_,rfl,_,rfl,_,_,rfl,.inl hS,_,_,rfl,rfl,h,?_⟩
   obtain ⟨h1,h2⟩:=ja k h
   obtain ⟨v,e1,e2⟩:=lH (ns.map V.int) h1 h2
   rw [List.getElem?_map] at e1
   obtain ⟨c,e3,rfl⟩:=Option.map_eq_some_iff.mp e1
   exact ⟨_,_,_,_,rfl,rfl,hS,e2,c,rfl,rfl⟩
  rintro Z' H' ⟨c,rfl,rfl⟩
  refine @av _ _ _ _ _ _ _ (aC (i:=5) Al.nd rfl (Or.inl rfl) (aQ iy (pv 4) (aQ JP ai ai))) ⟨_,rfl,_,_,rfl,rfl,⟨by decide,by decide,by decide⟩,_,_,rfl,rfl,(by show (0:Int) < 10 ^ 18;decide),?_⟩
  have hd:=ja c (m:=1000000000000000000) (by decide)
  show At _ _ _ [some (.ref a),some (.int k),some (.int lo),some (.int hi),some (.int c),some (.int (c % 1000000000000000000))] H
  generalize c % 1000000000000000000 = f at hd ⊢
  obtain ⟨hd0,hd1⟩:=hd
  refine @ao _ _ _ _ _ _ (aH (aU aY (bC (aa (aQ jo (pv 2) ai) (aa (aQ bM (pv 3) ai) (aa (aQ jo (aQ jo (pv 2) ai) (pv 5)) (aa (aQ bM (aQ bM (pv 3) ai) (pv 5)) ah))))) (aK (d7 T) (hr.mono (by decide)) rfl T.d8 T.b7.kp (T.b7.binds (by walk_at "3")) .nil aG (aa (pv 0) (aa (aQ bM (pv 1) ai) (aa ai ah)))) (λ_ _=>rfl))) ?_
  refine ⟨_,rfl,_,_,rfl,rfl,_,rfl,_,_,rfl,rfl,_,rfl,_,_,rfl,rfl,_,rfl,_,_,rfl,rfl,_,rfl,_,_,rfl,rfl,_,rfl,_,_,rfl,rfl,by show 4 <= sizeLine;decide,λl1 e1=>?_⟩
  refine ⟨_,rfl,_,rfl,_,_,rfl,rfl,a,ns,_,_,rfl,hS.same (au.upd e1),(by omega),(by omega),(by decide),hl,λd H1 h0 h1 s1=>?_⟩
  obtain ⟨dn,rfl⟩:∃ dn:Nat,d = dn:=⟨d.toNat,by omega⟩
  have hdn:dn < 4:=by omega
  obtain ⟨z,z1,z2,z3,hz⟩:∃ z:Int,(z < lo ∨ hi < z) /\ -1000000000000010000 <= z /\ z <= 1000000000000010000 /\ vF [V.int (lo - 1),V.int (hi + 1),V.int (lo - 1 - f),V.int (hi + 1 + f)] (dn:Int) = some (.int z):=by
   rcases dn with _ | _ | _ | _ | dn
   ·exact ⟨_,.inl (by omega),by omega,by omega,rfl⟩
   ·exact ⟨_,.inr (by omega),by omega,by omega,rfl⟩
   ·exact ⟨_,.inl (by omega),by omega,by omega,rfl⟩
   ·exact ⟨_,.inr (by omega),by omega,by omega,rfl⟩
   ·omega
  exact ⟨_,_,_,_,rfl,rfl,bB.of (s1 _ _ af),hz,q z H1 z1 z2 z3 ((au.upd e1).trans s1)⟩
noncomputable def eB (H:Hp) (Gs:List cL) (vs:List V):Prop:=∀ v ∈ vs,∃ (tp:Addr) (w a b c d:Int),v = .ref tp /\ H tp = some (.tup [.int w,.int a,.int b,.int c,.int d]) /\ Ref Gs w a b c d
theorem eB.same {H H':Hp} {Gs:List cL} {vs:List V} (h:eB H Gs vs) (s:au H H'):eB H' Gs vs:=λv hv=>by
 obtain ⟨tp,w,a,b,c,d,e,e1,e2⟩:=h v hv
 exact ⟨tp,w,a,b,c,d,e,s _ _ e1,e2⟩
theorem eB.app {H:Hp} {Gs:List cL} {vs ws:List V} (h:eB H Gs vs) (k:eB H Gs ws):eB H Gs (vs ++ ws):=λv hv=>(List.mem_append.mp hv).elim (h v) (k v)
theorem eB.new {H:Hp} {Gs:List cL} {vs:List V} {tp:Addr} {w a b c d:Int} (h:eB H Gs vs) (f:H tp = none) (r:Ref Gs w a b c d):eB (upd H tp (.tup [.int w,.int a,.int b,.int c,.int d])) Gs (vs ++ [.ref tp]) :=
 (h.same (au.upd f)).app λv hv=>⟨tp,w,a,b,c,d,List.mem_singleton.mp hv,af,r⟩
theorem eB.upd {H:Hp} {Gs:List cL} {vs ys zs:List V} {l:Addr} (h:eB H Gs vs) (hl:H l = some (.lst ys)):eB (upd H l (.lst zs)) Gs vs:=λv hv=>by
 obtain ⟨tp,w,a,b,c,d,e,e1,e2⟩:=h v hv
 exact ⟨tp,w,a,b,c,d,e,by rw [aj (λz=>by rw [z,hl] at e1;cases e1)];exact e1,e2⟩
theorem eB.nil {H:Hp} {Gs:List cL}:eB H Gs []:=λv hv=>by cases hv
noncomputable def jJ (H0 H:Hp) (Gs:List cL) (l:Addr) (m:Nat):Prop:=∃ xs,H l = some (.lst xs) /\ xs.length <= m /\ eB H Gs xs /\ au H0 H /\ H0 l = none
noncomputable def Bd (i:Int):Prop:=-10000000000000000000 <= i /\ i <= 10000000000000000000
theorem Bd.Hq {i:Int} (h:Bd i):n8 i:=JJ h.1 h.2
theorem DO {Gs:List cL} {a b c d:Int} (hc:0 <= c /\ c <= 10) (ha:Bd a) (hb:Bd b) (h:0 <= a -> 0 <= b -> a + b <= Gs.length -> b = Gs.length /\ c = 0):Ref Gs 0 a b c d:=.inl ⟨rfl,hc.1,hc.2,ha.Hq,hb.Hq,λz=>h z.1 z.2.1 z.2.2⟩
theorem NZ {Gs:List cL} {a b c d:Int} (ha:Bd a) (hb:Bd b) (h:¬ nc Gs a b):Ref Gs 1 a b c d:=.inr (.inl ⟨rfl,ha.Hq,hb.Hq,h⟩)
theorem Cs {Gs:List cL} {w a b c d:Int} (hw:w = 2 ∨ w = 3) (ha:Bd a) (hb:Bd b) (hc:Bd c) (hd:Bd d) (h:nc Gs a b -> nc Gs c d -> HT.iL [a,b] [c,d] = true):Ref Gs w a b c d:=.inr (.inr (.inl ⟨hw,ha.Hq,hb.Hq,hc.Hq,hd.Hq,h⟩))
theorem Kc {Gs:List cL} {w a b c d:Int} (hw:w = 4 ∨ w = 5 ∨ w = 6) (ha:Bd a) (h:¬ rF Gs a):Ref Gs w a b c d:=.inr (.inr (.inr ⟨hw,ha.Hq,h⟩))
noncomputable def NH (K:PySem.W.Frag):Sp:=λvs H Q _=>∃ (a lr:Addr) (ns:List Int) (Gs:List cL),vs = [.ref a,.ref lr] /\ bB K H a (ns.map V.int) /\ ns.length <= 63 /\ H lr = some (.lst ((Gs.map (·.row)).map V.str)) /\ 0 < Gs.length /\ Gs.length <= 5 /\ (∀ G ∈ Gs,G.row.length <= 1000) /\
 ∀ l xs H',H' l = some (.lst xs) -> xs.length <= 100 -> eB H' Gs xs -> au H H' -> Q (.ref l) H'
theorem Ku (T:Txt K mg t):bw P w K mg base dP 3 t.qY t.vQ ["_law_script","_law_rows"] (NH K):=by
 refine T.yu.ok jq ?_ ?_
 walk_at "i"
 ·obtain ⟨a,lr,ns,Gs,rfl,hS,hl,hlr,hp,h5,hG,q⟩:=h
  have hn:((Gs.map (·.row)).map V.str).length = Gs.length:=by rw [List.length_map,List.length_map]
  refine @av _ _ _ _ _ _ _ (aC (i:=2) jq.nd rfl (Or.inl rfl) (aQ jo (aL aT (by rfl) T.bO (by decide +kernel) (aa (pv 1) ah)) ai)) ⟨_,rfl,_,_,rfl,.inl (bB.of hlr),_,_,rfl,rfl,?_⟩
  rw [hn]
  refine @aF _ _ _ _ _ _ _ (λZ' H'=>∃ r:Nat,r < Gs.length /\ Z' = [some (.ref a),some (.ref lr),some (.int ((Gs.length:Nat) - 1:Int)),some (.int r),none,none,none,none] /\ au H H') (aC (i:=3) jq.nd rfl (Or.inl rfl) (aK (d7 T) (hr.mono (by decide)) rfl T.d8 T.b7.kp (T.b7.binds (by walk_at "3")) .nil aG (aa (pv 0) (aa ai (aa (aL aT (by rfl) T.bO (by decide +kernel) (aa (pv 1) ah)) ah))))) ?_ ?_
  ·refine ⟨_,rfl,_,rfl,_,_,rfl,.inl (bB.of hlr),a,ns,_,_,rfl,hS,(by decide),(by decide),(by rw [hn];omega),hl,λd H1 h0 h1 s1=>?_⟩
   obtain ⟨r,rfl⟩:∃ r:Nat,d = r:=⟨d.toNat,by omega⟩
   exact ⟨r,by rw [hn] at h1;omega,rfl,s1⟩
  rintro Z' H1 ⟨r,hr1,rfl,s1⟩
  refine @aF _ _ _ _ _ _ _ (λZ' H'=>∃ f:Int,Bd f /\ ¬ rF Gs f /\ Z' = [some (.ref a),some (.ref lr),some (.int ((Gs.length:Nat) - 1:Int)),some (.int r),some (.int f),none,none,none] /\ au H H') (aC (i:=4) jq.nd rfl (Or.inl rfl) (aK (AL T) (hr.mono (by decide)) rfl T.zR T.mL.kp (T.mL.binds (by walk_at "4")) .nil aG (aa (pv 0) (aa ai (aa ai (aa (pv 2) ah)))))) ?_ ?_
  ·refine ⟨_,rfl,_,rfl,a,ns,_,_,_,rfl,hS.same s1,hl,(by decide),(by decide),(by decide),(by decide),(by omega),(by omega),λd H2 h0 h1 h2 s2=>?_⟩
   exact ⟨d,⟨by omega,by omega⟩,λ⟨z1,z2⟩=>by omega,rfl,s1.trans s2⟩
  rintro Z' H2 ⟨f,bf,nf,rfl,s2⟩
  obtain ⟨G,hGr⟩:∃ G,Gs[r]? = some G:=⟨_,List.getElem?_eq_getElem hr1⟩
  have hrow:((Gs.map (·.row)).map V.str)[r]? = some (.str G.row):=by rw [List.getElem?_map,List.getElem?_map,hGr];rfl
  have hz:G.row.length <= 1000:=hG G (List.mem_of_getElem? hGr)
  have hrl:o6 Gs (r:Int) = G.row.length:=by unfold o6;rw [Int.toNat_natCast,hGr]
  generalize hzz:G.row.length = z at hz hrl
  refine @aF _ _ _ _ _ _ _ (λZ' H'=>∃ o:Int,Bd o /\ (o < 0 ∨ (z:Int) < o) /\ Z' = [some (.ref a),some (.ref lr),some (.int ((Gs.length:Nat) - 1:Int)),some (.int r),some (.int f),some (.int o),none,none] /\ au H H') (aC (i:=5) jq.nd rfl (Or.inl rfl) (aK (AL T) (hr.mono (by decide)) rfl T.zR T.mL.kp (T.mL.binds (by walk_at "4")) .nil aG (aa (pv 0) (aa ai (aa ai (aa (aL bz (by rfl) T.bO (by decide +kernel) (aa (aU aY (pv 1) (pv 3) (λ_ _=>rfl)) ah)) ah)))))) ?_ ?_
  ·refine ⟨_,rfl,_,rfl,_,rfl,_,_,_,_,rfl,rfl,bB.of (s2 _ _ hlr),bq hrow,_,rfl,bI (by omega),a,ns,_,_,_,rfl,hS.same s2,hl,(by decide),(by decide),(by decide),(by decide),(by omega),(by omega),λd H3 h0 h1 h2 s3=>?_⟩
   exact ⟨d,⟨by omega,by omega⟩,by rw [hzz] at h0;exact h0,rfl,s2.trans s3⟩
  rintro Z' H3 ⟨o,bo,no,rfl,s3⟩
  clear s1 s2
  have br:Bd (r:Int):=⟨by omega,by omega⟩
  have b0:Bd 0:=⟨by decide,by decide⟩
  have npl:¬ nc Gs r o:=λ⟨_,z1,z2⟩=>by omega
  have npf:∀ j,¬ nc Gs f j:=λj z=>nf z.1
  refine @aF _ _ _ _ _ _ _ (λZ' H'=>∃ lf,Z' = [some (.ref a),some (.ref lr),some (.int ((Gs.length:Nat) - 1:Int)),some (.int r),some (.int f),some (.int o),some (.ref lf),none] /\ jJ H H' Gs lf 2) (aC (i:=6) jq.nd rfl (Or.inl rfl) (bC (aa (bR (aa ai (aa (pv 3) (aa (aQ bM (aQ bM (aQ jo (aL aT (by rfl) T.bO (by decide +kernel) (aa (pv 1) ah)) (pv 3)) ai) (aK (d7 T) (hr.mono (by decide)) rfl T.d8 T.b7.kp (T.b7.binds (by walk_at "3")) .nil aG (aa (pv 0) (aa ai (aa ai ah))))) (aa ai (aa ai ah)))))) (aa (bR (aa ai (aa (pv 3) (aa (jh gA ai) (aa ai (aa ai ah)))))) ah)))) ?_ ?_
  ·refine ⟨_,rfl,_,rfl,_,_,rfl,.inl (bB.of (s3 _ _ hlr)),_,rfl,_,_,rfl,rfl,_,_,rfl,rfl,_,rfl,a,ns,_,_,rfl,hS.same s3,(by decide),(by decide),(by decide),hl,λd H4 h0 h1 s4=>⟨_,_,rfl,rfl,by show 5 <= sizeLine;decide,λt1 f1=>⟨_,rfl,_,rfl,by show 5 <= sizeLine;decide,λt2 f2=>⟨by show 2 <= sizeLine;decide,λl1 g1=>?_⟩⟩⟩⟩
   have r1:Ref Gs 0 r (((((Gs.map (·.row)).map V.str).length:Nat):Int) - r + 1 + d) 1 0:=DO (by decide) br ⟨by omega,by omega⟩ λ_ _ _=>by omega
   have r2:Ref Gs 0 r (-1) 1 0:=DO (by decide) br ⟨by decide,by decide⟩ λ_ h _=>by omega
   have A1:=(eB.nil (H:=H4) (Gs:=Gs)).new f1 r1
   have A2:=(A1.new f2 r2).same (au.upd (o:=.lst [.ref t1,.ref t2]) g1)
   exact ⟨l1,rfl,[.ref t1,.ref t2],af,by show 2 <= 2;decide,A2,(((s3.trans s4).to f1).to f2).to g1,(((s3.trans s4).to f1).to f2).free g1⟩
  rintro Z' H4 ⟨lf,rfl,xs,hf,hxl,hA,s4,hn4⟩
  refine @aF _ _ _ _ _ _ _ (λZ' H'=>∃ lf,Z' = [some (.ref a),some (.ref lr),some (.int ((Gs.length:Nat) - 1:Int)),some (.int r),some (.int f),some (.int o),some (.ref lf),none] /\ jJ H H' Gs lf 4) (aC (i:=6) jq.nd rfl (Or.inl rfl) (aQ i6 (pv 6) (bC (aa (bR (aa ai (aa ai (aa (aL aT (by rfl) T.bO (by decide +kernel) (aa (pv 1) ah)) (aa ai (aa ai ah)))))) (aa (bR (aa ai (aa (aL aT (by rfl) T.bO (by decide +kernel) (aa (pv 1) ah)) (aa ai (aa ai (aa ai ah)))))) ah))))) ?_ ?_
  ·refine ⟨_,rfl,_,rfl,_,_,rfl,.inl (bB.of (s4 _ _ hlr)),by show 5 <= sizeLine;decide,λt1 f1=>⟨_,rfl,_,_,rfl,.inl (bB.of (au.upd f1 _ _ (s4 _ _ hlr))),by show 5 <= sizeLine;decide,λt2 f2=>⟨by show 2 <= sizeLine;decide,λl1 g1=>?_⟩⟩⟩
   have r1:Ref Gs 0 0 ((((Gs.map (·.row)).map V.str).length:Nat):Int) 0 0:=DO (by decide) b0 ⟨by omega,by omega⟩ λ_ _ _=>⟨by omega,rfl⟩
   have r2:Ref Gs 0 ((((Gs.map (·.row)).map V.str).length:Nat):Int) 1 1 0:=DO (by decide) ⟨by omega,by omega⟩ ⟨by decide,by decide⟩ λ_ h _=>by omega
   have A2:=(((hA.new f1 r1).new f2 r2).same (au.upd (o:=.lst [.ref t1,.ref t2]) g1))
   refine ⟨lf,l1,_,_,rfl,rfl,au.upd g1 _ _ (au.upd f2 _ _ (au.upd f1 _ _ hf)),af,bI (by simp only [List.length_cons,List.length_nil];omega),λl2 g2=>⟨l2,rfl,_,af,by simp only [List.length_append,List.length_cons,List.length_nil];omega,?_,(((s4.to f1).to f2).to g1).to g2,(((s4.to f1).to f2).to g1).free g2⟩⟩
   have A3:=A2.same (au.upd (o:=.lst (xs ++ [.ref t1,.ref t2])) g2)
   rw [List.append_assoc] at A3
   exact A3
  clear hf hxl hA s4 hn4 lf xs
  rintro Z' H5 ⟨lf,rfl,xs,hf,hxl,hA,s4,hn4⟩
  refine @aF _ _ _ _ _ _ _ (λZ' H'=>∃ lf,Z' = [some (.ref a),some (.ref lr),some (.int ((Gs.length:Nat) - 1:Int)),some (.int r),some (.int f),some (.int o),some (.ref lf),none] /\ jJ H H' Gs lf 7) (aC (i:=6) jq.nd rfl (Or.inl rfl) (aQ i6 (pv 6) (bC (aa (bR (aa ai (aa (aK (AL T) (hr.mono (by decide)) rfl T.zR T.mL.kp (T.mL.binds (by walk_at "4")) .nil aG (aa (pv 0) (aa ai (aa ai (aa (aQ bM (pv 2) ai) ah))))) (aa ai (aa ai (aa ai ah)))))) (aa (bR (aa ai (aa (pv 4) (aa ai (aa ai (aa ai ah)))))) (aa (bR (aa ai (aa (pv 3) (aa (pv 5) (aa ai (aa ai ah)))))) ah)))))) ?_ ?_
  ·refine ⟨_,rfl,_,rfl,_,rfl,_,_,rfl,rfl,a,ns,_,_,_,rfl,hS.same s4,hl,(by decide),(by decide),(by decide),(by decide),(by omega),(by omega),λd H6 h0 h1 h2 s6=>⟨by show 5 <= sizeLine;decide,λt1 f1=>⟨_,rfl,by show 5 <= sizeLine;decide,λt2 f2=>⟨_,rfl,_,rfl,by show 5 <= sizeLine;decide,λt3 f3=>⟨by show 3 <= sizeLine;decide,λl1 g1=>?_⟩⟩⟩⟩⟩
   have r1:Ref Gs 0 d 0 1 0:=DO (by decide) ⟨by omega,by omega⟩ b0 λ_ _ _=>by omega
   have A2:=((((hA.same s6).new f1 r1).new f2 (NZ (c:=0) (d:=0) bf b0 (npf 0))).new f3 (NZ (c:=0) (d:=0) br bo npl)).same (au.upd (o:=.lst [.ref t1,.ref t2,.ref t3]) g1)
   refine ⟨lf,l1,_,_,rfl,rfl,au.upd g1 _ _ (au.upd f3 _ _ (au.upd f2 _ _ (au.upd f1 _ _ (s6 _ _ hf)))),af,bI (by simp only [List.length_cons,List.length_nil];omega),λl2 g2=>⟨l2,rfl,_,af,by simp only [List.length_append,List.length_cons,List.length_nil];omega,?_,(((((s4.trans s6).to f1).to f2).to f3).to g1).to g2,(((((s4.trans s6).to f1).to f2).to f3).to g1).free g2⟩⟩
   have A3:=A2.same (au.upd (o:=.lst (xs ++ [.ref t1,.ref t2,.ref t3])) g2)
   rw [List.append_assoc,List.append_assoc] at A3
   exact A3
  clear hf hxl hA s4 hn4 lf xs
  rintro Z' H6 ⟨lf,rfl,F6⟩
  refine @aF _ _ _ _ _ _ _ (λZ' H'=>∃ lf y,Z' = [some (.ref a),some (.ref lr),some (.int ((Gs.length:Nat) - 1:Int)),some (.int r),some (.int f),some (.int o),some (.ref lf),y] /\ jJ H H' Gs lf 27) (dQ PassesOwn.never rfl (dZ (bC (aa ai (aa ai ah)))) (bK (i:=7) jq.nd rfl (Or.inl rfl)) ak) ?_ ?_
  ·refine ⟨by show 2 <= sizeLine;decide,λl0 g0=>⟨l0,rfl,⟨_,bB.of af⟩,e8 (xs:=[.int 2,.int 3]) (λi Z' H'=>∃ lf y,Z' = [some (.ref a),some (.ref lr),some (.int ((Gs.length:Nat) - 1:Int)),some (.int r),some (.int f),some (.int o),some (.ref lf),y] /\ jJ H H' Gs lf (7 + 10 * i) /\ lf ≠ l0 /\ H' l0 = some (.lst [.int 2,.int 3])) ?_ ?_ ?_ ?_⟩⟩
   ·obtain ⟨xs,e1,e2,e3,e4,e5⟩:=F6
    exact ⟨lf,none,rfl,⟨xs,au.upd g0 _ _ e1,e2,e3.same (au.upd g0),e4.trans (au.upd g0),e5⟩,aq e1 g0,af⟩
   ·rintro i Z' H' hi ⟨_,_,_,_,_,h⟩
    exact bB.of h
   ·rintro i v Z' H' hv ⟨lf,y,rfl,⟨xs,hf,hxl,hA,s4,hn4⟩,hne,h0⟩
    obtain ⟨wy,rfl,hw⟩:∃ wy:Int,v = .int wy /\ (wy = 2 ∨ wy = 3):=by
     rcases i with _ | _ | i
     ·exact ⟨2,(Option.some.inj hv).symm,.inl rfl⟩
     ·exact ⟨3,(Option.some.inj hv).symm,.inr rfl⟩
     ·cases hv
    have hi:i < 2:=by
     rcases i with _ | _ | i
     ·decide
     ·decide
     ·cases hv
    show At _ _ _ [some (.ref a),some (.ref lr),some (.int ((Gs.length:Nat) - 1:Int)),some (.int r),some (.int f),some (.int o),some (.ref lf),some (.int wy)] H'
    refine @aF _ _ _ _ _ _ _ (λZ' H'=>∃ lf,Z' = [some (.ref a),some (.ref lr),some (.int ((Gs.length:Nat) - 1:Int)),some (.int r),some (.int f),some (.int o),some (.ref lf),some (.int wy)] /\ jJ H H' Gs lf (7 + 10 * i + 4) /\ lf ≠ l0 /\ H' l0 = some (.lst [.int 2,.int 3])) (aC (i:=6) jq.nd rfl (Or.inl rfl) (aQ i6 (pv 6) (bC (aa (bR (aa (pv 7) (aa (pv 3) (aa (pv 5) (aa (pv 2) (aa ai ah)))))) (aa (bR (aa (pv 7) (aa (pv 4) (aa ai (aa (pv 3) (aa ai ah)))))) (aa (bR (aa (pv 7) (aa ai (aa ai (aa (pv 3) (aa (pv 5) ah)))))) (aa (bR (aa (pv 7) (aa ai (aa ai (aa (pv 4) (aa ai ah)))))) ah))))))) ?_ ?_
    ·refine ⟨_,rfl,_,rfl,_,rfl,_,rfl,_,rfl,by show 5 <= sizeLine;decide,λt1 f1=>⟨_,rfl,_,rfl,_,rfl,by show 5 <= sizeLine;decide,λt2 f2=>⟨_,rfl,_,rfl,_,rfl,by show 5 <= sizeLine;decide,λt3 f3=>⟨_,rfl,_,rfl,by show 5 <= sizeLine;decide,λt4 f4=>⟨by show 4 <= sizeLine;decide,λl1 g1=>?_⟩⟩⟩⟩⟩
     have bl:Bd (((Gs.length:Nat):Int) - 1):=⟨by omega,by omega⟩
     have A2:=(((hA.new f1 (Cs hw br bo bl b0 λz=>absurd z npl)).new f2 (Cs hw bf b0 br b0 λz=>absurd z (npf 0))).new f3 (Cs hw b0 b0 br bo λ_ z=>absurd z npl)).new f4 (Cs hw b0 b0 bf b0 λ_ z=>absurd z (npf 0))
     have S2:=((((au.upd f1).to f2).to f3).to f4).trans (au.upd (o:=.lst [.ref t1,.ref t2,.ref t3,.ref t4]) g1)
     refine ⟨lf,l1,_,_,rfl,rfl,S2 _ _ hf,af,bI (by simp only [List.length_cons,List.length_nil];omega),λl2 g2=>⟨l2,rfl,⟨_,af,by simp only [List.length_append,List.length_cons,List.length_nil];omega,?_,(s4.trans S2).trans (au.upd g2),(s4.trans S2).free g2⟩,(aq (S2 _ _ h0) g2).symm,au.upd g2 _ _ (S2 _ _ h0)⟩⟩
     have A3:=(A2.same (au.upd (o:=.lst [.ref t1,.ref t2,.ref t3,.ref t4]) g1)).same (au.upd (o:=.lst (xs ++ [.ref t1,.ref t2,.ref t3,.ref t4])) g2)
     rw [List.append_assoc,List.append_assoc,List.append_assoc] at A3
     exact A3
    clear hf hxl hA s4 hn4 hne lf xs h0
    rintro Z' H7 ⟨lf,rfl,⟨xs,hf,hxl,hA,s4,hn4⟩,hne,h0⟩
    refine @aF _ _ _ _ _ _ _ (λZ' H'=>Z' = [some (.ref a),some (.ref lr),some (.int ((Gs.length:Nat) - 1:Int)),some (.int r),some (.int f),some (.int o),some (.ref lf),some (.int wy)] /\ jJ H H' Gs lf (7 + 10 * i + 5) /\ H' l0 = some (.lst [.int 2,.int 3])) (aP (az iY (aL bz (by rfl) T.bO (by decide +kernel) (aa (aU aY (pv 1) (pv 3) (λ_ _=>rfl)) ah)) ai (aA _)) ak ak) ?_ ?_
    ·refine ⟨_,rfl,_,rfl,_,_,_,_,rfl,rfl,bB.of (s4 _ _ hlr),bq hrow,_,rfl,bI (by omega),_,_,rfl,rfl,_,rfl,cI (λhz0=>?_) (λ_=>aX ⟨rfl,⟨xs,hf,by omega,hA,s4,hn4⟩,h0⟩)⟩
     refine @ao _ _ _ _ _ _ (aR (cJ F.plainAttrs_list F.slot_list_append F.type_list_append bJ (pv 6) (aa (bR (aa (pv 7) (aa (pv 3) (aa (aL bz (by rfl) T.bO (by decide +kernel) (aa (aU aY (pv 1) (pv 3) (λ_ _=>rfl)) ah)) (aa (pv 3) (aa ai ah)))))) ah))) ⟨_,rfl,.inl ⟨rfl,_,bB.of hf⟩,_,rfl,_,rfl,_,rfl,_,rfl,_,_,_,_,rfl,rfl,bB.of (s4 _ _ hlr),bq hrow,_,rfl,bI (by omega),_,rfl,by show 5 <= sizeLine;decide,λt1 f1=>⟨lf,xs,_,rfl,rfl,au.upd f1 _ _ hf,dw (by omega),rfl,⟨_,af,by simp only [List.length_append,List.length_cons,List.length_nil];omega,?_,?_,hn4⟩,?_⟩⟩
     ·refine (hA.new f1 (Cs hw br ⟨by omega,by omega⟩ br b0 λ_ _=>?_)).upd (au.upd f1 _ _ hf)
      have:(G.row.length:Int) > 0:=hz0
      rw [HT.jM,if_pos rfl,HT.jM,if_neg (by omega)]
      exact decide_eq_true this
     ·exact λb ob hb=>by rw [aj (aq hb hn4)];exact au.upd f1 _ _ (s4 _ _ hb)
     ·rw [aj hne.symm];exact au.upd f1 _ _ h0
    rintro Z' H8 ⟨rfl,⟨xs,hf,hxl,hA,s4,hn4⟩,h0⟩
    refine @ao _ _ _ _ _ _ (aP (az iY (pv 3) ai (aA _)) ak ak) ⟨_,rfl,_,_,rfl,rfl,_,rfl,cI (λhz0=>?_) (λ_=>aX ⟨lf,_,rfl,⟨xs,hf,by omega,hA,s4,hn4⟩,hne,h0⟩)⟩
    refine @ao _ _ _ _ _ _ (aR (cJ F.plainAttrs_list F.slot_list_append F.type_list_append bJ (pv 6) (aa (bR (aa (pv 7) (aa (pv 3) (aa ai (aa (aQ jo (pv 3) ai) (aa ai ah)))))) ah))) ⟨_,rfl,.inl ⟨rfl,_,bB.of hf⟩,_,rfl,_,rfl,_,rfl,_,_,rfl,rfl,by show 5 <= sizeLine;decide,λt1 f1=>⟨lf,xs,_,rfl,rfl,au.upd f1 _ _ hf,dw (by omega),lf,_,rfl,⟨_,af,by simp only [List.length_append,List.length_cons,List.length_nil];omega,?_,?_,hn4⟩,hne,?_⟩⟩
    ·refine (hA.new f1 (Cs hw br b0 ⟨by omega,by omega⟩ b0 λ_ _=>?_)).upd (au.upd f1 _ _ hf)
     rw [HT.jM,if_neg (by omega)]
     exact decide_eq_true (by omega)
    ·exact λb ob hb=>by rw [aj (aq hb hn4)];exact au.upd f1 _ _ (s4 _ _ hb)
    ·rw [aj hne.symm];exact au.upd f1 _ _ h0
   ·rintro Z' H' ⟨lf,y,rfl,hF,_⟩
    exact ⟨lf,y,rfl,hF⟩
  rintro Z' H7 ⟨lf,y,rfl,⟨xs,hf,hxl,hA,s4,hn4⟩⟩
  refine @ao _ _ _ _ _ _ (aH (aQ i6 (pv 6) (bC (aa (bR (aa ai (aa (pv 4) (aa ai (aa ai (aa ai ah)))))) (aa (bR (aa ai (aa (pv 4) (aa ai (aa ai (aa ai ah)))))) (aa (bR (aa ai (aa (pv 4) (aa ai (aa ai (aa ai ah)))))) ah)))))) ⟨_,rfl,_,rfl,by show 5 <= sizeLine;decide,λt1 f1=>⟨_,rfl,by show 5 <= sizeLine;decide,λt2 f2=>⟨_,rfl,by show 5 <= sizeLine;decide,λt3 f3=>⟨by show 3 <= sizeLine;decide,λl1 g1=>?_⟩⟩⟩⟩
  have A2:=(((hA.new f1 (Kc (b:=0) (c:=0) (d:=0) (.inl rfl) bf nf)).new f2 (Kc (b:=0) (c:=0) (d:=0) (.inr (.inl rfl)) bf nf)).new f3 (Kc (b:=0) (c:=0) (d:=0) (.inr (.inr rfl)) bf nf)).same (au.upd (o:=.lst [.ref t1,.ref t2,.ref t3]) g1)
  refine ⟨lf,l1,_,_,rfl,rfl,au.upd g1 _ _ (au.upd f3 _ _ (au.upd f2 _ _ (au.upd f1 _ _ hf))),af,bI (by simp only [List.length_cons,List.length_nil];omega),λl2 g2=>q l2 _ _ af (by simp only [List.length_append,List.length_cons,List.length_nil];omega) ?_ ((((s4.to f1).to f2).to f3).to g1 |>.to g2)⟩
  have A3:=A2.same (au.upd (o:=.lst (xs ++ [.ref t1,.ref t2,.ref t3])) g2)
  rw [List.append_assoc,List.append_assoc] at A3
  exact A3
def Lu (s z:Str):Bool:=decide (s ∈ sorts) && (if bare s then decide (z = "") else decide (1 <= z.length /\ z.length <= 200 /\ 95 ∉ z.cps.toList /\ 10 ∉ z.cps.toList))
def HH (n:Nat) (R:bA):Bool:=Lu R.sort R.signs && (if bS R.sort = true then isName R.aO else decide (R.aO = "")) && decide (R.aW ∈ jN) && (match R.goal with
 | some g=>decide (gb R.aW /\ g < n)
 | none=>decide (¬ gb R.aW)) && decide (R.fold = "" ∨ R.fold = "open" ∨ R.fold = "close")
theorem CL {s z:Str} (h:Lu s z = true):oO s z:=by
 unfold Lu at h
 rw [Bool.and_eq_true] at h
 obtain ⟨h1,h2⟩:=h
 refine ⟨of_decide_eq_true h1,λhb=>?_,λhb=>?_⟩
 ·rw [if_pos hb] at h2;exact of_decide_eq_true h2
 ·rw [if_neg hb] at h2;exact of_decide_eq_true h2
theorem tV {names:List Str} {R:bA} (h:HH names.length R = true):fG names R:=by
 unfold HH at h
 rw [Bool.and_eq_true,Bool.and_eq_true,Bool.and_eq_true,Bool.and_eq_true] at h
 obtain ⟨⟨⟨⟨h1,h2⟩,h3⟩,h4⟩,h5⟩:=h
 refine ⟨CL h1,λhb=>?_,λhb=>?_,of_decide_eq_true h3,λhg=>?_,λhg=>?_,of_decide_eq_true h5⟩
 ·rw [if_pos hb] at h2;exact h2
 ·rw [hb] at h2;exact of_decide_eq_true h2
 ·cases e:R.goal with
  | some g=>rw [e] at h4;exact ⟨g,rfl,(of_decide_eq_true h4).2⟩
  | none=>rw [e] at h4;exact absurd hg (of_decide_eq_true h4)
 ·cases e:R.goal with
  | some g=>rw [e] at h4;exact absurd (of_decide_eq_true h4).1 hg
  | none=>rfl
def FA (its:List Item) (i:Nat):Bool:=match its[i]? with
 | some (.mode n c)=>isName n && isName c && decide ((namesOf (its.take i)).length < 12) && decide (n ∉ namesOf (its.take i))
 | some (.rule R)=>HH (namesOf its).length R && (match (foldI (its.take i)).getLast? with
  | some m=>decide (m.rules.length < 12)
  | none=>false)
 | none=>true
theorem CV {its:List Item} (h0:its ≠ []) (h:(List.range its.length).all (FA its) = true):eu its:=by
 have at_:∀ i it,its[i]? = some it -> FA its i = true:=λi it e=>List.all_eq_true.mp h i (List.mem_range.mpr (List.getElem?_eq_some_iff.mp e).1)
 refine ⟨h0,λi n c e=>?_,λi R e=>?_⟩
 ·have:=at_ i _ e
  unfold FA at this
  rw [e] at this
  dsimp only at this
  rw [Bool.and_eq_true,Bool.and_eq_true,Bool.and_eq_true] at this
  exact ⟨this.1.1.1,this.1.1.2,of_decide_eq_true this.1.2,of_decide_eq_true this.2⟩
 ·have:=at_ i _ e
  unfold FA at this
  rw [e] at this
  dsimp only at this
  rw [Bool.and_eq_true] at this
  refine ⟨tV this.1,?_⟩
  cases z:(foldI (its.take i)).getLast? with
  | none=>rw [z] at this;cases this.2
  | some m =>
   rw [z] at this
   obtain ⟨ms,e2⟩:=List.getLast?_eq_some_iff.mp z
   exact ⟨ms,m,e2,of_decide_eq_true this.2⟩
def L8 (ms:List aE):Bool:=decide (0 < ms.length) && decide (ms.length <= 200) && ms.all λm=>decide (m.rules.length <= 200) && m.rules.all λR=>HH ms.length R
theorem Ci {ms:List aE} (h:L8 ms = true):dR ms:=by
 unfold L8 at h
 rw [Bool.and_eq_true,Bool.and_eq_true] at h
 obtain ⟨⟨h1,h2⟩,h3⟩:=h
 have ru:∀ m ∈ ms,m.rules.length <= 200 /\ ∀ R ∈ m.rules,fG (ms.map (·.name)) R:=λm hm=>by
  have:=List.all_eq_true.mp h3 m hm
  rw [Bool.and_eq_true] at this
  exact ⟨of_decide_eq_true this.1,λR hR=>tV (by rw [List.length_map];exact List.all_eq_true.mp this.2 R hR)⟩
 refine ⟨of_decide_eq_true h1,of_decide_eq_true h2,λm hm=>⟨(ru m hm).1,λR hR=>?_⟩,λm hm R hR=>((ru m hm).2 R hR).aW,λm hm R hR hg=>?_⟩
 ·have g:=((ru m hm).2 R hR).pat
  refine ⟨g.sort,?_⟩
  by_cases hb:bare R.sort
  ·rw [g.Pn hb];decide +kernel
  ·exact (g.sg hb).2.1
 ·obtain ⟨g,e,h⟩:=((ru m hm).2 R hR).goal hg
  exact ⟨g,e,by rw [List.length_map] at h;exact h⟩
abbrev J6:List Str:=["mode a red","any red push b","mode b blue","many 'ab red pop","mode c red","one '( red stay"]
abbrev Pw:List Item:=[.mode "a" "red",.rule ⟨"any","","red","push",some 1,""⟩,.mode "b" "blue",.rule ⟨"many","ab","red","pop",none,""⟩,.mode "c" "red",.rule ⟨"one","(","red","stay",none,""⟩]
def mz (w:Nat) (s:Str):List Item:=Pw ++ match w with
 | 0=>[.rule ⟨s,"","","stay",none,""⟩]
 | 1=>[.rule ⟨s,"","","push",some 3,""⟩,.mode "d" "red",.rule ⟨s,"","","pop",none,""⟩]
 | 2=>[.rule ⟨s,"","","into",some 3,""⟩,.mode "d" "red",.rule ⟨s,"","","into",some 2,""⟩]
 | _=>[.rule ⟨s,"","","push",some 2,""⟩]
def lW (w:Nat) (s:Str):List Str:=J6 ++ match w with
 | 0=>[s ++ (" stay" : Str)]
 | 1=>[s ++ (" push d" : Str),"mode d red",s ++ (" pop" : Str)]
 | 2=>[s ++ (" into d" : Str),"mode d red",s ++ (" into c" : Str)]
 | _=>[s ++ (" push c" : Str)]
noncomputable def JD (its:List Item):Prop:=eu its /\ its.length <= 200 /\ dR (foldI its) /\ ∃ ring row,ic (foldI its) = some (ring,row)
def KG (its:List Item):Bool:=(List.range its.length).all (FA its) && decide (its.length <= 200) && L8 (foldI its) && (ic (foldI its)).isSome
theorem CS {its:List Item} (h0:its ≠ []) (h:KG its = true):JD its:=by
 unfold KG at h
 rw [Bool.and_eq_true,Bool.and_eq_true,Bool.and_eq_true] at h
 obtain ⟨⟨⟨h1,h2⟩,h3⟩,h4⟩:=h
 refine ⟨CV h0 h1,of_decide_eq_true h2,Ci h3,?_⟩
 cases e:ic (foldI its) with
 | none=>rw [e] at h4;cases h4
 | some x=>exact ⟨x.1,x.2,rfl⟩
theorem vV:∀ w < 4,∀ s ∈ (["still","end"]:List Str),KG (mz w s) = true /\ rowsOf (mz w s) = lW w s:=by decide +kernel
theorem GU {w:Nat} {s:Str} (hw:w < 4) (hs:s ∈ (["still","end"]:List Str)):JD (mz w s) /\ rowsOf (mz w s) = lW w s:=⟨CS (by unfold mz;simp) (vV w hw s hs).1,(vV w hw s hs).2⟩
theorem AR:∀ w < 4,∀ s ∈ (["still","end"]:List Str),(lW w s).length <= 20 /\ ((lW w s).map (·.length)).sum <= 1000:=by decide +kernel
noncomputable def Gb (K:PySem.W.Frag):Sp:=λvs H Q _=>∃ (a:Addr) (ns:List Int),vs = [.ref a] /\ bB K H a (ns.map V.int) /\ ns.length <= 63 /\ ∀ its H',JD its -> au H H' -> Q (.str (Str.join ⟨#[10]⟩ (rowsOf its))) H'
theorem Km (T:Txt K mg t):bw P w K mg base dP 2 t.pq t.xr ["_law_script"] (Gb K):=by
 refine T.xw.ok kQ ?_ ?_
 walk_at "i"
 ·obtain ⟨a,ns,rfl,hS,hl,q⟩:=h
  refine @av _ _ _ _ _ _ _ (@aC _ _ 1 _ _ _ _ kQ.nd rfl (Or.inl rfl) (@bC _ _ _ _ (@fM _ _ ["mode a red","any red push b","mode b blue","many 'ab red pop","mode c red","one '( red stay"] rfl)) (by left) (by left)) ⟨by show 6 <= sizeLine;decide,λl0 g0=>?_⟩
  refine @aF _ _ _ _ _ _ _ (λZ' H'=>∃ wy:Nat,wy < 4 /\ Z' = [some (.ref a),some (.ref l0),some (.int wy),none] /\ H' l0 = some (.lst (J6.map V.str)) /\ au H H') (aC (i:=2) kQ.nd rfl (Or.inl rfl) (aK (d7 T) (hr.mono (by decide)) rfl T.d8 T.b7.kp (T.b7.binds (by walk_at "3")) .nil aG (aa (pv 0) (aa ai (aa ai ah))))) ?_ ?_
  ·refine ⟨_,rfl,a,ns,_,_,rfl,hS.same (au.upd g0),(by decide),(by decide),(by decide),hl,λd H1 h0 h1 s1=>?_⟩
   obtain ⟨wy,rfl⟩:∃ wy:Nat,d = wy:=⟨d.toNat,by omega⟩
   exact ⟨wy,by omega,rfl,s1 _ _ af,(au.upd g0).trans s1⟩
  rintro Z' H1 ⟨wy,hw,rfl,h1,s1⟩
  refine @aF _ _ _ _ _ _ _ (λZ' H'=>∃ so:Str,so ∈ (["still","end"]:List Str) /\ Z' = [some (.ref a),some (.ref l0),some (.int wy),some (.str so)] /\ H' l0 = some (.lst (J6.map V.str)) /\ au H H') (aC (i:=3) kQ.nd rfl (Or.inl rfl) (aU aY (bC (aa aM (aa aM ah))) (aK (d7 T) (hr.mono (by decide)) rfl T.d8 T.b7.kp (T.b7.binds (by walk_at "3")) .nil aG (aa (pv 0) (aa ai (aa ai ah)))) (λ_ _=>rfl))) ?_ ?_
  ·refine ⟨by show 2 <= sizeLine;decide,λl1 g1=>⟨_,rfl,a,ns,_,_,rfl,(hS.same s1).same (au.upd g1),(by decide),(by decide),(by decide),hl,λd H2 h0 h2 s2=>?_⟩⟩
   obtain ⟨so,hso,e⟩:=pick (xs:=["still","end"]) h0 h2
   exact ⟨_,_,_,_,rfl,rfl,bB.of (s2 _ _ af),e,so,hso,rfl,s2 _ _ (au.upd g1 _ _ h1),(s1.to g1).trans s2⟩
  rintro Z' H2 ⟨so,hso,rfl,h2,s2⟩
  obtain ⟨R1,R2⟩:=GU hw hso
  obtain ⟨R3,R4⟩:=AR wy hw so hso
  have sl:so.length <= 10:=by
   simp only [List.mem_cons,List.not_mem_nil,or_false] at hso
   rcases hso with rfl | rfl <;> decide +kernel
  refine @aF _ _ _ _ _ _ _ (λZ' H'=>∃ lr,Z' = [some (.ref a),some (.ref lr),some (.int wy),some (.str so)] /\ H' lr = some (.lst ((lW wy so).map V.str)) /\ au H H') (aP (az bE (pv 2) ai (aA _)) ak ak) ?_ ?_
  ·have n0:H l0 = none:=g0
   rcases wy with _ | _ | _ | _ | wy
   ·refine ⟨_,rfl,rfl,_,rfl,cI (λ_=>?_) (λz=>absurd rfl z)⟩
    refine @ao _ _ _ _ _ _ (aR (cJ F.plainAttrs_list F.slot_list_append F.type_list_append bJ (pv 1) (aa (aQ ek (pv 3) aM) ah))) ⟨_,rfl,.inl ⟨rfl,_,bB.of h2⟩,_,rfl,_,_,rfl,rfl,bI (by rw [show (Str.ofString " stay").length = 5 by decide +kernel];omega),l0,_,_,rfl,rfl,h2,by show 6 < sizeLine;decide,l0,rfl,af,λb o hb=>by rw [aj (aq hb n0)];exact s2 _ _ hb⟩
   ·refine ⟨_,rfl,rfl,_,rfl,cI (λz=>absurd (V.int.inj z) (by decide)) (λ_=>?_)⟩
    refine @ao _ _ _ _ _ _ (aP (az bE (pv 2) ai (aA _)) ak ak) ⟨_,rfl,rfl,_,rfl,cI (λ_=>?_) (λz=>absurd rfl z)⟩
    exact @ao _ _ _ _ _ _ (aC (i:=1) kQ.nd rfl (Or.inl rfl) (aQ i6 (pv 1) (bC (aa (aQ ek (pv 3) aM) (aa aM (aa (aQ ek (pv 3) aM) ah)))))) ⟨_,rfl,_,rfl,_,_,rfl,rfl,bI (by rw [show (Str.ofString " push d").length = 7 by decide +kernel];omega),_,rfl,_,_,rfl,rfl,bI (by rw [show (Str.ofString " pop").length = 4 by decide +kernel];omega),by show 3 <= sizeLine;decide,λl1 g1=>⟨l0,l1,_,_,rfl,rfl,au.upd g1 _ _ h2,af,by show 9 <= sizeLine;decide,λl2 g2=>⟨l2,rfl,af,(s2.to g1).to g2⟩⟩⟩
   ·refine ⟨_,rfl,rfl,_,rfl,cI (λz=>absurd (V.int.inj z) (by decide)) (λ_=>?_)⟩
    refine @ao _ _ _ _ _ _ (aP (az bE (pv 2) ai (aA _)) ak ak) ⟨_,rfl,rfl,_,rfl,cI (λz=>absurd (V.int.inj z) (by decide)) (λ_=>?_)⟩
    refine @ao _ _ _ _ _ _ (aP (az bE (pv 2) ai (aA _)) ak ak) ⟨_,rfl,rfl,_,rfl,cI (λ_=>?_) (λz=>absurd rfl z)⟩
    exact @ao _ _ _ _ _ _ (aC (i:=1) kQ.nd rfl (Or.inl rfl) (aQ i6 (pv 1) (bC (aa (aQ ek (pv 3) aM) (aa aM (aa (aQ ek (pv 3) aM) ah)))))) ⟨_,rfl,_,rfl,_,_,rfl,rfl,bI (by rw [show (Str.ofString " into d").length = 7 by decide +kernel];omega),_,rfl,_,_,rfl,rfl,bI (by rw [show (Str.ofString " into c").length = 7 by decide +kernel];omega),by show 3 <= sizeLine;decide,λl1 g1=>⟨l0,l1,_,_,rfl,rfl,au.upd g1 _ _ h2,af,by show 9 <= sizeLine;decide,λl2 g2=>⟨l2,rfl,af,(s2.to g1).to g2⟩⟩⟩
   ·refine ⟨_,rfl,rfl,_,rfl,cI (λz=>absurd (V.int.inj z) (by decide)) (λ_=>?_)⟩
    refine @ao _ _ _ _ _ _ (aP (az bE (pv 2) ai (aA _)) ak ak) ⟨_,rfl,rfl,_,rfl,cI (λz=>absurd (V.int.inj z) (by decide)) (λ_=>?_)⟩
    refine @ao _ _ _ _ _ _ (aP (az bE (pv 2) ai (aA _)) ak ak) ⟨_,rfl,rfl,_,rfl,cI (λz=>absurd (V.int.inj z) (by decide)) (λ_=>?_)⟩
    exact @ao _ _ _ _ _ _ (aC (i:=1) kQ.nd rfl (Or.inl rfl) (aQ i6 (pv 1) (bC (aa (aQ ek (pv 3) aM) ah)))) ⟨_,rfl,_,rfl,_,_,rfl,rfl,bI (by rw [show (Str.ofString " push c").length = 7 by decide +kernel];omega),by show 1 <= sizeLine;decide,λl1 g1=>⟨l0,l1,_,_,rfl,rfl,au.upd g1 _ _ h2,af,by show 7 <= sizeLine;decide,λl2 g2=>⟨l2,rfl,af,(s2.to g1).to g2⟩⟩⟩
   ·omega
  rintro Z' H3 ⟨lr,rfl,h3,s3⟩
  refine @ao _ _ _ _ _ _ (aH (cJ F.plainAttrs_str F.slot_str_join F.type_str_join mS aM (aa (pv 1) ah))) ⟨rfl,_,rfl,_,lr,_,rfl,rfl,bB.of h3,?_,?_⟩
  ·rw [show (Str.ofString "\n").length = 1 by decide +kernel]
   exact bI (by omega)
  ·rw [join_eq,← R2]
   exact q _ H3 R1 s3
noncomputable def BG (K:PySem.W.Frag):Sp:=λvs H Q _=>∃ (a:Addr) (ns:List Int),vs = [.ref a] /\ bB K H a (ns.map V.int) /\ ns.length <= 63 /\ ∀ H',Q (.bl true) H'
theorem on0 {ms:List aE} (h:0 < ms.length):iC ms [0]:=⟨by simp,λx hx=>by rw [List.mem_singleton.mp hx];exact h⟩
theorem w0 {ms:List aE} (h:ms.length <= 4):max (wsum ms.length [0]) 4 <= 4:=by rw [gy];omega
theorem DL {S:Addr -> Prop} {G H:Hp} (s:au G H) (h:∀ b o,G b = some o -> ¬ S b):au G (hid S H):=λb o e=>cB (s _ _ e) (h b o e)
noncomputable def Gv (rs:List Str):Prop:=∀ x ∈ rs,x.length <= 8 /\ ∀ c ∈ x.cps.toList,c ∈ Ck
theorem LL {f:Addr} {fd:FuncData} (F:bG K "law" "law" BV f fd) (T:Txt K mg t):bw P w K mg base dP 9 f fd ["_law_script"] (BG K):=by
 refine F.ok gF ?_ ?_
 walk_at "i"
 ·obtain ⟨a,ns,rfl,hS,hl,q⟩:=h
  refine @av _ _ _ _ _ _ _ (aC (i:=1) gF.nd rfl (Or.inl rfl) (aK (MI T) (hr.mono (by decide)) rfl T.Kn T.wB.kp (T.wB.binds (by walk_at "2")) .nil aG (aa (pv 0) (aa ai ah)))) ⟨_,rfl,a,ns,_,rfl,hS,hl,(by decide),(by decide),λms lm H1 L hL s1=>?_⟩
  obtain ⟨calm,B⟩:=L.b
  have hS1:=hS.same s1
  refine @aF _ _ _ _ _ _ _ (λZ' H'=>∃ (rs:List Str) (lr:Addr),rs ≠ [] /\ rs.length <= 5 /\ Gv rs /\ H' lr = some (.lst (rs.map V.str)) /\ Z' = [some (.ref a),some (.ref lm),some (.ref lr),none,none,none,none,none,none,none,none,none] /\ au H1 H') (@IE _ 2 _ (ay BV) _ ["_law_script","_law_modes_here","_law_rows","_law_text_here","_law_kept","_law_way","_law_a","_law_b","_law_c","_law_d","_law_told","_law_e"] _ _ ("_law_k") _ _ _ _ [("_law_script",0)] _ _ gF.nd rfl (Or.inl rfl) (by walk_at "ck") (@gi _ _ _ _ _ _ rfl T.gU (@aa _ _ _ _ _ (@aQ _ _ _ _ _ _ _ _ bM ai (@aK _ _ _ _ _ _ _ _ _ _ _ _ _ _ _ _ (d7 T) (hr.mono (by decide)) rfl T.d8 T.b7.kp (T.b7.binds (by walk_at "3")) .nil aG (@aa _ _ _ _ _ (pv 0) (@aa _ _ _ _ _ ai (@aa _ _ _ _ _ ai ah (by left)) (by left)) (by left)) (by left) (by left) (by left))) ah (by left)) (by left)) (λ_ _ _ _=>by exact (@aK _ _ _ _ _ _ _ _ _ _ _ _ _ _ _ _ (LQ T) (hr.mono (by decide)) rfl T.Ls T.xT.kp (T.xT.binds (by walk_at "3")) .nil aG (@aa _ _ _ _ _ (pv 0) (@aa _ _ _ _ _ (@aQ _ _ _ _ _ _ _ _ bM ai (@aQ _ _ _ _ _ _ _ _ lB ai (pv 1))) (@aa _ _ _ _ _ ai ah (by left)) (by left)) (by left)) (by left) (by left) (by left))) (by left) (by left) (by left) (by left) (by left) (by left)) ?_ ?_
  ·refine ⟨_,rfl,a,ns,_,_,rfl,hS1,(by decide),(by decide),(by decide),hl,λd H5 h0 h1 s5=>⟨_,_,rfl,rfl,?_⟩⟩
   refine ⟨1 + d,rfl,by omega,by omega,lK (n:=(1 + d).toNat) (λj ys H6=>∃ rs:List Str,ys = rs.map V.str /\ Gv rs /\ au H1 H6) ⟨[],rfl,(λx hx=>by simp at hx),s5⟩ (dw (by omega)) ?_ ?_⟩
   ·rintro j ys H6 hj hyl ⟨rs,rfl,hrs,s6⟩
    refine ⟨_,rfl,_,rfl,_,_,rfl,rfl,.inl ⟨by decide,by decide⟩,_,_,rfl,rfl,a,ns,_,9,rfl,hS1.same s6,hl,(by omega),(by omega),(by decide),(by decide),λz H7 z1 z2 s7=>ez hj hyl ⟨rs ++ [z],by rw [List.map_append];rfl,λx hx=>?_,s6.trans s7⟩⟩
    rcases List.mem_append.mp hx with hx | hx
    ·exact hrs x hx
    ·rw [List.mem_singleton.mp hx];exact ⟨by omega,z2⟩
   ·rintro ys H6 hyl ⟨rs,rfl,hrs,s6⟩ D hD
    rw [List.length_map] at hyl
    exact ⟨rs,D,(λz=>by rw [z] at hyl;simp at hyl;omega),by omega,hrs,af,rfl,s6.to hD⟩
  rintro Z' H5 ⟨rs,lr,hne,hrl,hrs,hlr,rfl,s5⟩
  have hS5:=hS1.same s5
  have hL5:=hL.same s5
  obtain ⟨Gs,hC⟩:=yb L rs [0] 4 8 hrs (by decide) (on0 B.pos) (w0 B.four) (by omega)
  have hGl:=hC.len
  have hGr:=hC.rows
  have hGz:∀ G ∈ Gs,G.row.length <= 1000:=λG hG=>by
   have:G.row ∈ rs:=by rw [← hGr];exact List.mem_map_of_mem hG
   have:=(hrs _ this).1
   omega
  refine @av _ _ _ _ _ _ _ (aC (i:=3) gF.nd rfl (Or.inl rfl) (e7 T.ku (Mq T) (hr.mono (by decide)) rfl T.qw (T.tP.binds (by walk_at "3")) .nil aG (aa (aK (zJ T) (hr.mono (by decide)) rfl T.AB T.mW.kp (T.mW.binds (by walk_at "1")) .nil aG (aa (aK (GP T) (hr.mono (by decide)) rfl T.Fy T.rK.kp (T.rK.binds (by walk_at "1")) .nil aG (aa (pv 1) ah)) ah)) (aa (pv 2) ah)))) ⟨_,rfl,lm,ms,calm,rfl,hL5,B,λH2 s2=>⟨itemsOf ms,rfl,B.items,(by have:=B.Fw;omega),λr H3 hR s3=>?_⟩⟩
  rw [pP] at hR
  have s3:=s2.trans s3
  refine ⟨_,rfl,λx dx nx ndx ne=>⟨x,dx,r,lr,λ_=>False,ms,rs,Gs,rfl,af,(λz=>z),Ex.none _,?_,B.uS,L.ring,bZ nx ndx _ _ (s3 _ _ hlr),by omega,hC,λa1 lg gs H6 I6 f6 a6=>⟨rfl,?_⟩⟩⟩
  ·exact hR.same (DL (bZ nx ndx) λb o e z=>z.elim (λz=>z) (λz=>aq e nx z))
  have s6:au H5 H6:=λb o hb=>a6 b o (bZ nx ndx _ _ (s3 _ _ hb)) (aq (s3 _ _ hb) nx)
  have I6:=I6.same bX
  refine @av _ _ _ _ _ _ _ (aC (i:=4) gF.nd rfl (Or.inl rfl) (aK (ML T) (hr.mono (by decide)) rfl T.LF T.xU.kp (T.xU.binds (by walk_at "2")) .nil aG (aa (pv 1) (aa (pv 2) ah)))) ⟨_,rfl,_,rfl,λ_=>False,lm,lr,ms,rs,Gs,rfl,(λ_ z=>z.elim),hL5.same s6,L.wk,s6 _ _ hlr,by omega,hC,λlq H7 hK7 f7 s7=>?_⟩
  have hK7:=hK7.same bX
  have I7:=I6.same s7
  have hS7:=hS5.same (s6.trans s7)
  have hlr7:=(s6.trans s7) _ _ hlr
  clear s1 s5 s2 s3 s6 s7 I6 f6 a6 hL hL5 hS hS1 hS5 hlr hR f7
  show At _ _ _ [some (.ref a),some (.ref lm),some (.ref lr),some (.ref x),some (.ref lq),none,none,none,none,none,none,none] H7
  refine @aF _ _ _ _ _ _ _ (λZ' H'=>(∃ x5 x6 x7 x8 x9,Z' = [some (.ref a),some (.ref lm),some (.ref lr),some (.ref x),some (.ref lq),x5,x6,x7,x8,x9,none,none]) /\ au H7 H') (dQ PassesOwn.never rfl (dZ (aK (Ku T) (hr.mono (by decide)) rfl T.Kh T.yu.kp (T.yu.binds (by walk_at "2")) .nil aG (aa (pv 0) (aa (pv 2) ah)))) (pJ rfl (cE (bK (i:=5) gF.nd rfl (Or.inl rfl)) (cE (bK (i:=6) gF.nd rfl (Or.inl rfl)) (cE (bK (i:=7) gF.nd rfl (Or.inl rfl)) (cE (bK (i:=8) gF.nd rfl (Or.inl rfl)) (cE (bK (i:=9) gF.nd rfl (Or.inl rfl)) mQ)))))) ak) ?_ ?_
  ·refine ⟨_,rfl,_,rfl,a,lr,ns,Gs,rfl,hS7,hl,(by rw [hGr];exact hlr7),(by rw [hGl];exact List.length_pos_iff.mpr hne),by omega,hGz,λl xs H8 h8 hxl hA s8=>?_⟩
   refine ⟨l,rfl,⟨_,bB.of h8⟩,e8 (xs:=xs) (λi Z' H'=>(∃ x5 x6 x7 x8 x9,Z' = [some (.ref a),some (.ref lm),some (.ref lr),some (.ref x),some (.ref lq),x5,x6,x7,x8,x9,none,none]) /\ au H8 H') ⟨⟨_,_,_,_,_,rfl⟩,au.refl _⟩ ?_ ?_ ?_⟩
   ·rintro i Z' H' _ ⟨_,s9⟩
    exact bB.of (s9 _ _ h8)
   ·rintro i v Z' H9 hv ⟨⟨x5,x6,x7,x8,x9,rfl⟩,s9⟩
    obtain ⟨tp,wy,i1,i2,i3,i4,rfl,ht,hr1⟩:=hA v (List.mem_of_getElem? hv)
    refine ⟨tp,[.int wy,.int i1,.int i2,.int i3,.int i4],rfl,fY.of (s9 _ _ ht),rfl,_,_,rfl,_,_,rfl,_,_,rfl,_,_,rfl,_,_,rfl,rfl,?_⟩
    show At _ _ _ [some (.ref a),some (.ref lm),some (.ref lr),some (.ref x),some (.ref lq),some (.int wy),some (.int i1),some (.int i2),some (.int i3),some (.int i4),none,none] H9
    refine @ao _ _ _ _ _ _ (aP (PW.pt (i9 (az t8 (aK (L7 T) (hr.mono (by decide)) rfl T.MP T.yP.kp (T.yP.binds (by walk_at "6")) .nil aG (aa (pv 3) (aa (pv 5) (aa (pv 6) (aa (pv 7) (aa (pv 8) (aa (pv 9) ah))))))) aM (aA _)) (iG (kU (gG (aK (KY T) (hr.mono (by decide)) rfl T.JW T.wH.kp (T.wH.binds (by walk_at "2")) .nil aG (aa (pv 3) (aa (pv 4) ah)))))))) ak ak) ⟨_,rfl,_,rfl,_,rfl,_,rfl,_,rfl,_,rfl,x,dx,a1,lg,gs,ms,Gs,wy,i1,i2,i3,i4,rfl,I7.same (s8.trans s9),hGz,hr1,λH10 s10=>⟨rfl,_,rfl,iB (λz=>absurd rfl z) (λ_=>?_)⟩⟩
    refine ⟨_,rfl,_,rfl,x,dx,a1,lg,lq,gs,ms,Gs,rfl,(I7.same (s8.trans s9)).same s10,hK7.same ((s8.trans s9).trans s10),by omega,λH11 s11=>⟨true,rfl,sr (aX ⟨⟨_,_,_,_,_,rfl⟩,(s9.trans s10).trans s11⟩)⟩⟩
   ·rintro Z' H' ⟨hZ,s9⟩
    exact ⟨hZ,s8.trans s9⟩
  rintro Z' H8 ⟨⟨x5,x6,x7,x8,x9,rfl⟩,s8⟩
  refine @av _ _ _ _ _ _ _ (aC (i:=10) gF.nd rfl (Or.inl rfl) aM) ?_
  show At _ _ _ [some (.ref a),some (.ref lm),some (.ref lr),some (.ref x),some (.ref lq),x5,x6,x7,x8,x9,some (.str "made"),none] H8
  refine @aF _ _ _ _ _ _ _ (λZ' H'=>∃ y,Z' = [some (.ref a),some (.ref lm),some (.ref lr),some (.ref x),some (.ref lq),x5,x6,x7,x8,x9,some (.str "rings"),y]) (Bs (i:=11) rfl rfl gF.nd rfl rfl rfl T.jr (by decide) T.nM.at_) ?_ ?_
  ·refine ⟨λZ' C e H'=>Z' = [some (.ref a),some (.ref lm),some (.ref lr),some (.ref x),some (.ref lq),x5,x6,x7,x8,x9,some (.str "made"),none] /\ C = t.aN /\ ∃ dx fs,H' e = some (gr e t.aN (some dx)) /\ H' dx = some (.xd fs),λpins=>?_,?_⟩
   ·refine @ao _ _ _ _ _ _ (aR (FE T.ku (kJ T) (hr.mono (by decide)) rfl T.qw (T.tP.binds (by walk_at "3")) .nil (aa (aK (zJ T) (hr.mono (by decide)) rfl T.AB T.mW.kp (T.mW.binds (by walk_at "1")) .nil aG (aa (aK (Km T) (hr.mono (by decide)) rfl T.Jp T.xw.kp (T.xw.binds (by walk_at "1")) .nil aG (aa (pv 0) ah)) ah)) (aa (bC (aa aM ah)) ah)))) ⟨_,rfl,a,ns,rfl,hS7.same s8,hl,λits H9 ⟨hI,hI2,hI3,ring,row,hI4⟩ s9=>⟨its,rfl,hI,hI2,λr H10 hR s10=>⟨by show 1 <= sizeLine;decide,λl1 g1=>?_⟩⟩⟩
    refine ⟨λCv eo H'=>∃ e dx fs,Cv = .ref t.aN /\ eo = some e /\ H' e = some (gr e t.aN (some dx)) /\ H' dx = some (.xd fs),gY rfl rfl ?_,λx2 dx2 nx ndx ne=>⟨x2,dx2,r,foldI its,.ref l1,ring,row,rfl,af,hR.same ((au.upd g1).trans (bZ nx ndx)),hI3,hI4,λe dx l2 H' h1 h2 h3 h4=>⟨e,dx,_,rfl,rfl,h1,h2⟩⟩⟩
    rintro C e H' ⟨e2,dx,fs,z1,z2,h3⟩
    cases z1
    cases z2
    exact ⟨rfl,rfl,dx,fs,h3⟩
   ·rintro Z' C e H3 ⟨rfl,rfl,dx,fs,he,hd⟩
    refine ⟨T.kB.at_,T.fP,?_⟩
    exact @ao _ _ _ _ _ _ (aC (i:=10) gF.nd rfl (Or.inl rfl) (zF (DM T) ((hr.mono (show 1 <= 8 by decide)).less.mark _) rfl T.F8 T.qu.kp (T.qu.binds (by walk_at "1")) aG (aa (pv 11) ah))) ⟨_,rfl,e,t.aN,some dx,false,rfl,he,(λdx2 z=>by cases z;exact ⟨fs,hd⟩),HS T,λH4 s4=>⟨_,rfl⟩⟩
  rintro Z' H9 ⟨y,rfl⟩
  exact @ao _ _ _ _ _ _ (aH (gv bE (pv 10) aM (aA _))) ⟨_,rfl,rfl,q H9⟩
end
theorem all_mk {l:W.OpenLaw} {w:World} {K:W.Frag} {h:Heap} {mg:Str -> Option Value} {fa bg cO aN aI cP dJ dM iT bY cV bh b6 dB bP dF cK bV cT bx aJ bu mV sF jy nX mC mX nI lY mw oG lX mU ou mO mD vg vp mR lQ nY n6 nK nL lS nJ mq lU mT nU oz oF nV oq lO mK oE oB nW xN vN yy xj xY wL yE vL rA rQ qG pX p6 qC ow rV rJ qT pe o7 qx qK rD rq r8 rZ qo qy qW rM qI qH qL pV rY qR pQ rP qD qt pZ qN qY pq f_law eN jg jC jn:Addr} {xV Bp qb wA uh um vK uz tN yU sW ud yO sP uy CH B7 sS tQ vZ zk wU yw tu xR t9 uB tX yh xu wM wg wj tT ue v7 yY yC DN Di FG Dw GA D7 F4 DH wV yZ xq w6 xK yL tL yg yc v5 zG xF zq zm zj wX zu vH xH ye xP xG v9 zy zE yx yD zB xE zc yV yp zp zg vQ xr d_law:FuncData} {u_LETTERS u_LONGEST_NAME u_START u_SIGNS u_MOST_MODES u_MOST_RULES u0_PATTERNS u1_PATTERNS u2_PATTERNS u3_PATTERNS u4_PATTERNS u5_PATTERNS u6_PATTERNS u0_DEEDS u1_DEEDS u2_DEEDS u3_DEEDS u0_GOING u1_GOING u0_FOLDS u1_FOLDS:Tok} {od_PATTERNS od_DEEDS od_GOING od_FOLDS:Option Addr} {n_PATTERNS n_DEEDS n_GOING n_FOLDS:Nat} {sl_PATTERNS sl_DEEDS sl_GOING sl_FOLDS:Array (Option Value)} (X:K.In h) (G:h.Ns mainGlobals mg) (hfa:mg "law" = some (.ref fa))
  (a_TintError:W.nsIn K mainGlobals "TintError" = some (some (.ref bg)))
  (a_NoRules:W.nsIn K mainGlobals "NoRules" = some (some (.ref cO)))
  (a_Rings:W.nsIn K mainGlobals "Rings" = some (some (.ref aN)))
  (a_NoPlace:W.nsIn K mainGlobals "NoPlace" = some (some (.ref aI)))
  (a_Nothing:W.nsIn K mainGlobals "Nothing" = some (some (.ref cP)))
  (a_NoMark:W.nsIn K mainGlobals "NoMark" = some (some (.ref dJ)))
  (a_NoLine:W.nsIn K mainGlobals "NoLine" = some (some (.ref dM)))
  (a_Pattern:W.nsIn K mainGlobals "Pattern" = some (some (.ref iT)))
  (a_Word:W.nsIn K mainGlobals "Word" = some (some (.ref bY)))
  (a_One:W.nsIn K mainGlobals "One" = some (some (.ref cV)))
  (a_Without:W.nsIn K mainGlobals "Without" = some (some (.ref bh)))
  (a_Many:W.nsIn K mainGlobals "Many" = some (some (.ref b6)))
  (a_Any:W.nsIn K mainGlobals "Any" = some (some (.ref dB)))
  (a_Still:W.nsIn K mainGlobals "Still" = some (some (.ref bP)))
  (a_End:W.nsIn K mainGlobals "End" = some (some (.ref dF)))
  (a_Rule:W.nsIn K mainGlobals "Rule" = some (some (.ref cK)))
  (a_Mode:W.nsIn K mainGlobals "Mode" = some (some (.ref bV)))
  (a_Rules:W.nsIn K mainGlobals "Rules" = some (some (.ref cT)))
  (a_GoneRow:W.nsIn K mainGlobals "GoneRow" = some (some (.ref bx)))
  (a_Tinted:W.nsIn K mainGlobals "Tinted" = some (some (.ref aJ)))
  (a_Cursor:W.nsIn K mainGlobals "Cursor" = some (some (.ref bu)))
  (a_q22:W.findIn K (.ref aN) "__init__" = some (some (.ref mV)))
  (i_q22:W.isFn K (.ref mV) = true)
  (Bh:bG K "__init__" "Rings.__init__" Dv mV xV)
  (a_q20:W.findIn K (.ref iT) "eaten" = some (some (.ref sF)))
  (i_q20:W.isFn K (.ref sF) = true)
  (I9:bG K "eaten" "Pattern.eaten" Fz sF Bp)
  (a_q21:W.findIn K (.ref iT) "eats" = some (some (.ref jy)))
  (i_q21:W.isFn K (.ref jy) = true)
  (rT:bG K "eats" "Pattern.eats" CZ jy qb)
  (a_q46:W.findIn K (.ref bY) "__init__" = some (some (.ref nX)))
  (i_q46:W.isFn K (.ref nX) = true)
  (Bl:bG K "__init__" "Word.__init__" Dj nX wA)
  (a_q47:W.findIn K (.ref bY) "eaten" = some (some (.ref mC)))
  (i_q47:W.isFn K (.ref mC) = true)
  (zo:bG K "eaten" "Word.eaten" Ge mC uh)
  (a_q48:W.findIn K (.ref bY) "eats" = some (some (.ref mX)))
  (i_q48:W.isFn K (.ref mX) = true)
  (zD:bG K "eats" "Word.eats" FZ mX um)
  (a_q17:W.findIn K (.ref cV) "__init__" = some (some (.ref nI)))
  (i_q17:W.isFn K (.ref nI) = true)
  (A4:bG K "__init__" "One.__init__" FT nI vK)
  (a_q18:W.findIn K (.ref cV) "eaten" = some (some (.ref lY)))
  (i_q18:W.isFn K (.ref lY) = true)
  (vI:bG K "eaten" "One.eaten" EU lY uz)
  (a_q19:W.findIn K (.ref cV) "eats" = some (some (.ref mw)))
  (i_q19:W.isFn K (.ref mw) = true)
  (vY:bG K "eats" "One.eats" D8 mw tN)
  (a_q43:W.findIn K (.ref bh) "__init__" = some (some (.ref oG)))
  (i_q43:W.isFn K (.ref oG) = true)
  (A7:bG K "__init__" "Without.__init__" Fg oG yU)
  (a_q44:W.findIn K (.ref bh) "eaten" = some (some (.ref lX)))
  (i_q44:W.isFn K (.ref lX) = true)
  (w9:bG K "eaten" "Without.eaten" FH lX sW)
  (a_q45:W.findIn K (.ref bh) "eats" = some (some (.ref mU)))
  (i_q45:W.isFn K (.ref mU) = true)
  (yN:bG K "eats" "Without.eats" GC mU ud)
  (a_q12:W.findIn K (.ref b6) "__init__" = some (some (.ref ou)))
  (i_q12:W.isFn K (.ref ou) = true)
  (BD:bG K "__init__" "Many.__init__" DZ ou yO)
  (a_q13:W.findIn K (.ref b6) "eaten" = some (some (.ref mO)))
  (i_q13:W.isFn K (.ref mO) = true)
  (wc:bG K "eaten" "Many.eaten" FQ mO sP)
  (a_q14:W.findIn K (.ref b6) "eats" = some (some (.ref mD)))
  (i_q14:W.isFn K (.ref mD) = true)
  (zz:bG K "eats" "Many.eats" G4 mD uy)
  (a_q0:W.findIn K (.ref dB) "eaten" = some (some (.ref vg)))
  (i_q0:W.isFn K (.ref vg) = true)
  (DP:bG K "eaten" "Any.eaten" MA vg CH)
  (a_q1:W.findIn K (.ref dB) "eats" = some (some (.ref vp)))
  (i_q1:W.isFn K (.ref vp) = true)
  (E6:bG K "eats" "Any.eats" KZ vp B7)
  (a_q25:W.findIn K (.ref bP) "eaten" = some (some (.ref mR)))
  (i_q25:W.isFn K (.ref mR) = true)
  (zl:bG K "eaten" "Still.eaten" FW mR sS)
  (a_q10:W.findIn K (.ref dF) "eaten" = some (some (.ref lQ)))
  (i_q10:W.isFn K (.ref lQ) = true)
  (zb:bG K "eaten" "End.eaten" En lQ tQ)
  (a_q23:W.findIn K (.ref cK) "__init__" = some (some (.ref nY)))
  (i_q23:W.isFn K (.ref nY) = true)
  (wI:bG K "__init__" "Rule.__init__" C0 nY vZ)
  (a_q15:W.findIn K (.ref bV) "__init__" = some (some (.ref n6)))
  (i_q15:W.isFn K (.ref n6) = true)
  (ze:bG K "__init__" "Mode.__init__" DR n6 zk)
  (a_q24:W.findIn K (.ref cT) "__init__" = some (some (.ref nK)))
  (i_q24:W.isFn K (.ref nK) = true)
  (yq:bG K "__init__" "Rules.__init__" GZ nK wU)
  (a_q11:W.findIn K (.ref bx) "__init__" = some (some (.ref nL)))
  (i_q11:W.isFn K (.ref nL) = true)
  (BW:bG K "__init__" "GoneRow.__init__" DG nL yw)
  (a_q26:W.findIn K (.ref aJ) "__init__" = some (some (.ref lS)))
  (i_q26:W.isFn K (.ref lS) = true)
  (tP:bG K "__init__" "Tinted.__init__" D9 lS tu)
  (a_q42:W.findIn K (.ref aJ) "rows" = some (some (.ref nJ)))
  (i_q42:W.isFn K (.ref nJ) = true)
  (wK:bG K "rows" "Tinted.rows" Bw nJ xR)
  (a_q31:W.findIn K (.ref aJ) "begin" = some (some (.ref mq)))
  (i_q31:W.isFn K (.ref mq) = true)
  (qp:bG K "begin" "Tinted.begin" EJ mq t9)
  (a_q33:W.findIn K (.ref aJ) "colours" = some (some (.ref lU)))
  (i_q33:W.isFn K (.ref lU) = true)
  (rE:bG K "colours" "Tinted.colours" F9 lU uB)
  (a_q38:W.findIn K (.ref aJ) "marks" = some (some (.ref mT)))
  (i_q38:W.isFn K (.ref mT) = true)
  (qh:bG K "marks" "Tinted.marks" EM mT tX)
  (a_q32:W.findIn K (.ref aJ) "change" = some (some (.ref nU)))
  (i_q32:W.isFn K (.ref nU) = true)
  (vG:bG K "change" "Tinted.change" EN nU yh)
  (a_q41:W.findIn K (.ref aJ) "put" = some (some (.ref oz)))
  (i_q41:W.isFn K (.ref oz) = true)
  (wQ:bG K "put" "Tinted.put" E7 oz xu)
  (a_q34:W.findIn K (.ref aJ) "cut" = some (some (.ref oF)))
  (i_q34:W.isFn K (.ref oF) = true)
  (yI:bG K "cut" "Tinted.cut" DY oF wM)
  (a_q40:W.findIn K (.ref aJ) "part" = some (some (.ref nV)))
  (i_q40:W.isFn K (.ref nV) = true)
  (zf:bG K "part" "Tinted.part" Dy nV wg)
  (a_q36:W.findIn K (.ref aJ) "go_over" = some (some (.ref oq)))
  (i_q36:W.isFn K (.ref oq) = true)
  (yS:bG K "go_over" "Tinted.go_over" GH oq wj)
  (a_q37:W.findIn K (.ref aJ) "gone_row" = some (some (.ref lO)))
  (i_q37:W.isFn K (.ref lO) = true)
  (jX:bG K "gone_row" "Tinted.gone_row" Fj lO tT)
  (a_q29:W.findIn K (.ref aJ) "ask_row" = some (some (.ref mK)))
  (i_q29:W.isFn K (.ref mK) = true)
  (nP:bG K "ask_row" "Tinted.ask_row" Dh mK ue)
  (a_q27:W.findIn K (.ref aJ) "ask_place" = some (some (.ref oE)))
  (i_q27:W.isFn K (.ref oE) = true)
  (pU:bG K "ask_place" "Tinted.ask_place" Gr oE v7)
  (a_q28:W.findIn K (.ref aJ) "ask_places" = some (some (.ref oB)))
  (i_q28:W.isFn K (.ref oB) = true)
  (sQ:bG K "ask_places" "Tinted.ask_places" GX oB yY)
  (a_q30:W.findIn K (.ref aJ) "ask_taken" = some (some (.ref nW)))
  (i_q30:W.isFn K (.ref nW) = true)
  (xM:bG K "ask_taken" "Tinted.ask_taken" EX nW yC)
  (a_q2:W.findIn K (.ref bu) "__init__" = some (some (.ref xN)))
  (i_q2:W.isFn K (.ref xN) = true)
  (Io:bG K "__init__" "Cursor.__init__" K9 xN DN)
  (a_q4:W.findIn K (.ref bu) "more" = some (some (.ref vN)))
  (i_q4:W.isFn K (.ref vN) = true)
  (yR:bG K "more" "Cursor.more" Kr vN Di)
  (a_q5:W.findIn K (.ref bu) "peek" = some (some (.ref yy)))
  (i_q5:W.isFn K (.ref yy) = true)
  (rL:bG K "peek" "Cursor.peek" Mv yy FG)
  (a_q3:W.findIn K (.ref bu) "ask" = some (some (.ref xj)))
  (i_q3:W.isFn K (.ref xj) = true)
  (sE:bG K "ask" "Cursor.ask" KS xj Dw)
  (a_q6:W.findIn K (.ref bu) "take" = some (some (.ref xY)))
  (i_q6:W.isFn K (.ref xY) = true)
  (z0:bG K "take" "Cursor.take" MQ xY GA)
  (a_q7:W.findIn K (.ref bu) "take_choice" = some (some (.ref wL)))
  (i_q7:W.isFn K (.ref wL) = true)
  (yf:bG K "take_choice" "Cursor.take_choice" KR wL D7)
  (a_q8:W.findIn K (.ref bu) "take_name" = some (some (.ref yE)))
  (i_q8:W.isFn K (.ref yE) = true)
  (yt:bG K "take_name" "Cursor.take_name" Lg yE F4)
  (a_q9:W.findIn K (.ref bu) "take_signs" = some (some (.ref vL)))
  (i_q9:W.isFn K (.ref vL) = true)
  (FU:bG K "take_signs" "Cursor.take_signs" KC vL DH)
  (a_q75:W.nsIn K mainGlobals "is_name" = some (some (.ref rA)))
  (wW:bG K "is_name" "is_name" Bb rA wV)
  (a_q70:W.nsIn K mainGlobals "copied_rules" = some (some (.ref rQ)))
  (yv:bG K "copied_rules" "copied_rules" Bt rQ yZ)
  (a_q68:W.nsIn K mainGlobals "copied_mode" = some (some (.ref qG)))
  (w5:bG K "copied_mode" "copied_mode" Bf qG xq)
  (a_q69:W.nsIn K mainGlobals "copied_rule" = some (some (.ref pX)))
  (yM:bG K "copied_rule" "copied_rule" Em pX w6)
  (a_q72:W.nsIn K mainGlobals "first_rule" = some (some (.ref p6)))
  (rO:bG K "first_rule" "first_rule" Dm p6 xK)
  (a_q71:W.nsIn K mainGlobals "do_deed" = some (some (.ref qC)))
  (qO:bG K "do_deed" "do_deed" DW qC yL)
  (a_q67:W.nsIn K mainGlobals "ask_rings" = some (some (.ref ow)))
  (n9:bG K "ask_rings" "ask_rings" Es ow tL)
  (a_q83:W.nsIn K mainGlobals "ring_of" = some (some (.ref rV)))
  (mj:bG K "ring_of" "ring_of" BH rV yg)
  (a_q86:W.nsIn K mainGlobals "short_rows" = some (some (.ref rJ)))
  (yo:bG K "short_rows" "short_rows" EH rJ yc)
  (a_q82:W.nsIn K mainGlobals "ring_from" = some (some (.ref qT)))
  (rN:bG K "ring_from" "ring_from" Dg qT v5)
  (a_q74:W.nsIn K mainGlobals "idle_rule" = some (some (.ref pe)))
  (qZ:bG K "idle_rule" "idle_rule" EZ pe zG)
  (a_q73:W.nsIn K mainGlobals "gone_over" = some (some (.ref o7)))
  (wC:bG K "gone_over" "gone_over" EF o7 xF)
  (a_q81:W.nsIn K mainGlobals "read_rules" = some (some (.ref qx)))
  (mW:bG K "read_rules" "read_rules" Ei qx zq)
  (a_q76:W.nsIn K mainGlobals "mode_numbers" = some (some (.ref qK)))
  (wY:bG K "mode_numbers" "mode_numbers" Eg qK zm)
  (a_q78:W.nsIn K mainGlobals "read_mode" = some (some (.ref rD)))
  (xB:bG K "read_mode" "read_mode" BX rD zj)
  (a_q80:W.nsIn K mainGlobals "read_rule" = some (some (.ref rq)))
  (zC:bG K "read_rule" "read_rule" Ek rq wX)
  (a_q79:W.nsIn K mainGlobals "read_pattern" = some (some (.ref r8)))
  (yj:bG K "read_pattern" "read_pattern" Eb r8 zu)
  (a_q77:W.nsIn K mainGlobals "read_goal" = some (some (.ref rZ)))
  (wO:bG K "read_goal" "read_goal" GJ rZ vH)
  (a_q51:W.nsIn K mainGlobals "_law_draw" = some (some (.ref qo)))
  (b7:bG K "_law_draw" "_law_draw" Ez qo xH)
  (a_q64:W.nsIn K mainGlobals "_law_signs" = some (some (.ref qy)))
  (yd:bG K "_law_signs" "_law_signs" BA qy ye)
  (a_q62:W.nsIn K mainGlobals "_law_rule" = some (some (.ref qW)))
  (xS:bG K "_law_rule" "_law_rule" Ew qW xP)
  (a_q57:W.nsIn K mainGlobals "_law_modes" = some (some (.ref rM)))
  (pO:bG K "_law_modes" "_law_modes" EC rM xG)
  (a_q65:W.nsIn K mainGlobals "_law_text" = some (some (.ref qI)))
  (rK:bG K "_law_text" "_law_text" Dn qI v9)
  (a_q56:W.nsIn K mainGlobals "_law_let_by" = some (some (.ref qH)))
  (wB:bG K "_law_let_by" "_law_let_by" D3 qH zy)
  (a_q52:W.nsIn K mainGlobals "_law_eaten" = some (some (.ref qL)))
  (q9:bG K "_law_eaten" "_law_eaten" Gw qL zE)
  (a_q54:W.nsIn K mainGlobals "_law_first" = some (some (.ref pV)))
  (qg:bG K "_law_first" "_law_first" GB pV yx)
  (a_q50:W.nsIn K mainGlobals "_law_deed" = some (some (.ref rY)))
  (wo:bG K "_law_deed" "_law_deed" Dt rY yD)
  (a_q55:W.nsIn K mainGlobals "_law_gone" = some (some (.ref qR)))
  (zd:bG K "_law_gone" "_law_gone" ES qR zB)
  (a_q61:W.nsIn K mainGlobals "_law_row" = some (some (.ref pQ)))
  (xT:bG K "_law_row" "_law_row" BL pQ xE)
  (a_q66:W.nsIn K mainGlobals "_law_whole" = some (some (.ref rP)))
  (xU:bG K "_law_whole" "_law_whole" ET rP zc)
  (a_q63:W.nsIn K mainGlobals "_law_shows" = some (some (.ref qD)))
  (wH:bG K "_law_shows" "_law_shows" Bo qD yV)
  (a_q59:W.nsIn K mainGlobals "_law_of" = some (some (.ref qt)))
  (qu:bG K "_law_of" "_law_of" EV qt yp)
  (a_q49:W.nsIn K mainGlobals "_law_asked" = some (some (.ref pZ)))
  (yP:bG K "_law_asked" "_law_asked" F0 pZ zp)
  (a_q53:W.nsIn K mainGlobals "_law_far" = some (some (.ref qN)))
  (mL:bG K "_law_far" "_law_far" GS qN zg)
  (a_q58:W.nsIn K mainGlobals "_law_no_places" = some (some (.ref qY)))
  (yu:bG K "_law_no_places" "_law_no_places" Dd qY vQ)
  (a_q60:W.nsIn K mainGlobals "_law_ringed" = some (some (.ref pq)))
  (xw:bG K "_law_ringed" "_law_ringed" DS pq xr)
  (a_law:W.nsIn K mainGlobals "law" = some (some (.ref f_law)))
  (F_law:bG K "law" "law" BV f_law d_law)
  (pg_Word:W.plainGet K bY Str.empty = true)
  (hd_Word:W.hasDictIn K bY = true)
  (po_Word:W.plainOver K bY = true)
  (sa_Word:W.findIn K (.ref bY) "__setattr__" = some (some (.builtin "object.__setattr__")))
  (uM:W.makesIn K bY = true)
  (kc_Word:W.keepIn K (.ref bY) = true)
  (fE:W.findIn K (.ref bY) "wanted" = some none)
  (pg_One:W.plainGet K cV Str.empty = true)
  (hd_One:W.hasDictIn K cV = true)
  (po_One:W.plainOver K cV = true)
  (sa_One:W.findIn K (.ref cV) "__setattr__" = some (some (.builtin "object.__setattr__")))
  (zV:W.makesIn K cV = true)
  (kc_One:W.keepIn K (.ref cV) = true)
  (jj:W.findIn K (.ref cV) "signs" = some none)
  (pg_Without:W.plainGet K bh Str.empty = true)
  (hd_Without:W.hasDictIn K bh = true)
  (po_Without:W.plainOver K bh = true)
  (sa_Without:W.findIn K (.ref bh) "__setattr__" = some (some (.builtin "object.__setattr__")))
  (k6:W.makesIn K bh = true)
  (kc_Without:W.keepIn K (.ref bh) = true)
  (fH:W.findIn K (.ref bh) "signs" = some none)
  (pg_Many:W.plainGet K b6 Str.empty = true)
  (hd_Many:W.hasDictIn K b6 = true)
  (po_Many:W.plainOver K b6 = true)
  (sa_Many:W.findIn K (.ref b6) "__setattr__" = some (some (.builtin "object.__setattr__")))
  (uN:W.makesIn K b6 = true)
  (kc_Many:W.keepIn K (.ref b6) = true)
  (iM:W.findIn K (.ref b6) "signs" = some none)
  (pg_Any:W.plainGet K dB Str.empty = true)
  (hd_Any:W.hasDictIn K dB = true)
  (po_Any:W.plainOver K dB = true)
  (sa_Any:W.findIn K (.ref dB) "__setattr__" = some (some (.builtin "object.__setattr__")))
  (z7:W.makesIn K dB = true)
  (kc_Any:W.keepIn K (.ref dB) = true)
  (oi_Any:W.findIn K (.ref dB) "__init__" = some (some (.builtin "object.__init__")))
  (pg_Still:W.plainGet K bP Str.empty = true)
  (hd_Still:W.hasDictIn K bP = true)
  (po_Still:W.plainOver K bP = true)
  (sa_Still:W.findIn K (.ref bP) "__setattr__" = some (some (.builtin "object.__setattr__")))
  (qP:W.makesIn K bP = true)
  (kc_Still:W.keepIn K (.ref bP) = true)
  (oi_Still:W.findIn K (.ref bP) "__init__" = some (some (.builtin "object.__init__")))
  (h_Still_eats:W.findIn K (.ref bP) "eats" = some (some (.ref jy)))
  (pg_End:W.plainGet K dF Str.empty = true)
  (hd_End:W.hasDictIn K dF = true)
  (po_End:W.plainOver K dF = true)
  (sa_End:W.findIn K (.ref dF) "__setattr__" = some (some (.builtin "object.__setattr__")))
  (AV:W.makesIn K dF = true)
  (kc_End:W.keepIn K (.ref dF) = true)
  (oi_End:W.findIn K (.ref dF) "__init__" = some (some (.builtin "object.__init__")))
  (h_End_eats:W.findIn K (.ref dF) "eats" = some (some (.ref jy)))
  (pg_Rule:W.plainGet K cK Str.empty = true)
  (hd_Rule:W.hasDictIn K cK = true)
  (po_Rule:W.plainOver K cK = true)
  (sa_Rule:W.findIn K (.ref cK) "__setattr__" = some (some (.builtin "object.__setattr__")))
  (oW:W.makesIn K cK = true)
  (kc_Rule:W.keepIn K (.ref cK) = true)
  (cX:W.findIn K (.ref cK) "pattern" = some none)
  (fB:W.findIn K (.ref cK) "colour" = some none)
  (dU:W.findIn K (.ref cK) "deed" = some none)
  (gn:W.findIn K (.ref cK) "goal" = some none)
  (gj:W.findIn K (.ref cK) "fold" = some none)
  (pg_Mode:W.plainGet K bV Str.empty = true)
  (hd_Mode:W.hasDictIn K bV = true)
  (po_Mode:W.plainOver K bV = true)
  (sa_Mode:W.findIn K (.ref bV) "__setattr__" = some (some (.builtin "object.__setattr__")))
  (o4:W.makesIn K bV = true)
  (kc_Mode:W.keepIn K (.ref bV) = true)
  (gp:W.findIn K (.ref bV) "name" = some none)
  (fF:W.findIn K (.ref bV) "colour" = some none)
  (dI:W.findIn K (.ref bV) "rules" = some none)
  (pg_Rules:W.plainGet K cT Str.empty = true)
  (hd_Rules:W.hasDictIn K cT = true)
  (po_Rules:W.plainOver K cT = true)
  (sa_Rules:W.findIn K (.ref cT) "__setattr__" = some (some (.builtin "object.__setattr__")))
  (lR:W.makesIn K cT = true)
  (kc_Rules:W.keepIn K (.ref cT) = true)
  (b8:W.findIn K (.ref cT) "modes" = some none)
  (pg_Cursor:W.plainGet K bu Str.empty = true)
  (hd_Cursor:W.hasDictIn K bu = true)
  (po_Cursor:W.plainOver K bu = true)
  (sa_Cursor:W.findIn K (.ref bu) "__setattr__" = some (some (.builtin "object.__setattr__")))
  (nF:W.makesIn K bu = true)
  (kc_Cursor:W.keepIn K (.ref bu) = true)
  (iP:W.findIn K (.ref bu) "row" = some none)
  (eY:W.findIn K (.ref bu) "words" = some none)
  (eV:W.findIn K (.ref bu) "at" = some none)
  (pg_GoneRow:W.plainGet K bx Str.empty = true)
  (hd_GoneRow:W.hasDictIn K bx = true)
  (po_GoneRow:W.plainOver K bx = true)
  (sa_GoneRow:W.findIn K (.ref bx) "__setattr__" = some (some (.builtin "object.__setattr__")))
  (lE:W.makesIn K bx = true)
  (kc_GoneRow:W.keepIn K (.ref bx) = true)
  (er:W.findIn K (.ref bx) "signs" = some none)
  (fc:W.findIn K (.ref bx) "before" = some none)
  (fL:W.findIn K (.ref bx) "tints" = some none)
  (fh:W.findIn K (.ref bx) "behind" = some none)
  (e9:W.findIn K (.ref bx) "folded" = some none)
  (pg_Tinted:W.plainGet K aJ Str.empty = true)
  (hd_Tinted:W.hasDictIn K aJ = true)
  (po_Tinted:W.plainOver K aJ = true)
  (sa_Tinted:W.findIn K (.ref aJ) "__setattr__" = some (some (.builtin "object.__setattr__")))
  (ku:W.makesIn K aJ = true)
  (kc_Tinted:W.keepIn K (.ref aJ) = true)
  (gx:W.findIn K (.ref aJ) "rules" = some none)
  (bF:W.findIn K (.ref aJ) "gone_rows" = some none)
  (xcg:W.specialIn K (.builtin "object.__class__") "__get__" = some (some (.builtin "getset_descriptor.__get__")))
  (xct:W.takesIn K (.builtin "object.__class__") = some true)
  (xa_TintError:sj K bg = true)
  (xg_TintError:W.findIn K (.ref bg) "__getattribute__" = some (some (.builtin "BaseException.__getattribute__")))
  (xh_TintError:W.findIn K (.ref bg) "__getattr__" = some none)
  (xb_TintError:W.mroIn K bg (.type "BaseException") = some true)
  (xs_TintError:W.findIn K (.ref bg) "__setattr__" = some (some (.builtin "object.__setattr__")))
  (xo_TintError:W.mroIn K bg (.type "object") = some true)
  (xd_TintError:W.hasDictIn K bg = true)
  (xc_TintError:W.findIn K (.ref bg) "__class__" = some (some (.builtin "object.__class__")))
  (mG:W.excIn K bg VE "ValueError.__new__" = true)
  (xa_NoPlace:sj K aI = true)
  (xg_NoPlace:W.findIn K (.ref aI) "__getattribute__" = some (some (.builtin "BaseException.__getattribute__")))
  (xh_NoPlace:W.findIn K (.ref aI) "__getattr__" = some none)
  (xb_NoPlace:W.mroIn K aI (.type "BaseException") = some true)
  (xs_NoPlace:W.findIn K (.ref aI) "__setattr__" = some (some (.builtin "object.__setattr__")))
  (xo_NoPlace:W.mroIn K aI (.type "object") = some true)
  (xd_NoPlace:W.hasDictIn K aI = true)
  (xc_NoPlace:W.findIn K (.ref aI) "__class__" = some (some (.builtin "object.__class__")))
  (cY:W.excIn K aI VE "ValueError.__new__" = true)
  (xa_Rings:sj K aN = true)
  (xg_Rings:W.findIn K (.ref aN) "__getattribute__" = some (some (.builtin "BaseException.__getattribute__")))
  (xh_Rings:W.findIn K (.ref aN) "__getattr__" = some none)
  (xb_Rings:W.mroIn K aN (.type "BaseException") = some true)
  (xs_Rings:W.findIn K (.ref aN) "__setattr__" = some (some (.builtin "object.__setattr__")))
  (xo_Rings:W.mroIn K aN (.type "object") = some true)
  (xd_Rings:W.hasDictIn K aN = true)
  (xc_Rings:W.findIn K (.ref aN) "__class__" = some (some (.builtin "object.__class__")))
  (xk_Rings:W.keepIn K (.ref aN) = true)
  (jF:W.findIn K (.ref aN) "ring" = some none)
  (jG:W.findIn K (.ref aN) "sign" = some none)
  (eU:W.mroIn K aI (.ref bg) = some true)
  (fP:W.mroIn K aN (.ref bg) = some true)
  (sg_TintError:W.specialIn K (.ref bg) "__getattribute__" = some (some (.builtin "type.__getattribute__")))
  (sr_TintError:W.readsIn K bg (.type "type") = true)
  (sf_TintError:W.findCls K (.ref bg) (.type "type") "__init__" = some (.val (.builtin "ValueError.__init__")))
  (fU:W.kitOne K (.ref aI) (.ref cO) = some false)
  (fV:W.kitOne K (.ref aI) (.ref cP) = some false)
  (gw:W.kitOne K (.ref aI) (.ref dJ) = some false)
  (gu:W.kitOne K (.ref aI) (.ref dM) = some false)
  (gH:W.kitOne K (.ref aN) (.ref cO) = some false)
  (gI:W.kitOne K (.ref aN) (.ref cP) = some false)
  (iE:W.kitOne K (.ref aN) (.ref dJ) = some false)
  (iF:W.kitOne K (.ref aN) (.ref dM) = some false)
  (fQ:W.kitOne K (.ref aI) (.ref aI) = some true)
  (gO:W.kitOne K (.ref aI) (.ref aN) = some false)
  (gP:W.kitOne K (.ref aN) (.ref aI) = some false)
  (jb:W.kitOne K (.ref aN) (.ref aN) = some true)
  (eE:W.kitOne K (.ref aI) (.type "ValueError") = some true)
  (fz:W.kitOne K (.ref aN) (.type "ValueError") = some true)
  (cg:W.specialIn K (.builtin "object.__class__") "__get__" = some (some (.builtin "getset_descriptor.__get__")))
  (ct:W.takesIn K (.builtin "object.__class__") = some true)
  (vh:W.findIn K (.ref bY) "__class__" = some (some (.builtin "object.__class__")))
  (vv:W.mroIn K bY (.type "object") = some true)
  (Ac:W.findIn K (.ref cV) "__class__" = some (some (.builtin "object.__class__")))
  (Ag:W.mroIn K cV (.type "object") = some true)
  (lI:W.findIn K (.ref bh) "__class__" = some (some (.builtin "object.__class__")))
  (kZ:W.mroIn K bh (.type "object") = some true)
  (uH:W.findIn K (.ref b6) "__class__" = some (some (.builtin "object.__class__")))
  (uX:W.mroIn K b6 (.type "object") = some true)
  (Ai:W.findIn K (.ref dB) "__class__" = some (some (.builtin "object.__class__")))
  (z9:W.mroIn K dB (.type "object") = some true)
  (qi:W.findIn K (.ref bP) "__class__" = some (some (.builtin "object.__class__")))
  (rm:W.mroIn K bP (.type "object") = some true)
  (AG:W.findIn K (.ref dF) "__class__" = some (some (.builtin "object.__class__")))
  (AE:W.mroIn K dF (.type "object") = some true)
  (kO:W.kitOne K (.ref bY) (.ref bY) = some true)
  (nR:W.kitOne K (.ref cV) (.ref cV) = some true)
  (iI:W.kitOne K (.ref bh) (.ref bh) = some true)
  (kL:W.kitOne K (.ref b6) (.ref b6) = some true)
  (om:W.kitOne K (.ref dB) (.ref dB) = some true)
  (jQ:W.kitOne K (.ref bP) (.ref bP) = some true)
  (nZ:W.kitOne K (.ref dF) (.ref dF) = some true)
  (v_LETTERS:W.nsIn K mainGlobals "LETTERS" = some (some (.str "abcdefghijklmnopqrstuvwxyz" u_LETTERS)))
  (v_LONGEST_NAME:W.nsIn K mainGlobals "LONGEST_NAME" = some (some (.int 8 u_LONGEST_NAME)))
  (v_START:W.nsIn K mainGlobals "START" = some (some (.int 0 u_START)))
  (v_SIGNS:W.nsIn K mainGlobals "SIGNS" = some (some (.str " !\"#$&'()*+,-./0123456789:;<=>?@ABCDEFGHIJKLMNOPQRSTUVWXYZ[\\]^_`abcdefghijklmnopqrstuvwxyz{|}~" u_SIGNS)))
  (v_MOST_MODES:W.nsIn K mainGlobals "MOST_MODES" = some (some (.int 12 u_MOST_MODES)))
  (v_MOST_RULES:W.nsIn K mainGlobals "MOST_RULES" = some (some (.int 12 u_MOST_RULES)))
  (v_PATTERNS:W.nsIn K mainGlobals "PATTERNS" = some (some (.ref eN)))
  (o_PATTERNS:K.lookup eN = some ⟨.type "tuple",od_PATTERNS,.seq #[.str "word" u0_PATTERNS,.str "one" u1_PATTERNS,.str "none" u2_PATTERNS,.str "many" u3_PATTERNS,.str "any" u4_PATTERNS,.str "still" u5_PATTERNS,.str "end" u6_PATTERNS] n_PATTERNS,sl_PATTERNS⟩)
  (v_DEEDS:W.nsIn K mainGlobals "DEEDS" = some (some (.ref jg)))
  (o_DEEDS:K.lookup jg = some ⟨.type "tuple",od_DEEDS,.seq #[.str "stay" u0_DEEDS,.str "push" u1_DEEDS,.str "pop" u2_DEEDS,.str "into" u3_DEEDS] n_DEEDS,sl_DEEDS⟩)
  (v_GOING:W.nsIn K mainGlobals "GOING" = some (some (.ref jC)))
  (o_GOING:K.lookup jC = some ⟨.type "tuple",od_GOING,.seq #[.str "push" u0_GOING,.str "into" u1_GOING] n_GOING,sl_GOING⟩)
  (v_FOLDS:W.nsIn K mainGlobals "FOLDS" = some (some (.ref jn)))
  (o_FOLDS:K.lookup jn = some ⟨.type "tuple",od_FOLDS,.seq #[.str "open" u0_FOLDS,.str "close" u1_FOLDS] n_FOLDS,sl_FOLDS⟩)
  (jL:W.nsIn K mainGlobals "ValueError" = some none)
  (GG:W.nsIn K mainGlobals "all" = some none)
  (jk:W.nsIn K mainGlobals "enumerate" = some none)
  (ur:W.nsIn K mainGlobals "int" = some none)
  (dD:W.nsIn K mainGlobals "isinstance" = some none)
  (bO:W.nsIn K mainGlobals "len" = some none)
  (gK:W.nsIn K mainGlobals "list" = some none)
  (gU:W.nsIn K mainGlobals "range" = some none)
  (rX:W.nsIn K mainGlobals "reversed" = some none)
  (vC:W.nsIn K mainGlobals "tuple" = some none)
  (Ja:W.nsIn K mainGlobals "zip" = some none)
  : ∃ fd:FuncData,(∀ (s:Shared) (v:Value),BindsTo s fd ⟨[v],[]⟩ [("_law_script",v)]) /\ ∀ base:Heap,K.In base -> base.Ns mainGlobals mg -> bw l.prog w K mg base dP 9 fa fd ["_law_script"] (BG K):=by
 have e:=hfa.symm.trans (W.mg_of X G a_law)
 cases e
 let t:fX:=⟨bg,cO,aN,aI,cP,dJ,dM,iT,bY,cV,bh,b6,dB,bP,dF,cK,bV,cT,bx,aJ,bu,mV,xV,sF,Bp,jy,qb,nX,wA,mC,uh,mX,um,nI,vK,lY,uz,mw,tN,oG,yU,lX,sW,mU,ud,ou,yO,mO,sP,mD,uy,vg,CH,vp,B7,mR,sS,lQ,tQ,rA,wV,nY,vZ,n6,zk,nK,wU,rQ,yZ,qG,xq,pX,w6,p6,xK,qC,yL,ow,tL,rV,yg,rJ,yc,qT,v5,pe,zG,o7,xF,nL,yw,lS,tu,nJ,xR,mq,t9,lU,uB,mT,tX,nU,yh,oz,xu,oF,wM,nV,wg,oq,wj,lO,tT,mK,ue,oE,v7,oB,yY,nW,yC,xN,DN,vN,Di,yy,FG,xj,Dw,xY,GA,wL,D7,yE,F4,vL,DH,qx,zq,qK,zm,rD,zj,rq,wX,r8,zu,rZ,vH,qo,xH,qy,ye,qW,xP,rM,xG,qI,v9,qH,zy,qL,zE,pV,yx,rY,yD,qR,zB,pQ,xE,rP,zc,qD,yV,qt,yp,pZ,zp,qN,zg,qY,vQ,pq,xr,eN,jg,jC,jn⟩
 have T:Txt K mg t:=⟨W.mg_of X G a_TintError,W.mg_of X G a_NoRules,W.mg_of X G a_Rings,W.mg_of X G a_NoPlace,W.mg_of X G a_Nothing,W.mg_of X G a_NoMark,W.mg_of X G a_NoLine,W.mg_of X G a_Pattern,W.mg_of X G a_Word,W.mg_of X G a_One,W.mg_of X G a_Without,W.mg_of X G a_Many,W.mg_of X G a_Any,W.mg_of X G a_Still,W.mg_of X G a_End,W.mg_of X G a_Rule,W.mg_of X G a_Mode,W.mg_of X G a_Rules,W.mg_of X G a_GoneRow,W.mg_of X G a_Tinted,W.mg_of X G a_Cursor,Bh,I9,rT,Bl,zo,zD,A4,vI,vY,A7,w9,yN,BD,wc,zz,DP,E6,zl,zb,wI,ze,yq,BW,tP,wK,qp,rE,qh,vG,wQ,yI,zf,yS,jX,nP,pU,sQ,xM,Io,yR,rL,sE,z0,yf,yt,FU,wW,W.mg_of X G a_q75,yv,W.mg_of X G a_q70,w5,W.mg_of X G a_q68,yM,W.mg_of X G a_q69,rO,W.mg_of X G a_q72,qO,W.mg_of X G a_q71,n9,W.mg_of X G a_q67,mj,W.mg_of X G a_q83,yo,W.mg_of X G a_q86,rN,W.mg_of X G a_q82,qZ,W.mg_of X G a_q74,wC,W.mg_of X G a_q73,mW,W.mg_of X G a_q81,wY,W.mg_of X G a_q76,xB,W.mg_of X G a_q78,zC,W.mg_of X G a_q80,yj,W.mg_of X G a_q79,wO,W.mg_of X G a_q77,b7,W.mg_of X G a_q51,yd,W.mg_of X G a_q64,xS,W.mg_of X G a_q62,pO,W.mg_of X G a_q57,rK,W.mg_of X G a_q65,wB,W.mg_of X G a_q56,q9,W.mg_of X G a_q52,qg,W.mg_of X G a_q54,wo,W.mg_of X G a_q50,zd,W.mg_of X G a_q55,xT,W.mg_of X G a_q61,xU,W.mg_of X G a_q66,wH,W.mg_of X G a_q63,qu,W.mg_of X G a_q59,yP,W.mg_of X G a_q49,mL,W.mg_of X G a_q53,yu,W.mg_of X G a_q58,xw,W.mg_of X G a_q60,⟨pg_Word,hd_Word,po_Word,sa_Word⟩,⟨uM,a_q46,i_q46,kc_Word⟩,fE,⟨a_q47,i_q47,zo.kp⟩,⟨a_q48,i_q48,zD.kp⟩,⟨pg_One,hd_One,po_One,sa_One⟩,⟨zV,a_q17,i_q17,kc_One⟩,jj,⟨a_q18,i_q18,vI.kp⟩,⟨a_q19,i_q19,vY.kp⟩,⟨pg_Without,hd_Without,po_Without,sa_Without⟩,⟨k6,a_q43,i_q43,kc_Without⟩,fH,⟨a_q44,i_q44,w9.kp⟩,⟨a_q45,i_q45,yN.kp⟩,⟨pg_Many,hd_Many,po_Many,sa_Many⟩,⟨uN,a_q12,i_q12,kc_Many⟩,iM,⟨a_q13,i_q13,wc.kp⟩,⟨a_q14,i_q14,zz.kp⟩,⟨pg_Any,hd_Any,po_Any,sa_Any⟩,⟨z7,oi_Any,kc_Any⟩,⟨a_q0,i_q0,DP.kp⟩,⟨a_q1,i_q1,E6.kp⟩,⟨pg_Still,hd_Still,po_Still,sa_Still⟩,⟨qP,oi_Still,kc_Still⟩,⟨a_q25,i_q25,zl.kp⟩,⟨h_Still_eats,i_q21,rT.kp⟩,⟨pg_End,hd_End,po_End,sa_End⟩,⟨AV,oi_End,kc_End⟩,⟨a_q10,i_q10,zb.kp⟩,⟨h_End_eats,i_q21,rT.kp⟩,⟨pg_Rule,hd_Rule,po_Rule,sa_Rule⟩,⟨oW,a_q23,i_q23,kc_Rule⟩,cX,fB,dU,gn,gj,⟨pg_Mode,hd_Mode,po_Mode,sa_Mode⟩,⟨o4,a_q15,i_q15,kc_Mode⟩,gp,fF,dI,⟨pg_Rules,hd_Rules,po_Rules,sa_Rules⟩,⟨lR,a_q24,i_q24,kc_Rules⟩,b8,⟨pg_Cursor,hd_Cursor,po_Cursor,sa_Cursor⟩,⟨nF,a_q2,i_q2,kc_Cursor⟩,iP,eY,eV,⟨a_q4,i_q4,yR.kp⟩,⟨a_q5,i_q5,rL.kp⟩,⟨a_q3,i_q3,sE.kp⟩,⟨a_q6,i_q6,z0.kp⟩,⟨a_q7,i_q7,yf.kp⟩,⟨a_q8,i_q8,yt.kp⟩,⟨a_q9,i_q9,FU.kp⟩,⟨pg_GoneRow,hd_GoneRow,po_GoneRow,sa_GoneRow⟩,⟨lE,a_q11,i_q11,kc_GoneRow⟩,er,fc,fL,fh,e9,⟨pg_Tinted,hd_Tinted,po_Tinted,sa_Tinted⟩,⟨ku,a_q26,i_q26,kc_Tinted⟩,gx,bF,⟨a_q42,i_q42,wK.kp⟩,⟨a_q31,i_q31,qp.kp⟩,⟨a_q33,i_q33,rE.kp⟩,⟨a_q38,i_q38,qh.kp⟩,⟨a_q32,i_q32,vG.kp⟩,⟨a_q41,i_q41,wQ.kp⟩,⟨a_q34,i_q34,yI.kp⟩,⟨a_q40,i_q40,zf.kp⟩,⟨a_q36,i_q36,yS.kp⟩,⟨a_q37,i_q37,jX.kp⟩,⟨a_q29,i_q29,nP.kp⟩,⟨a_q27,i_q27,pU.kp⟩,⟨a_q28,i_q28,sQ.kp⟩,⟨a_q30,i_q30,xM.kp⟩,{ at_:=xa_TintError,ge:=⟨xg_TintError,xh_TintError,xb_TintError⟩,sa:=xs_TintError,ob:=xo_TintError,hd:=xd_TintError,ca:=xc_TintError,cg:=xcg,ct:=xct },mG,{ at_:=xa_NoPlace,ge:=⟨xg_NoPlace,xh_NoPlace,xb_NoPlace⟩,sa:=xs_NoPlace,ob:=xo_NoPlace,hd:=xd_NoPlace,ca:=xc_NoPlace,cg:=xcg,ct:=xct },cY,{ at_:=xa_Rings,ge:=⟨xg_Rings,xh_Rings,xb_Rings⟩,sa:=xs_Rings,ob:=xo_Rings,hd:=xd_Rings,ca:=xc_Rings,cg:=xcg,ct:=xct },⟨a_q22,i_q22,xk_Rings⟩,jF,jG,eU,fP,⟨sg_TintError,sr_TintError,sf_TintError⟩,fU,fV,gw,gu,gH,gI,iE,iF,fQ,gO,gP,jb,eE,fz,cg,ct,vh,vv,Ac,Ag,lI,kZ,uH,uX,Ai,z9,qi,rm,AG,AE,kO,nR,iI,kL,om,jQ,nZ,⟨_,W.mg_of X G v_LETTERS,⟨_,rfl⟩⟩,⟨_,W.mg_of X G v_LONGEST_NAME,⟨_,rfl⟩⟩,⟨_,W.mg_of X G v_START,⟨_,rfl⟩⟩,⟨_,W.mg_of X G v_SIGNS,⟨_,rfl⟩⟩,⟨_,W.mg_of X G v_MOST_MODES,⟨_,rfl⟩⟩,⟨_,W.mg_of X G v_MOST_RULES,⟨_,rfl⟩⟩,W.mg_of X G v_PATTERNS,λH=>.inr ⟨_,_,_,o_PATTERNS,rfl,rfl,by show 7 <= sizeLine;decide,.cons ⟨_,rfl⟩ (.cons ⟨_,rfl⟩ (.cons ⟨_,rfl⟩ (.cons ⟨_,rfl⟩ (.cons ⟨_,rfl⟩ (.cons ⟨_,rfl⟩ (.cons ⟨_,rfl⟩ (.nil)))))))⟩,W.mg_of X G v_DEEDS,λH=>.inr ⟨_,_,_,o_DEEDS,rfl,rfl,by show 4 <= sizeLine;decide,.cons ⟨_,rfl⟩ (.cons ⟨_,rfl⟩ (.cons ⟨_,rfl⟩ (.cons ⟨_,rfl⟩ (.nil))))⟩,W.mg_of X G v_GOING,λH=>.inr ⟨_,_,_,o_GOING,rfl,rfl,by show 2 <= sizeLine;decide,.cons ⟨_,rfl⟩ (.cons ⟨_,rfl⟩ (.nil))⟩,W.mg_of X G v_FOLDS,λH=>.inr ⟨_,_,_,o_FOLDS,rfl,rfl,by show 2 <= sizeLine;decide,.cons ⟨_,rfl⟩ (.cons ⟨_,rfl⟩ (.nil))⟩,W.mg_none_of X G jL,W.mg_none_of X G GG,W.mg_none_of X G jk,W.mg_none_of X G ur,W.mg_none_of X G dD,W.mg_none_of X G bO,W.mg_none_of X G gK,W.mg_none_of X G gU,W.mg_none_of X G rX,W.mg_none_of X G vC,W.mg_none_of X G Ja⟩
 exact ⟨d_law,(by obtain ⟨_,_,_,_,_,_,_,_,_,e,_⟩:=F_law.ex;rw [e];exact λs v=>.of_eq rfl),λbase _ _=>LL F_law T⟩
theorem walk {l:W.OpenLaw} {q:Program} {loose:List Str} {XP:(Str -> Option Value) -> Heap -> Prop} {YP:World -> Heap -> Prop} {d:DefRec} {K:Params -> W.Frag} (hn:l.most = some 63) (hdf:d.params.defaults = [])
  (hY:∀ (w:World) (h:Heap),YP w h -> (K w.params).In h)
  (F:∀ (w:World) (mg:Str -> Option Value) (fa:Addr) (h:Heap),(K w.params).In h -> h.Ns mainGlobals mg -> mg d.name = some (.ref fa) ->
   ∃ fd:FuncData,(∀ (s:Shared) (u:Value),BindsTo s fd ⟨[u],[]⟩ [("_law_script",u)]) /\ ∀ base:Heap,(K w.params).In base -> base.Ns mainGlobals mg -> bw l.prog w (K w.params) mg base dP 9 fa fd ["_law_script"] (BG (K w.params))) :
  W.WalkO q loose XP YP l.row.toRowW d [] (λf vs=>PySem.call f vs) :=
 L2.HA (n:=63) (k:=9) (x:="_law_script") (CX:=λ_=>dP) (sp:=λw=>BG (K w.params)) hn (by decide) hdf ⟨rfl,by decide,by decide⟩ hY F (λ_ _ a ns hl _ hS=>⟨a,ns,rfl,hS,hl,λ_=>rfl⟩) λ_ _ _ _ _ z=>z
end K34
open PySem PySem.W PyProof.Rows
set_option maxRecDepth 100000 in
set_option maxHeartbeats 0 in
theorem PySem.Challenge.cw_tintrow_k34_no_place_holds : PySem.Challenge.rw_tintrow_k34_no_place.Holds := by
 w_on;o_law;k_head;(case hw=>w_witness2)
 k_fill
 refine K34.walk (l:=PySem.Challenge.rw_tintrow_k34_no_place) rfl rfl (λw h Y=>PySem.W.kIn_of Y) ?F
 case F =>
  intro w mg fa h KX G hmg
  apply K34.all_mk KX G hmg
  all_goals first | (show PySem.W.kitOne _ _ _ = _;kit_is) | k_is | (apply L2.Mj <;> k_is) | k_exc | kernel_rfl
