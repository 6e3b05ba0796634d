import PyProof.Rows.All
import Wide.All
import OpenK.AllK
import Wide.FinOn
import PyProof.EqAt
import PyProof.EqKinds
import PyProof.TupleCall
import PyProof.ListStr
import PyProof.EnumFor
import PyProof.EnumMake
import PyProof.EnumStmt
import PyProof.StrLawsTight
import PyProof.StrLawsReplace
import PyProof.StrCalls6
import PyProof.ToksMono
import PyProof.StationsW
import PyProof.RulesTry
import PyProof.ExcInit
import PyProof.ExcClass3
import OpenK.KOwn
import PyProof.ExcBaseAll.ValueError
import PyProof.RulesAs
import PyProof.NsDelKeeps
import KE.KIsAll
import PyProof.ExcArgsOwn
import PyProof.InstStoreFacts
import PyProof.ZipIter
import KE.KRevIter
import KE.KIntText
import PyProof.FString
import PyProof.CompMap
import KE.KListMore
import PyProof.ListRange
import KE.KSortTup
import KE.KUnpack
import PySem.Challenge.RW_tintrow_k33_whole_put_and_cut
set_option Elab.async false
set_option linter.all false
set_option maxRecDepth 100000
namespace L2
open PySem PySem.Spec PyProof.Rows
abbrev Key:=Sum Int Str
def sY:Key -> Value -> Bool
 | .inl k,v=>Value.isInt k v
 | .inr x,v=>Value.isStrOf x v
def Qx (w:World):Key -> Int
 | .inl k=>hashInt k
 | .inr x=>hashStr w x
theorem dw:∀ {k:Key} {v:Value},sY k v = true -> (∃ i t,k = Sum.inl i /\ v = Value.int i t) ∨ (∃ x t,k = Sum.inr x /\ v = Value.str x t)
 | .inl i,v,h=>by
  obtain ⟨t,e⟩:=Value.isInt_shape (k:=i) (v:=v) h
  exact .inl ⟨i,t,rfl,e⟩
 | .inr x,v,h=>by
  obtain ⟨t,e⟩:=Value.isStrOf_shape (x:=x) (v:=v) h
  exact .inr ⟨x,t,rfl,e⟩
theorem CS (i:Int) (t:Tok):sY (.inl i) (.int i t) = true:=by simp [sY,Value.isInt]
theorem Cz (x:Str) (t:Tok):sY (.inr x) (.str x t) = true:=by simp [sY,Value.isStrOf]
theorem Kd (a b:Int):decide ((Sum.inl a:Key) = Sum.inl b) = (a == b):=by
 by_cases e:a = b
 ·subst e;simp
 ·have h:¬ (Sum.inl a:Key) = Sum.inl b:=λq=>e (Sum.inl.inj q)
  rw [decide_eq_false h]
  exact (beq_eq_false_iff_ne.mpr e).symm
theorem Ky (a b:Str):decide ((Sum.inr a:Key) = Sum.inr b) = decide (a = b):=by
 by_cases e:a = b
 ·subst e;simp
 ·have h:¬ (Sum.inr a:Key) = Sum.inr b:=λq=>e (Sum.inr.inj q)
  rw [decide_eq_false h,decide_eq_false e]
theorem Mv (a:Int) (b:Str):decide ((Sum.inl a:Key) = Sum.inr b) = false:=decide_eq_false (λq=>nomatch q)
theorem Mr (a:Str) (b:Int):decide ((Sum.inr a:Key) = Sum.inl b) = false:=decide_eq_false (λq=>nomatch q)
def dP (prog:Program) (w:World):PySem.KeyKind prog w Key where
 is:=sY
 hash:=Qx w
 inj:=λv a b ha hb=>by
  rcases dw ha with ⟨i,t,rfl,rfl⟩ | ⟨x,t,rfl,rfl⟩
  ·rcases dw hb with ⟨j,u,rfl,e⟩ | ⟨y,u,rfl,e⟩
   ·injection e with e1 _;rw [e1]
   ·exact nomatch e
  ·rcases dw hb with ⟨j,u,rfl,e⟩ | ⟨y,u,rfl,e⟩
   ·exact nomatch e
   ·injection e with e1 _;rw [e1]
 byValue:=λk v h=>by
  rcases dw h with ⟨i,t,rfl,rfl⟩ | ⟨x,t,rfl,rfl⟩ <;> rfl
 pyHash:=λhv h=>by
  rcases dw hv with ⟨i,t,rfl,rfl⟩ | ⟨x,t,rfl,rfl⟩
  ·exact wpAny_pyHash_int h
  ·exact wpAny_pyHash_str h
 eqBool:=λhu hv h=>by
  rcases dw hu with ⟨i,t,rfl,rfl⟩ | ⟨x,t,rfl,rfl⟩
  ·rcases dw hv with ⟨j,u,rfl,rfl⟩ | ⟨y,u,rfl,rfl⟩
   ·rw [Kd] at h;exact wpAny_eqBool_int h
   ·rw [Mv] at h;exact SeqAt.EqAt.int_str i t y u _ _ _ _ h
  ·rcases dw hv with ⟨j,u,rfl,rfl⟩ | ⟨y,u,rfl,rfl⟩
   ·rw [Mr] at h;exact SeqAt.EqAt.str_int x t j u _ _ _ _ h
   ·rw [Ky] at h;exact wpAny_eqBool_str h
 «strs»:=λk x t v h=>by
  rcases dw h with ⟨i,u,rfl,e⟩ | ⟨y,u,rfl,e⟩
  ·exact nomatch e
  ·injection e with e1 _
   subst e1
   cases v <;> rfl
theorem vF (prog:Program) (w:World) (i:Int) (t:Tok):(dP prog w).is (.inl i) (.int i t) = true:=CS i t
theorem vK (prog:Program) (w:World) (x:Str) (t:Tok):(dP prog w).is (.inr x) (.str x t) = true:=Cz x t
end L2
namespace L2
open PySem PySem.Spec PyProof.Rows
inductive V where
 | cQ | bl (b:Bool) | int (i:Int) | str (x:Str) | byt (b:Array UInt8) | KQ (b:UInt64) | ref (a:Addr) | ty (n:String)
 deriving DecidableEq
def RelV:V -> Value -> Prop
 | .cQ,u=>u = Value.none
 | .bl b,u=>u = Value.bool b
 | .int i,u=>∃ t,u = Value.int i t
 | .str x,u=>∃ t,u = Value.str x t
 | .byt b,u=>∃ t,u = Value.bytes b t
 | .KQ b,u=>∃ t,u = Value.float b t
 | .ref a,u=>u = Value.ref a
 | .ty n,u=>u = Value.type n
abbrev Vals:List V -> List Value -> Prop:=Paired RelV
theorem Vals.length {xs:List V} {us:List Value} (r:Vals xs us):xs.length = us.length:=Paired.length r
theorem Vals.get:∀ {xs:List V} {us:List Value} {i:Nat} {x:V},Vals xs us -> xs[i]? = some x -> ∃ u,us[i]? = some u /\ RelV x u
 | _,_,_,_,.nil,e=>by simp at e
 | _,_,0,_,.cons r _,e=>by simp at e;subst e;exact ⟨_,rfl,r⟩
 | _,_,i + 1,x,.cons _ t,e=>by
  obtain ⟨u,h1,h2⟩:=Vals.get (i:=i) (x:=x) t (by simpa using e)
  exact ⟨u,by simpa using h1,h2⟩
theorem Vals.set {x:V} {u:Value} (r:RelV x u):∀ {xs:List V} {us:List Value} (i:Nat),Vals xs us -> Vals (xs.set i x) (us.set i u)
 | _,_,_,.nil=>.nil
 | _,_,0,.cons _ t=>.cons r t
 | _,_,i + 1,.cons q t=>.cons q (Vals.set r i t)
theorem Vals.append:∀ {xs ys:List V} {us ws:List Value},Vals xs us -> Vals ys ws -> Vals (xs ++ ys) (us ++ ws)
 | _,_,_,_,.nil,s=>s
 | _,_,_,_,.cons r t,s=>.cons r (Vals.append t s)
theorem Vals.take:∀ {xs:List V} {us:List Value} (n:Nat),Vals xs us -> Vals (xs.take n) (us.take n)
 | _,_,0,_=>.nil
 | _,_,_ + 1,.nil=>.nil
 | _,_,n + 1,.cons r t=>.cons r (Vals.take n t)
theorem Vals.drop:∀ {xs:List V} {us:List Value} (n:Nat),Vals xs us -> Vals (xs.drop n) (us.drop n)
 | _,_,0,r=>r
 | _,_,_ + 1,.nil=>.nil
 | _,_,n + 1,.cons _ t=>Vals.drop n t
def kr:Option V -> Option Value -> Prop
 | some v,some u=>RelV v u
 | none,none=>True
 | _,_=>False
def KV {κ:Type}:List (κ × V) -> List (κ × Value) -> Prop:=Paired λ(p:κ × V) (q:κ × Value)=>p.1 = q.1 /\ RelV p.2 q.2
def kV:Key -> V
 | .inl i=>.int i
 | .inr x=>.str x
inductive HO where
  | lst (xs:List V)
  | tup (xs:List V)
  | dK (kvs:List (Key × V)) | dT (kvs:List (List Key × V))
  | set (S:Int -> Bool) (n:Nat)
  | ins (C dx:Addr) (fs:List (Str × V))
  | own (x:Addr)
  | xd (fs:List (Str × V))
  | met (f x:Addr)
  | Pg (lo hi:Int)
  | Ar (o:Obj) (u:HO)
  | Js (ps:Array Value)
  | ext (φ:Heap -> Prop)
abbrev Hp:=Addr -> Option HO
def upd (H:Hp) (a:Addr) (o:HO):Hp:=λb=>if b = a then some o else H b
theorem ai {H:Hp} {a:Addr} {o:HO}:upd H a o a = some o:=by unfold upd;rw [if_pos rfl]
theorem au {H:Hp} {a b:Addr} {o:HO} (h:b ≠ a):upd H a o b = H b:=by unfold upd;rw [if_neg h]
theorem iy {H:Hp} {a:Addr} {o u:HO}:upd (upd H a o) a u = upd H a u:=by
 funext b;unfold upd;split <;> rfl
theorem cA {H:Hp} {a b:Addr} {o u:HO} (h:H a = some o) (h':H b = some u) (d:o ≠ u):a ≠ b:=by
 intro e;subst e;rw [h] at h';exact d (Option.some.inj h')
theorem aj {H:Hp} {a b:Addr} {o:HO} (h:H a = some o) (h':H b = none):a ≠ b:=by
 intro e;subst e;rw [h] at h';cases h'
section
variable (P:Program) (w:World)
def c5 (H:Hp) (h:Heap) (a:Addr):HO -> Prop
 | .lst xs=>xs.length <= sizeLine /\ ∃ (its:List Value) (n:Nat),Vals xs its /\ h.get? a = some { cls:=.type "list",data:=.seq its.toArray n }
 | .tup xs=>xs.length <= sizeLine /\ ∃ its:List Value,Vals xs its /\ IsTup h a its.toArray
 | .dK kvs=>kvs.length <= sizeLine /\ (a == sysModules) = false /\ ∃ vs,KV kvs vs /\ h.DictOf (dP P w) a vs
 | .dT kvs=>kvs.length <= sizeLine /\ (a == sysModules) = false /\ ∃ xs:List (List Key × Addr × Value),
   Paired (λ(p:List Key × V) (q:List Key × Addr × Value)=>p.1 = q.1 /\ H q.2.1 = some (.tup (p.1.map kV)) /\ RelV p.2 q.2.2) kvs xs /\
   ∃ o es ep,h.get? a = some o /\ o.ExactDict /\ o.data = .dict es ep /\ es.toList = xs.map (entryOfKey (tupleKind (dP P w))) /\ (xs.map (·.1)).Nodup
 | .set S n=>h.SetOf (intKind P w) a S n
 | .ins C dx fs=>H dx = some (.own a) /\ fs.length <= 1000 /\ dx ≠ a /\ h.get? a = some (PySem.W.instObj C dx) /\
   ∃ mA,h.Ns1 dx mA /\ (∀ f,kr (fs.lookup f) (mA f)) /\ PySem.Within mA (fs.map (·.1))
 | .own _=>∃ o,h.get? a = some o
 | .xd fs=>∃ mA,h.Ns1 a mA /\ ∀ f,kr (fs.lookup f) (mA f)
 | .Pg lo hi=>∃ t u v,h.get? a = some { cls:=.type "range",data:=.fields #[.int lo t,.int hi u,.int 1 v] }
 | .Ar o u=>h.get? a = some o /\ c5 H h a u
 | .Js ps=>h.get? a = some { cls:=.none,data:=.fields ps }
 | .met f x=>h.get? a = some (PySem.W.methodObj (.ref f) (.ref x))
 | .ext φ=>φ h /\ (∃ o,h.get? a = some o) /\ ∀ h1 h2:Heap,φ h1 -> (∀ o,h1.get? a = some o -> h2.get? a = some o) -> φ h2
def kD (H:Hp) (h:Heap):Prop:=∀ a o,H a = some o -> c5 P w H h a o
end
section
variable {P:Program} {w:World} {H H':Hp} {h h':Heap} {a:Addr} {o:HO}
theorem c5.lt (x:c5 P w H h a o):a < h.objs.size:=by
 cases o with
 | lst xs=>obtain ⟨_,_,_,_,e⟩:=x;exact Heap.lt_size e
 | tup xs=>obtain ⟨_,_,_,p⟩:=x;exact p.lt
 | dK kvs=>obtain ⟨_,_,_,_,o,_,_,e,_⟩:=x;exact Heap.lt_size e
 | dT kvs=>obtain ⟨_,_,_,_,o,_,_,e,_⟩:=x;exact Heap.lt_size e
 | set S n=>obtain ⟨o,_,_,_,e,_⟩:=x;exact Heap.lt_size e
 | ins C dx fs=>obtain ⟨_,_,_,e,_⟩:=x;exact Heap.lt_size e
 | own y=>obtain ⟨_,e⟩:=x;exact Heap.lt_size e
 | xd fs=>obtain ⟨_,⟨_,_,_,e,_⟩,_⟩:=x;exact Heap.lt_size e
 | Pg lo hi=>obtain ⟨_,_,_,e⟩:=x;exact Heap.lt_size e
 | Ar ob u=>obtain ⟨e,_⟩:=x;exact Heap.lt_size e
 | Js ps=>exact Heap.lt_size (show h.get? a = some _ from x)
 | met f y=>exact Heap.lt_size (show h.get? a = some _ from x)
 | ext φ=>obtain ⟨_,⟨_,e⟩,_⟩:=x;exact Heap.lt_size e
theorem Paired.KS {α β:Type} {F G:α -> β -> Prop}:∀ {l₁:List α} {l₂:List β},Paired F l₁ l₂ -> (∀ a b,F a b -> G a b) -> Paired G l₁ l₂
 | _,_,.nil,_=>.nil
 | _,_,.cons r t,f=>.cons (f _ _ r) (Paired.KS t f)
theorem c5.stay (x:c5 P w H h a o) (k:∀ b u,(b = a ∨ H b = some (.own a)) -> h.get? b = some u -> h'.get? b = some u)
  (ho:∀ b,H b = some (.own a) -> H' b = some (.own a)) (ht:∀ b xs,H b = some (.tup xs) -> H' b = some (.tup xs)):c5 P w H' h' a o:=by
 induction o with
 | lst xs=>obtain ⟨z,its,n,r,e⟩:=x;exact ⟨z,its,n,r,k _ _ (.inl rfl) e⟩
 | tup xs=>obtain ⟨z,its,r,ob,e,c⟩:=x;exact ⟨z,its,r,ob,k _ _ (.inl rfl) e,c⟩
 | dK kvs=>obtain ⟨z,y,vs,r,ob,es,ep,e,c⟩:=x;exact ⟨z,y,vs,r,ob,es,ep,k _ _ (.inl rfl) e,c⟩
 | dT kvs =>
  obtain ⟨z,y,xs,r,ob,es,ep,e,c⟩:=x
  exact ⟨z,y,xs,Paired.KS r λp q z=>⟨z.1,ht _ _ z.2.1,z.2.2⟩,ob,es,ep,k _ _ (.inl rfl) e,c⟩
 | set S n=>obtain ⟨ob,es,ep,t,e,c⟩:=x;exact ⟨ob,es,ep,t,k _ _ (.inl rfl) e,c⟩
 | ins C dx fs =>
  obtain ⟨d,z,ne,e,mA,⟨od,es,ep,e2,c⟩,r⟩:=x
  exact ⟨ho _ d,z,ne,k _ _ (.inl rfl) e,mA,⟨od,es,ep,k _ _ (.inr d) e2,c⟩,r⟩
 | own y=>obtain ⟨ob,e⟩:=x;exact ⟨ob,k _ _ (.inl rfl) e⟩
 | xd fs=>obtain ⟨mA,⟨od,es,ep,e,c⟩,r⟩:=x;exact ⟨mA,⟨od,es,ep,k _ _ (.inl rfl) e,c⟩,r⟩
 | Pg lo hi=>obtain ⟨t,u,v,e⟩:=x;exact ⟨t,u,v,k _ _ (.inl rfl) e⟩
 | Ar ob u ih=>obtain ⟨e,q⟩:=x;exact ⟨k _ _ (.inl rfl) e,ih q⟩
 | Js ps =>
  have e:h.get? a = some { cls:=.none,data:=.fields ps }:=x
  show h'.get? a = some { cls:=.none,data:=.fields ps }
  exact k a _ (.inl rfl) e
 | met f y =>
  have e:h.get? a = some (PySem.W.methodObj (.ref f) (.ref y)):=x
  show h'.get? a = some (PySem.W.methodObj (.ref f) (.ref y))
  exact k a _ (.inl rfl) e
 | ext φ=>obtain ⟨p,⟨o,e⟩,st⟩:=x;exact ⟨st _ _ p λo q=>k _ _ (.inl rfl) q,⟨o,k _ _ (.inl rfl) e⟩,st⟩
theorem kD.lt (x:kD P w H h) (e:H a = some o):a < h.objs.size:=(x a o e).lt
theorem kD.fresh (x:kD P w H h) (e:h.objs.size <= a):H a = none:=by
 cases q:H a with
 | none=>rfl
 | some u=>exact absurd (Nat.lt_of_lt_of_le (x.lt q) e) (Nat.lt_irrefl _)
theorem kD.kept (x:kD P w H h) (k:∀ b u,h.get? b = some u -> h'.get? b = some u):kD P w H h':=λa o e =>
 (x a o e).stay (λb u _ q=>k b u q) (λ_ q=>q) λ_ _ q=>q
theorem kD.laid (x:kD P w H h) (k:∀ b u,h.get? b = some u -> h'.get? b = some u) (hp:h.objs.size <= a) (new:c5 P w (upd H a o) h' a o):kD P w (upd H a o) h':=λb u e=>by
 have hn:=x.fresh hp
 by_cases hb:b = a
 ·subst hb;rw [ai] at e;cases e;exact new
 ·rw [au hb] at e
  exact (x b u e).stay (λc v _ q=>k c v q) (λc q=>by rw [au (aj q hn)];exact q) λc xs q=>by rw [au (aj q hn)];exact q
end
def Rd (H:Hp) (a:Addr) (u:HO):Prop:=H a = some u ∨ ∃ o,H a = some (.Ar o u)
theorem Rd.ok {P:Program} {w:World} {H:Hp} {h:Heap} {a:Addr} {u:HO} (r:Rd H a u) (x:kD P w H h):c5 P w H h a u:=by
 rcases r with r | ⟨o,r⟩
 ·exact x a u r
 ·obtain ⟨_,q⟩:=x a _ r
  exact q
def Oh:Option HO -> Prop
 | some (.lst _)=>True
 | some (.dK _)=>True
 | some (.dT _)=>True
 | some (.set _ _)=>True
 | some (.ins _ _ _)=>True
 | some (.ext _)=>True
 | _=>False
section
variable {P:Program} {w:World} {H:Hp} {h h':Heap} {x e:Addr} {o':HO}
theorem kD.write (ok:kD P w H h) (mu:Oh (H x)) (he:e = x ∨ H e = some (.own x)) (k:∀ b u,b ≠ e -> h.get? b = some u -> h'.get? b = some u) (heo:∃ u,h'.get? e = some u)
  (new:c5 P w (upd H x o') h' x o'):kD P w (upd H x o') h':=λb u q=>by
 have nown:∀ c y,H c = some (.own y) -> c ≠ x:=λc y r z=>by subst z;rw [r] at mu;exact mu
 have ntup:∀ c xs,H c = some (.tup xs) -> c ≠ x:=λc xs r z=>by subst z;rw [r] at mu;exact mu
 by_cases hb:b = x
 ·subst hb;rw [ai] at q;cases q;exact new
 ·rw [au hb] at q
  by_cases hbe:b = e
  ·have q':H b = some (.own x):=by
    rcases he with z | z
    ·exact absurd (hbe.trans z) hb
    ·rw [hbe];exact z
   rw [q] at q';cases q'
   obtain ⟨v,hv⟩:=heo
   exact ⟨v,by rw [hbe];exact hv⟩
  ·refine (ok b u q).stay (λc v hc r=>k c v ?_ r) (λc r=>by rw [au (nown c b r)];exact r) λc xs r=>by rw [au (ntup c xs r)];exact r
   rcases hc with rfl | hc
   ·exact hbe
   ·rintro rfl
    rcases he with z | z
    ·exact nown c b hc z
    ·rw [hc] at z;cases z;exact hb rfl
end
structure Un (fs ex:List Addr) (H H':Hp) (h h':Heap):Prop where
 keep:∀ b o,h.get? b = some o -> H b = none -> b ∉ fs -> b ∉ ex -> h'.get? b = some o
 slot:∀ b o,h.get? b = some o -> H b = none -> b ∈ fs -> b ∉ ex -> ∃ sl,h'.get? b = some { o with slots:=sl }
 free:∀ b o,h.get? b = some o -> H b = none -> b ∉ ex -> H' b = none
 there:∀ b o,h.get? b = some o -> b ∉ ex -> ∃ o',h'.get? b = some o'
 tups:∀ b xs,H b = some (.tup xs) -> H' b = some (.tup xs)
 sO:∀ b o u,H b = some (.Ar o u) -> H' b = some (.Ar o u)
 uY:∀ b ps,H b = some (.Js ps) -> ∃ more,H' b = some (.Js (ps ++ more))
section
variable {fs fs' ex ex':List Addr} {H H1 H2:Hp} {h h1 h2 h':Heap} {a x e:Addr} {o:HO}
theorem Un.any (u:Un fs ex H H1 h h1) {b:Addr} {ob:Obj} (q:h.get? b = some ob) (n:H b = none) (hx:b ∉ ex):∃ sl,h1.get? b = some { ob with slots:=sl }:=by
 by_cases hb:b ∈ fs
 ·exact u.slot b ob q n hb hx
 ·exact ⟨ob.slots,u.keep b ob q n hb hx⟩
theorem Un.kept (k:∀ b u,h.get? b = some u -> h'.get? b = some u):Un fs ex H H h h' :=
 ⟨λb ob q _ _ _=>k b ob q,λb ob q _ _ _=>⟨ob.slots,k b ob q⟩,λ_ _ _ n _=>n,λb ob q _=>⟨ob,k b ob q⟩,λ_ _ q=>q,λ_ _ _ q=>q,λ_ ps q=>⟨#[],by rw [q];simp⟩⟩
theorem Un.refl:Un fs ex H H h h:=Un.kept λ_ _ q=>q
theorem Un.laid (k:∀ b u,h.get? b = some u -> h'.get? b = some u) (hp:h.objs.size <= a) (hn:H a = none):Un fs ex H (upd H a o) h h' where
 keep:=λb u q _ _ _=>k b u q
 slot:=λb u q _ _ _=>⟨u.slots,k b u q⟩
 free:=λb u q n _=>by rw [au (Nat.ne_of_lt (Nat.lt_of_lt_of_le (Heap.lt_size q) hp))];exact n
 there:=λb u q _=>⟨u,k b u q⟩
 tups:=λb xs q=>by rw [au (aj q hn)];exact q
 sO:=λb u xs q=>by rw [au (aj q hn)];exact q
 uY:=λb ps q=>⟨#[],by rw [au (aj q hn),q];simp⟩
theorem Un.write (mu:Oh (H x)) (he:e = x ∨ H e = some (.own x)) (k:∀ b u,b ≠ e -> h.get? b = some u -> h'.get? b = some u) (heo:∃ u,h'.get? e = some u):Un fs ex H (upd H x o) h h':=by
 have hx:∀ b,H b = none -> b ≠ x:=λb n z=>by subst z;rw [n] at mu;exact mu
 have hb:∀ b,H b = none -> b ≠ e:=λb n z=>by
  subst z
  rcases he with r | r
  ·exact hx b n r
  ·rw [n] at r;cases r
 have hm:∀ b u,H b = some u -> ¬ Oh (some u) -> b ≠ x:=λb u q nm z=>by subst z;rw [q] at mu;exact nm mu
 refine ⟨λb u q n _ _=>k b u (hb b n) q,λb u q n _ _=>⟨u.slots,k b u (hb b n) q⟩,λb u q n _=>by rw [au (hx b n)];exact n,λb u q _=>?_,
  λb xs q=>by rw [au (hm b _ q λz=>z)];exact q,λb u xs q=>by rw [au (hm b _ q λz=>z)];exact q,λb ps q=>⟨#[],by rw [au (hm b _ q λz=>z),q];simp⟩⟩
 by_cases hbe:b = e
 ·subst hbe;exact heo
 ·exact ⟨u,k b u hbe q⟩
end
def Pb (h:Heap) (H:Hp):List Addr:=(List.range h.objs.size).filter λa=>(H a).isSome
def vC (h:Heap) (H:Hp):Heap:=PySem.W.hideAll h (Pb h H)
theorem CJ (h:Heap) (H:Hp):(vC h H).objs.size = h.objs.size:=PySem.W.hideAll_size _ _
theorem FU {h:Heap} {H:Hp} {b:Addr} {o:Obj} (e:h.get? b = some o) (n:H b = none):(vC h H).get? b = some o :=
 PySem.W.hideAll_get _ e λhm=>by
  have q:(H b).isSome = true:=(List.mem_filter.mp hm).2
  rw [n] at q;simp at q
theorem IX {h:Heap} {H:Hp} {b:Addr} {o:Obj} (e:(vC h H).get? b = some o):h.get? b = some o /\ H b = none:=by
 have e':h.get? b = some o:=PySem.W.of_hideAll (Pb h H) e
 refine ⟨e',?_⟩
 cases q:H b with
 | none=>rfl
 | some x =>
  have hm:b ∈ Pb h H:=List.mem_filter.mpr ⟨List.mem_range.mpr (Heap.lt_size e'),by simp [q]⟩
  have z:(vC h H).get? b = none:=PySem.W.hideAll_none (Pb h H) hm
  rw [z] at e;cases e
def lD (g h:Heap) (L:Addr):List (Addr × Obj):=(List.range h.objs.size).filterMap λa=>if a = L ∨ (g.get? a).isSome = true then none else (h.get? a).map λo=>(a,o)
theorem iV {g h:Heap} {L a:Addr} {o:Obj} (h1:a ≠ L) (h2:g.get? a = none) (h3:h.get? a = some o):(a,o) ∈ lD g h L :=
 List.mem_filterMap.mpr ⟨a,List.mem_range.mpr (Heap.lt_size h3),by simp [h1,h2,h3]⟩
theorem rm {g h:Heap} {L:Addr} {p:Addr × Obj} (hp:p ∈ lD g h L):p.1 ≠ L /\ g.get? p.1 = none /\ h.get? p.1 = some p.2:=by
 obtain ⟨b,_,e⟩:=List.mem_filterMap.mp hp
 split at e
 ·cases e
 ·rename_i hn
  cases q:h.get? b with
  | none=>rw [q] at e;simp at e
  | some u =>
   rw [q] at e
   simp only [Option.map_some,Option.some.injEq] at e
   subst e
   refine ⟨λz=>hn (.inl z),?_,q⟩
   show g.get? b = none
   cases r:g.get? b with
   | none=>rfl
   | some v=>exact (hn (.inr (by simp [r]))).elim
theorem w5 {g h:Heap} {L:Addr}:News g L h (lD g h L):=λp hp=>let ⟨a,b,c⟩:=rm hp;⟨c,a,b⟩
end L2
namespace L2
open PySem PySem.Spec PyProof.Rows
structure Mod (K:PySem.W.Frag) (mg:Str -> Option Value) (base:Heap):Prop where
 N1:K.In base
 glob:base.Ns mainGlobals mg
 blt:∃ mb,base.Ns builtinsNs mb /\ ∀ x:Str,x ≠ "__name__" -> mb x = bootBuiltins x
 nolimit:base.NoLimit
structure Cx where
 prog:Program
 w:World
 K:PySem.W.Frag
 mg:Str -> Option Value
 base:Heap
 A:Around
 N:List Str
 s₀:Shared
 H₀:Hp
 env:Env
 outer:List Env
 stack:List Env
 ex:List Addr
 fn:Str -> Bool
 calm:Bool
 pn:List (Addr × Obj)
 xe:Value -> Shared -> Prop
def frs (l:List Env):List Addr:=l.filterMap (·.frame)
abbrev Cx.fs (X:Cx):List Addr:=frs X.outer
def O9 (sc:Scope) (x:Str):Prop:=sc.names.lookup x = some .local ∨ sc.names.lookup x = some .cell ∨ sc.names.lookup x = some .free
def Loc (sc:Scope) (x:Str):Prop:=sc.names.lookup x = some .local ∨ sc.names.lookup x = some .cell
def Look (env:Env) (h:Heap) (m:Str -> Option Value) (x:Str) (u:Value):Prop :=
 (env.kindOf x = some .local /\ m x = some u) ∨ ((env.kindOf x = some .cell ∨ env.kindOf x = some .free) /\ ∃ c,env.cells.lookup x = some c /\ h.IsCell c (some u))
structure Cx.Ok (X:Cx):Prop where
 mod:Mod X.K X.mg X.base
 kind:X.env.scope.kind = .function
 glob:X.env.globals = mainGlobals
 blt:X.env.builtins = builtinsNs
 above:X.s₀.heap.objs.size <= X.env.locals
 inj:∀ x y c,X.env.cells.lookup x = some c -> X.env.cells.lookup y = some c -> x = y
 has:∀ x,(X.env.kindOf x = some .cell ∨ X.env.kindOf x = some .free) -> ∃ c,X.env.cells.lookup x = some c
 O5:∀ x c,X.fn x = true -> X.env.cells.lookup x = some c -> X.s₀.heap.objs.size <= c
 hd:X.calm = true -> X.A.handled = none
 frames:X.A.frames = some X.stack
 stk:X.stack = X.outer ∨ (X.stack = X.env :: X.outer /\ X.env.frame = some X.env.locals)
 exf:∀ b ∈ X.ex,b ≠ X.env.locals /\ ∀ x c,X.env.cells.lookup x = some c -> c ≠ b
 bs:∀ b o,X.base.get? b = some o -> X.s₀.heap.get? b = some o /\ X.H₀ b = none
 JE:X.base.objs.size <= X.s₀.heap.objs.size
 E3:∀ b o,X.base.get? b = some o -> b ∉ X.ex
 HK:∀ b ∈ X.ex,b ∉ X.fs
 ow:X.s₀.heap.FunFrames X.base X.outer
 Mn:∀ b ∈ X.fs,X.H₀ b = none
structure Inv (X:Cx) (pins:List (Addr × Obj)) (Z:List (Option V)) (H:Hp) (s:Shared):Prop where
 ok:X.Ok
 os:s.os = X.s₀.os
 bare:AllBare s.gens
 base:Un X.fs X.ex X.H₀ H X.s₀.heap s.heap
 loc:∃ m,s.heap.Ns X.env.locals m /\ ∀ (i:Nat) (x:Str) (v:V),X.N[i]? = some x -> Z[i]? = some (some v) -> O9 X.env.scope x -> ∃ u,RelV v u /\ Look X.env s.heap m x u
 cell:∀ x c,X.env.cells.lookup x = some c -> ∃ v,s.heap.IsCell c v
 free:H X.env.locals = none
 kF:∀ x c,X.env.cells.lookup x = some c -> H c = none
 pin:∀ p ∈ X.pn ++ pins,s.heap.get? p.1 = some p.2 /\ H p.1 = none /\ p.1 ≠ X.env.locals /\ p.1 ∉ X.fs /\ ∀ v,p.2.data ≠ .cell v
 hok:kD X.prog X.w H s.heap
 len:Z.length = X.N.length
section
variable {X:Cx} {pins:List (Addr × Obj)} {Z:List (Option V)} {H H':Hp} {s:Shared} {h':Heap}
theorem Cx.Ok.QW (ok:X.Ok) {b:Addr} {o:Obj} (e:X.base.get? b = some o):b ∉ X.fs:=λhb=>by
 have:=(ok.ow.mem hb).1
 rw [e] at this;cases this
theorem Inv.bs (I:Inv X pins Z H s):∀ b o,X.base.get? b = some o -> s.heap.get? b = some o /\ H b = none:=λb o e =>
 ⟨I.base.keep b o (I.ok.bs b o e).1 (I.ok.bs b o e).2 (I.ok.QW e) (I.ok.E3 b o e),I.base.free b o (I.ok.bs b o e).1 (I.ok.bs b o e).2 (I.ok.E3 b o e)⟩
theorem Inv.bk (I:Inv X pins Z H s):∀ b o,X.base.get? b = some o -> s.heap.get? b = some o:=λb o e=>(I.bs b o e).1
theorem Inv.mod (I:Inv X pins Z H s):Mod X.K X.mg X.base:=I.ok.mod
theorem Inv.lP (I:Inv X pins Z H s):X.K.In s.heap:=I.ok.mod.N1.keeps I.bk
theorem Inv.lt (I:Inv X pins Z H s):X.env.locals < s.heap.objs.size:=by
 obtain ⟨_,hn,_⟩:=I.loc
 exact hn.lt
theorem Inv.sz (I:Inv X pins Z H s):X.s₀.heap.objs.size <= s.heap.objs.size:=Nat.le_trans I.ok.above (Nat.le_of_lt I.lt)
theorem Inv.OY (I:Inv X pins Z H s) {a:Addr} (h:s.heap.objs.size <= a):a ∉ X.fs:=λhb=>by
 obtain ⟨_,o,ho,_⟩:=I.ok.ow.mem hb
 exact absurd (Nat.lt_of_lt_of_le (Heap.lt_size ho) (Nat.le_trans I.sz h)) (Nat.lt_irrefl _)
theorem Inv.Kv (I:Inv X pins Z H s):∀ x c,X.env.cells.lookup x = some c -> c ≠ X.env.locals:=λx c e z=>by
 obtain ⟨v,o,ho,hd⟩:=I.cell x c e
 obtain ⟨m,⟨o',es,ep,ho',hd',_⟩,_⟩:=I.loc
 rw [z,ho'] at ho;cases ho;rw [hd'] at hd;cases hd
theorem Inv.ow (I:Inv X pins Z H s):s.heap.FunFrames X.base X.outer:=by
 have all:∀ (l:List Env),(∀ b ∈ frs l,b ∈ X.fs) -> X.s₀.heap.FunFrames X.base l -> s.heap.FunFrames X.base l:=by
  intro l
  induction l with
  | nil=>intro _ _;trivial
  | cons env r ih =>
   intro hs hl
   obtain ⟨hk,⟨L,o,hf,hn,ho,hd⟩,hr⟩:=hl
   have hL:L ∈ X.fs:=hs L (by unfold frs;rw [List.filterMap_cons,hf];exact List.mem_cons_self)
   obtain ⟨sl,e⟩:=I.base.slot L o ho (I.ok.Mn L hL) hL λz=>I.ok.HK L z hL
   exact ⟨hk,⟨L,_,hf,hn,e,hd⟩,ih (λb hb=>hs b (by unfold frs;rw [List.filterMap_cons,hf];exact List.mem_cons_of_mem _ hb)) hr⟩
 exact all X.outer (λ_ hb=>hb) I.ok.ow
theorem Inv.stack (I:Inv X pins Z H s):s.heap.FunFrames X.base X.stack:=by
 rcases I.ok.stk with e | ⟨e,hf⟩
 ·rw [e];exact I.ow
 ·rw [e]
  obtain ⟨m,hn,_⟩:=I.loc
  refine .cons (by rw [I.ok.kind];decide) hf hn ?_ I.ow
  exact Heap.get?_none_of_le (Nat.le_trans I.ok.JE I.ok.above)
theorem Inv.pV (I:Inv X pins Z H s):∀ b ∈ frs X.stack,b ∈ X.env.locals :: X.fs:=λb hb=>by
 rcases I.ok.stk with e | ⟨e,hf⟩
 ·rw [e] at hb;exact List.mem_cons_of_mem _ hb
 ·rw [e] at hb
  unfold frs at hb
  rw [List.filterMap_cons,hf] at hb
  exact hb
theorem Inv.BZ (I:Inv X pins Z H s):∀ b ∈ frs X.stack,H b = none:=λb hb=>by
 rcases List.mem_cons.mp (I.pV b hb) with e | hb
 ·rw [e];exact I.free
 ·obtain ⟨_,o,ho,_⟩:=I.ok.ow.mem hb
  exact I.base.free b o ho (I.ok.Mn b hb) λz=>I.ok.HK b z hb
theorem Inv.step {g':Array GenState} {t':Nat} {d':Drawn} {ch:List Addr} (I:Inv X pins Z H s)
  (hch:∀ b ∈ ch,(b ∈ X.ex ∨ X.s₀.heap.objs.size <= b) /\ b ≠ X.env.locals /\ (∀ x c,X.env.cells.lookup x = some c -> c ≠ b) /\ ∀ p ∈ X.pn ++ pins,p.1 ≠ b)
  (keep:∀ b o,b ≠ X.env.locals -> b ∉ X.fs -> b ∉ ch -> s.heap.get? b = some o -> H b = none -> h'.get? b = some o)
  (slot:∀ b o,b ≠ X.env.locals -> b ∈ X.fs -> b ∉ ch -> s.heap.get? b = some o -> H b = none -> ∃ sl,h'.get? b = some { o with slots:=sl }) (free:∀ b o,b ∉ ch -> s.heap.get? b = some o -> H b = none -> H' b = none)
  (there:∀ b o,b ∉ ch -> s.heap.get? b = some o -> ∃ o',h'.get? b = some o')
  (tups:∀ b xs,H b = some (.tup xs) -> H' b = some (.tup xs)) (sO:∀ b o u,H b = some (.Ar o u) -> H' b = some (.Ar o u)) (uY:∀ b ps,H b = some (.Js ps) -> ∃ more,H' b = some (.Js (ps ++ more)))
  (ns:∀ m,s.heap.Ns X.env.locals m -> h'.Ns X.env.locals m) (hok:kD X.prog X.w H' h') (hg:AllBare g') :
  Inv X pins Z H' { s with heap:=h',gens:=g',drawn:=d',toks:=t' }:=by
 have neL:∀ b o,X.s₀.heap.get? b = some o -> b ≠ X.env.locals:=λb o e=>Nat.ne_of_lt (Nat.lt_of_lt_of_le (Heap.lt_size e) I.ok.above)
 have neC:∀ b o,X.s₀.heap.get? b = some o -> b ∉ X.ex -> b ∉ ch:=λb o e hx hb=>by
  rcases (hch b hb).1 with z | z
  ·exact hx z
  ·exact absurd (Nat.lt_of_lt_of_le (Heap.lt_size e) z) (Nat.lt_irrefl _)
 have cellK:∀ x c,X.env.cells.lookup x = some c -> ∀ v,s.heap.IsCell c v -> h'.IsCell c v:=λx c e v ⟨o,ho,hd⟩=>by
  have nch:c ∉ ch:=λz=>(hch c z).2.2.1 x c e rfl
  by_cases hc:c ∈ X.fs
  ·obtain ⟨sl,q⟩:=slot c o (I.Kv x c e) hc nch ho (I.kF x c e)
   exact ⟨_,q,hd⟩
  ·exact ⟨o,keep c o (I.Kv x c e) hc nch ho (I.kF x c e),hd⟩
 refine ⟨I.ok,I.os,hg,⟨λb o e n hb hx=>?_,λb o e n hb hx=>?_,λb o e n hx=>?_,λb o e hx=>?_,λb xs e=>tups b xs (I.base.tups b xs e),λb o xs e=>sO b o xs (I.base.sO b o xs e),λb ps e=>?_⟩,?_,λx c e=>?_,?_,λx c e=>?_,λp hp=>?_,hok,I.len⟩
 ·exact keep b o (neL b o e) hb (neC b o e hx) (I.base.keep b o e n hb hx) (I.base.free b o e n hx)
 ·obtain ⟨sl,e1⟩:=I.base.slot b o e n hb hx
  obtain ⟨sl',e2⟩:=slot b _ (neL b o e) hb (neC b o e hx) e1 (I.base.free b o e n hx)
  exact ⟨sl',e2⟩
 ·obtain ⟨o',e1⟩:=I.base.there b o e hx
  exact free b o' (neC b o e hx) e1 (I.base.free b o e n hx)
 ·obtain ⟨o',e1⟩:=I.base.there b o e hx
  exact there b o' (neC b o e hx) e1
 ·obtain ⟨m1,e1⟩:=I.base.uY b ps e
  obtain ⟨m2,e2⟩:=uY b _ e1
  exact ⟨m1 ++ m2,by rw [e2,Array.append_assoc]⟩
 ·obtain ⟨m,hn,hl⟩:=I.loc
  refine ⟨m,ns m hn,λi x v e1 e2 e3=>?_⟩
  obtain ⟨u,r,l⟩:=hl i x v e1 e2 e3
  refine ⟨u,r,?_⟩
  rcases l with l | ⟨k,c,e,z⟩
  ·exact .inl l
  ·exact .inr ⟨k,c,e,cellK x c e _ z⟩
 ·obtain ⟨v,z⟩:=I.cell x c e
  exact ⟨v,cellK x c e v z⟩
 ·obtain ⟨m,⟨o,_,_,ho,_⟩,_⟩:=I.loc
  exact free _ o (λz=>(hch _ z).2.1 rfl) ho I.free
 ·obtain ⟨v,o,ho,hd⟩:=I.cell x c e
  exact free c o (λz=>(hch c z).2.2.1 x c e rfl) ho (I.kF x c e)
 ·obtain ⟨e,n,ne,nf,d⟩:=I.pin p hp
  have nch:p.1 ∉ ch:=λz=>(hch p.1 z).2.2.2 p hp rfl
  exact ⟨keep p.1 p.2 ne nf nch e n,free p.1 p.2 nch e n,ne,nf,d⟩
theorem Inv.un {t':Nat} (I:Inv X pins Z H s) (u:Un X.fs [] H H' s.heap h') (hok:kD X.prog X.w H' h'):Inv X pins Z H' { s with heap:=h',toks:=t' }:=by
 obtain ⟨m,⟨o,es,ep,ho,r⟩,_⟩:=id I.loc
 obtain ⟨sl,hL⟩:=u.any ho I.free (by simp)
 exact I.step (g':=s.gens) (d':=s.drawn) (ch:=[]) (λ_ z=>nomatch z) (λb o _ hb _ e n=>u.keep b o e n hb (by simp)) (λb o _ hb _ e n=>u.slot b o e n hb (by simp)) (λb o _ e n=>u.free b o e n (by simp)) (λb o _ e=>u.there b o e (by simp)) u.tups u.sO u.uY (λm' hm=>by
  obtain ⟨o',es',ep',ho',r'⟩:=hm
  rw [ho] at ho';cases ho'
  exact ⟨_,es',ep',hL,r'⟩) hok I.bare
theorem Inv.call {g':Array GenState} {t':Nat} {d':Drawn} {ch:List Addr} (I:Inv X pins Z H s) (u:Un (frs X.stack) ch H H' s.heap h') (hok:kD X.prog X.w H' h') (hg:AllBare g')
  (hch:∀ b ∈ ch,(b ∈ X.ex ∨ X.s₀.heap.objs.size <= b) /\ b ≠ X.env.locals /\ (∀ x c,X.env.cells.lookup x = some c -> c ≠ b) /\ ∀ p ∈ X.pn ++ pins,p.1 ≠ b) :
  Inv X pins Z H' { s with heap:=h',gens:=g',drawn:=d',toks:=t' }:=by
 obtain ⟨m,⟨o,es,ep,ho,r⟩,_⟩:=id I.loc
 obtain ⟨sl,hL⟩:=u.any ho I.free λz=>(hch _ z).2.1 rfl
 exact I.step (ch:=ch) hch (λb o hL hb hc e n=>u.keep b o e n (λz=>(List.mem_cons.mp (I.pV b z)).elim hL hb) hc) (λb o _ _ hc e n=>u.any e n hc) (λb o hc e n=>u.free b o e n hc) (λb o hc e=>u.there b o e hc) u.tups u.sO u.uY (λm' hm=>by
  obtain ⟨o',es',ep',ho',r'⟩:=hm
  rw [ho] at ho';cases ho'
  exact ⟨_,es',ep',hL,r'⟩) hok hg
theorem Inv.turned {t':Nat} {it:Addr} (I:Inv X pins Z H s) (k:∀ b o,b ≠ it -> s.heap.get? b = some o -> h'.get? b = some o) (hn:H it = none) (hL:it ≠ X.env.locals)
  (h1:it ∈ X.ex ∨ X.s₀.heap.objs.size <= it) (h2:∀ x c,X.env.cells.lookup x = some c -> c ≠ it) (h3:∀ p ∈ X.pn ++ pins,p.1 ≠ it):Inv X pins Z H { s with heap:=h',toks:=t' }:=by
 have nit:∀ b u,H b = some u -> b ≠ it:=λb u e z=>by rw [z,hn] at e;cases e
 refine I.step (g':=s.gens) (d':=s.drawn) (ch:=[it]) (λb hb=>?_) (λb o _ _ hc e _=>k b o (λz=>hc (by simp [z])) e) (λb o _ _ hc e _=>⟨o.slots,k b o (λz=>hc (by simp [z])) e⟩) (λ_ _ _ _ n=>n)
  (λb o hc e=>⟨o,k b o (λz=>hc (by simp [z])) e⟩) (λ_ _ e=>e) (λ_ _ _ e=>e) (λb ps e=>⟨#[],by rw [e];simp⟩) (λm hm=>?_) (λb u e=>?_) I.bare
 ·have e:b = it:=by simpa using hb
  subst e
  exact ⟨h1,hL,h2,h3⟩
 ·obtain ⟨o,es,ep,ho,r⟩:=hm
  exact ⟨o,es,ep,k _ o (Ne.symm hL) ho,r⟩
 ·refine (I.hok b u e).stay (λc v hc q=>k c v ?_ q) (λ_ q=>q) λ_ _ q=>q
  rcases hc with z | z
  ·rw [z];exact nit b u e
  ·exact nit c _ z
theorem Inv.tok (I:Inv X pins Z H s) (t:Nat):Inv X pins Z H { s with toks:=t }:=I.un (h':=s.heap) (t':=t) Un.refl I.hok
theorem Inv.kept {t':Nat} (I:Inv X pins Z H s) (k:∀ b u,s.heap.get? b = some u -> h'.get? b = some u):Inv X pins Z H { s with heap:=h',toks:=t' }:=I.un (Un.kept k) (I.hok.kept k)
theorem Inv.laid {a:Addr} {o:HO} {t':Nat} (I:Inv X pins Z H s) (k:∀ b u,s.heap.get? b = some u -> h'.get? b = some u) (hp:s.heap.objs.size <= a) (new:c5 X.prog X.w (upd H a o) h' a o) :
  Inv X pins Z (upd H a o) { s with heap:=h',toks:=t' }:=I.un (Un.laid k hp (I.hok.fresh hp)) (I.hok.laid k hp new)
theorem Inv.write {x e:Addr} {o:HO} {t':Nat} (I:Inv X pins Z H s) (mu:Oh (H x)) (he:e = x ∨ H e = some (.own x)) (k:∀ b u,b ≠ e -> s.heap.get? b = some u -> h'.get? b = some u) (heo:∃ u,h'.get? e = some u)
  (new:c5 X.prog X.w (upd H x o) h' x o):Inv X pins Z (upd H x o) { s with heap:=h',toks:=t' }:=I.un (Un.write mu he k heo) (I.hok.write mu he k heo new)
theorem Inv.gM {pins':List (Addr × Obj)} (I:Inv X pins Z H s) (h:∀ p ∈ pins',s.heap.get? p.1 = some p.2 /\ H p.1 = none /\ p.1 ≠ X.env.locals /\ p.1 ∉ X.fs /\ ∀ v,p.2.data ≠ .cell v):Inv X pins' Z H s :=
 ⟨I.ok,I.os,I.bare,I.base,I.loc,I.cell,I.free,I.kF,λp hp=>(List.mem_append.mp hp).elim (λz=>I.pin p (List.mem_append_left _ z)) (h p),I.hok,I.len⟩
theorem yw {N:List Str} (hN:N.Nodup) {i j:Nat} {x:Str} (a:N[i]? = some x) (b:N[j]? = some x):i = j:=by
 obtain ⟨h1,e1⟩:=List.getElem?_eq_some_iff.mp a
 obtain ⟨h2,e2⟩:=List.getElem?_eq_some_iff.mp b
 exact (List.getElem_inj hN).mp (e1.trans e2.symm)
theorem Cp {M:Model} {A:Around} {E:Value -> Shared -> Prop} {i:Nat} {x:Str} {v:V} {u:Value} {Q:Unit -> Shared -> Prop} (I:Inv X pins Z H s) (hN:X.N.Nodup) (hi:X.N[i]? = some x) (hx:Loc X.env.scope x) (r:RelV v u)
  (h:∀ s',Inv X pins (Z.set i (some v)) H s' -> (∃ a,Heap.SameBut a s.heap s'.heap /\ (a = X.env.locals ∨ X.env.cells.lookup x = some a)) -> Q () s') (hf:X.fn x = true ∨ X.env.scope.names.lookup x = some .local:=by first | exact .inl rfl | exact .inr rfl | assumption):wpAny M A (storeName X.env x u) Q E s:=by
 obtain ⟨m,hn,hl⟩:=id I.loc
 have hcls:(X.env.scope.kind == .class || (X.env.scope.kind == .module && X.env.locals != X.env.globals)) = false:=by rw [I.ok.kind];rfl
 have hiZ:i < Z.length:=by rw [I.len];exact (List.getElem?_eq_some_iff.mp hi).1
 have Kv:=I.Kv
 have tracked:∀ {a:Addr} {h':Heap},(∃ o,s.heap.get? a = some o /\ H a = none) -> Heap.SameBut a s.heap h' -> kD X.prog X.w H h':=λ{a h'} ha hs b ob e=>by
  obtain ⟨_,_,hfree⟩:=ha
  refine (I.hok b ob e).stay (λc w' hc q=>(hs.2 c ?_).trans q) (λ_ q=>q) λ_ _ q=>q
  rintro rfl
  rcases hc with rfl | hc
  ·rw [hfree] at e;cases e
  ·rw [hfree] at hc;cases hc
 rcases hx with hk | hk
 ·refine wpAny_storeName_local hk hn (λh' hn' hs=>?_) hcls
  obtain ⟨oL,_,_,hoL,_⟩:=id hn
  refine h _ ⟨I.ok,I.os,I.bare,⟨λb o e n hb hx=>?_,λb o e n hb hx=>?_,I.base.free,λb o e hx=>?_,I.base.tups,I.base.sO,I.base.uY⟩,⟨_,hn',λj y v' e1 e2 e3=>?_⟩,λy c e=>?_,I.free,I.kF,λp hp=>?_,tracked ⟨oL,hoL,I.free⟩ hs,by simpa using I.len⟩ ⟨_,hs,.inl rfl⟩
  ·exact (hs.2 b (Nat.ne_of_lt (Nat.lt_of_lt_of_le (Heap.lt_size e) I.ok.above))).trans (I.base.keep b o e n hb hx)
  ·obtain ⟨sl,e1⟩:=I.base.slot b o e n hb hx
   exact ⟨sl,(hs.2 b (Nat.ne_of_lt (Nat.lt_of_lt_of_le (Heap.lt_size e) I.ok.above))).trans e1⟩
  ·obtain ⟨o',e1⟩:=I.base.there b o e hx
   exact ⟨o',(hs.2 b (Nat.ne_of_lt (Nat.lt_of_lt_of_le (Heap.lt_size e) I.ok.above))).trans e1⟩
  ·by_cases hj:j = i
   ·subst hj
    rw [hi] at e1;cases e1
    rw [List.getElem?_set_self hiZ] at e2
    cases e2
    exact ⟨u,r,.inl ⟨hk,by simp⟩⟩
   ·rw [List.getElem?_set_ne (Ne.symm hj)] at e2
    obtain ⟨u',r',q⟩:=hl j y v' e1 e2 e3
    refine ⟨u',r',?_⟩
    rcases q with ⟨k,e⟩ | ⟨k,c,e,z⟩
    ·refine .inl ⟨k,?_⟩
     have:y ≠ x:=λe=>hj (yw hN e1 (e ▸ hi))
     simp [this,e]
    ·exact .inr ⟨k,c,e,z.sameBut hs (Kv y c e)⟩
  ·obtain ⟨w',z⟩:=I.cell y c e
   exact ⟨w',z.sameBut hs (Kv y c e)⟩
  ·obtain ⟨e,n,ne,nf,d⟩:=I.pin p hp
   exact ⟨(hs.2 p.1 ne).trans e,n,ne,nf,d⟩
 ·have hfn:X.fn x = true:=by
   rcases hf with z | z
   ·exact z
   ·rw [z] at hk;cases hk
  obtain ⟨c,hc⟩:=I.ok.has x (.inl hk)
  obtain ⟨w',z⟩:=I.cell x c hc
  refine wpAny_storeName_cell I.ok.kind hk hc z (λh' hc' hs=>?_)
  obtain ⟨oc,hoc,hocd⟩:=id z
  refine h { s with heap:=h' } ⟨I.ok,I.os,I.bare,⟨λb o e n hb hx=>?_,λb o e n hb hx=>?_,I.base.free,λb o e hx=>?_,I.base.tups,I.base.sO,I.base.uY⟩,⟨m,hn.sameBut hs (Ne.symm (Kv x c hc)),λj y v' e1 e2 e3=>?_⟩,λy c' e=>?_,I.free,I.kF,λp hp=>?_,tracked ⟨oc,hoc,I.kF x c hc⟩ hs,by simpa using I.len⟩ ⟨c,hs,.inr hc⟩
  ·exact (hs.2 b (Nat.ne_of_lt (Nat.lt_of_lt_of_le (Heap.lt_size e) (I.ok.O5 x c hfn hc)))).trans (I.base.keep b o e n hb hx)
  ·obtain ⟨sl,e1⟩:=I.base.slot b o e n hb hx
   exact ⟨sl,(hs.2 b (Nat.ne_of_lt (Nat.lt_of_lt_of_le (Heap.lt_size e) (I.ok.O5 x c hfn hc)))).trans e1⟩
  ·obtain ⟨o',e1⟩:=I.base.there b o e hx
   exact ⟨o',(hs.2 b (Nat.ne_of_lt (Nat.lt_of_lt_of_le (Heap.lt_size e) (I.ok.O5 x c hfn hc)))).trans e1⟩
  ·by_cases hj:j = i
   ·subst hj
    rw [hi] at e1;cases e1
    rw [List.getElem?_set_self hiZ] at e2
    cases e2
    exact ⟨u,r,.inr ⟨.inl hk,c,hc,hc'⟩⟩
   ·rw [List.getElem?_set_ne (Ne.symm hj)] at e2
    obtain ⟨u',r',q⟩:=hl j y v' e1 e2 e3
    refine ⟨u',r',?_⟩
    rcases q with q | ⟨k,c',e,z'⟩
    ·exact .inl q
    ·refine .inr ⟨k,c',e,z'.sameBut hs ?_⟩
     rintro rfl
     exact hj (yw hN e1 (I.ok.inj _ _ _ e hc ▸ hi))
  ·by_cases hcc:c' = c
   ·subst hcc;exact ⟨_,hc'⟩
   ·obtain ⟨w2,z2⟩:=I.cell y c' e
    exact ⟨w2,z2.sameBut hs hcc⟩
  ·obtain ⟨e,n,ne,nf,d⟩:=I.pin p hp
   refine ⟨(hs.2 p.1 ?_).trans e,n,ne,nf,d⟩
   intro q
   rw [q,hoc] at e
   have q':oc = p.2:=Option.some.inj e
   exact d w' (by rw [← q'];exact hocd)
theorem rO {M:Model} {A:Around} {E:Value -> Shared -> Prop} {i:Nat} {x:Str} {v:V} {u:Value} {Q:Unit -> Shared -> Prop} (I:Inv X pins Z H s) (hN:X.N.Nodup) (hi:X.N[i]? = some x) (hx:Loc X.env.scope x) (r:RelV v u)
  (h:∀ s',Inv X pins (Z.set i (some v)) H s' -> Q () s') (hf:X.fn x = true ∨ X.env.scope.names.lookup x = some .local:=by first | exact .inl rfl | exact .inr rfl | assumption):wpAny M A (storeName X.env x u) Q E s :=
 Cp I hN hi hx r (λs' I' _=>h s' I') hf
theorem Inv.Oc {s':Shared} {ch:List Addr} (I:Inv X pins Z H s) (ho:s'.os = s.os) (u:Un (frs X.stack) ch H H' s.heap s'.heap) (hok:kD X.prog X.w H' s'.heap) (hg:AllBare s'.gens)
  (hch:∀ b ∈ ch,(b ∈ X.ex ∨ X.s₀.heap.objs.size <= b) /\ b ≠ X.env.locals /\ (∀ x c,X.env.cells.lookup x = some c -> c ≠ b) /\ ∀ p ∈ X.pn ++ pins,p.1 ≠ b):Inv X pins Z H' s':=by
 obtain ⟨h',g',d',t',o'⟩:=s'
 have e:o' = s.os:=ho
 subst e
 exact I.call (g':=g') (t':=t') (d':=d') u hok hg hch
end
abbrev XK:=Value -> Option Addr -> Hp -> Prop
abbrev St:=List (Option V)
abbrev VK:=V -> Hp -> Prop
abbrev TE:=St -> Hp -> VK -> Prop
abbrev TT:=St -> Hp -> (Bool -> Hp -> Prop) -> Prop
abbrev TA:=St -> Hp -> (List V -> Hp -> Prop) -> Prop
structure Ends where
 nx:St -> Hp -> Prop
 rt:VK
 bk:St -> Hp -> Prop:=λ_ _=>False
 ct:St -> Hp -> Prop:=λ_ _=>False
abbrev TS:=Ends -> St -> Hp -> Prop
def EP (X:Cx) (pins:List (Addr × Obj)) (Z:St) (Q:VK) (u:Value) (s':Shared):Prop:=∃ v H',Inv X pins Z H' s' /\ RelV v u /\ Q v H'
def TP (X:Cx) (pins:List (Addr × Obj)) (Z:St) (Q:Bool -> Hp -> Prop) (b:Bool) (s':Shared):Prop:=∃ H',Inv X pins Z H' s' /\ Q b H'
def AP (X:Cx) (pins:List (Addr × Obj)) (Z:St) (Q:List V -> Hp -> Prop) (us:List Value) (s':Shared):Prop:=∃ vs H',Inv X pins Z H' s' /\ Vals vs us /\ Q vs H'
def SP (X:Cx) (pins:List (Addr × Obj)) (D:Ends) (f:Flow) (s':Shared):Prop :=
 match f with
 | .next=>∃ Z' H',Inv X pins Z' H' s' /\ D.nx Z' H'
 | .brk=>∃ Z' H',Inv X pins Z' H' s' /\ D.bk Z' H'
 | .cont=>∃ Z' H',Inv X pins Z' H' s' /\ D.ct Z' H'
 | .ret u=>∃ v Z' H',Inv X pins Z' H' s' /\ RelV v u /\ D.rt v H'
def PE (X:Cx) (e:Expr) (t:TE):Prop :=
 ∀ (pins:List (Addr × Obj)) (s:Shared) (Z:St) (H:Hp) (Q:VK),Inv X pins Z H s -> t Z H Q -> wpAny (model X.prog X.w) X.A (eval e X.env) (EP X pins Z Q) X.xe s
def PT (X:Cx) (e:Expr) (t:TT):Prop :=
 ∀ (pins:List (Addr × Obj)) (s:Shared) (Z:St) (H:Hp) (Q:Bool -> Hp -> Prop),Inv X pins Z H s -> t Z H Q -> wpAny (model X.prog X.w) X.A (isTrue e X.env (eval e X.env)) (TP X pins Z Q) X.xe s
def PW (X:Cx) (e:Expr) (t:TT):Prop :=
 ∀ (whole:Sem Value) (pins:List (Addr × Obj)) (s:Shared) (Z:St) (H:Hp) (Q:Bool -> Hp -> Prop),Inv X pins Z H s -> t Z H Q -> wpAny (model X.prog X.w) X.A (isTrue e X.env whole) (TP X pins Z Q) X.xe s
theorem PW.pt {X:Cx} {e:Expr} {t:TT} (h:PW X e t):PT X e t:=h _
def PA (X:Cx) (es:List Expr) (t:TA):Prop :=
 ∀ (pos:Pos) (pins:List (Addr × Obj)) (s:Shared) (Z:St) (H:Hp) (Q:List V -> Hp -> Prop),Inv X pins Z H s -> t Z H Q -> wpAny (model X.prog X.w) X.A (spliced (backTo pos (starEach es X.env))) (AP X pins Z Q) X.xe s
def PS (X:Cx) (st:Stmt) (t:TS):Prop :=
 ∀ (pins:List (Addr × Obj)) (s:Shared) (Z:St) (H:Hp) (D:Ends),Inv X pins Z H s -> t D Z H -> wpAny (model X.prog X.w) X.A (exec st X.env) (SP X pins D) X.xe s
def AU (X:Cx) (st:List Stmt) (t:TS):Prop :=
 ∀ (pins:List (Addr × Obj)) (s:Shared) (Z:St) (H:Hp) (D:Ends),Inv X pins Z H s -> t D Z H -> wpAny (model X.prog X.w) X.A (execs st X.env) (SP X pins D) X.xe s
theorem dN {α:Type} {t:Sem α} {Q Q':α -> Shared -> Prop} {M:Model} {A:Around} {E:Value -> Shared -> Prop} {s:Shared} (h:wpAny M A t Q E s) (hQ:∀ a s,Q a s -> Q' a s):wpAny M A t Q' E s:=wpAny_mono h hQ λ_ _ x=>x
end L2
namespace L2
open PySem PySem.Spec PyProof.Rows
section
variable {X:Cx}
def Hw (i:Nat):TE:=λZ H Q=>∃ v,Z[i]? = some (some v) /\ Q v H
def tC (v:V):TE:=λ_ H Q=>Q v H
theorem Lf {i:Nat} {x:Str} {pos:Pos} (hN:X.N[i]? = some x) (hv:O9 X.env.scope x) (hd:(x == ("__debug__" : Str)) = false:=by decide) (hcd:(x == ("__classdict__" : Str)) = false:=by decide):PE X (.Name x pos) (Hw i):=by
 intro pins s Z H Q I h
 obtain ⟨v,e,h⟩:=h
 obtain ⟨m,hn,hl⟩:=I.loc
 obtain ⟨u,r,l⟩:=hl i x v hN e hv
 have fin:EP X pins Z Q u s:=⟨v,H,I,r,h⟩
 rcases l with ⟨hk,hm⟩ | ⟨hk,c,hc,hcell⟩
 ·exact wpAny_Name (wpAny_loadName_local I.ok.kind hk hn hm fin) hd
 ·rcases hk with hk | hk
  ·exact wpAny_Name (wpAny_loadName_cell I.ok.kind hk hc hcell fin) hd
  ·exact wpAny_Name (wpAny_loadName_free I.ok.kind hk hc hcell fin hcd) hd
theorem ak {i j pos}:PE X (.Constant (.int i) j pos) (tC (.int i)):=λ_ _ _ H _ I h=>wpAny_Constant_int ⟨.int i,H,I.tok _,⟨_,rfl⟩,h⟩
theorem jh {b j pos}:PE X (.Constant (.bool b) j pos) (tC (.bl b)):=λ_ _ _ H _ I h=>Constant_bool ⟨.bl b,H,I,rfl,h⟩
theorem bN {j pos}:PE X (.Constant .none j pos) (tC .cQ):=λ_ _ _ H _ I h=>Constant_none ⟨.cQ,H,I,rfl,h⟩
theorem aX {x j pos}:PE X (.Constant (.str x) j pos) (tC (.str x)):=λ_ _ _ H _ I h=>Calls.Constant_str ⟨.str x,H,I.tok _,⟨_,rfl⟩,h⟩
def Gl (X:Cx) (x:Str):Prop:=X.env.kindOf x = some .globalImplicit
theorem mh {E:Value -> Shared -> Prop} {pins:List (Addr × Obj)} {s:Shared} {Z:St} {H:Hp} {x:Str} {u:Value} {pos:Pos} {Q:Value -> Shared -> Prop} (I:Inv X pins Z H s) (hg:Gl X x) (hm:X.mg x = some u) (h:Q u s)
  (hd:(x == ("__debug__" : Str)) = false:=by decide):wpAny (model X.prog X.w) X.A (eval (.Name x pos) X.env) Q E s :=
 Calls.Name_function_global I.ok.kind hg (Calls.loadGlobal_global (by rw [I.ok.glob];exact I.mod.glob.keeps I.bk) hm h) hd
theorem jX {E:Value -> Shared -> Prop} {pins:List (Addr × Obj)} {s:Shared} {Z:St} {H:Hp} {x:Str} {u:Value} {pos:Pos} {Q:Value -> Shared -> Prop} (I:Inv X pins Z H s) (hg:Gl X x) (hm:X.mg x = none) (hv:bootBuiltins x = some u) (h:Q u s)
  (hn:x ≠ "__name__" := by decide) (hd:(x == ("__debug__" : Str)) = false:=by decide):wpAny (model X.prog X.w) X.A (eval (.Name x pos) X.env) Q E s:=by
 obtain ⟨mb,h1,h2⟩:=I.mod.blt
 exact Calls.Name_function_global I.ok.kind hg (Calls.loadGlobal_builtin (by rw [I.ok.glob];exact I.mod.glob.keeps I.bk) hm (by rw [I.ok.blt];exact h1.keeps I.bk) ((h2 x hn).trans hv) h) hd
theorem lQ {x:Str} {v:V} {u:Value} {pos:Pos} (hg:Gl X x) (hm:X.mg x = some u) (r:RelV v u) (hd:(x == ("__debug__" : Str)) = false:=by decide):PE X (.Name x pos) (tC v) :=
 λ_ _ _ H _ I h=>mh I hg hm ⟨v,H,I,r,h⟩ hd
theorem IA {x:Str} {v:V} {u:Value} {pos:Pos} (hg:Gl X x) (hm:X.mg x = none) (hv:bootBuiltins x = some u) (r:RelV v u) (hn:x ≠ "__name__" := by decide) (hd:(x == ("__debug__" : Str)) = false:=by decide):PE X (.Name x pos) (tC v) :=
 λ_ _ _ H _ I h=>jX I hg hm hv ⟨v,H,I,r,h⟩ hn hd
variable {a b:Expr} {ta tb:TE} {pos:Pos}
def PC (X:Cx) (op:CmpOp) (a b:Expr) (t:TE):Prop :=
 ∀ (pins:List (Addr × Obj)) (s:Shared) (Z:St) (H:Hp) (Q:VK),Inv X pins Z H s -> t Z H Q ->
  wpAny (model X.prog X.w) X.A (eval a X.env) (λv s₁=>wpAny (model X.prog X.w) X.A (eval b X.env) (λu s₂=>wpAny (model X.prog X.w) X.A (compareOp op v u) (EP X pins Z Q) X.xe s₂) X.xe s₁) X.xe s
theorem yf (b:Expr) {op:CmpOp} (h:op ≠ .In) (h2:op ≠ .NotIn):behindInMarks op b = false:=by
 have e1:(op == CmpOp.In) = false:=by cases op <;> first | rfl | exact absurd rfl h
 have e2:(op == CmpOp.NotIn) = false:=by cases op <;> first | rfl | exact absurd rfl h2
 cases b <;> simp [behindInMarks,e1,e2]
def tB (t:TE):TT:=λZ H Q=>t Z H λx H1=>∃ c,x = .bl c /\ Q c H1
theorem Kf {op:CmpOp} {t:TE} (h:PC X op a b t) (h1:behindInMarks op b = false:=by first | exact yf _ (by decide) (by decide) | rfl):PT X (.Compare a [op] [b] pos) (tB t):=by
 intro pins s Z H Q I hw
 refine wpAny_isTrue_Compare1 (dN (h pins s Z H _ I hw) λv s1 h1=>dN h1 λu s2 h2=>dN h2 λc s3 hY=>?_) h1
 obtain ⟨x,H1,I1,r1,q1⟩:=hY
 obtain ⟨d,rfl,q⟩:=q1
 cases r1
 exact wpAny_truthy_bool ⟨H1,I1,q⟩
theorem i9 {e:Expr} {t:TE} (h:PE X e t) (he:∀ whole,isTrue e X.env whole = (do let v ← whole;standAt e.pos;holding [v] (truthy v)):=by intro _;rfl):PT X e (tB t):=by
 intro pins s Z H Q I hw
 refine isTrue_plain (dN (h pins s Z H _ I hw) λv s1 hY=>?_) (he _)
 obtain ⟨x,H1,I1,r1,q1⟩:=hY
 obtain ⟨d,rfl,q⟩:=q1
 cases r1
 exact wpAny_truthy_bool ⟨H1,I1,q⟩
variable {tA tB':TT} {rest:List Expr}
def Ou (t u:TT):TT:=λZ H Q=>t Z H λc H1=>if c = true then u Z H1 Q else Q false H1
def tOr (t u:TT):TT:=λZ H Q=>t Z H λc H1=>if c = true then Q true H1 else u Z H1 Q
def OI (t:TT):TT:=λZ H Q=>t Z H λc H1=>Q (!c) H1
theorem di (ha:PT X a tA):PW X (.BoolOp .And [a] pos) tA:=by
 intro wh pins s Z H Q I h
 refine isTrue_and (dN (ha pins s Z H Q I h) λc s1 e=>?_)
 cases c with
 | true=>exact isTrue_and_nil e
 | false=>exact e
theorem i8 (ha:PT X a tA):PW X (.BoolOp .Or [a] pos) tA:=by
 intro wh pins s Z H Q I h
 refine isTrue_or (dN (ha pins s Z H Q I h) λc s1 e=>?_)
 cases c with
 | false=>exact isTrue_or_nil e
 | true=>exact e
theorem dH (ha:PT X a tA) (hb:PW X (.BoolOp .And (b :: rest) pos) tB'):PW X (.BoolOp .And (a :: b :: rest) pos) (Ou tA tB'):=by
 intro wh pins s Z H Q I h
 refine isTrue_and (dN (ha pins s Z H _ I h) λc s1  hZ=>?_)
 obtain ⟨H1,I1,q1⟩:=hZ
 cases c with
 | true=>exact hb wh pins s1 Z H1 Q I1 q1
 | false=>exact ⟨H1,I1,q1⟩
theorem jy (ha:PT X a tA) (hb:PW X (.BoolOp .Or (b :: rest) pos) tB'):PW X (.BoolOp .Or (a :: b :: rest) pos) (tOr tA tB'):=by
 intro wh pins s Z H Q I h
 refine isTrue_or (dN (ha pins s Z H _ I h) λc s1  hZ=>?_)
 obtain ⟨H1,I1,q1⟩:=hZ
 cases c with
 | true=>exact ⟨H1,I1,q1⟩
 | false=>exact hb wh pins s1 Z H1 Q I1 q1
theorem mX (ha:PT X a tA):PT X (.UnaryOp .Not a pos) (OI tA):=by
 intro pins s Z H Q I h
 exact isTrue_not (ha pins s Z H (λc H1=>Q (!c) H1) I h)
def Jw (ta tb:TE):TE:=λZ H Q=>ta Z H λx H1=>∃ c,x = .bl c /\ if c = true then tb Z H1 Q else Q (.bl false) H1
def Pk (ta tb:TE):TE:=λZ H Q=>ta Z H λx H1=>∃ c,x = .bl c /\ if c = true then Q (.bl true) H1 else tb Z H1 Q
def Jx (ta:TE):TE:=λZ H Q=>ta Z H λx H1=>∃ c,x = .bl c /\ Q (.bl (!c)) H1
theorem Mb {op} {t:TE} (h:PE X a t):PE X (.BoolOp op [a] pos) t:=λpins s Z H Q I hw=>BoolOp_one (h pins s Z H Q I hw)
theorem Lv (ha:PE X a ta) (hb:PE X (.BoolOp .And (b :: rest) pos) tb):PE X (.BoolOp .And (a :: b :: rest) pos) (Jw ta tb):=by
 intro pins s Z H Q I h
 refine BoolOp_and (dN (ha pins s Z H _ I h) λv s1  hZ=>?_)
 obtain ⟨x,H1,I1,r1,q1⟩:=hZ
 obtain ⟨c,rfl,q1⟩:=q1
 cases r1
 refine wpAny_truthy_bool ?_
 cases c with
 | true=>exact hb pins s1 Z H1 Q I1 q1
 | false=>exact ⟨.bl false,H1,I1,rfl,q1⟩
theorem Dc (ha:PE X a ta):PE X (.UnaryOp .Not a pos) (Jx ta):=by
 intro pins s Z H Q I h
 refine UnaryOp_ (dN (ha pins s Z H _ I h) λv s1  hZ=>?_)
 obtain ⟨x,H1,I1,r1,q1⟩:=hZ
 obtain ⟨c,rfl,q1⟩:=q1
 cases r1
 exact not_of (wpAny_truthy_bool ⟨.bl (!c),H1,I1,rfl,q1⟩)
def tIf (t:TT) (ta tb:TE):TE:=λZ H Q=>t Z H λc H1=>if c = true then ta Z H1 Q else tb Z H1 Q
theorem cX {c:Expr} (hc:PT X c tA) (ha:PE X a ta) (hb:PE X b tb):PE X (.IfExp c a b pos) (tIf tA ta tb):=by
 intro pins s Z H Q I h
 refine wpAny_IfExp (dN (hc pins s Z H _ I h) λd s1  hZ=>?_)
 obtain ⟨H1,I1,q1⟩:=hZ
 cases d with
 | true=>exact ha pins s1 Z H1 Q I1 q1
 | false=>exact hb pins s1 Z H1 Q I1 q1
end
end L2
namespace L2
open PySem PySem.Spec PyProof.Rows
def bf (K:PySem.W.Frag) (H:Hp) (a:Addr) (xs:List V):Prop :=
 Rd H a (.lst xs) ∨
  ∃ (o:Obj) (its:Array Value) (n:Nat),K.lookup a = some o /\ o.cls = .type "list" /\ o.dict = none /\ o.data = .seq its n /\ its.size <= sizeLine /\ Vals xs its.toList
def d8 (K:PySem.W.Frag) (H:Hp) (a:Addr) (xs:List V):Prop :=
 Rd H a (.tup xs) ∨
  ∃ (o:Obj) (its:Array Value) (n:Nat),K.lookup a = some o /\ o.cls = .type "tuple" /\ o.data = .seq its n /\ its.size <= sizeLine /\ Vals xs its.toList
def Qh:Value -> Option V
 | .none=>some .cQ
 | .bool b=>some (.bl b)
 | .int i _=>some (.int i)
 | .str x _=>some (.str x)
 | .bytes b _=>some (.byt b)
 | .float b _=>some (.KQ b)
 | .ref a=>some (.ref a)
 | .type n=>some (.ty n)
 | _=>none
theorem RelV.abs {x:V} {u:Value} (r:RelV x u):Qh u = some x:=by
 cases x with
 | cQ=>cases r;rfl
 | bl _=>cases r;rfl
 | int _=>obtain ⟨t,rfl⟩:=r;rfl
 | str _=>obtain ⟨t,rfl⟩:=r;rfl
 | byt _=>obtain ⟨t,rfl⟩:=r;rfl
 | KQ _=>obtain ⟨t,rfl⟩:=r;rfl
 | ref _=>cases r;rfl
 | ty _=>cases r;rfl
theorem RelV.inj {x y:V} {u:Value} (r:RelV x u) (q:RelV y u):x = y:=Option.some.inj (r.abs.symm.trans q.abs)
theorem Vals.inj:∀ {xs ys:List V} {us:List Value},Vals xs us -> Vals ys us -> xs = ys
 | _,_,_,.nil,.nil=>rfl
 | _,_,_,.cons r t,.cons r' t'=>by rw [r.inj r',Vals.inj t t']
section
variable {X:Cx} {pins:List (Addr × Obj)} {Z:St} {H:Hp} {s:Shared} {a:Addr} {xs ys:List V}
theorem bf.of {K:PySem.W.Frag} (h:H a = some (.lst xs)):bf K H a xs:=.inl (.inl h)
theorem d8.of {K:PySem.W.Frag} (h:H a = some (.tup xs)):d8 K H a xs:=.inl (.inl h)
theorem Inv.list (I:Inv X pins Z H s) (h:bf X.K H a xs):∃ its:List Value,Vals xs its /\ PlainL s.heap a its.toArray /\ xs.length <= sizeLine:=by
 rcases h with h | ⟨o,its,n,hk,hc,hd,hs,hz,r⟩
 ·obtain ⟨z,its,n,r,e⟩:=h.ok I.hok
  exact ⟨its,r,⟨_,n,e,rfl,rfl,rfl⟩,z⟩
 ·refine ⟨its.toList,r,⟨o,n,I.lP a o hk,hc,hd,by simpa using hs⟩,?_⟩
  have e:=r.length
  simp only [Array.length_toList] at e
  lia
theorem Inv.tuple (I:Inv X pins Z H s) (h:d8 X.K H a xs):∃ its:List Value,Vals xs its /\ IsTup s.heap a its.toArray /\ xs.length <= sizeLine:=by
 rcases h with h | ⟨o,its,n,hk,hc,hs,hz,r⟩
 ·obtain ⟨z,its,r,p⟩:=h.ok I.hok
  exact ⟨its,r,p,z⟩
 ·refine ⟨its.toList,r,⟨o,I.lP a o hk,hc,n,by simpa using hs⟩,?_⟩
  have e:=r.length
  simp only [Array.length_toList] at e
  lia
theorem Inv.mC (I:Inv X pins Z H s) (h:bf X.K H a xs) (h':bf X.K H a ys):xs = ys:=by
 obtain ⟨its,r,⟨o,n,e,_,_,d⟩,_⟩:=I.list h
 obtain ⟨its',r',⟨o',n',e',_,_,d'⟩,_⟩:=I.list h'
 rw [e] at e';cases e'
 rw [d] at d'
 injection d' with d1 _
 have:its = its':=by simpa using congrArg Array.toList d1
 subst this
 exact r.inj r'
end
abbrev Cx.sL (X:Cx) (E:Value -> Shared -> Prop):Cx:={ X with xe:=E }
abbrev Cx.Pf (X:Cx):Cx:=X.sL λ_ _=>False
theorem Cx.Ok.sL {X:Cx} (ok:X.Ok) (E:Value -> Shared -> Prop):(X.sL E).Ok :=
 ⟨ok.mod,ok.kind,ok.glob,ok.blt,ok.above,ok.inj,ok.has,ok.O5,ok.hd,ok.frames,ok.stk,ok.exf,ok.bs,ok.JE,ok.E3,ok.HK,ok.ow,ok.Mn⟩
theorem Cx.Ok.jT {X:Cx} {E:Value -> Shared -> Prop} (ok:(X.sL E).Ok):X.Ok :=
 ⟨ok.mod,ok.kind,ok.glob,ok.blt,ok.above,ok.inj,ok.has,ok.O5,ok.hd,ok.frames,ok.stk,ok.exf,ok.bs,ok.JE,ok.E3,ok.HK,ok.ow,ok.Mn⟩
section
variable {X:Cx} {pins:List (Addr × Obj)} {Z:St} {H:Hp} {s:Shared} {E:Value -> Shared -> Prop}
theorem Inv.sL (I:Inv X pins Z H s) (E:Value -> Shared -> Prop):Inv (X.sL E) pins Z H s:=⟨I.ok.sL E,I.os,I.bare,I.base,I.loc,I.cell,I.free,I.kF,I.pin,I.hok,I.len⟩
theorem Inv.jT (I:Inv (X.sL E) pins Z H s):Inv X pins Z H s:=⟨I.ok.jT,I.os,I.bare,I.base,I.loc,I.cell,I.free,I.kF,I.pin,I.hok,I.len⟩
theorem SP.jT {D:Ends} {f:Flow} {s':Shared} (h:SP (X.sL E) pins D f s'):SP X pins D f s':=by
 cases f with
 | next=>obtain ⟨Z',H',I,q⟩:=h;exact ⟨Z',H',I.jT,q⟩
 | brk=>obtain ⟨Z',H',I,q⟩:=h;exact ⟨Z',H',I.jT,q⟩
 | cont=>obtain ⟨Z',H',I,q⟩:=h;exact ⟨Z',H',I.jT,q⟩
 | ret u=>obtain ⟨v,Z',H',I,r,q⟩:=h;exact ⟨v,Z',H',I.jT,r,q⟩
theorem AU.Pf {st:List Stmt} {t:TS} (h:AU X.Pf st t):AU X st t:=λpins s Z H D I hw =>
 wpAny_mono (h pins s Z H D (I.sL _) hw) (λ_ _ q=>q.jT) λ_ _ z=>False.elim z
end
section
variable {X:Cx} {st:Stmt} {rest:List Stmt} {t u:TS} {e:Expr} {te:TE} {pos:Pos}
def O4:TS:=λD Z H=>D.nx Z H
def NG (t u:TS):TS:=λD Z H=>t { D with nx:=u D } Z H
theorem vW (h1:PS X st t) (h2:AU X rest u):AU X (st :: rest) (NG t u):=by
 intro pins s Z H D I h
 refine wpAny_execs_cons (dN (h1 pins s Z H { D with nx:=u D } I h) λf s1 q=>?_)
 cases f with
 | next =>
  obtain ⟨Z',H',I',q⟩:=q
  exact h2 pins s1 Z' H' D I' q
 | ret v=>exact q
 | brk=>exact q
 | cont=>exact q
theorem Je (h1:PS X st t):AU X [st] t:=by
 intro pins s Z H D I h
 refine wpAny_execs_cons (dN (h1 pins s Z H D I h) λf s1 q=>?_)
 cases f with
 | next=>exact wpAny_execs_nil q
 | ret v=>exact q
 | brk=>exact q
 | cont=>exact q
theorem Inv.quiet {pins:List (Addr × Obj)} {Z:St} {H:Hp} {s:Shared} (I:Inv X pins Z H s):interactive X.env = false:=by simp [interactive,I.ok.kind]
def JG (te:TE):TS:=λD Z H=>te Z H λ_ H1=>D.nx Z H1
theorem bz (he:PE X e te) (hs:swapsWith e none pos.line X.env = pure false:=by rfl):PS X (.Expr e pos) (JG te):=by
 intro pins s Z H D I h
 exact wpAny_Expr_any (dN (he pins s Z H _ I h) λv s1 ⟨x,H1,I1,r1,q1⟩=>⟨Z,H1,I1,q1⟩) I.quiet hs
def MN (te:TE):TS:=λD Z H=>te Z H D.rt
theorem aJ (he:PE X e te):PS X (.Return (some e) pos) (MN te):=by
 intro pins s Z H D I h
 exact wpAny_Return_some (dN (he pins s Z H _ I h) λv s1 ⟨x,H1,I1,r1,q1⟩=>⟨x,Z,H1,I1,r1,q1⟩)
def OP (c:TT) (t u:TS):TS:=λD Z H=>c Z H λb H1=>if b = true then t D Z H1 else u D Z H1
theorem bx {c:Expr} {a b:List Stmt} {tc:TT} (hc:PT X c tc) (ha:AU X a t) (hb:AU X b u):PS X (.If c a b pos) (OP tc t u):=by
 intro pins s Z H D I h
 refine wpAny_If (dN (hc pins s Z H _ I h) λd s1  hZ=>?_)
 obtain ⟨H1,I1,q1⟩:=hZ
 cases d with
 | true=>exact ha pins s1 Z H1 D I1 q1
 | false=>exact hb pins s1 Z H1 D I1 q1
end
abbrev TG:=V -> St -> Hp -> (St -> Hp -> Prop) -> Prop
abbrev IF:=List V -> St -> Hp -> (St -> Hp -> Prop) -> Prop
def PG (X:Cx) (target:Expr) (t:TG):Prop :=
 ∀ (pins:List (Addr × Obj)) (s:Shared) (Z:St) (H:Hp) (v:V) (u:Value) (Q:St -> Hp -> Prop),Inv X pins Z H s -> RelV v u -> t v Z H Q ->
  wpAny (model X.prog X.w) X.A (assign target X.env u) (λ_ s'=>∃ Z' H',Inv X pins Z' H' s' /\ Q Z' H') X.xe s
def N5 (X:Cx) (ts:List Expr) (t:IF):Prop :=
 ∀ (pins:List (Addr × Obj)) (s:Shared) (Z:St) (H:Hp) (vs:List V) (us:List Value) (Q:St -> Hp -> Prop),Inv X pins Z H s -> Vals vs us -> t vs Z H Q ->
  wpAny (model X.prog X.w) X.A (assignInOrder ((assignEach ts X.env).map (·.2)) us) (λ_ s'=>∃ Z' H',Inv X pins Z' H' s' /\ Q Z' H') X.xe s
abbrev MM:=V -> V -> V -> Hp -> (Hp -> Prop) -> Prop
def N3 (X:Cx) (t:MM):Prop :=
 ∀ (pins:List (Addr × Obj)) (s:Shared) (Z:St) (H:Hp) (o i v:V) (ov iv u:Value) (Q:Hp -> Prop),Inv X pins Z H s -> RelV o ov -> RelV i iv -> RelV v u -> t o i v H Q ->
  wpAny (model X.prog X.w) X.A (setItem ov iv u) (λ_ s'=>∃ H',Inv X pins Z H' s' /\ Q H') X.xe s
abbrev Pe:=V -> V -> Hp -> VK -> Prop
def PIp (X:Cx) (op:Operator) (t:Pe):Prop :=
 ∀ (pins:List (Addr × Obj)) (s:Shared) (Z:St) (H:Hp) (x y:V) (v u:Value) (Q:VK),Inv X pins Z H s -> RelV x v -> RelV y u -> t x y H Q ->
  wpAny (model X.prog X.w) X.A (inplaceOp op v u) (EP X pins Z Q) X.xe s
section
variable {X:Cx} {pos:Pos}
def um (i:Nat):TG:=λv Z H Q=>Q (Z.set i (some v)) H
theorem bJ {i:Nat} {x:Str} (hN:X.N.Nodup) (hi:X.N[i]? = some x) (hx:Loc X.env.scope x) (hf:X.fn x = true ∨ X.env.scope.names.lookup x = some .local:=by first | exact .inl rfl | exact .inr rfl | assumption):PG X (.Name x pos) (um i):=by
 intro pins s Z H v u Q I r h
 exact wpAny_assign_Name (rO I hN hi hx r (λs' I'=>⟨_,H,I',h⟩) hf)
def Pn:IF:=λvs Z H Q=>vs = [] /\ Q Z H
def NQ (t:TG) (u:IF):IF:=λvs Z H Q=>∃ v r,vs = v :: r /\ t v Z H λZ' H'=>u r Z' H' Q
theorem j7:N5 X [] Pn:=by
 intro pins s Z H vs us Q I r h
 obtain ⟨e,h⟩:=h
 subst e
 cases r
 exact assignInOrder_nil ⟨Z,H,I,h⟩
theorem cL {e:Expr} {es:List Expr} {t:TG} {u:IF} (h1:PG X e t) (h2:N5 X es u)
  (hs:(assignEach (e :: es) X.env).map (·.2) = assign e X.env :: (assignEach es X.env).map (·.2):=by rfl):N5 X (e :: es) (NQ t u):=by
 intro pins s Z H vs us Q I r h
 obtain ⟨v,vr,e1,h⟩:=h
 subst e1
 cases r with
 | cons r rr =>
  rw [hs]
  refine assignInOrder_cons (dN (h1 pins s Z H _ _ _ I r h) λ_ s1  hZ=>?_)
  obtain ⟨Z1,H1,I1,q1⟩:=hZ
  exact h2 pins s1 Z1 H1 _ _ Q I1 rr q1
def QH (K:PySem.W.Frag) (n:Nat) (t:IF):TG:=λv Z H Q=>∃ a xs,v = .ref a /\ d8 K H a xs /\ xs.length = n /\ t xs Z H Q
theorem qJ {es:List Expr} {k:Nat} {t:IF} {n:Nat} (hc:X.calm = true) (h:N5 X es t)
  (hn:(assignEach es X.env).length = n:=by rfl) (hst:(assignEach es X.env).findIdx? (·.1) = none:=by rfl):PG X (.Tuple es k pos) (QH X.K n t):=by
 intro pins s Z H v u Q I r hw
 obtain ⟨a,xs,e1,hq,hl,hw⟩:=hw
 subst e1
 cases r
 obtain ⟨its,rv,ht,hz⟩:=I.tuple hq
 refine assign_Tuple_tuple (I.ok.hd hc) ht (by simp [hn,← hl,rv.length]) hst λh' hx=>?_
 have I1:Inv X pins Z H { s with heap:=h' }:=I.kept (t':=s.toks) λb o e=>hx b o (Nat.ne_of_lt (Heap.lt_size e)) e
 exact h pins _ Z H xs _ Q I1 (by simpa using rv) hw
def Rh (to ti:TE) (t:MM):TG:=λv Z H Q=>to Z H λo H1=>ti Z H1 λi H2=>t o i v H2 λH3=>Q Z H3
theorem uV {o i:Expr} {to ti:TE} {t:MM} (ho:PE X o to) (hi:PE X i ti) (hs:N3 X t)
  (ha:∀ v,assign (.Subscript o i pos) X.env v = (do
   let ov ← holding [v] (eval o X.env)
   let iv ← holding [v,ov] (eval i X.env)
   standAt pos
   holding [v,ov,iv] (setItem ov iv v)
   release [v,ov,iv] []):=by intro _;rfl):PG X (.Subscript o i pos) (Rh to ti t):=by
 intro pins s Z H v u Q I r h
 rw [ha]
 refine wpAny_bind (wpAny_holding (dN (ho pins s Z H _ I h) λov s1  hZ=>?_))
 obtain ⟨x,H1,I1,r1,q1⟩:=hZ
 refine wpAny_bind (wpAny_holding (dN (hi pins s1 Z H1 _ I1 q1) λiv s2  hZ=>?_))
 obtain ⟨y,H2,I2,r2,q2⟩:=hZ
 refine wpAny_bind (wpAny_standAt (wpAny_bind (wpAny_holding (dN (hs pins s2 Z H2 x y v ov iv u _ I2 r1 r2 r q2) λ_ s3  hZ=>?_))))
 obtain ⟨H3,I3,q3⟩:=hZ
 exact wpAny_release ⟨Z,H3,I3,q3⟩
def Io (te:TE) (g:TG):TS:=λD Z H=>te Z H λx H1=>g x Z H1 D.nx
theorem o9 {tg e:Expr} {te:TE} {g:TG} (he:PE X e te) (hg:PG X tg g) (hs:swapsWithSole [tg] e pos.line X.env = pure false:=by rfl) (hw:swappedStores [tg] e X.env = pure none:=by rfl)
  (h1:(assignEach [tg] X.env).map (·.2) = [assign tg X.env]:=by rfl):PS X (.Assign [tg] e pos) (Io te g):=by
 intro pins s Z H D I h
 refine wpAny_Assign_stores (dN (he pins s Z H _ I h) λv s1 hY=>?_) hs hw
 obtain ⟨x,H1,I1,r1,q1⟩:=hY
 rw [h1]
 exact dN (hg pins s1 Z H1 x v _ I1 r1 q1) λ_ s2 q=>q
theorem aB {i:Nat} {x:Str} {e:Expr} {te:TE} {pos':Pos} (hN:X.N.Nodup) (hi:X.N[i]? = some x) (hx:Loc X.env.scope x) (he:PE X e te) (hs:swapsWith e (some (.Name x pos')) pos.line X.env = pure false:=by rfl) (hf:X.fn x = true ∨ X.env.scope.names.lookup x = some .local:=by first | exact .inl rfl | exact .inr rfl | assumption) :
  PS X (.Assign [.Name x pos'] e pos) (Io te (um i)):=by
 intro pins s Z H D I h
 refine wpAny_Assign_Name (dN (he pins s Z H _ I h) λv s1 hY=>?_) hs
 obtain ⟨y,H1,I1,r1,q1⟩:=hY
 exact rO I1 hN hi hx r1 (λs2 I2=>⟨_,H1,I2,q1⟩) hf
def NV (i:Nat) (te:TE) (ti:Pe):TS:=λD Z H=>∃ x,Z[i]? = some (some x) /\ te Z H λy H1=>ti x y H1 λz H2=>D.nx (Z.set i (some z)) H2
theorem AK {i:Nat} {x:Str} {e:Expr} {te:TE} {op:Operator} {ti:Pe} {pos':Pos} (hN:X.N.Nodup) (hi:X.N[i]? = some x) (hx:Loc X.env.scope x) (he:PE X e te) (ho:PIp X op ti) (hf:X.fn x = true ∨ X.env.scope.names.lookup x = some .local:=by first | exact .inl rfl | exact .inr rfl | assumption) :
  PS X (.AugAssign (.Name x pos') op e pos) (NV i te ti):=by
 intro pins s Z H D I h
 obtain ⟨v,e1,h⟩:=h
 obtain ⟨m,hn,hl⟩:=I.loc
 have vis:O9 X.env.scope x:=by rcases hx with k | k;exact .inl k;exact .inr (.inl k)
 obtain ⟨u,r,l⟩:=hl i x v hi e1 vis
 refine wpAny_AugAssign_Name ?_
 have go:wpAny (model X.prog X.w) X.A (eval e X.env) (λw s₂=>wpAny (model X.prog X.w) X.A (inplaceOp op u w) (λr s₃=>wpAny (model X.prog X.w) X.A (storeName X.env x r) (λ_=>SP X pins D .next) X.xe s₃) X.xe s₂) X.xe s:=by
  refine dN (he pins s Z H _ I h) λw s1  hZ=>?_
  obtain ⟨y,H1,I1,r1,q1⟩:=hZ
  refine dN (ho pins s1 Z H1 v y u w _ I1 r r1 q1) λz s2  hZ=>?_
  obtain ⟨zv,H2,I2,r2,q2⟩:=hZ
  exact rO I2 hN hi hx r2 (λs3 I3=>⟨_,H2,I3,q2⟩) hf
 rcases l with ⟨hk,hm⟩ | ⟨hk,c,hc,hcell⟩
 ·exact wpAny_loadName_local I.ok.kind hk hn hm go
 ·rcases hk with hk | hk
  ·exact wpAny_loadName_cell I.ok.kind hk hc hcell go
  ·rcases hx with k | k
   ·have:X.env.scope.names.lookup x = some .free:=hk
    rw [k] at this;cases this
   ·have:X.env.scope.names.lookup x = some .free:=hk
    rw [k] at this;cases this
def ipI (f:Int -> Int -> Int):Pe:=λx y H Q=>∃ i j,x = .int i /\ y = .int j /\ Q (.int (f i j)) H
theorem Ax:PIp X .Add (ipI λi j=>i + j):=by
 intro pins s Z H x y v u Q I r1 r2 h
 obtain ⟨i,j,e1,e2,q⟩:=h
 subst e1;subst e2
 obtain ⟨t,rfl⟩:=r1
 obtain ⟨t',rfl⟩:=r2
 exact iadd_int ⟨.int _,H,I.tok _,⟨_,rfl⟩,q⟩
end
section
variable {X:Cx} {pos:Pos}
def Lw (c:TT) (tb:TS):TS:=λD Z H=>∃ W:Nat -> St -> Hp -> Prop,(∃ m,W m Z H) /\ ∀ m Z H,W m Z H ->
 c Z H λb H1=>if b = true then ∃ N:St -> Hp -> Prop,(∀ Z' H',N Z' H' -> ∃ m',m' < m /\ W m' Z' H') /\ tb { D with nx:=N,ct:=N,bk:=D.nx } Z H1 else D.nx Z H1
theorem gu {c:Expr} {body:List Stmt} {tc:TT} {tb:TS} (hp:PassesOwn (model X.prog X.w) X.A X.env X.xe) (hc:PT X c tc) (hb:AU X body tb):PS X (.While c body [] pos) (Lw tc tb):=by
 intro pins s Z H D I h
 obtain ⟨W,⟨m0,w0⟩,turn⟩:=h
 refine wpAny_While (codeAny_whileLoop (λn s'=>∃ Z' H',Inv X pins Z' H' s' /\ W n Z' H') ?_ m0 ⟨Z,H,I,w0⟩)
 rintro n s1 ⟨Z1,H1,I1,w1⟩
 refine wpAny_passesOwn hp (dN (hc pins s1 Z1 H1 _ I1 (turn n Z1 H1 w1)) λb s2  hZ=>?_)
 obtain ⟨H2,I2,q2⟩:=hZ
 cases b with
 | true =>
  obtain ⟨N,hN,q2⟩:=q2
  rw [if_pos rfl]
  refine wpAny_passesOwn hp (dN (hb pins s2 Z1 H2 _ I2 q2) λf s3 q3=>?_)
  cases f with
  | next =>
   obtain ⟨Z3,H3,I3,n3⟩:=q3
   obtain ⟨m',hm,w3⟩:=hN Z3 H3 n3
   exact ⟨m',hm,Z3,H3,I3,w3⟩
  | cont =>
   obtain ⟨Z3,H3,I3,n3⟩:=q3
   obtain ⟨m',hm,w3⟩:=hN Z3 H3 n3
   exact ⟨m',hm,Z3,H3,I3,w3⟩
  | brk=>exact q3
  | ret v=>exact q3
 | false =>
  rw [if_neg Bool.false_ne_true]
  exact wpAny_execs_nil ⟨Z1,H2,I2,q2⟩
end
structure It where
 go:Nat -> Hp -> Prop
 Nm:Nat -> Hp -> V -> Hp -> Prop
 stop:Nat -> Hp -> Prop
def sQ (X:Cx) (pins:List (Addr × Obj)) (H:Hp) (b:Addr):Prop :=
 H b = none /\ b ≠ X.env.locals /\ b ∉ X.fs /\ (b ∈ X.ex ∨ X.s₀.heap.objs.size <= b) /\ (∀ x c,X.env.cells.lookup x = some c -> c ≠ b) /\ ∀ p ∈ X.pn ++ pins,p.1 ≠ b
theorem Inv.Dt {X:Cx} {pins:List (Addr × Obj)} {Z:St} {H H':Hp} {s:Shared} {b:Addr} (I:Inv X pins Z H s) (hb:s.heap.objs.size <= b) (hn:H' b = none):sQ X pins H' b:=by
 refine ⟨hn,Nat.ne_of_gt (Nat.lt_of_lt_of_le I.lt hb),I.OY hb,.inr (Nat.le_trans I.sz hb),λx c e z=>?_,λp hp z=>?_⟩
 ·obtain ⟨v,q⟩:=I.cell x c e
  exact absurd (Nat.lt_of_lt_of_le q.lt (by rw [z];exact hb)) (Nat.lt_irrefl _)
 ·exact absurd (Nat.lt_of_lt_of_le (Heap.lt_size (I.pin p hp).1) (by rw [z];exact hb)) (Nat.lt_irrefl _)
structure Turn (P:Program) (w:World) (K:PySem.W.Frag) (tg:Expr) (J:It) (fp:List Addr) (it:Addr) (tn:Nat -> Heap -> Prop):Prop where
 mem:it ∈ fp
 obj:∀ i h,tn i h -> ∀ b ∈ fp,∃ o,h.get? b = some o /\ ∀ v,o.data ≠ .cell v
 keep:∀ i h h',tn i h -> (∀ b ∈ fp,∀ o,h.get? b = some o -> h'.get? b = some o) -> tn i h'
 item:∀ (X:Cx),X.prog = P -> X.w = w -> X.K = K -> X.calm = true -> ∀ (i:Nat) (pins:List (Addr × Obj)) (s:Shared) (Z:St) (H:Hp) (E:Value -> Shared -> Prop),Inv X pins Z H s -> (∀ b ∈ fp,sQ X pins H b) -> tn i s.heap -> J.go i H ->
  wpAny (model P w) X.A (pyNext (.ref it)) (λr s1=>∃ u,r = some u /\
   wpAny (model P w) X.A (letOwnedTupleGo tg (.ref it) u) (λ_ s2=>∃ x H',Inv X pins Z H' s2 /\ RelV x u /\ J.Nm i H x H' /\ tn (i + 1) s2.heap /\ ∀ b ∈ fp,H' b = none) E s1) E s
 done:∀ (X:Cx),X.prog = P -> X.w = w -> X.K = K -> X.calm = true -> ∀ (i:Nat) (pins:List (Addr × Obj)) (s:Shared) (Z:St) (H:Hp) (E:Value -> Shared -> Prop),Inv X pins Z H s -> (∀ b ∈ fp,sQ X pins H b) -> tn i s.heap -> J.stop i H ->
  wpAny (model P w) X.A (pyNext (.ref it)) (λr s1=>r = none /\ Inv X pins Z H s1) E s
 self:∀ (A:Around) (i:Nat) (s:Shared) (Q:Value -> Shared -> Prop) (E:Value -> Shared -> Prop),tn i s.heap -> Q (.ref it) s -> wpAny (model P w) A (pyIter (.ref it)) Q E s
abbrev TI:=St -> Hp -> (It -> Hp -> Prop) -> Prop
def QD (X:Cx) (pins:List (Addr × Obj)) (Z:St) (tg:Expr) (R:It -> Hp -> Prop) (itv:Value) (s2:Shared):Prop :=
 ∃ (it:Addr) (fp:List Addr) (tn:Nat -> Heap -> Prop) (J:It) (H':Hp),itv = .ref it /\ Inv X pins Z H' s2 /\ Turn X.prog X.w X.K tg J fp it tn /\ tn 0 s2.heap /\ (∀ b ∈ fp,sQ X pins H' b) /\ R J H'
def PI (X:Cx) (tg iter:Expr) (wi:TI):Prop :=
 ∀ (pins:List (Addr × Obj)) (s:Shared) (Z:St) (H:Hp) (R:It -> Hp -> Prop),Inv X pins Z H s -> wi Z H R ->
  wpAny (model X.prog X.w) X.A (eval iter X.env) (λv s1=>wpAny (model X.prog X.w) X.A (pyIter v) (QD X pins Z tg R) X.xe s1) X.xe s
theorem JF {M:Model} {A:Around} {E:Value -> Shared -> Prop} {s:Shared} {tg:Expr} {it:Addr} {u:Value} {o:Obj} {n:String} {vs:Array Value} {Q:Unit -> Shared -> Prop} (ho:s.heap.get? it = some o) (hc:o.cls = .type n) (hd:o.data = .fields vs)
  (hn:["enumerate","zip","dict_itemiterator","dict_reverseitemiterator","odict_iterator","itertools.zip_longest","itertools.pairwise"].contains n = false) (hQ:Q () s):wpAny M A (letOwnedTupleGo tg (.ref it) u) Q E s:=by
 unfold letOwnedTupleGo
 cases tg <;> first
  | exact wpAny_pure hQ
  | (cases u <;> first
    | exact wpAny_pure hQ
    | (refine wpAny_bind (wpAny_load ho ?_)
       rw [hc,hd]
       show wpAny M A (if (["enumerate","zip","dict_itemiterator","dict_reverseitemiterator","odict_iterator","itertools.zip_longest","itertools.pairwise"].contains n && vs[0]? == some (rawInt _)) = true then _ else _) Q E s
       rw [if_neg (by intro h;rw [hn,Bool.false_and] at h;cases h)]
       exact wpAny_pure hQ))
def L3 (K:PySem.W.Frag) (a:Addr):It :=
 ⟨λi H=>∃ xs x,bf K H a xs /\ xs[i]? = some x,λi H x H'=>H' = H /\ ∀ xs,bf K H a xs -> xs[i]? = some x,λi H=>∃ xs,bf K H a xs /\ xs.length <= i⟩
def Jq (lo:Int) (n:Nat):It:=⟨λi _=>i < n,λi H x H'=>H' = H /\ x = .int (lo + i),λi _=>n <= i⟩
theorem B8 {P:Program} {w:World} {K:PySem.W.Frag} {tg:Expr} (a it:Addr):Turn P w K tg (L3 K a) [it] it (λi h=>h.IsListIter it a i) where
 mem:=by simp
 obj:=λi h st b hb=>by
  have e:b = it:=by simpa using hb
  subst e
  obtain ⟨o,e,c,d⟩:=st
  exact ⟨o,e,λv z=>by rw [d] at z;cases z⟩
 keep:=λi h h' st k=>st.at λo e=>k it (by simp) o e
 item:=by
  intro X hP hw hK hc i pins s Z H E I hf st hg
  subst hP hw hK
  obtain ⟨xs,x,hq,hx⟩:=hg
  obtain ⟨its,rv,p,hz⟩:=I.list hq
  obtain ⟨u,hu,ru⟩:=rv.get hx
  obtain ⟨f0,f1,f2,f3,f4,f5⟩:=hf it (by simp)
  refine wpAny_pyNext_list_item st p.isList (x:=u) (by simpa using hu) λh' st' sb=>?_
  have I1:Inv X pins Z H { s with heap:=h' }:=I.turned (t':=s.toks) (λb o hb e=>(sb.2 b hb).trans e) f0 f1 f3 f4 f5
  obtain ⟨o,e,c,d⟩:=id st'
  exact ⟨u,rfl,JF (s:={ s with heap:=h' }) e c d (by decide) ⟨x,H,I1,ru,⟨rfl,λys hy=>by rw [I.mC hy hq];exact hx⟩,st',λb hb=>(hf b hb).1⟩⟩
 done:=by
  intro X hP hw hK hc i pins s Z H E I hf st hg
  subst hP hw hK
  obtain ⟨xs,hq,hx⟩:=hg
  obtain ⟨its,rv,p,hz⟩:=I.list hq
  obtain ⟨f0,f1,f2,f3,f4,f5⟩:=hf it (by simp)
  have hl:=rv.length
  exact wpAny_pyNext_list_end (I.ok.hd hc) st p.isList (by simp;lia) λh' eb=>⟨rfl,I.turned (t':=s.toks) (λb o hb e=>eb b o hb e) f0 f1 f3 f4 f5⟩
 self:=λ_ _ _ _ _ st h=>wpAny_pyIter_listiter st h
theorem zP {P:Program} {w:World} {K:PySem.W.Frag} {tg:Expr} (it:Addr) (lo:Int) (n:Nat):Turn P w K tg (Jq lo n) [it] it (λi h=>IsRangeIter h it (lo + (i:Nat) * 1) ((n:Int) - (i:Nat)) 1) where
 mem:=by simp
 obj:=λi h st b hb=>by
  have e:b = it:=by simpa using hb
  subst e
  exact ⟨_,st,λv z=>by
   have z':Data.fields _ = Data.cell v:=z
   cases z'⟩
 keep:=λi h h' st k=>k it (by simp) _ st
 item:=by
  intro X hP hw hK hc i pins s Z H E I hf st hg
  subst hP hw hK
  obtain ⟨f0,f1,f2,f3,f4,f5⟩:=hf it (by simp)
  have W:=Walks.range (prog:=X.prog) (w:=X.w) (I.ok.hd hc) it lo 1 n
  refine W.item i s _ _ hg st λv h' tk hv st' kk=>?_
  obtain ⟨t,rfl⟩:=hv
  have I1:Inv X pins Z H { s with heap:=h',toks:=tk }:=I.turned (λb o hb e=>kk b o (by simpa using hb) e) f0 f1 f3 f4 f5
  refine ⟨_,rfl,JF (s:={ s with heap:=h',toks:=tk }) (n:="range_iterator") st' rfl rfl (by decide) ⟨.int (lo + i),H,I1,⟨t,?_⟩,⟨rfl,rfl⟩,st',λb hb=>(hf b hb).1⟩⟩
  rw [Int.mul_one]
 done:=by
  intro X hP hw hK hc i pins s Z H E I hf st hg
  subst hP hw hK
  obtain ⟨f0,f1,f2,f3,f4,f5⟩:=hf it (by simp)
  exact wpAny_pyNext_range_end (I.ok.hd hc) st (by have:n <= i:=hg;lia) λh' eb=>⟨rfl,I.turned (t':=s.toks) (λb o hb e=>eb b o hb e) f0 f1 f3 f4 f5⟩
 self:=λ_ _ _ _ _ st h=>wpAny_pyIter_rangeiter st h
end L2
namespace L2
open PySem PySem.Spec PyProof.Rows
section
variable {X:Cx} {tg:Expr}
def Oj (K:PySem.W.Frag) (tl:TE):TI:=λZ H R=>tl Z H λx H1=>∃ a,x = .ref a /\ (∃ xs,bf K H1 a xs) /\ R (L3 K a) H1
theorem eS {l:Expr} {tl:TE} (hl:PE X l tl):PI X tg l (Oj X.K tl):=by
 intro pins s Z H R I h
 refine dN (hl pins s Z H _ I h) λv s1  hZ=>?_
 obtain ⟨x,H1,I1,r1,q1⟩:=hZ
 obtain ⟨a,e,⟨xs,hq⟩,q⟩:=q1
 subst e
 cases r1
 obtain ⟨its,rv,p,hz⟩:=I1.list hq
 refine wpAny_pyIter_list p.isList ?_
 refine ⟨s1.heap.objs.size,[s1.heap.objs.size],_,_,H1,rfl,I1.kept (t':=s1.toks) λb o e=>Heap.get?_push_of_some _ e,B8 a _,⟨_,Heap.get?_push_size _ rfl,rfl,rfl⟩,λb hb=>?_,q⟩
 have e:b = s1.heap.objs.size:=by simpa using hb
 subst e
 exact I1.Dt (Nat.le_refl _) (I1.hok.fresh (Nat.le_refl _))
theorem GV {pins:List (Addr × Obj)} {Z:St} {H:Hp} {s:Shared} {R:It -> Hp -> Prop} {E:Value -> Shared -> Prop} {lo hi:Int} {t u v:Tok} {tk:Nat} (I:Inv X pins Z H s) (h1:-(2 ^ 62) <= lo) (h2:lo < 2 ^ 62) (h3:-(2 ^ 62) <= hi) (h4:hi < 2 ^ 62)
  (q:R (Jq lo (hi - lo).toNat) H):wpAny (model X.prog X.w) X.A (pyIter (.ref s.heap.objs.size)) (QD X pins Z tg R) E { s with heap:=s.heap.push { cls:=.type "range",data:=.fields #[.int lo t,.int hi u,.int 1 v] },toks:=tk }:=by
 refine wpAny_pyIter_range (IsRange.new ..) (small_one h1 h2 h3 h4) ?_
 have I1:Inv X pins Z H { s with heap:=s.heap.push { cls:=.type "range",data:=.fields #[.int lo t,.int hi u,.int 1 v] },toks:=tk }:=I.kept λb o e=>Heap.get?_push_of_some _ e
 refine ⟨(s.heap.push { cls:=.type "range",data:=.fields #[.int lo t,.int hi u,.int 1 v] }).objs.size,[(s.heap.push { cls:=.type "range",data:=.fields #[.int lo t,.int hi u,.int 1 v] }).objs.size],_,_,H,rfl,
  I1.kept (t':=tk) λb o e=>Heap.get?_push_of_some _ e,zP _ lo (hi - lo).toNat,?_,λb hb=>?_,q⟩
 ·have e1:lo + ((0:Nat):Int) * 1 = lo:=by simp
  have e2:(((hi - lo).toNat:Nat):Int) - ((0:Nat):Int) = Builtin.Range.rangeSize lo hi 1:=by rw [rangeSize_one];split <;> lia
  show IsRangeIter _ _ (lo + ((0:Nat):Int) * 1) ((((hi - lo).toNat:Nat):Int) - ((0:Nat):Int)) 1
  rw [e1,e2]
  exact Heap.get?_push_size _ rfl
 ·have e:b = (s.heap.push { cls:=.type "range",data:=.fields #[.int lo t,.int hi u,.int 1 v] }).objs.size:=by simpa using hb
  subst e
  exact I1.Dt (Nat.le_refl _) (I1.hok.fresh (Nat.le_refl _))
def OA (ta:TA):TI:=λZ H R=>ta Z H λvs H1=>∃ j:Int,vs = [.int j] /\ -(2 ^ 62) <= j /\ j < 2 ^ 62 /\ R (Jq 0 j.toNat) H1
theorem dS {a:Expr} {ta:TA} {p pos:Pos} (hg:Gl X "range") (hm:X.mg "range" = none) (ha:PA X [a] ta) (hs:starEach [a] X.env = [(false,eval a X.env)]:=by rfl):PI X tg (.Call (.Name "range" p) [a] [] pos) (OA ta):=by
 intro pins s Z H R I h
 refine Call_ (jX I hg hm boot_range (PyProof.Rows.callWith_type1 (dN (ha pos pins s Z H _ I h) λus s1 hY=>?_) hs rfl))
 obtain ⟨vs,H1,I1,r1,q1⟩:=hY
 obtain ⟨j,e,q1,q2,q⟩:=q1
 subst e
 cases r1 with
 | cons r rr =>
  cases rr
  obtain ⟨t,rfl⟩:=r
  exact call_range_1 (GV I1 (by lia) (by lia) q1 q2 (by simpa using q))
def Qc (wi:TI) (g:TG) (tb:TS):TS:=λD Z H=>wi Z H λJ H1=>∃ W:Nat -> Nat -> St -> Hp -> Prop,(∃ m,W 0 m Z H1) /\ ∀ i m Z H,W i m Z H ->
 (J.stop i H /\ D.nx Z H) ∨ (J.go i H /\ ∃ N:St -> Hp -> Prop,(∀ Z' H',N Z' H' -> ∃ m',m' < m /\ W (i + 1) m' Z' H') /\ ∀ x H',J.Nm i H x H' -> g x Z H' λZ2 H2=>tb { D with nx:=N,ct:=N,bk:=D.nx } Z2 H2)
def jR (fp:List Addr) (h:Heap):List (Addr × Obj):=fp.filterMap λb=>(h.get? b).map λo=>(b,o)
theorem gy {fp:List Addr} {h:Heap} {b:Addr} {o:Obj} (hb:b ∈ fp) (e:h.get? b = some o):(b,o) ∈ jR fp h:=List.mem_filterMap.mpr ⟨b,hb,by rw [e];rfl⟩
theorem mP {fp:List Addr} {h:Heap} {p:Addr × Obj} (hp:p ∈ jR fp h):p.1 ∈ fp /\ h.get? p.1 = some p.2:=by
 obtain ⟨b,hb,e⟩:=List.mem_filterMap.mp hp
 cases q:h.get? b with
 | none=>rw [q] at e;cases e
 | some o =>
  rw [q] at e
  have e':(b,o) = p:=Option.some.inj e
  subst e'
  exact ⟨hb,q⟩
theorem Inv.pinned {pins:List (Addr × Obj)} {Z:St} {H:Hp} {s:Shared} {fp:List Addr} (I:Inv X pins Z H s) (hf:∀ b ∈ fp,sQ X pins H b) (ho:∀ b ∈ fp,∃ o,s.heap.get? b = some o /\ ∀ v,o.data ≠ .cell v):Inv X (pins ++ jR fp s.heap) Z H s :=
 I.gM λp hp=>(List.mem_append.mp hp).elim (λz=>I.pin p (List.mem_append_right _ z)) λz=>by
  obtain ⟨hb,e⟩:=mP z
  obtain ⟨f0,f1,f2,_⟩:=hf p.1 hb
  obtain ⟨o,e',d⟩:=ho p.1 hb
  rw [e] at e';cases e'
  exact ⟨e,f0,f1,f2,d⟩
theorem Inv.sq {pins pl:List (Addr × Obj)} {Z:St} {H:Hp} {s:Shared} (I:Inv X (pins ++ pl) Z H s):Inv X pins Z H s:=I.gM λp hp=>I.pin p (List.mem_append_right _ (List.mem_append_left _ hp))
theorem L6 {iter:Expr} {body:List Stmt} {wi:TI} {g:TG} {tb:TS} {pos:Pos} (hp:PassesOwn (model X.prog X.w) X.A X.env X.xe) (hc:X.calm = true) (hi:PI X tg iter wi) (hg:PG X tg g) (hb:AU X body tb)
  (hs:∀ x,foldedSetIterable iter X.env x = pure x:=by intro _;rfl):PS X (.For tg iter body [] pos) (Qc wi g tb):=by
 intro pins s Z H D I h
 refine wpAny_For (dN (hi pins s Z H _ I h) λv s1 h1=>dN h1 λitv s2 h2=>?_) hs
 obtain ⟨it,fp,tn,J,H2,e,I2,T,st2,f2,W,⟨m0,w0⟩,turn⟩:=h2
 subst e
 have stat:∀ {H':Hp},(∀ b ∈ fp,H' b = none) -> ∀ b ∈ fp,sQ X pins H' b:=λhn b hb=>⟨hn b hb,(f2 b hb).2⟩
 refine codeAny_forLoop_any (λn s'=>∃ i Z' H',Inv X pins Z' H' s' /\ tn i s'.heap /\ (∀ b ∈ fp,H' b = none) /\ W i n Z' H') ?_ m0 ⟨0,Z,H2,I2,st2,λb hb=>(f2 b hb).1,w0⟩
 rintro n s3 ⟨i,Z3,H3,I3,st3,fr3,w3⟩
 rcases turn i n Z3 H3 w3 with ⟨stop,qn⟩ | ⟨go,N,hN,step⟩
 ·refine wpAny_passesOwn hp (dN (T.done X rfl rfl rfl hc i pins s3 Z3 H3 X.xe I3 (stat fr3) st3 stop) λr s4 hY=>?_)
  obtain ⟨hr,I4⟩:=hY
  subst hr
  exact wpAny_execs_nil ⟨Z3,H3,I4,qn⟩
 ·refine wpAny_passesOwn hp (dN (T.item X rfl rfl rfl hc i pins s3 Z3 H3 X.xe I3 (stat fr3) st3 go) λr s4 hY=>?_)
  obtain ⟨u,hr,h4⟩:=hY
  subst hr
  refine wpAny_passesOwn hp (dN h4 λ_ s5  hZ=>?_)
  obtain ⟨x,H5,I5,r5,y5,st5,fr5⟩:=hZ
  have I5':=I5.pinned (stat fr5) (T.obj _ _ st5)
  refine wpAny_passesOwn hp (dN (hg _ s5 Z3 H5 x u _ I5' r5 (step x H5 y5)) λ_ s6  hZ=>?_)
  obtain ⟨Z6,H6,I6,q6⟩:=hZ
  refine wpAny_passesOwn hp (dN (hb _ s6 Z6 H6 _ I6 q6) λf s7 q7=>?_)
  have again:∀ {Z7:St} {H7:Hp},Inv X (pins ++ jR fp s5.heap) Z7 H7 s7 -> N Z7 H7 -> ∃ m,m < n /\ ∃ i Z' H',Inv X pins Z' H' s7 /\ tn i s7.heap /\ (∀ b ∈ fp,H' b = none) /\ W i m Z' H':=λ{Z7 H7} I7 n7=>by
   obtain ⟨m',hm,w7⟩:=hN Z7 H7 n7
   refine ⟨m',hm,i + 1,Z7,H7,I7.sq,T.keep _ _ _ st5 λb hb o e=>(I7.pin (b,o) (List.mem_append_right _ (List.mem_append_right _ (gy hb e)))).1,λb hb=>?_,w7⟩
   obtain ⟨o,e,d⟩:=T.obj _ _ st5 b hb
   exact (I7.pin (b,o) (List.mem_append_right _ (List.mem_append_right _ (gy hb e)))).2.1
  cases f with
  | next=>obtain ⟨Z7,H7,I7,n7⟩:=q7;exact again I7 n7
  | cont=>obtain ⟨Z7,H7,I7,n7⟩:=q7;exact again I7 n7
  | brk=>obtain ⟨Z7,H7,I7,q7⟩:=q7;exact ⟨Z7,H7,I7.sq,q7⟩
  | ret v=>obtain ⟨x7,Z7,H7,I7,r7,q7⟩:=q7;exact ⟨x7,Z7,H7,I7.sq,r7,q7⟩
end
theorem Ef {K:PySem.W.Frag} {a:Addr} {xs:List V} {g:TG} {tb:TS} {D:Ends} {Z:St} {H:Hp} (Pv:Nat -> St -> Hp -> Prop) (h0:Pv 0 Z H) (hl:∀ i Z H,i <= xs.length -> Pv i Z H -> bf K H a xs)
  (hs:∀ i x Z H,xs[i]? = some x -> Pv i Z H -> g x Z H λZ2 H2=>tb { D with nx:=Pv (i + 1),ct:=Pv (i + 1),bk:=D.nx } Z2 H2) (hd:∀ Z H,Pv xs.length Z H -> D.nx Z H) :
  ∃ W:Nat -> Nat -> St -> Hp -> Prop,(∃ m,W 0 m Z H) /\ ∀ i m Z H,W i m Z H ->
   ((L3 K a).stop i H /\ D.nx Z H) ∨ ((L3 K a).go i H /\ ∃ N:St -> Hp -> Prop,(∀ Z' H',N Z' H' -> ∃ m',m' < m /\ W (i + 1) m' Z' H') /\ ∀ x H',(L3 K a).Nm i H x H' -> g x Z H' λZ2 H2=>tb { D with nx:=N,ct:=N,bk:=D.nx } Z2 H2):=by
 refine ⟨λi m Z H=>m = xs.length - i /\ i <= xs.length /\ Pv i Z H,⟨xs.length,by simp,Nat.zero_le _,h0⟩,?_⟩
 rintro i m Z H ⟨rfl,hi,p⟩
 have q:=hl i Z H hi p
 by_cases hlt:i < xs.length
 ·refine .inr ⟨⟨xs,xs[i],q,by simp [hlt]⟩,Pv (i + 1),λZ' H' p'=>⟨xs.length - (i + 1),by lia,rfl,hlt,p'⟩,λx H' y=>?_⟩
  obtain ⟨e,y⟩:=y
  subst e
  exact hs i x Z _ (y xs q) p
 ·have e:i = xs.length:=by lia
  subst e
  exact .inl ⟨⟨xs,q,Nat.le_refl _⟩,hd Z H p⟩
theorem Cr {lo:Int} {n:Nat} {g:TG} {tb:TS} {D:Ends} {Z:St} {H:Hp} (Pv:Nat -> St -> Hp -> Prop) (h0:Pv 0 Z H)
  (hs:∀ i Z H,i < n -> Pv i Z H -> g (.int (lo + i)) Z H λZ2 H2=>tb { D with nx:=Pv (i + 1),ct:=Pv (i + 1),bk:=D.nx } Z2 H2) (hd:∀ Z H,Pv n Z H -> D.nx Z H) :
  ∃ W:Nat -> Nat -> St -> Hp -> Prop,(∃ m,W 0 m Z H) /\ ∀ i m Z H,W i m Z H ->
   ((Jq lo n).stop i H /\ D.nx Z H) ∨ ((Jq lo n).go i H /\ ∃ N:St -> Hp -> Prop,(∀ Z' H',N Z' H' -> ∃ m',m' < m /\ W (i + 1) m' Z' H') /\ ∀ x H',(Jq lo n).Nm i H x H' -> g x Z H' λZ2 H2=>tb { D with nx:=N,ct:=N,bk:=D.nx } Z2 H2):=by
 refine ⟨λi m Z H=>m = n - i /\ i <= n /\ Pv i Z H,⟨n,by simp,Nat.zero_le _,h0⟩,?_⟩
 rintro i m Z H ⟨rfl,hi,p⟩
 by_cases hlt:i < n
 ·refine .inr ⟨hlt,Pv (i + 1),λZ' H' p'=>⟨n - (i + 1),by lia,rfl,hlt,p'⟩,λx H' y=>?_⟩
  obtain ⟨e,y⟩:=y
  subst e y
  exact hs i Z _ hlt p
 ·have e:i = n:=by lia
  subst e
  exact .inl ⟨Nat.le_refl _,hd Z H p⟩
end L2
namespace L2
open PySem PySem.Spec PyProof.Rows
abbrev R2:=V -> V -> Hp -> VK -> Prop
def mD (X:Cx) (f:Value -> Value -> Sem Value) (r:R2):Prop :=
 ∀ (pins:List (Addr × Obj)) (s:Shared) (Z:St) (H:Hp) (x y:V) (v u:Value) (Q:VK),Inv X pins Z H s -> RelV x v -> RelV y u -> r x y H Q ->
  wpAny (model X.prog X.w) X.A (f v u) (EP X pins Z Q) X.xe s
def PX (X:Cx) (f:Value -> Sem Value) (r:V -> Hp -> VK -> Prop):Prop :=
 ∀ (pins:List (Addr × Obj)) (s:Shared) (Z:St) (H:Hp) (x:V) (v:Value) (Q:VK),Inv X pins Z H s -> RelV x v -> r x H Q ->
  wpAny (model X.prog X.w) X.A (f v) (EP X pins Z Q) X.xe s
def jA (X:Cx) (f:Value) (r:List V -> Hp -> VK -> Prop):Prop :=
 ∀ (pins:List (Addr × Obj)) (s:Shared) (Z:St) (H:Hp) (xs:List V) (us:List Value) (Q:VK),Inv X pins Z H s -> Vals xs us -> r xs H Q ->
  wpAny (model X.prog X.w) X.A (call f us) (EP X pins Z Q) X.xe s
def Qd (X:Cx) (r:V -> Hp -> (Bool -> Hp -> Prop) -> Prop):Prop :=
 ∀ (pins:List (Addr × Obj)) (s:Shared) (Z:St) (H:Hp) (x:V) (v:Value) (Q:Bool -> Hp -> Prop),Inv X pins Z H s -> RelV x v -> r x H Q ->
  wpAny (model X.prog X.w) X.A (truthy v) (TP X pins Z Q) X.xe s
def Nk (r:R2) (ta tb:TE):TE:=λZ H Q=>ta Z H λx H1=>tb Z H1 λy H2=>r x y H2 Q
def tUn (r:V -> Hp -> VK -> Prop) (ta:TE):TE:=λZ H Q=>ta Z H λx H1=>r x H1 Q
def rI (C:Int -> Int -> Prop) (g:Int -> Int -> V):R2:=λx y H Q=>∃ i j,x = .int i /\ y = .int j /\ C i j /\ Q (g i j) H
def Jz (g:Int -> Int -> V):R2:=λx y H Q=>∃ i j,x = .int i /\ y = .int j /\ Q (g i j) H
def rU (g:Int -> V):V -> Hp -> VK -> Prop:=λx H Q=>∃ i,x = .int i /\ Q (g i) H
section
variable {X:Cx} {a b c:Expr} {ta tb tc:TE} {pos:Pos}
theorem Lb (ha:PE X a ta) (hb:PE X b tb) {pins:List (Addr × Obj)} {s:Shared} {Z:St} {H:Hp} {R:V -> V -> Hp -> Prop} (I:Inv X pins Z H s)
  (h:ta Z H λx H1=>tb Z H1 λy H2=>R x y H2) {Q:Value -> Shared -> Prop} {f:Value -> Value -> Sem Value}
  (hf:∀ v u s2 x y H2,Inv X pins Z H2 s2 -> RelV x v -> RelV y u -> R x y H2 -> wpAny (model X.prog X.w) X.A (f v u) Q X.xe s2) :
  wpAny (model X.prog X.w) X.A (eval a X.env) (λv s₁=>wpAny (model X.prog X.w) X.A (eval b X.env) (λu s₂=>wpAny (model X.prog X.w) X.A (f v u) Q X.xe s₂) X.xe s₁) X.xe s:=by
 refine dN (ha pins s Z H _ I h) λv s1  hZ=>?_
 obtain ⟨x,H1,I1,r1,q1⟩:=hZ
 refine dN (hb pins s1 Z H1 _ I1 q1) λu s2  hZ=>?_
 obtain ⟨y,H2,I2,r2,q2⟩:=hZ
 exact hf v u s2 x y H2 I2 r1 r2 q2
theorem aK {op:Operator} {r:R2} (ho:mD X (binaryOp op) r) (ha:PE X a ta) (hb:PE X b tb):PE X (.BinOp a op b pos) (Nk r ta tb):=by
 intro pins s Z H Q I h
 exact wpAny_BinOp (Lb ha hb I h λv u s2 x y H2 I2 rx ry q=>ho pins s2 Z H2 x y v u Q I2 rx ry q)
theorem iu {op:UnaryOp} {r:V -> Hp -> VK -> Prop} (ho:PX X (unaryOp op) r) (ha:PE X a ta):PE X (.UnaryOp op a pos) (tUn r ta):=by
 intro pins s Z H Q I h
 exact UnaryOp_ (dN (ha pins s Z H _ I h) λv s1 ⟨x,H1,I1,r1,q1⟩=>ho pins s1 Z H1 x v Q I1 r1 q1)
theorem Ra {f:Value -> Value -> Sem Value} {C:Int -> Int -> Prop} {g:Int -> Int -> Int}
  (rule:∀ (i j:Int) (t u:Tok) (s:Shared) (Q:Value -> Shared -> Prop) (E:Value -> Shared -> Prop),C i j -> Q (.int (g i j) s.toks) { s with toks:=s.toks + 1 } -> wpAny (model X.prog X.w) X.A (f (.int i t) (.int j u)) Q E s) :
  mD X f (rI C λi j=>.int (g i j)):=by
 intro pins s Z H x y v u Q I rx ry h
 obtain ⟨i,j,rfl,rfl,hc,q⟩:=h
 obtain ⟨t,rfl⟩:=rx
 obtain ⟨t',rfl⟩:=ry
 exact rule i j t t' s _ _ hc ⟨.int (g i j),H,I.tok _,⟨_,rfl⟩,q⟩
theorem OQ {f:Value -> Value -> Sem Value} {g:Int -> Int -> Int}
  (rule:∀ (i j:Int) (t u:Tok) (s:Shared) (Q:Value -> Shared -> Prop) (E:Value -> Shared -> Prop),Q (.int (g i j) s.toks) { s with toks:=s.toks + 1 } -> wpAny (model X.prog X.w) X.A (f (.int i t) (.int j u)) Q E s) :
  mD X f (Jz λi j=>.int (g i j)):=by
 intro pins s Z H x y v u Q I rx ry h
 obtain ⟨i,j,rfl,rfl,q⟩:=h
 obtain ⟨t,rfl⟩:=rx
 obtain ⟨t',rfl⟩:=ry
 exact rule i j t t' s _ _ ⟨.int (g i j),H,I.tok _,⟨_,rfl⟩,q⟩
theorem MG {f:Value -> Value -> Sem Value} {g:Int -> Int -> Bool}
  (rule:∀ (i j:Int) (t u:Tok) (s:Shared) (Q:Value -> Shared -> Prop) (E:Value -> Shared -> Prop),Q (.bool (g i j)) s -> wpAny (model X.prog X.w) X.A (f (.int i t) (.int j u)) Q E s) :
  mD X f (Jz λi j=>.bl (g i j)):=by
 intro pins s Z H x y v u Q I rx ry h
 obtain ⟨i,j,rfl,rfl,q⟩:=h
 obtain ⟨t,rfl⟩:=rx
 obtain ⟨t',rfl⟩:=ry
 exact rule i j t t' s _ _ ⟨.bl (g i j),H,I,rfl,q⟩
def Qa (i j:Int):Prop:=0 < j /\ j < 1073741824
def Lg (i j:Int):Prop:=(-(2 ^ 64) < i /\ i < 2 ^ 64) ∨ (-(2 ^ 64) < j /\ j < 2 ^ 64)
theorem Lg.ok {i j:Int} (h:Lg i j):IntMulOk i j:=by
 rcases h with ⟨h1,h2⟩ | ⟨h1,h2⟩
 ·exact .of_left (intBits_le_64 h1 h2)
 ·exact .of_right (intBits_le_64 h1 h2)
theorem aY:mD X (binaryOp .Add) (Jz λi j=>.int (i + j)):=OQ λ_ _ _ _ _ _ _ q=>add_int q
theorem dR:mD X (binaryOp .Sub) (Jz λi j=>.int (i - j)):=OQ λ_ _ _ _ _ _ _ q=>sub_int q
theorem jY:mD X (binaryOp .Mult) (rI Lg λi j=>.int (i * j)):=Ra λ_ _ _ _ _ _ _ hc q=>mul_int q hc.ok
theorem uU:mD X (binaryOp .FloorDiv) (rI Qa λi j=>.int (i / j)):=Ra λi j _ _ _ _ _ hc q=>by
 have h1:(0:Int) < j:=hc.1
 have h2:j < 1073741824:=hc.2
 exact floordiv_int (by lia) (by rw [Int.fdiv_eq_ediv_of_nonneg i (by lia)];exact q) (.inl (PyProof.noPylong_small (by lia)))
theorem jb:mD X (binaryOp .Mod) (rI (λ_ j=>0 < j) λi j=>.int (i % j)):=Ra λi j _ _ _ _ _ hc q=>by
 have h1:(0:Int) < j:=hc
 exact mod_int' (by lia) (by rw [Int.fmod_eq_emod_of_nonneg i (by lia)];exact q)
theorem unI {f:Value -> Sem Value} {g:Int -> Int}
  (rule:∀ (i:Int) (t:Tok) (s:Shared) (Q:Value -> Shared -> Prop) (E:Value -> Shared -> Prop),Q (.int (g i) s.toks) { s with toks:=s.toks + 1 } -> wpAny (model X.prog X.w) X.A (f (.int i t)) Q E s) :
  PX X f (rU λi=>.int (g i)):=by
 intro pins s Z H x v Q I rx h
 obtain ⟨i,rfl,q⟩:=h
 obtain ⟨t,rfl⟩:=rx
 exact rule i t s _ _ ⟨.int (g i),H,I.tok _,⟨_,rfl⟩,q⟩
theorem fG:PX X (unaryOp .USub) (rU λi=>.int (-i)):=unI λ_ _ _ _ _ q=>neg_int q
end
def Ox:V -> V -> Bool
 | .cQ,.cQ=>true | .cQ,.int _=>true | .int _,.cQ=>true | .cQ,.bl _=>true | .bl _,.cQ=>true | .cQ,.str _=>true | .str _,.cQ=>true
 | .int _,.int _=>true | .bl _,.bl _=>true | .str _,.str _=>true | .byt _,.byt _=>true
 | .int _,.str _=>true | .str _,.int _=>true | .bl _,.str _=>true | .str _,.bl _=>true
 | _,_=>false
def rEq:R2:=λx y H Q=>Ox x y = true /\ Q (.bl (decide (x = y))) H
def rNe:R2:=λx y H Q=>Ox x y = true /\ Q (.bl (!decide (x = y))) H
theorem A7 {i j:Int}:decide (V.int i = V.int j) = (i == j):=by
 rw [Bool.eq_iff_iff]
 simp
theorem GG {i j:Bool}:decide (V.bl i = V.bl j) = (i == j):=by
 rw [Bool.eq_iff_iff]
 simp
theorem Bu {i j:Str}:decide (V.str i = V.str j) = (i == j):=by
 rw [Bool.eq_iff_iff]
 simp
theorem BJ {i j:Array UInt8}:decide (V.byt i = V.byt j) = (i.toList == j.toList):=by
 rw [Bool.eq_iff_iff]
 cases i
 cases j
 simp
section
variable {X:Cx} {a b c:Expr} {ta tb tc:TE} {pos:Pos}
theorem bW {pins:List (Addr × Obj)} {Z:St} {H:Hp} {s:Shared} {Q:VK} {k k':Bool} (I:Inv X pins Z H s) (q:Q (.bl k) H) (e:k = k'):EP X pins Z Q (.bool k') s:=by
 subst e
 exact ⟨.bl k,H,I,rfl,q⟩
theorem cI:mD X (compareOp .Eq) rEq:=by
 intro pins s Z H x y v u Q I rx ry h
 obtain ⟨hs,q⟩:=h
 cases x with
 | cQ =>
  cases rx
  cases y with
  | cQ=>cases ry;exact PySem.EqNone.eq_none_none (bW I q (by simp))
  | bl j=>cases ry;exact PySem.EqNone.eq_none_bool (bW I q (by simp))
  | int j=>obtain ⟨t',rfl⟩:=ry;exact PySem.EqNone.eq_none_int (bW I q (by simp))
  | str j=>obtain ⟨t',rfl⟩:=ry;exact PySem.EqNone.eq_none_str (bW I q (by simp))
  | _=>exact absurd (show false = true from hs) Bool.false_ne_true
 | bl i =>
  cases rx
  cases y with
  | cQ=>cases ry;exact PySem.EqNone.eq_bool_none (bW I q (by simp))
  | bl j=>cases ry;exact eq_bool (bW I q GG)
  | str j=>obtain ⟨t',rfl⟩:=ry;exact PySem.EqMixed.eq_bool_str (bW I q (by simp))
  | _=>exact absurd (show false = true from hs) Bool.false_ne_true
 | int i =>
  obtain ⟨t,rfl⟩:=rx
  cases y with
  | cQ=>cases ry;exact PySem.EqNone.eq_int_none (bW I q (by simp))
  | int j=>obtain ⟨t',rfl⟩:=ry;exact eq_int (bW I q A7)
  | str j=>obtain ⟨t',rfl⟩:=ry;exact PySem.EqMixed.eq_int_str (bW I q (by simp))
  | _=>exact absurd (show false = true from hs) Bool.false_ne_true
 | str i =>
  obtain ⟨t,rfl⟩:=rx
  cases y with
  | cQ=>cases ry;exact PySem.EqNone.eq_str_none (bW I q (by simp))
  | bl j=>cases ry;exact PySem.EqMixed.eq_str_bool (bW I q (by simp))
  | int j=>obtain ⟨t',rfl⟩:=ry;exact PySem.EqMixed.eq_str_int (bW I q (by simp))
  | str j=>obtain ⟨t',rfl⟩:=ry;exact eq_str (bW I q Bu)
  | _=>exact absurd (show false = true from hs) Bool.false_ne_true
 | byt i =>
  obtain ⟨t,rfl⟩:=rx
  cases y with
  | byt j=>obtain ⟨t',rfl⟩:=ry;exact PySem.W.eq_bytes (bW I q BJ)
  | _=>exact absurd (show false = true from hs) Bool.false_ne_true
 | _=>cases y <;> exact absurd (show false = true from hs) Bool.false_ne_true
theorem lE:mD X (compareOp .NotEq) rNe:=by
 intro pins s Z H x y v u Q I rx ry h
 obtain ⟨hs,q⟩:=h
 cases x with
 | cQ =>
  cases rx
  cases y with
  | cQ=>cases ry;exact PySem.EqNone.ne_none_none (bW I q (by simp))
  | bl j=>cases ry;exact PySem.EqNone.ne_none_bool (bW I q (by simp))
  | int j=>obtain ⟨t',rfl⟩:=ry;exact PySem.EqNone.ne_none_int (bW I q (by simp))
  | str j=>obtain ⟨t',rfl⟩:=ry;exact PySem.EqNone.ne_none_str (bW I q (by simp))
  | _=>exact absurd (show false = true from hs) Bool.false_ne_true
 | bl i =>
  cases rx
  cases y with
  | cQ=>cases ry;exact PySem.EqNone.ne_bool_none (bW I q (by simp))
  | bl j=>cases ry;exact ne_bool (bW I q (congrArg not GG))
  | str j=>obtain ⟨t',rfl⟩:=ry;exact PySem.EqMixed.ne_bool_str (bW I q (by simp))
  | _=>exact absurd (show false = true from hs) Bool.false_ne_true
 | int i =>
  obtain ⟨t,rfl⟩:=rx
  cases y with
  | cQ=>cases ry;exact PySem.EqNone.ne_int_none (bW I q (by simp))
  | int j=>obtain ⟨t',rfl⟩:=ry;exact ne_int (bW I q (congrArg not A7))
  | str j=>obtain ⟨t',rfl⟩:=ry;exact PySem.EqMixed.ne_int_str (bW I q (by simp))
  | _=>exact absurd (show false = true from hs) Bool.false_ne_true
 | str i =>
  obtain ⟨t,rfl⟩:=rx
  cases y with
  | cQ=>cases ry;exact PySem.EqNone.ne_str_none (bW I q (by simp))
  | bl j=>cases ry;exact PySem.EqMixed.ne_str_bool (bW I q (by simp))
  | int j=>obtain ⟨t',rfl⟩:=ry;exact PySem.EqMixed.ne_str_int (bW I q (by simp))
  | str j=>obtain ⟨t',rfl⟩:=ry;exact ne_str (bW I q (congrArg not Bu))
  | _=>exact absurd (show false = true from hs) Bool.false_ne_true
 | byt i =>
  obtain ⟨t,rfl⟩:=rx
  cases y with
  | byt j=>obtain ⟨t',rfl⟩:=ry;exact PySem.W.ne_bytes (bW I q (congrArg not BJ))
  | _=>exact absurd (show false = true from hs) Bool.false_ne_true
 | _=>cases y <;> exact absurd (show false = true from hs) Bool.false_ne_true
theorem ff:mD X (compareOp .Lt) (Jz λi j=>.bl (decide (i < j))):=MG λ_ _ _ _ _ _ _ q=>lt_int q
theorem i6:mD X (compareOp .Gt) (Jz λi j=>.bl (decide (j < i))):=MG λ_ _ _ _ _ _ _ q=>gt_int q
theorem NN:mD X (compareOp .GtE) (Jz λi j=>.bl (decide (j <= i))):=MG λ_ _ _ _ _ _ _ q=>ge_int q
theorem jg:mD X (compareOp .In) (λx y H Q=>∃ i j,x = .str i /\ y = .str j /\ Q (.bl (!(Builtin.Str.occurrences j i 0 j.length 1).isEmpty)) H):=by
 intro pins s Z H x y v u Q I rx ry h
 obtain ⟨i,j,rfl,rfl,q⟩:=h
 obtain ⟨t,rfl⟩:=rx
 obtain ⟨t',rfl⟩:=ry
 exact in_str (bW I q rfl)
theorem qI:mD X (compareOp .Is) (λx y H Q=>y = .cQ /\ Q (.bl (decide (x = .cQ))) H):=by
 intro pins s Z H x y v u Q I rx ry h
 obtain ⟨rfl,q⟩:=h
 cases ry
 refine is_none_gen (bW I q ?_)
 cases x <;> first
  | (cases rx;rfl)
  | (obtain ⟨t,rfl⟩:=rx;rfl)
theorem gJ:mD X (compareOp .IsNot) (λx y H Q=>y = .cQ /\ Q (.bl (!decide (x = .cQ))) H):=by
 intro pins s Z H x y v u Q I rx ry h
 obtain ⟨rfl,q⟩:=h
 cases ry
 refine isnot_none_gen (bW I q ?_)
 cases x <;> first
  | (cases rx;rfl)
  | (obtain ⟨t,rfl⟩:=rx;rfl)
theorem uQ:mD X (compareOp .NotIn) (λx y H Q=>∃ i j,x = .str i /\ y = .str j /\ Q (.bl (!(!(Builtin.Str.occurrences j i 0 j.length 1).isEmpty))) H):=by
 intro pins s Z H x y v u Q I rx ry h
 obtain ⟨i,j,rfl,rfl,q⟩:=h
 obtain ⟨t,rfl⟩:=rx
 obtain ⟨t',rfl⟩:=ry
 exact notIn_str (bW I q rfl)
theorem aI (b:Expr) {op:CmpOp} (h:op ≠ .In:=by decide) (h2:op ≠ .NotIn:=by decide):behindInMarks op b = false:=by
 have e1:(op == CmpOp.In) = false:=by cases op <;> first | rfl | exact absurd rfl h
 have e2:(op == CmpOp.NotIn) = false:=by cases op <;> first | rfl | exact absurd rfl h2
 cases b <;> simp [behindInMarks,e1,e2]
theorem gH {op:CmpOp} {r:R2} (ho:mD X (compareOp op) r) (ha:PE X a ta) (hb:PE X b tb) (hm:behindInMarks op b = false):PE X (.Compare a [op] [b] pos) (Nk r ta tb):=by
 intro pins s Z H Q I h
 exact wpAny_Compare1 (Lb ha hb I h λv u s2 x y H2 I2 rx ry q=>ho pins s2 Z H2 x y v u Q I2 rx ry q) hm
def JB (t:TE):TT:=λZ H Q=>t Z H λx H'=>∃ k,x = .bl k /\ Q k H'
theorem aA {op:CmpOp} {r:R2} (ho:mD X (compareOp op) r) (ha:PE X a ta) (hb:PE X b tb) (hm:behindInMarks op b = false):PT X (.Compare a [op] [b] pos) (JB (Nk r ta tb)):=by
 intro pins s Z H Q I h
 refine wpAny_isTrue_Compare1 (dN (ha pins s Z H _ I h) λv s1 ⟨x,H1,I1,r1,q1⟩=>dN (hb pins s1 Z H1 _ I1 q1) λu s2 ⟨y,H2,I2,r2,q2⟩ =>
  dN (ho pins s2 Z H2 x y v u _ I2 r1 r2 q2) λc s3 ⟨z,H3,I3,r3,k,e,q3⟩=>?_) hm
 subst e
 cases r3
 exact wpAny_truthy_bool ⟨H3,I3,q3⟩
def Nx (K:PySem.W.Frag) (x:V) (H:Hp) (k:Bool):Prop :=
 match x with
 | .cQ=>k = false
 | .bl b=>k = b
 | .int i=>k = (i != 0)
 | .str y=>y.length <= sizeLine /\ k = ((y.length:Int) != 0)
 | .byt y=>y.size <= sizeLine /\ k = ((y.size:Int) != 0)
 | .ref p=>(∃ xs,bf K H p xs /\ k = !xs.isEmpty) ∨ (∃ xs,d8 K H p xs /\ k = !xs.isEmpty) ∨ ∃ kvs,H p = some (.dK kvs) /\ k = !kvs.isEmpty
 | _=>False
theorem Ag {κ:Type} {kvs:List (κ × V)} {vs:List (κ × Value)} (r:KV kvs vs):(!vs.isEmpty) = !kvs.isEmpty:=by
 cases r <;> rfl
theorem oU {xs:List V} {its:List Value} (r:Vals xs its):(!its.toArray.isEmpty) = !xs.isEmpty:=by
 cases r <;> simp
theorem k7:(sizeLine:Nat) < 2 ^ 63:=by rw [sizeLine_eq];decide
theorem J2:Qd X (λx H Q=>∃ k,Nx X.K x H k /\ Q k H):=by
 intro pins s Z H x v Q I rx h
 obtain ⟨k,e,q⟩:=h
 have hl:=k7
 have hs:sizeLine = 16777216:=sizeLine_eq
 cases x with
 | cQ =>
  cases rx
  have e':k = false:=e
  subst e'
  exact truthy_none ⟨H,I,q⟩
 | bl b =>
  cases rx
  have e':k = b:=e
  subst e'
  exact wpAny_truthy_bool ⟨H,I,q⟩
 | int i =>
  obtain ⟨t,rfl⟩:=rx
  have e':k = (i != 0):=e
  subst e'
  exact PySem.P.truthy_int ⟨H,I,q⟩
 | str y =>
  obtain ⟨t,rfl⟩:=rx
  obtain ⟨hy,e'⟩:y.length <= sizeLine /\ k = ((y.length:Int) != 0):=e
  subst e'
  exact PySem.P.truthy_str (by lia) ⟨H,I.tok _,q⟩
 | byt y =>
  obtain ⟨t,rfl⟩:=rx
  obtain ⟨hy,e'⟩:y.size <= sizeLine /\ k = ((y.size:Int) != 0):=e
  subst e'
  exact PySem.W.truthy_bytes (by lia) ⟨H,I.tok _,q⟩
 | ref p =>
  cases rx
  have e':(∃ xs,bf X.K H p xs /\ k = !xs.isEmpty) ∨ (∃ xs,d8 X.K H p xs /\ k = !xs.isEmpty) ∨ ∃ kvs,H p = some (.dK kvs) /\ k = !kvs.isEmpty:=e
  rcases e' with ⟨xs,hx,e'⟩ | ⟨xs,hx,e'⟩ | ⟨kvs,hx,e'⟩
  ·subst e'
   obtain ⟨its,r,pl,hz⟩:=I.list hx
   have hlen:=r.length
   exact wpAny_truthy_list pl.isList (by simp only [List.size_toArray];lia) ⟨H,I.tok _,by rw [oU r];exact q⟩
  ·subst e'
   obtain ⟨its,r,pl,hz⟩:=I.tuple hx
   have hlen:=r.length
   exact truthy_tuple pl (by simp only [List.size_toArray];lia) ⟨H,I.tok _,by rw [oU r];exact q⟩
  ·subst e'
   obtain ⟨hz,hS,vs,r,m⟩:kvs.length <= sizeLine /\ (p == sysModules) = false /\ ∃ vs,KV kvs vs /\ s.heap.DictOf (dP X.prog X.w) p vs:=I.hok p _ hx
   have hlen:kvs.length = vs.length:=Paired.length r
   exact wpAny_truthy_dict hS m (by lia) ⟨H,I.tok _,by rw [Ag r];exact q⟩
 | _=>exact (show False from e).elim
theorem je (ha:PE X a ta) (he:∀ whole,isTrue a X.env whole = (do let v ← whole;standAt a.pos;holding [v] (truthy v))) :
  PT X a (λZ H Q=>ta Z H λx H'=>∃ k,Nx X.K x H' k /\ Q k H'):=by
 intro pins s Z H Q I h
 exact isTrue_plain (dN (ha pins s Z H _ I h) λv s1 ⟨x,H1,I1,r1,q1⟩=>J2 pins s1 Z H1 x v Q I1 r1 q1) (he _)
theorem eK:mD X (binaryOp .Add) (λx y H Q=>∃ i j,x = .str i /\ y = .str j /\ i.length + j.length <= sizeLine /\ Q (.str (i ++ j)) H):=by
 intro pins s Z H x y v u Q I rx ry h
 obtain ⟨i,j,rfl,rfl,hz,q⟩:=h
 obtain ⟨t,rfl⟩:=rx
 obtain ⟨t',rfl⟩:=ry
 exact add_str (λt' tk=>⟨.str (i ++ j),H,I.tok _,⟨_,rfl⟩,q⟩) hz
theorem vals1 {x:V} {us:List Value} (r:Vals [x] us):∃ u,us = [u] /\ RelV x u:=by
 cases r with
 | cons r1 r2=>cases r2;exact ⟨_,rfl,r1⟩
theorem vals2 {x y:V} {us:List Value} (r:Vals [x,y] us):∃ u w',us = [u,w'] /\ RelV x u /\ RelV y w':=by
 cases r with
 | cons r1 r2 =>
  cases r2 with
  | cons r3 r4=>cases r4;exact ⟨_,_,rfl,r1,r3⟩
theorem ko:jA X (.type "int") (λxs H Q=>(∃ i,xs = [.int i] /\ Q (.int i) H) ∨ ∃ k,xs = [.bl k] /\ Q (.int (if k then 1 else 0)) H):=by
 intro pins s Z H xs us Q I r h
 rcases h with ⟨i,rfl,q⟩ | ⟨k,rfl,q⟩
 ·obtain ⟨u,rfl,t,rfl⟩:=vals1 r
  exact call_int_int ⟨.int i,H,I,⟨_,rfl⟩,q⟩
 ·obtain ⟨u,rfl,r1⟩:=vals1 r
  cases r1
  exact call_int_bool ⟨.int (if k then 1 else 0),H,I.tok _,⟨_,rfl⟩,q⟩
end
end L2
namespace L2
open PySem PySem.Spec PyProof.Rows
structure AO (h:Heap) (x dx C:Addr) (mA:Str -> Option Value):Prop where
 obj:h.get? x = some (PySem.W.instObj C dx)
 ns:h.Ns1 dx mA
 ne:dx ≠ x
theorem Cg {h:Heap} {dx:Addr} {mA:Str -> Option Value} (n:h.Ns1 dx mA):∃ od,h.get? dx = some od /\ ∀ name,PySem.W.lookIn name od = some (mA name):=by
 obtain ⟨o,es,ep,ho,hd,hk,_,hm⟩:=n
 refine ⟨o,ho,λname=>?_⟩
 have e:=hm name
 unfold nsFind findBy at e
 rw [← Array.find?_toList] at e
 unfold PySem.W.lookIn
 rw [hd]
 dsimp only
 split
 ·rename_i y q
  rw [q] at e
  exact congrArg some e
 ·rename_i q
  rw [q] at e
  have a:es.toList.any (·.refKey) = false:=by
   rw [List.any_eq_false]
   intro y hy
   obtain ⟨z,t,hkey⟩:=hk y (Array.mem_toList_iff.mp hy)
   simp [DictEntry.refKey,hkey]
  have a':¬ es.toList.any (·.refKey) = true:=by rw [a];exact Bool.false_ne_true
  rw [if_neg a']
  exact congrArg some e
theorem AO.look {h:Heap} {x dx C:Addr} {mA:Str -> Option Value} (I:AO h x dx C mA):∃ od,PySem.W.InstAt h x (PySem.W.instObj C dx) C (some od) /\ ∀ name,PySem.W.lookIn name od = some (mA name) :=
 let ⟨od,ho,hl⟩:=Cg I.ns
 ⟨od,⟨I.obj,rfl,rfl,ho⟩,hl⟩
section
variable {prog:Program} {w:World} {A:Around} {E:Value -> Shared -> Prop} {s:Shared} {K:PySem.W.Frag} {x dx C f:Addr} {mA:Str -> Option Value} {name:Str} {v:Value}
theorem get_map {expr:Bool} {Q:Value -> Shared -> Prop} (X:K.In s.heap) (I:AO s.heap x dx C mA) (hg:PySem.W.plainGet K C name = true) (hh:PySem.W.hasDictIn K C = true)
  (ha:PySem.W.findIn K (.ref C) name = some none) (hv:mA name = some v) (hv':PySem.W.handedIn v = true) (h:Q v { s with toks:=s.toks + 1 }) :
  wpAny (model prog w) A (getAttr (.ref x) name expr) Q E s:=by
 obtain ⟨od,J,hl⟩:=I.look
 exact PySem.W.get_value X J (PySem.W.plainGet_of hg).1 (PySem.W.findObj_own hh ha rfl (by rw [hl,hv])) hv' h
theorem Dn {pl:Sem Bool} {Q:Value × List Value -> Shared -> Prop} (X:K.In s.heap) (I:AO s.heap x dx C mA) (hg:PySem.W.plainGet K C name = true)
  (hf:PySem.W.findIn K (.ref C) name = some (some (.ref f))) (ht:PySem.W.isFn K (.ref f) = true) (hv:mA name = none) (h:Q (.ref f,[.ref x]) s) :
  wpAny (model prog w) A (getMethod (.ref x) name pl) Q E s:=by
 obtain ⟨od,J,hl⟩:=I.look
 exact PySem.W.method_fn X J (PySem.W.plainGet_of hg).1 (PySem.W.plainGet_of hg).2 hf (beq_iff_eq.mp ht) (by show (PySem.W.lookIn name od).map (·.isSome) = some false;rw [hl,hv];rfl) h
theorem Im {ns:List Str} {Q:Unit -> Shared -> Prop} (X:K.In s.heap) (I:AO s.heap x dx C mA)
  (hs:PySem.W.findIn K (.ref C) "__setattr__" = some (some (.builtin "object.__setattr__"))) (hp:PySem.W.plainOver K C = true) (ht:PySem.W.takerIn K C name = some none) (hh:PySem.W.hasDictIn K C = true)
  (hw:PySem.Within mA ns) (hsz:ns.length <= sizeLine)
  (h:∀ h',AO h' x dx C (λy=>if y = name then some v else mA y) -> Heap.SameBut dx s.heap h' -> Q () { s with heap:=h',toks:=s.toks + 2 }) :
  wpAny (model prog w) A (setAttr (.ref x) name v) Q E s:=by
 obtain ⟨od,J,hl⟩:=I.look
 refine PySem.W.set_plain X J hs (PySem.W.osa_open (s:={ s with toks:=s.toks + 1 }) (r:=none) X J hp ht λb=>?_)
 obtain ⟨cd,hc,hd'⟩:=PySem.W.any_some hh
 have hx:s.heap.get? x = some ⟨.ref C,some dx,.plain,#[]⟩:=I.obj
 refine wpAny_bind (wpAny_pure (wpAny_bind (wpAny_bind (wpAny_loadPart hx (wpAny_bind (PySem.W.Looks.here (s:={ s with toks:=s.toks + 1 }) (PySem.W.looks_clsIn X hc) ?_))))))
 rw [hd']
 refine wpAny_pure (a:=some dx) (wpAny_bind (wpAny_pure (wpAny_bind ?_)))
 refine wpAny_nsSet1 (s:={ s with toks:=s.toks + 1 }) I.ns λh' hn2 hs2=>?_
 obtain ⟨oD,esD,epD,hoD,hdD,hcD⟩:=hn2.count (PySem.Within.cons name v hw)
 refine wpAny_bind (wpAny_lookBehind hoD (by rw [hdD];exact pastItsLine_dict (Nat.le_trans hcD (by rw [List.length_cons];lia))) ?_)
 exact wpAny_pure (h _ ⟨(hs2.2 _ (Ne.symm I.ne)).trans I.obj,hn2,I.ne⟩ hs2)
theorem Gq {R:Result -> Shared -> Prop} {vs:List Value} {kw:List (Str × Value)} (X:K.In s.heap) (hm:PySem.W.makesIn K C = true)
  (hi:PySem.W.findIn K (.ref C) "__init__" = some (some (.ref f))) (hf:PySem.W.typeIn K (.ref f) = some (.type "function"))
  (h:codeAny (model prog w) (A.under (.builtin "type.__call__" ⟨.ref C :: vs,kw⟩)) (.call (.ref f) ⟨.ref (s.heap.objs.size + 1) :: vs,kw⟩) (PySem.W.InitBack (s.heap.objs.size + 1) R)
   { s with heap:=(s.heap.push PySem.W.emptyDict).push (PySem.W.instObj C s.heap.objs.size) }) :
  codeAny (model prog w) A (.call (.ref C) ⟨vs,kw⟩) R s:=by
 obtain ⟨hh,g,d,t,os⟩:=s
 exact PySem.W.make_core (PySem.W.makes_of X hm) (PySem.W.looks_findIn X hi) (λself=>PySem.W.bind_fn X self hf) (.inl rfl) h
theorem CG {R:Result -> Shared -> Prop} (X:K.In s.heap) (hm:PySem.W.makesIn K C = true)
  (hi:PySem.W.findIn K (.ref C) "__init__" = some (some (.builtin "object.__init__")))
  (hb:∀ self,PySem.W.Looks (model prog w) s.heap (bindSpecial (.builtin "object.__init__") self) (.builtin "object.__init__",[self]))
  (h:codeAny (model prog w) (A.under (.builtin "type.__call__" ⟨[.ref C],[]⟩)) (.call (.builtin "object.__init__") ⟨[.ref (s.heap.objs.size + 1)],[]⟩) (PySem.W.InitBack (s.heap.objs.size + 1) R)
   { s with heap:=(s.heap.push PySem.W.emptyDict).push (PySem.W.instObj C s.heap.objs.size) }) :
  codeAny (model prog w) A (.call (.ref C) ⟨[],[]⟩) R s:=by
 obtain ⟨hh,g,d,t,os⟩:=s
 exact PySem.W.make_core (PySem.W.makes_of X hm) (PySem.W.looks_findIn X hi) hb (.inr ⟨rfl,rfl⟩) h
end
def gi (f:Str) (v:V):List (Str × V) -> List (Str × V)
 | []=>[(f,v)]
 | (g,x) :: r=>if g = f then (g,v) :: r else (g,x) :: gi f v r
theorem nY (f g:Str) (v:V):∀ fs:List (Str × V),(gi f v fs).lookup g = if g = f then some v else fs.lookup g
 | []=>by
  show List.lookup g [(f,v)] = _
  by_cases h:g = f
  ·have hb:(g == f) = true:=beq_iff_eq.mpr h
   simp only [List.lookup,hb,if_pos h]
  ·have hb:(g == f) = false:=beq_eq_false_iff_ne.mpr h
   simp only [List.lookup,hb,if_neg h]
 | (k,x) :: r=>by
  have ih:=nY f g v r
  rw [show gi f v ((k,x) :: r) = (if k = f then (k,v) :: r else (k,x) :: gi f v r) from rfl]
  by_cases hk:k = f
  ·rw [if_pos hk]
   by_cases h:g = k
   ·have hb:(g == k) = true:=beq_iff_eq.mpr h
    simp only [List.lookup,hb,if_pos (h.trans hk)]
   ·have hb:(g == k) = false:=beq_eq_false_iff_ne.mpr h
    simp only [List.lookup,hb,if_neg (λe:g = f=>h (e.trans hk.symm))]
  ·rw [if_neg hk]
   by_cases h:g = k
   ·have hb:(g == k) = true:=beq_iff_eq.mpr h
    simp only [List.lookup,hb,if_neg (λe:g = f=>hk (h.symm.trans e))]
   ·have hb:(g == k) = false:=beq_eq_false_iff_ne.mpr h
    simp only [List.lookup,hb]
    exact ih
theorem mL (f:Str) (v:V):∀ fs:List (Str × V),f ∈ (gi f v fs).map (·.1) /\ ∀ g,g ∈ fs.map (·.1) -> g ∈ (gi f v fs).map (·.1)
 | []=>⟨by simp [gi],λg h=>by simp at h⟩
 | (k,x) :: r=>by
  obtain ⟨i1,i2⟩:=mL f v r
  rw [show gi f v ((k,x) :: r) = (if k = f then (k,v) :: r else (k,x) :: gi f v r) from rfl]
  by_cases hk:k = f
  ·rw [if_pos hk]
   subst hk
   exact ⟨by simp,λg h=>by simpa using h⟩
  ·rw [if_neg hk]
   refine ⟨?_,λg h=>?_⟩
   ·rw [List.map_cons]
    exact List.mem_cons_of_mem _ i1
   ·rw [List.map_cons] at h ⊢
    rcases List.mem_cons.mp h with e | e
    ·exact List.mem_cons.mpr (.inl e)
    ·exact List.mem_cons_of_mem _ (i2 g e)
theorem nH (f:Str) (v:V):∀ fs:List (Str × V),(gi f v fs).length <= fs.length + 1
 | []=>by simp [gi]
 | (k,x) :: r=>by
  have ih:=nH f v r
  rw [show gi f v ((k,x) :: r) = (if k = f then (k,v) :: r else (k,x) :: gi f v r) from rfl]
  by_cases hk:k = f
  ·rw [if_pos hk,List.length_cons,List.length_cons];lia
  ·rw [if_neg hk,List.length_cons,List.length_cons];lia
theorem kr.some_of {v:V} {o:Option Value} (r:kr (some v) o):∃ u,o = some u /\ RelV v u:=by
 cases o with
 | none=>exact (show False from r).elim
 | some u=>exact ⟨u,rfl,r⟩
theorem kr.none_of {o:Option Value} (r:kr none o):o = none:=by
 cases o with
 | none=>rfl
 | some u=>exact (show False from r).elim
theorem Cj {v:V} {u:Value} (r:RelV v u):PySem.W.handedIn u = true:=by
 cases v with
 | cQ=>cases (show u = Value.none from r);rfl
 | bl b=>cases (show u = Value.bool b from r);rfl
 | int i=>obtain ⟨t,e⟩:=(show ∃ t,u = Value.int i t from r);cases e;rfl
 | str x=>obtain ⟨t,e⟩:=(show ∃ t,u = Value.str x t from r);cases e;rfl
 | byt b=>obtain ⟨t,e⟩:=(show ∃ t,u = Value.bytes b t from r);cases e;rfl
 | KQ b=>obtain ⟨t,e⟩:=(show ∃ t,u = Value.float b t from r);cases e;rfl
 | ref a=>cases (show u = Value.ref a from r);rfl
 | ty n=>cases (show u = Value.type n from r);rfl
section
variable {P:Program} {w:World} {H H':Hp} {h h':Heap} {a C dx:Addr} {fs fs':List (Str × V)}
theorem oH (hok:kD P w H h) (e:H a = some (.ins C dx fs)):∃ mA,AO h a dx C mA /\ (∀ f,kr (fs.lookup f) (mA f)) /\ PySem.Within mA (fs.map (·.1)) /\ fs.length <= 1000 /\ H dx = some (.own a):=by
 obtain ⟨d,z,ne,ob,mA,n,r,q⟩:=(show c5 P w H h a (.ins C dx fs) from hok a _ e)
 exact ⟨mA,⟨ob,n,ne⟩,r,q,z,d⟩
end
structure nB (K:PySem.W.Frag) (C:Addr):Prop where
 pg:PySem.W.plainGet K C Str.empty = true
 hd:PySem.W.hasDictIn K C = true
 po:PySem.W.plainOver K C = true
 sa:PySem.W.findIn K (.ref C) "__setattr__" = some (some (.builtin "object.__setattr__"))
theorem nB.get {K:PySem.W.Frag} {C:Addr} (c:nB K C) (f:Str):PySem.W.plainGet K C f = true:=c.pg
def cz (K:PySem.W.Frag) (C:Addr) (f:Str):Prop:=PySem.W.findIn K (.ref C) f = some none
theorem cz.O7 {K:PySem.W.Frag} {C:Addr} {f:Str} (n:cz K C f):PySem.W.takerIn K C f = some none:=by
 unfold PySem.W.takerIn
 rw [show PySem.W.findIn K (.ref C) f = some none from n]
 rfl
structure Meth (K:PySem.W.Frag) (C:Addr) (m:Str) (f:Addr):Prop where
 at_:PySem.W.findIn K (.ref C) m = some (some (.ref f))
 fn:PySem.W.isFn K (.ref f) = true
 kp:PySem.W.keepIn K (.ref f) = true
section
variable {X:Cx} {pins:List (Addr × Obj)} {Z:St} {H:Hp} {s:Shared} {a C dx:Addr} {fs:List (Str × V)} {f:Str} {v:V} {A:Around} {E:Value -> Shared -> Prop}
theorem rj {b:Bool} {Q:Value -> Shared -> Prop} (I:Inv X pins Z H s) (e:H a = some (.ins C dx fs)) (c:nB X.K C) (n:cz X.K C f) (l:fs.lookup f = some v)
  (h:∀ u s',Inv X pins Z H s' -> RelV v u -> Q u s'):wpAny (model X.prog X.w) A (getAttr (.ref a) f b) Q E s:=by
 obtain ⟨mA,O,r,_,_,_⟩:=oH I.hok e
 obtain ⟨u,hu,ru⟩:=kr.some_of (v:=v) (o:=mA f) (by rw [← l];exact r f)
 exact get_map I.lP O (c.get f) c.hd n hu (Cj ru) (h u _ (I.tok _) ru)
theorem rV {m:Str} {g:Addr} {pl:Sem Bool} {Q:Value × List Value -> Shared -> Prop} (I:Inv X pins Z H s) (e:H a = some (.ins C dx fs)) (c:nB X.K C) (k:Meth X.K C m g) (l:fs.lookup m = none)
  (h:Q (.ref g,[.ref a]) s):wpAny (model X.prog X.w) A (getMethod (.ref a) m pl) Q E s:=by
 obtain ⟨mA,O,r,_,_,_⟩:=oH I.hok e
 have hn:mA m = none:=kr.none_of (by rw [← l];exact r m)
 exact Dn I.lP O (c.get m) k.at_ k.fn hn h
theorem rD {y:V} {u:Value} {Q:Unit -> Shared -> Prop} (I:Inv X pins Z H s) (e:H a = some (.ins C dx fs)) (c:nB X.K C) (n:cz X.K C f) (hl:fs.length < 1000) (ry:RelV y u)
  (h:∀ s',Inv X pins Z (upd H a (.ins C dx (gi f y fs))) s' -> Q () s'):wpAny (model X.prog X.w) A (setAttr (.ref a) f u) Q E s:=by
 obtain ⟨mA,O,r,wi,_,ho⟩:=oH I.hok e
 have hz:(fs.map (·.1)).length <= sizeLine:=by rw [List.length_map,sizeLine_eq];lia
 refine Im I.lP O c.sa c.po n.O7 c.hd wi hz λh' O' sb=>h _ ?_
 have hd:∃ o,h'.get? dx = some o:=let ⟨o,_,_,e',_⟩:=O'.ns;⟨o,e'⟩
 refine I.write (x:=a) (e:=dx) (by rw [e];exact True.intro) (.inr ho) (λb q hb z=>(sb.2 b hb).trans z) hd ?_
 refine ⟨by rw [au O.ne];exact ho,?_,O.ne,O'.obj,_,O'.ns,λg=>?_,λg hg=>?_⟩
 ·have:=nH f y fs;lia
 ·show kr ((gi f y fs).lookup g) (if g = f then some u else mA g)
  rw [nY]
  by_cases q:g = f
  ·rw [if_pos q,if_pos q];exact ry
  ·rw [if_neg q,if_neg q];exact r g
 ·by_cases q:g = f
  ·rw [q];exact (mL f y fs).1
  ·refine (mL f y fs).2 g (wi g λz=>hg ?_)
   show (if g = f then some u else mA g) = none
   rw [if_neg q];exact z
theorem Inv.made (I:Inv X pins Z H s):Inv X pins Z (upd (upd H s.heap.objs.size (.own (s.heap.objs.size + 1))) (s.heap.objs.size + 1) (.ins C s.heap.objs.size []))
  { s with heap:=(s.heap.push PySem.W.emptyDict).push (PySem.W.instObj C s.heap.objs.size) }:=by
 have e1:(s.heap.push PySem.W.emptyDict).get? s.heap.objs.size = some PySem.W.emptyDict:=Heap.get?_push_size s.heap rfl
 have e2:((s.heap.push PySem.W.emptyDict).push (PySem.W.instObj C s.heap.objs.size)).get? (s.heap.objs.size + 1) = some (PySem.W.instObj C s.heap.objs.size):=by
  have:=Heap.get?_push_size (s.heap.push PySem.W.emptyDict) (o:=PySem.W.instObj C s.heap.objs.size) rfl
  rwa [Heap.size_push] at this
 have e3:(s.heap.push PySem.W.emptyDict).Ns s.heap.objs.size (λ_=>none):=⟨PySem.W.emptyDict,#[],_,e1,rfl,(λe he=>absurd he (by simp)),λ_=>rfl⟩
 have I1:=I.laid (a:=s.heap.objs.size) (o:=.own (s.heap.objs.size + 1)) (h':=s.heap.push PySem.W.emptyDict) (t':=s.toks) (λb u q=>Heap.get?_push_of_some _ q) (Nat.le_refl _) ⟨_,e1⟩
 refine I1.laid (a:=s.heap.objs.size + 1) (o:=.ins C s.heap.objs.size []) (t':=s.toks) (λb u q=>Heap.get?_push_of_some _ q) (Nat.le_of_eq (Heap.size_push _ _)) ?_
 have ne:s.heap.objs.size ≠ s.heap.objs.size + 1:=Nat.ne_of_lt (Nat.lt_succ_self _)
 refine ⟨by rw [au ne,ai],Nat.zero_le _,ne,e2,λ_=>none,(Heap.Ns1.of_empty e3).at λo q=>Heap.get?_push_of_some _ q,λ_=>True.intro,λy hy=>absurd rfl hy⟩
theorem Ii {prog:Program} {w:World} {env:Env} {e:Expr} {f:Str} {pos:Pos} {s:Shared} {Q:Value -> Shared -> Prop} (hb:attributeBase e f env (eval e env) = eval e env)
  (h:wpAny (model prog w) A (eval e env) (λo s₁=>wpAny (model prog w) A (getAttr o f true) Q E s₁) E s):wpAny (model prog w) A (eval (.Attribute e f pos) env) Q E s :=
 Attribute_any_ h (by rw [arm_eval_Attribute,hb])
end
def LW (K:PySem.W.Frag) (ta:TE) (f:Str):TE:=λZ H Q=>ta Z H λx H1=>∃ a C dx fs v,x = .ref a /\ H1 a = some (.ins C dx fs) /\ nB K C /\ cz K C f /\ fs.lookup f = some v /\ Q v H1
def QA (K:PySem.W.Frag) (ta tv:TE) (f:Str):TS:=λD Z H=>tv Z H λy H1=>ta Z H1 λx H2=>∃ a C dx fs,x = .ref a /\ H2 a = some (.ins C dx fs) /\ nB K C /\ cz K C f /\ fs.length < 1000 /\
 D.nx Z (upd H2 a (.ins C dx (gi f y fs)))
def Nt (X:Cx) (op:Operator) (rd:V -> V -> Hp -> VK -> Prop):Prop :=
 ∀ (pins:List (Addr × Obj)) (s:Shared) (Z:St) (H:Hp) (x y:V) (u v:Value) (Q:VK),Inv X pins Z H s -> RelV x u -> RelV y v -> rd x y H Q -> wpAny (model X.prog X.w) X.A (inplaceOp op u v) (EP X pins Z Q) X.xe s
def IG (K:PySem.W.Frag) (ta tv:TE) (rd:V -> V -> Hp -> VK -> Prop) (f:Str):TS:=λD Z H=>ta Z H λx H1=>∃ a C dx fs v,x = .ref a /\ H1 a = some (.ins C dx fs) /\ nB K C /\ cz K C f /\ fs.lookup f = some v /\
 tv Z H1 λy H2=>rd v y H2 λz H3=>∃ dx' fs',H3 a = some (.ins C dx' fs') /\ fs'.length < 1000 /\ D.nx Z (upd H3 a (.ins C dx' (gi f z fs')))
section
variable {X:Cx} {o e value:Expr} {f:Str} {pos pos' tpos:Pos} {ta tv:TE}
theorem aT (he:PE X e ta) (hb:attributeBase e f X.env (eval e X.env) = eval e X.env):PE X (.Attribute e f pos) (LW X.K ta f):=by
 intro pins s Z H Q I h
 refine Ii hb (dN (he pins s Z H _ I h) λu s1  hZ=>?_)
 obtain ⟨x,H1,I1,rx,a,C,dx,fs,v,ex,ea,c,n,l,q⟩:=hZ
 subst ex
 obtain rfl:u = Value.ref a:=rx
 exact rj I1 ea c n l λu' s2 I2 ru=>⟨v,H1,I2,ru,q⟩
theorem cS (ha:PE X o ta) (hv:PE X value tv) (hs:swapsWith value (some (.Attribute o f pos')) pos.line X.env = pure false):PS X (.Assign [.Attribute o f pos'] value pos) (QA X.K ta tv f):=by
 intro pins s Z H D I h
 refine plainObj_wpAny_Assign_Attribute (dN (hv pins s Z H _ I h) λu s1 ⟨y,H1,I1,ry,q⟩=>dN (ha pins s1 Z H1 _ I1 q) λov s2 hY=>?_) hs
 obtain ⟨x,H2,I2,rx,a,C,dx,fs,ex,ea,c,n,l,q2⟩:=hY
 subst ex
 obtain rfl:ov = Value.ref a:=rx
 exact rD I2 ea c n l ry λs3 I3=>⟨Z,_,I3,q2⟩
theorem CP {op:Operator} {rd:V -> V -> Hp -> VK -> Prop} (ha:PE X o ta) (hv:PE X value tv) (hop:Nt X op rd):PS X (.AugAssign (.Attribute o f tpos) op value pos) (IG X.K ta tv rd f):=by
 intro pins s Z H D I h
 refine wpAny_AugAssign_AttributeAny (dN (ha pins s Z H _ I h) λov s1  hZ=>?_)
 obtain ⟨x,H1,I1,rx,a,C,dx,fs,v,ex,ea,c,n,l,q⟩:=hZ
 subst ex
 obtain rfl:ov = Value.ref a:=rx
 refine rj I1 ea c n l λu s2 I2 ru=>dN (hv pins s2 Z H1 _ I2 q) λw3 s3 ⟨y,H2,I3,ry,q3⟩=>dN (hop pins s3 Z H2 v y u w3 _ I3 ru ry q3) λw4 s4  hZ=>?_
 obtain ⟨z,H3,I4,rz,dx',fs',ea',l',q4⟩:=hZ
 exact rD I4 ea' c n l' rz λs5 I5=>⟨Z,_,I5,q4⟩
def Rg:V -> V -> Hp -> VK -> Prop:=λx y H Q=>∃ i j,x = .int i /\ y = .int j /\ Q (.int (i + j)) H
theorem Ke:Nt X .Add Rg:=by
 rintro pins s Z H x y u v Q I rx ry ⟨i,j,rfl,rfl,q⟩
 obtain ⟨t,rfl⟩:=(show ∃ t,u = Value.int i t from rx)
 obtain ⟨t',rfl⟩:=(show ∃ t',v = Value.int j t' from ry)
 exact PyProof.Rows.iadd_int ⟨.int (i + j),H,I.tok _,⟨_,rfl⟩,q⟩
end
section
variable {X:Cx} {pins:List (Addr × Obj)} {Z:St} {H:Hp} {s:Shared} {A:Around} {E:Value -> Shared -> Prop} {Q:Value -> Shared -> Prop} {c:Value} {b:Bool}
inductive mS (K:PySem.W.Frag) (H:Hp):V -> Value -> Prop where
 | cQ:mS K H .cQ (.type "NoneType")
 | bl (x:Bool):mS K H (.bl x) (.type "bool")
 | int (i:Int):mS K H (.int i) (.type "int")
 | str (x:Str):mS K H (.str x) (.type "str")
 | KQ (x:UInt64):mS K H (.KQ x) (.type "float")
 | lst {a:Addr} {xs:List V} (e:H a = some (.lst xs)):mS K H (.ref a) (.type "list")
 | Ar {a:Addr} {o:Obj} {xs:List V} (e:H a = some (.Ar o (.lst xs))):mS K H (.ref a) (.type "list")
 | tup {a:Addr} {xs:List V} (e:H a = some (.tup xs)):mS K H (.ref a) (.type "tuple")
 | dK {a:Addr} {kvs:List (Key × V)} (e:H a = some (.dK kvs)):mS K H (.ref a) (.type "dict")
 | dT {a:Addr} {kvs:List (List Key × V)} (e:H a = some (.dT kvs)):mS K H (.ref a) (.type "dict")
 | ins {a C dx:Addr} {fs:List (Str × V)} (e:H a = some (.ins C dx fs)) (cl:nB K C) (ha:PySem.W.findIn K (.ref C) "__class__" = some (some (.builtin "object.__class__")))
   (hn:PySem.W.specialIn K (.builtin "object.__class__") "__get__" = some (some (.builtin "getset_descriptor.__get__"))) (htk:PySem.W.takesIn K (.builtin "object.__class__") = some true)
   (hm:PySem.W.mroIn K C (.type "object") = some true):mS K H (.ref a) (.ref C)
theorem Cu {x:V} {u t:Value} (I:Inv X pins Z H s) (rx:RelV x u) (ty:mS X.K H x t) (e:PySem.W.kitOne X.K t c = some b) (h:∀ tk,Q (.bool b) { s with toks:=tk }) :
  wpAny (model X.prog X.w) A (call (.builtin "isinstance") [u,c]) Q E s:=by
 cases ty with
 | cQ=>cases (show u = Value.none from rx);exact PySem.W.kia_one PySem.W.kitx_none I.lP True.intro e (λz=>nomatch z) h
 | bl y=>cases (show u = Value.bool y from rx);exact PySem.W.kia_one PySem.W.kitx_bool I.lP True.intro e (λz=>nomatch z) h
 | int i=>obtain ⟨t,q⟩:=(show ∃ t,u = Value.int i t from rx);cases q;exact PySem.W.kia_one PySem.W.kitx_int I.lP True.intro e (λz=>nomatch z) h
 | str y=>obtain ⟨t,q⟩:=(show ∃ t,u = Value.str y t from rx);cases q;exact PySem.W.kia_one PySem.W.kitx_str I.lP True.intro e (λz=>nomatch z) h
 | KQ y=>obtain ⟨t,q⟩:=(show ∃ t,u = Value.float y t from rx);cases q;exact PySem.W.kia_one PySem.W.kitx_float I.lP True.intro e (λz=>nomatch z) h
 | @lst a xs ea =>
  cases (show u = Value.ref a from rx)
  obtain ⟨_,_,n,_,h1⟩:=(show c5 X.prog X.w H s.heap a (.lst xs) from I.hok a _ ea)
  exact PySem.W.kia_one PySem.W.kitx_list I.lP ⟨_,h1,rfl⟩ e (λz=>nomatch z) h
 | @Ar a ob xs ea =>
  cases (show u = Value.ref a from rx)
  obtain ⟨_,_,_,n,_,h1⟩:=(show c5 X.prog X.w H s.heap a (.Ar ob (.lst xs)) from I.hok a _ ea)
  exact PySem.W.kia_one PySem.W.kitx_list I.lP ⟨_,h1,rfl⟩ e (λz=>nomatch z) h
 | @tup a xs ea =>
  cases (show u = Value.ref a from rx)
  obtain ⟨_,_,_,p⟩:=(show c5 X.prog X.w H s.heap a (.tup xs) from I.hok a _ ea)
  obtain ⟨o,h1,h2,_⟩:=p
  exact PySem.W.kia_one PySem.W.kitx_tuple I.lP ⟨o,h1,h2⟩ e (λz=>nomatch z) h
 | @dK a kvs ea =>
  cases (show u = Value.ref a from rx)
  obtain ⟨_,_,vs,_,p⟩:=(show c5 X.prog X.w H s.heap a (.dK kvs) from I.hok a _ ea)
  obtain ⟨o,es,ep,h1,h2,_⟩:=p
  exact PySem.W.kia_one PySem.W.kitx_dict I.lP ⟨o,h1,h2.1⟩ e (λz=>nomatch z) h
 | @dT a kvs ea =>
  cases (show u = Value.ref a from rx)
  obtain ⟨_,_,xs,_,o,es,ep,h1,h2,_⟩:=(show c5 X.prog X.w H s.heap a (.dT kvs) from I.hok a _ ea)
  exact PySem.W.kia_one PySem.W.kitx_dict I.lP ⟨o,h1,h2.1⟩ e (λz=>nomatch z) h
 | @ins a C dx fs ea cl ha hn htk hm =>
  cases (show u = Value.ref a from rx)
  obtain ⟨mA,O,_⟩:=oH I.hok ea
  obtain ⟨od,J,_⟩:=O.look
  exact PySem.W.kia_one (PySem.W.kitx_own (cl.get _) cl.hd ha hn htk hm) I.lP J e (λz=>nomatch z) h
end
end L2
namespace L2
open PySem PySem.Spec PyProof.Rows
structure g9 (k:Nat) (A:Around):Prop where
 hd:A.handled = none
 dp:A.depth + 3 * k + 5 < recursionLimit
 un:A.units + 16 * k + 200 < cLine
theorem g9.mono {j k:Nat} {A:Around} (r:g9 k A) (h:j <= k):g9 j A:=⟨r.hd,by have:=r.dp;lia,by have:=r.un;lia⟩
theorem g9.deeper {k:Nat} {A:Around} (r:g9 (k + 1) A) (env:Env):g9 k (A.deeper env) :=
 ⟨r.hd,by have:=r.dp;show A.depth + 1 + 3 * k + 5 < _;lia,by have:=r.un;show A.units + 3 + 16 * k + 200 < _;lia⟩
theorem AF {A:Around} {C:Addr} {us:List Value} {kw:List (Str × Value)}:(A.under (.builtin "type.__call__" ⟨.ref C :: us,kw⟩)).depth = A.depth + 1:=by
 first | rfl | simp [Around.under,Code.weight,Code.isCreation,Code.isGuard,Code.isCaller,Code.frames,Code.isFrame,guardIds]
theorem Aw {A:Around} {C:Addr} {us:List Value} {kw:List (Str × Value)}:(A.under (.builtin "type.__call__" ⟨.ref C :: us,kw⟩)).units = A.units + 1:=by
 first | rfl | simp [Around.under,Code.cUnits,Code.frames,Code.isFrame]
theorem g9.make {k:Nat} {A:Around} (r:g9 (k + 1) A) (C:Addr) (us:List Value) (kw:List (Str × Value)):g9 k (A.under (.builtin "type.__call__" ⟨.ref C :: us,kw⟩)) :=
 ⟨r.hd,by have:=r.dp;rw [AF];lia,by have:=r.un;rw [Aw];lia⟩
theorem g9.depth {k:Nat} {A:Around} (r:g9 k A):A.depth < recursionLimit:=by have:=r.dp;lia
theorem g9.units {k:Nat} {A:Around} (r:g9 k A):A.units + 64 < cLine:=by have:=r.un;lia
def Dy:TA:=λ_ H Q=>Q [] H
def Dv (ta:TE) (tr:TA):TA:=λZ H Q=>ta Z H λx H1=>tr Z H1 λxs H2=>Q (x :: xs) H2
section
variable {X:Cx} {e:Expr} {es:List Expr} {te:TE} {t:TA} {pos:Pos}
theorem af:PA X [] Dy:=λ_ _ _ _ H Q I h=>Calls.spliced_nil ⟨[],H,I,.nil,h⟩
theorem aa (ha:PE X e te) (hr:PA X es t) (hs:starEach (e :: es) X.env = (false,eval e X.env) :: starEach es X.env:=by rfl):PA X (e :: es) (Dv te t):=by
 intro pos pins s Z H Q I h
 rw [hs]
 show wpAny _ _ (spliced ((false,eval e X.env) :: backTo pos (starEach es X.env))) _ _ s
 refine Calls.spliced_cons (dN (ha pins s Z H _ I h) λu s1  hZ=>?_)
 obtain ⟨x,H1,I1,r1,q1⟩:=hZ
 exact dN (hr pos pins s1 Z H1 _ I1 q1) λus s2 ⟨xs,H2,I2,r2,q2⟩=>⟨x :: xs,H2,I2,.cons r1 r2,q2⟩
def O0 (t:TA):TE:=λZ H Q=>t Z H λxs H1=>xs.length <= sizeLine /\ ∀ p,H1 p = none -> Q (.ref p) (upd H1 p (.tup xs))
def OF (t:TA):TE:=λZ H Q=>t Z H λxs H1=>xs.length <= sizeLine /\ ∀ p,H1 p = none -> Q (.ref p) (upd H1 p (.lst xs))
theorem ez {x1} (h:PA X es t):PE X (.Tuple es x1 pos) (O0 t):=by
 intro pins s Z H Q I hq
 refine wpAny_Tuple_spliced (dN (h pos pins s Z H _ I hq) λus s1 ⟨xs,H1,I1,r,z,q⟩=>⟨by rw [← r.length];exact z,?_⟩)
 have hf:H1 s1.heap.objs.size = none:=I1.hok.fresh (Nat.le_refl _)
 refine ⟨.ref s1.heap.objs.size,upd H1 s1.heap.objs.size (.tup xs),I1.laid (t':=s1.toks) (λb u e=>Heap.get?_push_of_some _ e) (Nat.le_refl _) ?_,rfl,q _ hf⟩
 exact ⟨z,us,r,⟨_,Heap.get?_push_size _ rfl,rfl,_,rfl⟩⟩
theorem bH (h:PA X es t):PE X (.List es pos) (OF t):=by
 intro pins s Z H Q I hq
 refine wpAny_List_spliced (dN (h pos pins s Z H _ I hq) λus s1 ⟨xs,H1,I1,r,z,q⟩=>⟨by rw [← r.length];exact z,?_⟩)
 have hf:H1 s1.heap.objs.size = none:=I1.hok.fresh (Nat.le_refl _)
 refine ⟨.ref s1.heap.objs.size,upd H1 s1.heap.objs.size (.lst xs),I1.laid (t':=s1.toks) (λb u e=>Heap.get?_push_of_some _ e) (Nat.le_refl _) ?_,rfl,q _ hf⟩
 exact ⟨z,us,0,r,Heap.get?_push_size _ rfl⟩
end
abbrev Sp:=List V -> Hp -> VK -> XK -> Prop
abbrev Ac:=List Env -> Hp -> Shared -> XK -> Value -> Shared -> Prop
structure Ay (P:Program) (w:World) (K:PySem.W.Frag) (mg:Str -> Option Value) (base:Heap) (A:Around) (outer:List Env) (s:Shared) (H:Hp):Prop where
 frames:A.frames = some outer
 mod:Mod K mg base
 bs:∀ b o,base.get? b = some o -> s.heap.get? b = some o /\ H b = none
 JE:base.objs.size <= s.heap.objs.size
 ow:s.heap.FunFrames base outer
 Mn:∀ b ∈ frs outer,H b = none
 hok:kD P w H s.heap
 bare:AllBare s.gens
def CE (outer:List Env) (P:Program) (w:World) (H:Hp) (s:Shared) (Q:VK) (u:Value) (s':Shared):Prop :=
 ∃ v H',s'.os = s.os /\ AllBare s'.gens /\ Un (frs outer) [] H H' s.heap s'.heap /\ kD P w H' s'.heap /\ RelV v u /\ Q v H'
def CR (CX:Ac) (outer:List Env) (P:Program) (w:World) (H:Hp) (s:Shared) (Q:VK) (E:XK) (r:Result) (s':Shared):Prop :=
 match r with
 | .ok (.ret u)=>CE outer P w H s Q u s'
 | .ok _=>False
 | .error e=>CX outer H s E e s'
structure bC (P:Program) (w:World) (K:PySem.W.Frag) (mg:Str -> Option Value) (base:Heap) (CX:Ac) (k:Nat) (f:Addr) (fd:FuncData) (ps:List Str) (sp:Sp):Prop where
 len:∀ vs H Q E,sp vs H Q E -> vs.length = ps.length
 run:∀ (A:Around) (outer:List Env) (s:Shared) (H:Hp) (args:Args) (us:List Value) (vs:List V) (Q:VK) (E:XK),g9 k A -> Ay P w K mg base A outer s H -> BindsTo s fd args (ps.zip us) -> Vals vs us -> sp vs H Q E ->
  codeAny (model P w) A (.call (.ref f) args) (CR CX outer P w H s Q E) s
theorem Ay.make {P:Program} {w:World} {K:PySem.W.Frag} {mg:Str -> Option Value} {base:Heap} {A:Around} {outer:List Env} {s:Shared} {H:Hp} (e:Ay P w K mg base A outer s H) (C:Addr) (us:List Value) (kw:List (Str × Value)) :
  Ay P w K mg base (A.under (.builtin "type.__call__" ⟨.ref C :: us,kw⟩)) outer s H:=⟨by first | exact e.frames | (simpa [Around.under,Code.envs,Code.isFrame,pushEnvs] using e.frames),e.mod,e.bs,e.JE,e.ow,e.Mn,e.hok,e.bare⟩
section
variable {X:Cx} {pins:List (Addr × Obj)} {Z:St} {H:Hp} {s s':Shared}
theorem Inv.Ob (I:Inv X pins Z H s):Ay X.prog X.w X.K X.mg X.base X.A X.stack s H :=
 ⟨I.ok.frames,I.ok.mod,I.bs,Nat.le_trans I.ok.JE I.sz,I.stack,I.BZ,I.hok,I.bare⟩
theorem Inv.after {Q:VK} {u:Value} (I:Inv X pins Z H s) (h:CE X.stack X.prog X.w H s Q u s'):EP X pins Z Q u s':=by
 obtain ⟨v,H',os,bare,un,hok,r,q⟩:=h
 obtain ⟨hh,g,d,t,os'⟩:=s'
 obtain rfl:os' = s.os:=os
 exact ⟨v,H',I.call (h':=hh) (g':=g) (d':=d) (t':=t) (ch:=[]) un hok bare (λb z=>absurd z (by simp)),r,q⟩
end
def GY (sp:Sp) (dvs:List V) (E:XK) (t:TA):TE:=λZ H Q=>t Z H λvs H1=>sp (vs ++ dvs) H1 Q E
def Gu (C:Addr) (m:Str) (sp:Sp) (dvs:List V) (E:XK) (ta:TE) (t:TA):TE:=λZ H Q=>ta Z H λx H1=>∃ a dx fs,x = .ref a /\ H1 a = some (.ins C dx fs) /\ fs.lookup m = none /\
 t Z H1 λvs H2=>sp (x :: (vs ++ dvs)) H2 Q E
def JH (C:Addr) (sp:Sp) (dvs:List V) (E:XK) (t:TA):TE:=λZ H Q=>t Z H λvs H1=>∀ x dx,H1 x = none -> H1 dx = none -> dx ≠ x ->
 sp (.ref x :: (vs ++ dvs)) (upd (upd H1 dx (.own x)) x (.ins C dx [])) (λv H2=>v = .cQ /\ Q (.ref x) H2) E
def Binds (K:PySem.W.Frag) (fd:FuncData) (ps:List Str) (ds:List Value):Prop :=
 ∀ (s:Shared) (us:List Value),K.In s.heap -> (us ++ ds).length = ps.length -> BindsTo s fd ⟨us,[]⟩ (ps.zip (us ++ ds))
theorem Binds.all {K:PySem.W.Frag} {fd:FuncData} {ps:List Str} (h:∀ us:List Value,us.length = ps.length -> bindArgs fd ⟨us,[]⟩ = pure (ps.zip us)):Binds K fd ps []:=λs us _ hl=>by
 rw [List.append_nil] at hl ⊢
 exact .of_eq (h us hl)
def Passes (CX:Ac) (X:Cx) (E:XK):Prop:=∀ (pins:List (Addr × Obj)) (Z:St) (H:Hp) (s:Shared) (e:Value) (s':Shared),Inv X pins Z H s -> CX X.stack H s E e s' -> X.xe e s'
section
variable {X:Cx} {CX:Ac} {k:Nat} {f C:Addr} {fd:FuncData} {ps:List Str} {sp:Sp} {dvs:List V} {ds:List Value} {E:XK} {x m:Str} {p pos apos:Pos} {e o:Expr} {es:List Expr} {ta:TE} {t:TA}
theorem vD {pins:List (Addr × Obj)} {Z:St} {H:Hp} {s:Shared} {Q:VK} {us:List Value} {vs:List V} (F:bC X.prog X.w X.K X.mg X.base CX k f fd ps sp) (hr:g9 k X.A) (hb:Binds X.K fd ps ds) (hd:Vals dvs ds) (hx:Passes CX X E)
  (I:Inv X pins Z H s) (r:Vals vs us) (h:sp (vs ++ dvs) H Q E):wpAny (model X.prog X.w) X.A (call (.ref f) us) (EP X pins Z Q) X.xe s:=by
 have r2:Vals (vs ++ dvs) (us ++ ds):=r.append hd
 have hl:(us ++ ds).length = ps.length:=by rw [← r2.length];exact F.len _ _ _ _ h
 refine wpAny_call (codeAny_mono (F.run X.A X.stack s H ⟨us,[]⟩ (us ++ ds) (vs ++ dvs) Q E hr I.Ob (hb s us I.lP hl) r2 h) λr s' hq=>?_)
 cases r with
 | error e=>exact hx pins Z H s e s' I hq
 | ok fl =>
  cases fl with
  | ret u=>exact I.after hq
  | next=>exact False.elim hq
  | brk=>exact False.elim hq
  | cont=>exact False.elim hq
theorem aM (F:bC X.prog X.w X.K X.mg X.base CX k f fd ps sp) (hr:g9 k X.A) (hg:Gl X x) (hm:X.mg x = some (.ref f)) (hk:PySem.W.keepIn X.K (.ref f) = true) (hb:Binds X.K fd ps ds) (hd:Vals dvs ds) (hx:Passes CX X E)
  (ha:PA X (e :: es) t) (hdb:(x == ("__debug__" : Str)) = false:=by decide) (he:starEach (e :: es) X.env = (false,eval e X.env) :: starEach es X.env:=by rfl) (hpl:(backTo pos (starEach es X.env)).any (·.1) = false:=by rfl) :
  PE X (.Call (.Name x p) (e :: es) [] pos) (GY sp dvs E t):=by
 intro pins s Z H Q I h
 refine wpAny_Call_Name_kw (mh I hg hm ?_ hdb)
 refine PySem.W.callWith_K (h₀:=X.base) I.ok.mod.N1 hk (dN (ha pos pins s Z H _ I h) λus s1 ⟨vs,H1,I1,r,q⟩=>⟨I1.lP,?_⟩) he hpl
 exact vD F hr hb hd hx I1 r q
theorem Dg (F:bC X.prog X.w X.K X.mg X.base CX k f fd ps sp) (hr:g9 k X.A) (hg:Gl X x) (hm:X.mg x = some (.ref f)) (hk:PySem.W.keepIn X.K (.ref f) = true) (hb:Binds X.K fd ps ds) (hd:Vals dvs ds) (hx:Passes CX X E)
  (hdb:(x == ("__debug__" : Str)) = false:=by decide):PE X (.Call (.Name x p) [] [] pos) (GY sp dvs E Dy):=by
 intro pins s Z H Q I h
 refine wpAny_Call_Name_kw (mh I hg hm ?_ hdb)
 exact PySem.W.callWith_K0 I.lP hk (vD (us:=[]) F hr hb hd hx I .nil h)
theorem bA {pl:Sem Bool} (he:PE X o ta) (c:nB X.K C) (hm:Meth X.K C m f) (F:bC X.prog X.w X.K X.mg X.base CX k f fd ps sp) (hr:g9 k X.A) (hb:Binds X.K fd ps ds) (hd:Vals dvs ds) (hx:Passes CX X E) (ha:PA X (e :: es) t)
  (hst:starEach (e :: es) X.env = (false,eval e X.env) :: starEach es X.env:=by rfl) (hpl:(backTo pos (starEach es X.env)).any (·.1) = false:=by rfl)
  (ht:eval (.Call (.Attribute o m apos) (e :: es) [] pos) X.env = (do
   let ov ← eval o X.env
   standAt apos.atName
   let (f,first) ← holding [ov] (getMethod ov m pl)
   callWith pos f first (backTo pos (starEach (e :: es) X.env)) (backToKw pos (keywordEach [] X.env))):=by rfl) :
  PE X (.Call (.Attribute o m apos) (e :: es) [] pos) (Gu C m sp dvs E ta t):=by
 intro pins s Z H Q I h
 refine PySem.W.methodCall_KW (pl:=pl) (dN (he pins s Z H _ I h) λu s1 hY=>?_) ht
 obtain ⟨x,H1,I1,rx,a,dx,fs,ex,ea,l,q⟩:=hY
 subst ex
 obtain rfl:u = Value.ref a:=rx
 refine rV I1 ea c hm l ?_
 refine PySem.W.callWith_K (first:=[.ref a]) (h₀:=X.base) I.ok.mod.N1 hm.kp (dN (ha pos pins s1 Z H1 _ I1 q) λus s2 ⟨vs,H2,I2,r,q2⟩=>⟨I2.lP,?_⟩) hst hpl
 exact vD (us:=.ref a :: us) (vs:=.ref a :: vs) F hr hb hd hx I2 (.cons rfl r) q2
theorem b6 {pl:Sem Bool} (he:PE X o ta) (c:nB X.K C) (hm:Meth X.K C m f) (F:bC X.prog X.w X.K X.mg X.base CX k f fd ps sp) (hr:g9 k X.A) (hb:Binds X.K fd ps ds) (hd:Vals dvs ds) (hx:Passes CX X E)
  (ht:eval (.Call (.Attribute o m apos) [] [] pos) X.env = (do
   let ov ← eval o X.env
   standAt apos.atName
   let (f,first) ← holding [ov] (getMethod ov m pl)
   callWith pos f first (backTo pos (starEach [] X.env)) (backToKw pos (keywordEach [] X.env))):=by rfl) :
  PE X (.Call (.Attribute o m apos) [] [] pos) (Gu C m sp dvs E ta Dy):=by
 intro pins s Z H Q I h
 refine PySem.W.methodCall_KW (pl:=pl) (dN (he pins s Z H _ I h) λu s1 hY=>?_) ht
 obtain ⟨x,H1,I1,rx,a,dx,fs,ex,ea,l,q⟩:=hY
 subst ex
 obtain rfl:u = Value.ref a:=rx
 refine rV I1 ea c hm l ?_
 exact PySem.W.callWith_K0 (first:=[.ref a]) I1.lP hm.kp (vD (us:=[.ref a]) (vs:=[.ref a]) F hr hb hd hx I1 (.cons rfl .nil) q)
structure Mk (K:PySem.W.Frag) (C f:Addr):Prop where
 makes:PySem.W.makesIn K C = true
 init:PySem.W.findIn K (.ref C) "__init__" = some (some (.ref f))
 fn:PySem.W.isFn K (.ref f) = true
 kp:PySem.W.keepIn K (.ref C) = true
theorem EM {pins:List (Addr × Obj)} {Z:St} {H:Hp} {s:Shared} {Q:VK} {us:List Value} {vs:List V} (M:Mk X.K C f) (F:bC X.prog X.w X.K X.mg X.base CX k f fd ps sp) (hr:g9 (k + 1) X.A) (hb:Binds X.K fd ps ds) (hd:Vals dvs ds)
  (hx:Passes CX X E) (I:Inv X pins Z H s) (r:Vals vs us)
  (h:∀ x dx,H x = none -> H dx = none -> dx ≠ x -> sp (.ref x :: (vs ++ dvs)) (upd (upd H dx (.own x)) x (.ins C dx [])) (λv H2=>v = .cQ /\ Q (.ref x) H2) E) :
  wpAny (model X.prog X.w) X.A (call (.ref C) us) (EP X pins Z Q) X.xe s:=by
 have hq:=h (s.heap.objs.size + 1) s.heap.objs.size (I.hok.fresh (Nat.le_succ _)) (I.hok.fresh (Nat.le_refl _)) (Nat.ne_of_lt (Nat.lt_succ_self _))
 have I2:=Inv.made (C:=C) I
 have r2:Vals (V.ref (s.heap.objs.size + 1) :: (vs ++ dvs)) (Value.ref (s.heap.objs.size + 1) :: (us ++ ds)):=.cons rfl (r.append hd)
 have hl:(Value.ref (s.heap.objs.size + 1) :: us ++ ds).length = ps.length:=by
  have e:=r2.length
  rw [F.len _ _ _ _ hq] at e
  exact e.symm
 refine wpAny_call (Gq (f:=f) I.lP M.makes M.init (beq_iff_eq.mp M.fn) (codeAny_mono (F.run _ X.stack _ _ ⟨Value.ref (s.heap.objs.size + 1) :: us,[]⟩ (Value.ref (s.heap.objs.size + 1) :: (us ++ ds)) _ _ E (hr.make C us [])
  (I2.Ob.make C us []) (hb _ (Value.ref (s.heap.objs.size + 1) :: us) I2.lP hl) r2 hq) λr s' hq'=>?_))
 cases r with
 | error e=>exact hx pins Z _ _ e s' I2 hq'
 | ok fl =>
  cases fl with
  | ret u =>
   obtain ⟨v,H',I3,rv,ev,q3⟩:=I2.after hq'
   subst ev
   exact ⟨rv,⟨V.ref (s.heap.objs.size + 1),H',I3,rfl,q3⟩⟩
  | next=>exact False.elim hq'
  | brk=>exact False.elim hq'
  | cont=>exact False.elim hq'
theorem eV (M:Mk X.K C f) (F:bC X.prog X.w X.K X.mg X.base CX k f fd ps sp) (hr:g9 (k + 1) X.A) (hg:Gl X x) (hm:X.mg x = some (.ref C)) (hb:Binds X.K fd ps ds) (hd:Vals dvs ds) (hx:Passes CX X E)
  (ha:PA X (e :: es) t) (hdb:(x == ("__debug__" : Str)) = false:=by decide) (he:starEach (e :: es) X.env = (false,eval e X.env) :: starEach es X.env:=by rfl) (hpl:(backTo pos (starEach es X.env)).any (·.1) = false:=by rfl) :
  PE X (.Call (.Name x p) (e :: es) [] pos) (JH C sp dvs E t):=by
 intro pins s Z H Q I h
 refine wpAny_Call_Name_kw (mh I hg hm ?_ hdb)
 refine PySem.W.callWith_K (h₀:=X.base) I.ok.mod.N1 M.kp (dN (ha pos pins s Z H _ I h) λus s1 ⟨vs,H1,I1,r,q⟩=>⟨I1.lP,?_⟩) he hpl
 exact EM M F hr hb hd hx I1 r q
end
section
variable {X:Cx} {CX:Ac} {k:Nat} {f C:Addr} {fd:FuncData} {ps ks:List Str} {sp:Sp} {E:XK} {x m:Str} {p pos apos kpos:Pos} {e o:Expr} {es:List Expr} {kws:List Keyword} {te ta:TE} {t tk:TA} {nm:Option Str}
variable {g:List Value -> List Value -> List Value} {gV:List V -> List V -> List V}
end
structure aE (N P:List Str) (sc:Scope):Prop where
 kind:sc.kind = .function
 co:sc.isCoroutine = false
 gen:sc.isGenerator = false
 nd:N.Nodup
 pre:N.take P.length = P
 par:∀ x ∈ P,sc.names.lookup x = some .local ∨ sc.names.lookup x = some .cell
 Lq:∀ y ∈ sc.names,y.2 ≠ .free
theorem tW {kindOf:Str -> Option NameKind} {x:Str}:∀ {binds:List (Str × Value)} {m:Str -> Option Value},(∀ v,(x,v) ∉ binds) -> bindL kindOf binds m x = m x
 | [],_,_=>rfl
 | (n,v) :: r,m,h=>by
  unfold bindL
  rw [tW λw hw=>h w (List.mem_cons_of_mem _ hw)]
  split
  ·have:x ≠ n:=by rintro rfl;exact h v List.mem_cons_self
   simp [this]
  ·rfl
theorem uw {kindOf:Str -> Option NameKind} {x:Str}:∀ {binds:List (Str × Value)} {m:Str -> Option Value},(∀ v,(x,v) ∉ binds) -> bindC kindOf binds m x = m x
 | [],_,_=>rfl
 | (n,v) :: r,m,h=>by
  unfold bindC
  rw [uw λw hw=>h w (List.mem_cons_of_mem _ hw)]
  split
  ·rfl
  ·have:x ≠ n:=by rintro rfl;exact h v List.mem_cons_self
   simp [this]
theorem tX {kindOf:Str -> Option NameKind} {x:Str} {v:Value}:∀ {P:List Str} {vs:List Value} {i:Nat} {m:Str -> Option Value},P.Nodup -> P[i]? = some x -> vs[i]? = some v -> kindOf x = some .local ->
  bindL kindOf (P.zip vs) m x = some v
 | [],_,_,_,_,h,_,_=>by simp at h
 | _ :: _,[],_,_,_,_,h,_=>by simp at h
 | p :: P,w :: vs,0,m,nd,h1,h2,hk=>by
  simp at h1 h2;subst h1;subst h2
  show bindL kindOf ((p,w) :: P.zip vs) m p = _
  unfold bindL
  rw [tW λv hv=>(List.nodup_cons.mp nd).1 (List.of_mem_zip hv).1,if_pos hk]
  simp
 | p :: P,w :: vs,i + 1,m,nd,h1,h2,hk=>by
  show bindL kindOf ((p,w) :: P.zip vs) m x = _
  unfold bindL
  exact tX (i:=i) (List.nodup_cons.mp nd).2 (by simpa using h1) (by simpa using h2) hk
theorem tU {kindOf:Str -> Option NameKind} {x:Str} {v:Value}:∀ {P:List Str} {vs:List Value} {i:Nat} {m:Str -> Option Value},P.Nodup -> P[i]? = some x -> vs[i]? = some v -> kindOf x ≠ some .local ->
  bindC kindOf (P.zip vs) m x = some v
 | [],_,_,_,_,h,_,_=>by simp at h
 | _ :: _,[],_,_,_,_,h,_=>by simp at h
 | p :: P,w :: vs,0,m,nd,h1,h2,hk=>by
  simp at h1 h2;subst h1;subst h2
  show bindC kindOf ((p,w) :: P.zip vs) m p = _
  unfold bindC
  rw [uw λv hv=>(List.nodup_cons.mp nd).1 (List.of_mem_zip hv).1,if_neg hk]
  simp
 | p :: P,w :: vs,i + 1,m,nd,h1,h2,hk=>by
  show bindC kindOf ((p,w) :: P.zip vs) m x = _
  unfold bindC
  exact tU (i:=i) (List.nodup_cons.mp nd).2 (by simpa using h1) (by simpa using h2) hk
def start (N:List Str) (vs:List V):St:=vs.map some ++ List.replicate (N.length - vs.length) none
def Ak (CX:Ac) (P:Program) (w:World) (K:PySem.W.Frag) (mg:Str -> Option Value) (base:Heap) (N:List Str) (qual:Str) (scope:Scope) (f:Addr) (cd:Value) (A:Around) (outer:List Env) (s:Shared) (H:Hp) (E:XK):Cx where
 prog:=P
 w:=w
 K:=K
 mg:=mg
 base:=base
 A:=A.deeper (envOfC qual scope s.heap.objs.size f cd)
 N:=N
 s₀:=s
 H₀:=H
 env:=envOfC qual scope s.heap.objs.size f cd
 outer:=outer
 stack:=envOfC qual scope s.heap.objs.size f cd :: outer
 ex:=[]
 calm:=true
 fn:=λ_=>true
 pn:=[]
 xe:=λe s'=>wpAny (model P w) (A.deeper (envOfC qual scope s.heap.objs.size f cd)) (leaving (envOfC qual scope s.heap.objs.size f cd) e) (λ_ s''=>CX outer H s E e s'') (λe' s''=>CX outer H s E e' s'') s'
theorem wF {sc:Scope} {n:Nat} {x:Str} (h:sc.names.lookup x = some .cell):∃ c,(cellsFrom n sc.names []).lookup x = some c:=by
 have q:=PySem.W.cellsFrom_some sc.names n [] (.inl h)
 exact Option.isSome_iff_exists.mp q
theorem CN {CX:Ac} {P:Program} {w:World} {K:PySem.W.Frag} {mg:Str -> Option Value} {base:Heap} {N ps:List Str} {qual:Str} {scope:Scope} {f:Addr} {cd:Value} {A:Around} {outer:List Env} {s s1:Shared} {H:Hp} {E:XK} {us:List Value} {vs:List V}
  (S:aE N ps scope) (hd:A.handled = none) (e0:Ay P w K mg base A outer s H) (hl:vs.length = ps.length) (r:Vals vs us)
  (x:InCallC s s.heap.objs.size (bindL (envOfC qual scope s.heap.objs.size f cd).kindOf (ps.zip us) λ_=>none) (cellsFrom (s.heap.objs.size + 1) scope.names []) (bindC (envOfC qual scope s.heap.objs.size f cd).kindOf (ps.zip us) λ_=>none) s1) :
  Inv (Ak CX P w K mg base N qual scope f cd A outer s H E) [] (start N vs) H s1:=by
 have hpl:ps.length <= N.length:=by have:=congrArg List.length S.pre;rw [List.length_take] at this;lia
 obtain ⟨h1,tk,rfl,hk⟩:=x.done
 have noA:∀ b:Addr,b ∉ (Ak CX P w K mg base N qual scope f cd A outer s H E).ex:=λb z=>absurd (show b ∈ ([]:List Addr) from z) (by simp)
 refine ⟨⟨e0.mod,S.kind,rfl,rfl,Nat.le_refl _,λy z c h1 h2=>?_,λy hy=>?_,λy c _ h=>?_,λ_=>hd,Around.frames_deeper e0.frames,.inr ⟨rfl,rfl⟩,λb z=>absurd z (noA b),e0.bs,e0.JE,λb _ _=>noA b,λb z=>absurd z (noA b),e0.ow,e0.Mn⟩,
  rfl,e0.bare,Un.kept hk,⟨_,x.toInCall.ns,λi y v h1 h2 h3=>?_⟩,λy c h=>⟨_,x.cell y c h⟩,e0.hok.fresh (Nat.le_refl _),λy c h=>?_,λp hp=>absurd (show p ∈ ([]:List (Addr × Obj)) from hp) (by simp),e0.hok.kept hk,?_⟩
 ·exact name_of_addr x.apart (PySem.mem_of_lookup h1) (PySem.mem_of_lookup h2)
 ·have hy:scope.names.lookup y = some .cell ∨ scope.names.lookup y = some .free:=hy
  rcases hy with hy | hy
  ·exact wF hy
  ·exact absurd rfl (S.Lq _ (PySem.mem_of_lookup hy))
 ·exact Nat.le_of_lt (x.above y c (PySem.mem_of_lookup h))
 ·have hi:i < vs.length:=by
   unfold start at h2
   by_cases hi:i < vs.length
   ·exact hi
   ·rw [List.getElem?_append_right (by simpa using hi)] at h2
    rw [List.getElem?_replicate] at h2
    split at h2 <;> cases h2
  have ha:vs[i]? = some v:=by
   unfold start at h2
   rw [List.getElem?_append_left (by simpa using hi),List.getElem?_map] at h2
   cases e:vs[i]? with
   | none=>rw [e] at h2;cases h2
   | some a=>rw [e] at h2;cases h2;rfl
  obtain ⟨u,hu,rv⟩:=r.get ha
  have hp:ps[i]? = some y:=by
   rw [← S.pre,List.getElem?_take_of_lt (by lia)];exact h1
  have ndP:ps.Nodup:=by rw [← S.pre];exact S.nd.sublist (List.take_sublist _ _)
  refine ⟨u,rv,?_⟩
  rcases S.par y (List.mem_of_getElem? hp) with k | k
  ·exact .inl ⟨k,tX ndP hp hu k⟩
  ·obtain ⟨c,e⟩:=wF (n:=s.heap.objs.size + 1) k
   refine .inr ⟨.inl k,c,e,?_⟩
   have q:=x.cell y c e
   rw [tU ndP hp hu (by show scope.names.lookup y ≠ _;rw [k];decide)] at q
   exact q
 ·exact e0.hok.fresh (Nat.le_of_lt (x.above y c (PySem.mem_of_lookup h)))
 ·unfold start
  show _ = N.length
  rw [List.length_append,List.length_map,List.length_replicate]
  lia
theorem NX {CX:Ac} {P:Program} {w:World} {K:PySem.W.Frag} {mg:Str -> Option Value} {base:Heap} {k:Nat} {f:Addr} {name qual:Str} {params:Arguments} {body:List Stmt} {scope:Scope} {dV kV doc pm cdv ct oc:Value} {an od:Option Addr}
  {osl:Array (Option Value)} {N ps:List Str} {sp:Sp} (lk:K.lookup f = some ⟨oc,od,.func (PySem.W.fnOf name qual params body scope dV kV doc pm an cdv ct),osl⟩) (hcd:PySem.W.codeIn K cdv qual = true) (S:aE N ps scope)
  (len:∀ vs H Q E,sp vs H Q E -> vs.length = ps.length)
  (hbody:∀ (A:Around) (outer:List Env) (s:Shared) (H:Hp) (vs:List V) (Q:VK) (E:XK),g9 k (A.deeper (envOfC qual scope s.heap.objs.size f cdv)) -> sp vs H Q E ->
   ∃ t,AU (Ak CX P w K mg base N qual scope f cdv A outer s H E) body t /\ t { nx:=λ_ H'=>Q .cQ H',rt:=Q } (start N vs) H) :
  bC P w K mg base CX (k + 1) f (PySem.W.fnOf name qual params body scope dV kV doc pm an cdv ct) ps sp:=by
 refine ⟨len,λA outer s H args us vs Q E hr e0 hb r hsp=>?_⟩
 have hl:=len _ _ _ _ hsp
 have KX:K.In s.heap:=e0.mod.N1.keeps λb o e=>(e0.bs b o e).1
 have lim:s.heap.NoLimit:=e0.mod.nolimit.keeps λb o e=>(e0.bs b o e).1
 have hkind:∀ y ∈ ps.zip us,scope.names.lookup y.1 = some .local ∨ (scope.names.lookup y.1 = some .cell /\ ((cellsFrom (s.heap.objs.size + 1) scope.names []).lookup y.1).isSome = true):=λ⟨n,v⟩ hy=>by
  rcases S.par n (List.of_mem_zip hy).1 with q | q
  ·exact .inl q
  ·exact .inr ⟨q,PySem.W.cellsFrom_some _ _ _ (.inl q)⟩
 refine codeAny_call_function hr.depth (KX _ _ lk) rfl S.co S.gen rfl (PySem.W.codeRec_of KX hcd) (hb _ _ _ _ ?_)
 refine wpAny_newFunctionEnv_cells S.kind hkind λenv he s1 x=>?_
 subst he
 refine ⟨lim.keeps x.toInCall.keep,codeAny_func ?_⟩
 obtain ⟨t,ht,hq⟩:=hbody A outer s H vs Q E (hr.deeper _) hsp
 have I:Inv (Ak CX P w K mg base N qual scope f cdv A outer s H E) [] (start N vs) H s1:=CN S hr.hd e0 hl r x
 refine wpAny_mono (ht [] s1 (start N vs) H _ I hq) (λfl s' hs=>?_) λe s' hs=>hs
 have fin:∀ {Z':St} {H':Hp} {v:V} {u:Value},Inv (Ak CX P w K mg base N qual scope f cdv A outer s H E) [] Z' H' s' -> RelV v u -> Q v H' -> CE outer P w H s Q u s' :=
  λ{Z' H' v u} J rv q=>⟨v,H',J.os,J.bare,J.base,J.hok,rv,q⟩
 cases fl with
 | ret u =>
  obtain ⟨v,Z',H',J,rv,q⟩:=hs
  exact fin J rv q
 | next =>
  obtain ⟨Z',H',J,q⟩:=hs
  exact fin (v:=V.cQ) (u:=Value.none) J rfl q
 | brk =>
  obtain ⟨_,_,_,q⟩:=hs
  exact False.elim q
 | cont =>
  obtain ⟨_,_,_,q⟩:=hs
  exact False.elim q
end L2
namespace L2
open PySem PySem.Spec PyProof.Rows
section
variable {X:Cx} {x:Str} {p pos:Pos} {e:Expr} {es:List Expr} {t:TA} {id T:String} {r:List V -> Hp -> VK -> Prop}
def Ph (r:List V -> Hp -> VK -> Prop) (t:TA):TE:=λZ H Q=>t Z H λvs H1=>r vs H1 Q
theorem aO (hc:jA X (.builtin id) r) (hg:Gl X x) (hm:X.mg x = none) (hv:bootBuiltins x = some (.builtin id)) (ha:PA X (e :: es) t) (hn:x ≠ "__name__" := by decide) (hdb:(x == ("__debug__" : Str)) = false:=by decide)
  (he:starEach (e :: es) X.env = (false,eval e X.env) :: starEach es X.env:=by rfl) (hpl:(backTo pos (starEach es X.env)).any (·.1) = false:=by rfl):PE X (.Call (.Name x p) (e :: es) [] pos) (Ph r t):=by
 intro pins s Z H Q I h
 refine wpAny_Call_Name_kw (jX I hg hm hv ?_ hn hdb)
 exact PyProof.Rows.callWith_builtin1 (dN (ha pos pins s Z H _ I h) λus s1 ⟨vs,H1,I1,r1,q1⟩=>hc pins s1 Z H1 vs us Q I1 r1 q1) he hpl
theorem dU (hc:jA X (.type T) r) (hg:Gl X x) (hm:X.mg x = none) (hv:bootBuiltins x = some (.type T)) (ha:PA X (e :: es) t) (hn:x ≠ "__name__" := by decide) (hdb:(x == ("__debug__" : Str)) = false:=by decide)
  (he:starEach (e :: es) X.env = (false,eval e X.env) :: starEach es X.env:=by rfl) (hpl:(backTo pos (starEach es X.env)).any (·.1) = false:=by rfl):PE X (.Call (.Name x p) (e :: es) [] pos) (Ph r t):=by
 intro pins s Z H Q I h
 refine wpAny_Call_Name_kw (jX I hg hm hv ?_ hn hdb)
 exact PyProof.Rows.callWith_type1 (dN (ha pos pins s Z H _ I h) λus s1 ⟨vs,H1,I1,r1,q1⟩=>hc pins s1 Z H1 vs us Q I1 r1 q1) he hpl
end
end L2
namespace HT
open PySem PyProof.Rows
theorem E1 (A:Around) (s:Shared) (a:Int) (t:Tok) (c:Int) (u:Tok):∃ e,SeqAt.EqAt A s (.int a t) (.int c u) e /\ (e = true ↔ a = c) :=
 ⟨(a == c),SeqAt.EqAt.int_int a t c u,by simp⟩
section
open PySem.SeqAt
open PySem.AutoSeq1 (wpAny_loadPart')
open PySem.MeetsSeq PySem.MeetsSeq2 PySem.MeetsSeq3
end
section
variable {prog:Program} {w:World} {A:Around} {E:Value -> Shared -> Prop} {s:Shared}
def vE (n d:Nat):Option Int -> Nat
 | none=>d
 | some v=>if v < 0 then (v + (n:Int)).toNat else min v.toNat n
theorem qt (n d:Nat):vE n d none = d:=rfl
theorem oM (n d k:Nat):vE n d (some (k:Int)) = min k n:=by
 show (if (k:Int) < 0 then ((k:Int) + (n:Int)).toNat else min (k:Int).toNat n) = min k n
 rw [if_neg (by lia),Int.toNat_natCast]
end
end HT
namespace L2
open PySem PySem.Spec PyProof.Rows
abbrev TO:=St -> Hp -> (Option Int -> Hp -> Prop) -> Prop
def PO (X:Cx) (e:Option Expr) (t:TO):Prop :=
 ∀ (pins:List (Addr × Obj)) (s:Shared) (Z:St) (H:Hp) (Q:Option Int -> Hp -> Prop),Inv X pins Z H s -> t Z H Q ->
  wpAny (model X.prog X.w) X.A (evalPart e X.env) (λu s'=>∃ o H',Inv X pins Z H' s' /\ IsPart u o /\ Q o H') X.xe s
def Bh:TO:=λ_ H Q=>Q none H
def JD (t:TE):TO:=λZ H Q=>t Z H λx H1=>∃ i,x = .int i /\ Q (some i) H1
section
variable {X:Cx} {e:Expr} {te:TE} {lo hi:Option Expr} {tl th:TO} {pos p2:Pos}
theorem cY:PO X none Bh:=by
 intro pins s Z H Q I h
 rw [evalPart_none]
 exact wpAny_pure ⟨none,H,I,.none,h⟩
theorem bR (h:PE X e te):PO X (some e) (JD te):=by
 intro pins s Z H Q I hw
 rw [evalPart_some]
 refine dN (h pins s Z H _ I hw) λu s1  hZ=>?_
 obtain ⟨x,H1,I1,r1,q1⟩:=hZ
 obtain ⟨i,rfl,q⟩:=q1
 obtain ⟨t,rfl⟩:=r1
 exact ⟨some i,H1,I1,.int i t,q⟩
def QS (X:Cx) (r:V -> Option Int -> Option Int -> Hp -> VK -> Prop):Prop :=
 ∀ (pins:List (Addr × Obj)) (s:Shared) (Z:St) (H:Hp) (x:V) (v vl vu:Value) (lo hi:Option Int) (sl:Addr) (Q:VK),Inv X pins Z H s -> RelV x v -> s.heap.IsSliceOf sl vl vu .none -> IsPart vl lo -> IsPart vu hi -> r x lo hi H Q ->
  ∃ T id,typeLookup (.type T) "__getitem__" = pure (some (.builtin id)) /\ s.TypeIs v T /\ wpAny (model X.prog X.w) X.A (getItem v (.ref sl)) (EP X pins Z Q) X.xe s
def tSl (r:V -> Option Int -> Option Int -> Hp -> VK -> Prop) (te:TE) (tl th:TO):TE:=λZ H Q=>te Z H λx H1=>tl Z H1 λl H2=>th Z H2 λu H3=>r x l u H3 Q
theorem bT {r:V -> Option Int -> Option Int -> Hp -> VK -> Prop} (hr:QS X r) (he:PE X e te) (hl:PO X lo tl) (hu:PO X hi th):PE X (.Subscript e (.Slice lo hi none p2) pos) (tSl r te tl th):=by
 intro pins s Z H Q I h
 refine Subscript_ (dN (he pins s Z H _ I h) λv s1  hZ=>?_)
 obtain ⟨x,H1,I1,r1,q1⟩:=hZ
 refine wpAny_Slice (dN (hl pins s1 Z H1 _ I1 q1) λvl s2 ⟨l,H2,I2,pl,q2⟩=>dN (hu pins s2 Z H2 _ I2 q2) λvu s3  hZ=>?_)
 obtain ⟨u,H3,I3,pu,q3⟩:=hZ
 rw [evalPart_none]
 refine wpAny_pure ?_
 have I4:Inv X pins Z H3 { s3 with heap:=s3.heap.push { cls:=.type "slice",data:=.fields #[vl,vu,.none] } }:=I3.kept (t':=s3.toks) λb ob q=>Heap.get?_push_of_some _ q
 obtain ⟨T,id,hT,ht,hg⟩:=hr pins { s3 with heap:=s3.heap.push { cls:=.type "slice",data:=.fields #[vl,vu,.none] } } Z H3 x v vl vu l u s3.heap.objs.size Q I4 r1 (Heap.IsSliceOf.new ..) pl pu q3
 show wpAny (model X.prog X.w) X.A (subscriptTail e (.Slice lo hi none p2) v (.ref s3.heap.objs.size)) (EP X pins Z Q) X.xe { s3 with heap:=s3.heap.push { cls:=.type "slice",data:=.fields #[vl,vu,.none] } }
 exact tail_any (ops:=[.ref s3.heap.objs.size,v]) ht hT hg (by with_unfolding_all rfl)
def cG (xs:List V) (lo hi:Option Int):List V:=(xs.drop (HT.vE xs.length 0 lo)).take (HT.vE xs.length xs.length hi - HT.vE xs.length 0 lo)
theorem wg (xs:List V) (lo hi:Option Int):(cG xs lo hi).length <= xs.length:=by
 unfold cG
 rw [List.length_take,List.length_drop]
 lia
end
end L2
namespace L2
open PySem PySem.Spec PyProof.Rows
def Bo (n:Nat) (i:Int):Option Nat:=if 0 <= i then (if i < n then some i.toNat else none) else if -(n:Int) <= i then some (i + n).toNat else none
def rA {α:Type} (xs:List α) (i:Int):Option α:=(Bo xs.length i).bind λj=>xs[j]?
theorem BC {n:Nat} {i:Int} {j:Nat} (h:Bo n i = some j):seqIndex? i n = some j /\ j < n /\ -(n:Int) <= i /\ i < n:=by
 unfold Bo at h
 by_cases h0:0 <= i
 ·rw [if_pos h0] at h
  by_cases h1:i < n
  ·rw [if_pos h1] at h
   have e:i.toNat = j:=Option.some.inj h
   exact ⟨by rw [seqIndex_of h0 h1,e],by lia,by lia,h1⟩
  ·rw [if_neg h1] at h;cases h
 ·rw [if_neg h0] at h
  by_cases h1:-(n:Int) <= i
  ·rw [if_pos h1] at h
   have e:(i + n).toNat = j:=Option.some.inj h
   exact ⟨by rw [seqIndex_neg (by lia) h1,e],by lia,h1,by lia⟩
  ·rw [if_neg h1] at h;cases h
theorem vm {α:Type} {xs:List α} {i:Int} {v:α} (h:rA xs i = some v):∃ j,seqIndex? i xs.length = some j /\ xs[j]? = some v /\ j < xs.length /\ -(xs.length:Int) <= i /\ i < xs.length:=by
 unfold rA at h
 cases e:Bo xs.length i with
 | none=>rw [e] at h;cases h
 | some j =>
  rw [e] at h
  obtain ⟨h1,h2,h3,h4⟩:=BC e
  exact ⟨j,h1,h,h2,h3,h4⟩
theorem aQ {α:Type} {xs:List α} {j:Nat} {v:α} (h:xs[j]? = some v):rA xs (j:Int) = some v:=by
 have hj:j < xs.length:=(List.getElem?_eq_some_iff.mp h).1
 have e:Bo xs.length (j:Int) = some j:=by
  unfold Bo
  rw [if_pos (by lia),if_pos (by lia)];simp
 unfold rA;rw [e];exact h
def HZ (b:Expr):Prop:=∀ o i,subscripted b false o i = operate [o,i] (getItem o i)
def Np (X:Cx) (r:R2):Prop :=
 ∀ (value slice:Expr) (pins:List (Addr × Obj)) (s:Shared) (Z:St) (H:Hp) (x y:V) (v u:Value) (Q:VK),Inv X pins Z H s -> RelV x v -> RelV y u -> r x y H Q ->
  subscripted slice false v u = operate [v,u] (getItem v u) -> wpAny (model X.prog X.w) X.A (subscriptTail value slice v u) (EP X pins Z Q) X.xe s
def Nl (X:Cx) (id:String) (r:V -> List V -> Hp -> VK -> Prop):Prop :=
 ∀ (pins:List (Addr × Obj)) (s:Shared) (Z:St) (H:Hp) (x:V) (xs:List V) (v:Value) (us:List Value) (Q:VK),Inv X pins Z H s -> RelV x v -> Vals xs us -> r x xs H Q ->
  wpAny (model X.prog X.w) X.A (call (.builtin id) (v :: us)) (EP X pins Z Q) X.xe s
section
variable {X:Cx} {a b:Expr} {ta tb:TE} {pos:Pos}
theorem aL {r:R2} (hr:Np X r) (ha:PE X a ta) (hb:PE X b tb) (hs:HZ b):PE X (.Subscript a b pos) (Nk r ta tb):=by
 intro pins s Z H Q I h
 exact Subscript_ (Lb ha hb I h λv u s2 x y H2 I2 rx ry q=>hr a b pins s2 Z H2 x y v u Q I2 rx ry q (hs _ _))
def IU (K:PySem.W.Frag):R2:=λx y H Q=>∃ p xs i v,x = .ref p /\ y = .int i /\ bf K H p xs /\ rA xs i = some v /\ Q v H
def Kw (K:PySem.W.Frag):R2:=λx y H Q=>∃ p xs i v,x = .ref p /\ y = .int i /\ d8 K H p xs /\ rA xs i = some v /\ Q v H
def OC:R2:=λx y H Q=>∃ z i c,x = .str z /\ y = .int i /\ z.length <= sizeLine /\ rA z.cps.toList i = some c /\ Q (.str ⟨#[c]⟩) H
theorem aS:Np X (IU X.K):=by
 intro value slice pins s Z H x y v u Q I rx ry h hs
 obtain ⟨p,xs,i,z,rfl,rfl,hq,he,q⟩:=h
 cases rx
 obtain ⟨t,rfl⟩:=ry
 obtain ⟨its,r,pl,hz⟩:=I.list hq
 obtain ⟨j,h1,h2,h3,h4,h5⟩:=vm he
 obtain ⟨w,ew,rw'⟩:=r.get h2
 have hl:=r.length
 have hn:=k7
 have fin:EP X pins Z Q w s:=⟨z,H,I,rw',q⟩
 by_cases h0:0 <= i
 ·have hj:i.toNat = j:=by
   rw [seqIndex_of h0 h5] at h1
   exact Option.some.inj h1
  exact item_listR pl.isList h0 (by lia) (by rw [hj];simpa using ew) fin hs
 ·have hj:(i + (its.toArray.size:Int)).toNat = j:=by
   rw [seqIndex_neg (by lia) h4] at h1
   rw [List.size_toArray,← hl]
   exact Option.some.inj h1
  exact subscriptTail_builtinR (x:=w) pl.isList.typeIs slot_list_getitem.lookup
   (wpAny_getItem_list_neg (Q:=λr s'=>r = w /\ EP X pins Z Q r s') pl.isList (by lia) (by rw [List.size_toArray] <;> lia) (by lia) (by rw [hj];simpa using ew) ⟨rfl,fin⟩) hs
theorem bw:Np X (Kw X.K):=by
 intro value slice pins s Z H x y v u Q I rx ry h hs
 obtain ⟨p,xs,i,z,rfl,rfl,hq,he,q⟩:=h
 cases rx
 obtain ⟨t,rfl⟩:=ry
 obtain ⟨its,r,pl,hz⟩:=I.tuple hq
 obtain ⟨j,h1,h2,h3,h4,h5⟩:=vm he
 obtain ⟨w,ew,rw'⟩:=r.get h2
 have hl:=r.length
 have hn:=k7
 have fin:EP X pins Z Q w s:=⟨z,H,I,rw',q⟩
 exact subscriptTail_builtinR (x:=w) pl.typeIs slot_tuple_getitem.lookup
  (getItem_tuple (j:=j) (Q:=λr s'=>r = w /\ EP X pins Z Q r s') pl (by lia) (by lia) (by rw [List.size_toArray,← hl];exact h1) (by simpa using ew) ⟨rfl,fin⟩) hs
theorem k6:Np X OC:=by
 intro value slice pins s Z H x y v u Q I rx ry h hs
 obtain ⟨z,i,c,rfl,rfl,hz,he,q⟩:=h
 obtain ⟨t,rfl⟩:=rx
 obtain ⟨t',rfl⟩:=ry
 obtain ⟨j,h1,h2,h3,h4,h5⟩:=vm he
 have hl:z.cps.toList.length = z.length:=by simp [Str.length]
 rw [hl] at h1 h4 h5
 have hn:=k7
 exact tail_any (typeIs_str s z t) slot_str_getitem.lookup (getItem_str (c:=c) (by
  have e1:decide (i < -(2 ^ 63:Int)) = false:=decide_eq_false (by lia)
  have e2:decide (i ≥ 2 ^ 63) = false:=decide_eq_false (by lia)
  rw [e1,e2,Bool.or_false]) (by rw [h1];simpa using h2) ⟨.str ⟨#[c]⟩,H,I.tok _,⟨_,rfl⟩,q⟩) hs
theorem zZ (its:List Value) (n j:Nat) (u:Value):Obj.mapSeq (·.setIfInBounds j u) { cls:=.type "list",data:=.seq its.toArray n } = { cls:=.type "list",data:=.seq (its.set j u).toArray n }:=by
 simp [Obj.mapSeq]
theorem Inv.lst {pins:List (Addr × Obj)} {Z:St} {H:Hp} {s:Shared} {p:Addr} {xs:List V} (I:Inv X pins Z H s) (h:H p = some (.lst xs)) :
  ∃ (its:List Value) (n:Nat),Vals xs its /\ s.heap.get? p = some { cls:=.type "list",data:=.seq its.toArray n } /\ xs.length <= sizeLine:=by
 obtain ⟨z,its,n,r,e⟩:=I.hok p _ h
 exact ⟨its,n,r,e,z⟩
theorem Inv.Mt {pins:List (Addr × Obj)} {Z:St} {H:Hp} {s:Shared} {p:Addr} {xs ys:List V} {its its':List Value} {n n':Nat} {f:Obj -> Obj} (I:Inv X pins Z H s) (h:H p = some (.lst xs))
  (ho:s.heap.get? p = some { cls:=.type "list",data:=.seq its.toArray n }) (hf:f { cls:=.type "list",data:=.seq its.toArray n } = { cls:=.type "list",data:=.seq its'.toArray n' }) (r:Vals ys its') (hz:ys.length <= sizeLine) (t:Nat) :
  Inv X pins Z (upd H p (.lst ys)) { s with heap:=s.heap.update p f,toks:=t }:=by
 have e:(s.heap.update p f).get? p = some { cls:=.type "list",data:=.seq its'.toArray n' }:=by
  rw [Heap.get?_update_self f ho (by rw [hf] <;> rfl),hf]
 refine I.write (x:=p) (e:=p) (by rw [h];trivial) (.inl rfl) (λb u hb q=>(Heap.get?_update_other _ _ (Ne.symm hb)).trans q) ⟨_,e⟩ ?_
 exact ⟨hz,its',n',r,e⟩
def NH:V -> V -> V -> Hp -> (Hp -> Prop) -> Prop:=λo i v H Q=>∃ p xs k j,o = .ref p /\ i = .int k /\ H p = some (.lst xs) /\ Bo xs.length k = some j /\ Q (upd H p (.lst (xs.set j v)))
theorem set_list:N3 X NH:=by
 intro pins s Z H o i v ov iv u Q I ro ri rv h
 obtain ⟨p,xs,k,j,rfl,rfl,hp,hj,q⟩:=h
 cases ro
 obtain ⟨t,rfl⟩:=ri
 obtain ⟨its,n,r,ho,hz⟩:=I.lst hp
 obtain ⟨h1,h2,h3,h4⟩:=BC hj
 have hl:=r.length
 have hn:=k7
 have I':Inv X pins Z (upd H p (.lst (xs.set j v))) { s with heap:=s.heap.update p (Obj.mapSeq (·.setIfInBounds j u)) } :=
  I.Mt hp ho (zZ its n j u) (r.set rv j) (by rw [List.length_set];exact hz) s.toks
 by_cases h0:0 <= k
 ·have hk:k.toNat = j:=by
   rw [seqIndex_of h0 h4] at h1
   exact Option.some.inj h1
  exact PySem.W.ki_setAt ho h0 (by lia) (by rw [List.size_toArray,← hl];exact h4) (by rw [hk];exact ⟨_,I',q⟩)
 ·have hk:(k + (its.toArray.size:Int)).toNat = j:=by
   rw [seqIndex_neg (by lia) h3] at h1
   rw [List.size_toArray,← hl]
   exact Option.some.inj h1
  exact PySem.W.ki_setBack ho (by lia) (by rw [List.size_toArray,← hl];exact h3) (by lia) (by rw [hk];exact ⟨_,I',q⟩)
theorem vB (lo hi:Option Int) (n:Nat):(sliceBounds lo hi none n).1 = ((HT.vE n 0 lo:Nat):Int) /\ (sliceBounds lo hi none n).2.1 = ((HT.vE n n hi:Nat):Int) /\ (sliceBounds lo hi none n).2.2 = 1:=by
 refine ⟨?_,?_,rfl⟩
 ·cases lo with
  | none=>simp [sliceBounds,HT.vE]
  | some i =>
   simp only [sliceBounds,HT.vE,Option.getD_none,show (1:Int) > 0 by decide,if_true]
   by_cases h:i < 0
   ·simp only [h,if_true] <;> lia
   ·simp only [h,if_false] <;> lia
 ·cases hi with
  | none=>simp [sliceBounds,HT.vE]
  | some i =>
   simp only [sliceBounds,HT.vE,Option.getD_none,show (1:Int) > 0 by decide,if_true]
   by_cases h:i < 0
   ·simp only [h,if_true] <;> lia
   ·simp only [h,if_false] <;> lia
theorem sM (its:List Value) (lo hi:Option Int):slicePick its.toArray lo hi none = ((its.drop (HT.vE its.length 0 lo)).take (HT.vE its.length its.length hi - HT.vE its.length 0 lo)).toArray:=by
 obtain ⟨h1,h2,h3⟩:=vB lo hi its.toArray.size
 unfold slicePick
 rw [h1,h2,h3]
 simp only [sliceRange_one,pick_run,List.size_toArray] <;> rfl
def PD (K:PySem.W.Frag):V -> Option Int -> Option Int -> Hp -> VK -> Prop:=λx lo hi H Q=>∃ a xs,x = .ref a /\ bf K H a xs /\ ∀ p,H p = none -> Q (.ref p) (upd H p (.lst (cG xs lo hi)))
theorem gq:QS X (PD X.K):=by
 intro pins s Z H x v vl vu lo hi sl Q I rx hs pl pu h
 obtain ⟨a,xs,rfl,hx,q⟩:=h
 cases rx
 obtain ⟨its,r,ht,hz⟩:=I.list hx
 have hlen:=r.length
 refine ⟨"list",_,slot_list_getitem.lookup,ht.isList.typeIs,?_⟩
 refine wpAny_getItem_list_slice ht.isList hs pl pu .none (by simp) ?_ (by rw [List.size_toArray] <;> lia)
 rw [sM,← hlen]
 refine ⟨.ref s.heap.objs.size,_,I.laid (t':=s.toks) (o:=.lst (cG xs lo hi)) (λb ob q=>Heap.get?_push_of_some _ q) (Nat.le_refl _) ?_,rfl,q _ (I.hok.fresh (Nat.le_refl _))⟩
 exact ⟨Nat.le_trans (wg xs lo hi) hz,_,0,(r.drop (HT.vE xs.length 0 lo)).take (HT.vE xs.length xs.length hi - HT.vE xs.length 0 lo),Heap.get?_push_size _ rfl⟩
def iK:V -> Bool
 | .cQ=>true
 | .bl _=>true
 | .int _=>true
 | .str _=>true
 | _=>false
def B5:V -> V -> Bool
 | .cQ,.cQ=>true
 | .bl a,.bl b=>a == b
 | .bl a,.int b=>(if a then 1 else 0) == b
 | .int a,.bl b=>a == (if b then 1 else 0)
 | .int a,.int b=>a == b
 | .str a,.str b=>a == b
 | _,_=>false
theorem Aq {A:Around} {s:Shared} {y x:V} {u v:Value} (ry:RelV y u) (rx:RelV x v) (fy:iK y = true) (fx:iK x = true):SeqAt.EqAt A s u v (B5 y x):=by
 cases y with
 | cQ =>
  cases ry
  cases x with
  | cQ=>cases rx;exact SeqAt.EqAt.same _
  | bl b=>cases rx;exact SeqAt.EqAt.none_bool b
  | int b=>obtain ⟨t,rfl⟩:=rx;exact SeqAt.EqAt.none_int b t
  | str b=>obtain ⟨t,rfl⟩:=rx;exact SeqAt.EqAt.none_str b t
  | _=>exact absurd (show false = true from fx) Bool.false_ne_true
 | bl a =>
  cases ry
  cases x with
  | cQ=>cases rx;exact SeqAt.EqAt.bool_none a
  | bl b=>cases rx;exact SeqAt.EqAt.bool_bool a b
  | int b=>obtain ⟨t,rfl⟩:=rx;exact SeqAt.EqAt.bool_int a b t
  | str b=>obtain ⟨t,rfl⟩:=rx;exact SeqAt.EqAt.bool_str a b t
  | _=>exact absurd (show false = true from fx) Bool.false_ne_true
 | int a =>
  obtain ⟨t',rfl⟩:=ry
  cases x with
  | cQ=>cases rx;exact SeqAt.EqAt.int_none a t'
  | bl b=>cases rx;exact SeqAt.EqAt.int_bool a t' b
  | int b=>obtain ⟨t,rfl⟩:=rx;exact SeqAt.EqAt.int_int a t' b t
  | str b=>obtain ⟨t,rfl⟩:=rx;exact SeqAt.EqAt.int_str a t' b t
  | _=>exact absurd (show false = true from fx) Bool.false_ne_true
 | str a =>
  obtain ⟨t',rfl⟩:=ry
  cases x with
  | cQ=>cases rx;exact SeqAt.EqAt.str_none a t'
  | bl b=>cases rx;exact SeqAt.EqAt.str_bool a t' b
  | int b=>obtain ⟨t,rfl⟩:=rx;exact SeqAt.EqAt.str_int a t' b t
  | str b=>obtain ⟨t,rfl⟩:=rx;exact SeqAt.EqAt.str_str a t' b t
  | _=>exact absurd (show false = true from fx) Bool.false_ne_true
 | _=>exact absurd (show false = true from fy) Bool.false_ne_true
def zN (x:V) (u:Value):Bool:=match u with
 | .none=>B5 .cQ x
 | .bool b=>B5 (.bl b) x
 | .int i _=>B5 (.int i) x
 | .str z _=>B5 (.str z) x
 | _=>false
theorem Hh {x y:V} {u:Value} (r:RelV y u) (f:iK y = true):zN x u = B5 y x:=by
 cases y with
 | cQ=>cases r;rfl
 | bl b=>cases r;rfl
 | int i=>obtain ⟨t,rfl⟩:=r;rfl
 | str z=>obtain ⟨t,rfl⟩:=r;rfl
 | _=>exact absurd (show false = true from f) Bool.false_ne_true
theorem mj {x:V}:∀ {xs:List V} {us:List Value},Vals xs us -> xs.all iK = true -> us.any (zN x) = xs.any λy=>B5 y x
 | _,_,.nil,_=>rfl
 | y :: xs,u :: us,.cons r t,f=>by
  rw [List.all_cons,Bool.and_eq_true] at f
  rw [List.any_cons,List.any_cons,Hh r f.1,mj t f.2]
theorem jH {A:Around} {s:Shared} {x:V} {v:Value} (rx:RelV x v) (fx:iK x = true):∀ {xs:List V} {us:List Value},Vals xs us -> xs.all iK = true -> ∀ u ∈ us,SeqAt.EqAt A s u v (zN x u)
 | _,_,.nil,_=>λu hu=>by cases hu
 | y :: xs,u :: us,.cons r t,f=>λu' hu=>by
  rw [List.all_cons,Bool.and_eq_true] at f
  rcases List.mem_cons.mp hu with rfl | hu
  ·rw [Hh r f.1];exact Aq r rx f.1 fx
  ·exact jH rx fx t f.2 u' hu
def Jm (x:V) (xs:List V):Bool:=xs.any λy=>B5 y x
def Qm (K:PySem.W.Frag) (neg:Bool):R2:=λx y H Q=>∃ p xs,y = .ref p /\ (bf K H p xs ∨ d8 K H p xs) /\ iK x = true /\ xs.all iK = true /\ Q (.bl (if neg then !Jm x xs else Jm x xs)) H
theorem fY:mD X (compareOp .In) (Qm X.K false):=by
 intro pins s Z H x y v u Q I rx ry h
 obtain ⟨p,xs,rfl,hq,fx,fs,q⟩:=h
 cases ry
 rcases hq with hq | hq
 ·obtain ⟨its,r,pl,hz⟩:=I.list hq
  refine SeqAt.in_listAt (zN x) pl.isList (λw hw=>jH rx fx r fs w (by simpa using hw)) ⟨.bl _,H,I,rfl,?_⟩
  rw [show its.toArray.any (zN x) = its.any (zN x) by simp,mj r fs]
  exact q
 ·obtain ⟨its,r,pl,hz⟩:=I.tuple hq
  refine SeqAt.in_tupleAt (zN x) pl (λw hw=>jH rx fx r fs w (by simpa using hw)) ⟨.bl _,H,I,rfl,?_⟩
  rw [show its.toArray.any (zN x) = its.any (zN x) by simp,mj r fs]
  exact q
theorem uM:mD X (compareOp .NotIn) (Qm X.K true):=by
 intro pins s Z H x y v u Q I rx ry h
 obtain ⟨p,xs,rfl,hq,fx,fs,q⟩:=h
 cases ry
 rcases hq with hq | hq
 ·obtain ⟨its,r,pl,hz⟩:=I.list hq
  refine SeqAt.notIn_listAt (zN x) pl.isList (λw hw=>jH rx fx r fs w (by simpa using hw)) ⟨.bl _,H,I,rfl,?_⟩
  rw [show its.toArray.any (zN x) = its.any (zN x) by simp,mj r fs]
  exact q
 ·obtain ⟨its,r,pl,hz⟩:=I.tuple hq
  refine SeqAt.notIn_tupleAt (zN x) pl (λw hw=>jH rx fx r fs w (by simpa using hw)) ⟨.bl _,H,I,rfl,?_⟩
  rw [show its.toArray.any (zN x) = its.any (zN x) by simp,mj r fs]
  exact q
theorem aR:jA X (.builtin "len") (λxs H Q=>∃ p ys,xs = [.ref p] /\ (bf X.K H p ys ∨ d8 X.K H p ys) /\ Q (.int ys.length) H):=by
 intro pins s Z H xs us Q I r h
 obtain ⟨p,ys,rfl,hq,q⟩:=h
 obtain ⟨u,rfl,rx⟩:=vals1 r
 cases rx
 have hn:=k7
 rcases hq with hq | hq
 ·obtain ⟨its,r',pl,hz⟩:=I.list hq
  have hlen:=r'.length
  exact Calls.call_len_list pl.isList (by simp only [List.size_toArray] <;> lia) ⟨.int ys.length,H,I.tok _,⟨s.toks + 1,by rw [List.size_toArray,hlen]⟩,q⟩
 ·obtain ⟨its,r',pl,hz⟩:=I.tuple hq
  have hlen:=r'.length
  exact len_tuple pl (by simp only [List.size_toArray] <;> lia) ⟨.int ys.length,H,I.tok _,⟨s.toks + 1,by rw [List.size_toArray,hlen]⟩,q⟩
theorem bD:jA X (.builtin "len") (λxs H Q=>∃ z,xs = [.str z] /\ z.length <= sizeLine /\ Q (.int z.length) H):=by
 intro pins s Z H xs us Q I r h
 obtain ⟨z,rfl,hz,q⟩:=h
 obtain ⟨u,rfl,t,rfl⟩:=vals1 r
 have hn:=k7
 exact len_str (by lia) ⟨.int z.length,H,I.tok _,⟨_,rfl⟩,q⟩
theorem fC:jA X (.type "list") (λxs H Q=>∃ p ys,xs = [.ref p] /\ (bf X.K H p ys ∨ d8 X.K H p ys) /\ ∀ l,H l = none -> Q (.ref l) (upd H l (.lst ys))):=by
 intro pins s Z H xs us Q I r h
 obtain ⟨p,ys,rfl,hq,q⟩:=h
 obtain ⟨u,rfl,rx⟩:=vals1 r
 cases rx
 have fin:∀ (its:List Value),Vals ys its -> ys.length <= sizeLine -> ∀ (h':Heap) (c':Nat),(∀ b o',s.heap.get? b = some o' -> h'.get? b = some o') ->
   h'.get? s.heap.objs.size = some { cls:=.type "list",dict:=none,data:=.seq its.toArray c',slots:=#[] } -> EP X pins Z Q (.ref s.heap.objs.size) { s with heap:=h' }:=λits r' hz h' c' kp e =>
  ⟨.ref s.heap.objs.size,_,I.laid (t':=s.toks) kp (Nat.le_refl _) (show c5 X.prog X.w _ h' _ (.lst ys) from ⟨hz,its,c',r',e⟩),rfl,q _ (I.hok.fresh (Nat.le_refl _))⟩
 rcases hq with hq | hq
 ·obtain ⟨its,r',pl,hz⟩:=I.list hq
  have hlen:=r'.length
  obtain ⟨o,ho,hc,n,hd⟩:=pl.isList
  exact call_list_seq p (.inl rfl) ho hc hd (λh' c' kp e=>fin its r' hz h' c' kp e) (by simp only [List.size_toArray] <;> lia)
 ·obtain ⟨its,r',pl,hz⟩:=I.tuple hq
  have hlen:=r'.length
  obtain ⟨o,ho,hc,n,hd⟩:=pl
  exact call_list_seq p (.inr rfl) ho hc hd (λh' c' kp e=>fin its r' hz h' c' kp e) (by simp only [List.size_toArray] <;> lia)
def Q5 (K:PySem.W.Frag) (T:String) (x:V) (H:Hp):Prop:=match x with
 | .str _=>T = "str"
 | .int _=>T = "int"
 | .ref p=>(T = "list" /\ ∃ xs,bf K H p xs) ∨ (T = "tuple" /\ ∃ o,K.lookup p = some o /\ o.cls = .type "tuple" /\ o.dict = none) ∨
   (T = "dict" /\ ((∃ kvs,H p = some (.dK kvs)) ∨ ∃ kvs,H p = some (.dT kvs))) ∨ (T = "set" /\ ∃ S n,H p = some (.set S n))
 | _=>False
theorem EW {pins:List (Addr × Obj)} {Z:St} {H:Hp} {s:Shared} {T:String} {x:V} {v:Value} (I:Inv X pins Z H s) (r:RelV x v) (ty:Q5 X.K T x H) :
  s.TypeIs v T /\ ∀ a,v = .ref a -> ∃ ob,s.heap.get? a = some ob /\ ob.dict = none:=by
 cases x with
 | str z =>
  obtain ⟨t,rfl⟩:=r
  cases (show T = "str" from ty)
  exact ⟨typeIs_str s z t,λ_ e=>nomatch e⟩
 | int i =>
  obtain ⟨t,rfl⟩:=r
  cases (show T = "int" from ty)
  exact ⟨typeIs_int s i t,λ_ e=>nomatch e⟩
 | ref p =>
  cases r
  rcases ty with ⟨rfl,xs,hq⟩ | ⟨rfl,o,hk,hc,hd⟩ | ⟨rfl,hk⟩ | ⟨rfl,S,n,hk⟩
  ·obtain ⟨its,_,pl,_⟩:=I.list hq
   refine ⟨pl.isList.typeIs,λa e=>?_⟩
   cases e
   obtain ⟨o,n,e,c,hd,_⟩:=pl
   exact ⟨o,e,hd⟩
  ·refine ⟨⟨o,I.lP p o hk,hc⟩,λa e=>?_⟩
   cases e
   exact ⟨o,I.lP _ o hk,hd⟩
  ·have z:∃ o,s.heap.get? p = some o /\ o.ExactDict:=by
    rcases hk with ⟨kvs,hk⟩ | ⟨kvs,hk⟩
    ·obtain ⟨_,_,_,_,o,_,_,e,ex,_⟩:=I.hok p _ hk
     exact ⟨o,e,ex⟩
    ·obtain ⟨_,_,_,_,o,_,_,e,ex,_⟩:=I.hok p _ hk
     exact ⟨o,e,ex⟩
   obtain ⟨o,e,ex⟩:=z
   refine ⟨⟨o,e,ex.1⟩,λa e2=>?_⟩
   cases e2
   exact ⟨o,e,ex.2.1⟩
  ·obtain ⟨o,_,_,_,e,ex,_⟩:=I.hok p _ hk
   refine ⟨⟨o,e,ex.1⟩,λa e2=>?_⟩
   cases e2
   exact ⟨o,e,ex.2.1⟩
 | _=>exact False.elim ty
def OZ (K:PySem.W.Frag) (T:String) (r:V -> List V -> Hp -> VK -> Prop) (to:TE):TE:=λZ H Q=>to Z H λx H1=>Q5 K T x H1 /\ r x [] H1 Q
def tBM (K:PySem.W.Frag) (T:String) (r:V -> List V -> Hp -> VK -> Prop) (to:TE) (t:TA):TE:=λZ H Q=>to Z H λx H1=>Q5 K T x H1 /\ t Z H1 λxs H2=>r x xs H2 Q
variable {o e:Expr} {es:List Expr} {to:TE} {t:TA} {name:Str} {apos cpos:Pos} {T id:String} {r:V -> List V -> Hp -> VK -> Prop}
theorem LL (pa:PlainAttrs T) (slot:Slot T name id) (hty:typeOf (.builtin id) = pure (.type "method_descriptor")) (hm:Nl X id r) (ho:PE X o to)
  (hbase:attributeBase o name X.env (eval o X.env) = eval o X.env:=by rfl) (hline:(apos.endLine == cpos.line) = true:=by rfl):PE X (.Call (.Attribute o name apos) [] [] cpos) (OZ X.K T r to):=by
 intro pins s Z H Q I h
 refine wpAny_Call_method0_late hbase hline (dN (ho pins s Z H _ I h) λv s1  hZ=>?_)
 obtain ⟨x,H1,I1,r1,ty,q1⟩:=hZ
 obtain ⟨h1,h2⟩:=EW I1 r1 ty
 exact ⟨T,id,pa,slot,hty,h1,h2,Calls.callWith_builtin rfl (PySem.evalArgs_none (hm pins s1 Z H1 x [] v [] Q I1 r1 .nil q1))⟩
theorem cH (pa:PlainAttrs T) (slot:Slot T name id) (hty:typeOf (.builtin id) = pure (.type "method_descriptor")) (hm:Nl X id r) (ho:PE X o to) (ha:PA X (e :: es) t)
  (hbase:attributeBase o name X.env (eval o X.env) = eval o X.env:=by rfl)
  (hfew:((backTo cpos (starEach (e :: es) X.env)).all (λx=>!x.1) && (backToKw cpos (keywordEach [] X.env)).all (λx=>x.1.isSome)
   && decide ((e :: es).length + ([]:List Keyword).length + (if ([]:List Keyword).isEmpty then 0 else 1) < 30)) = true:=by rfl)
  (hline:(apos.endLine == cpos.line) = true:=by rfl) (hs:starEach (e :: es) X.env = (false,eval e X.env) :: starEach es X.env:=by rfl) (hplain:(backTo cpos (starEach es X.env)).any (·.1) = false:=by rfl) :
  PE X (.Call (.Attribute o name apos) (e :: es) [] cpos) (tBM X.K T r to t):=by
 intro pins s Z H Q I h
 refine wpAny_Call_method_late hbase hfew hline rfl (dN (ho pins s Z H _ I h) λv s1  hZ=>?_)
 obtain ⟨x,H1,I1,r1,ty,q1⟩:=hZ
 obtain ⟨h1,h2⟩:=EW I1 r1 ty
 refine ⟨T,id,pa,slot,hty,h1,h2,?_⟩
 have hA:=ha cpos pins s1 Z H1 _ I1 q1
 rw [hs] at hA ⊢
 refine Calls.callWith_builtin (by show (false || (backTo cpos (starEach es X.env)).any (·.1)) = false;rw [hplain] <;> rfl) (Calls.evalArgs_plain ?_)
 exact dN hA λus s2 ⟨vs,H2,I2,r2,q2⟩=>hm pins s2 Z H2 x vs v us Q I2 r1 r2 q2
end
end L2
namespace L2
open PySem PySem.Spec PyProof.Rows
def Pc (X:Cx) (id:String) (r:V -> List V -> Hp -> VK -> Prop):Prop :=
 ∀ (pins:List (Addr × Obj)) (s:Shared) (Z:St) (H:Hp) (x:V) (xs:List V) (v:Value) (us:List Value) (Q:VK),Inv X pins Z H s -> RelV x v -> Vals xs us -> r x xs H Q ->
  wpAny (model X.prog X.w) X.A (call (.builtin id) (v :: us)) (EP X pins Z Q) X.xe s
theorem Vals.one {x:V} {us:List Value} (h:Vals [x] us):∃ u,us = [u] /\ RelV x u:=by
 cases h with
 | cons r h=>
  cases h
  exact ⟨_,rfl,r⟩
theorem Vals.two {x y:V} {us:List Value} (h:Vals [x,y] us):∃ u v,us = [u,v] /\ RelV x u /\ RelV y v:=by
 cases h with
 | cons r h=>cases h with
  | cons q h=>
   cases h
   exact ⟨_,_,rfl,r,q⟩
theorem Vals.zero:∀ {us:List Value},Vals [] us -> us = []
 | _,.nil=>rfl
theorem Vals.dropLast {xs:List V} {us:List Value} (h:Vals xs us):Vals xs.dropLast us.dropLast:=by
 induction h with
 | nil=>exact .nil
 | cons r t ih =>
  cases t with
  | nil=>exact .nil
  | cons q t'=>exact .cons r ih
theorem Vals.rep {xs:List V} {us:List Value} (h:Vals xs us):∀ k:Nat,Vals (List.replicate k xs).flatten (List.replicate k us).flatten
 | 0=>.nil
 | k + 1=>by
  rw [List.replicate_succ,List.replicate_succ,List.flatten_cons,List.flatten_cons]
  exact Vals.append h (Vals.rep h k)
theorem Au {α:Type} (l:List α):l.eraseIdx (l.length - 1) = l.dropLast:=by
 induction l with
 | nil=>rfl
 | cons a r ih =>
  cases r with
  | nil=>rfl
  | cons b r =>
   have e:(a :: b :: r).length - 1 = ((b :: r).length - 1) + 1:=by
    have h1:(a :: b :: r).length = r.length + 2:=rfl
    have h2:(b :: r).length = r.length + 1:=rfl
    lia
   rw [e,List.eraseIdx_cons_succ,ih]
   all_goals rfl
theorem foldl_rep (its:List Value):∀ (k:Nat) (acc:List Value),
  List.foldl (λx1 x2=>x1 ++ x2) acc.toArray (List.replicate k its.toArray) = (acc ++ (List.replicate k its).flatten).toArray
 | 0,acc=>by simp
 | k + 1,acc=>by
  have e:acc.toArray ++ its.toArray = (acc ++ its).toArray:=by simp
  have e2:(acc ++ its) ++ (List.replicate k its).flatten = acc ++ (List.replicate (k + 1) its).flatten:=by
   rw [List.replicate_succ,List.flatten_cons,List.append_assoc]
  rw [← e2,← foldl_rep its k (acc ++ its),← e,List.replicate_succ,List.foldl_cons]
section
variable {X:Cx} {pins:List (Addr × Obj)} {Z:St} {H:Hp} {s:Shared} {l b:Addr} {xs ys zs:List V}
theorem Inv.Hs {its its':List Value} {n:Nat} {f:Array Value -> Array Value} {t':Nat} (I:Inv X pins Z H s) (hH:H l = some (.lst xs))
  (e:s.heap.get? l = some { cls:=.type "list",data:=.seq its.toArray n }) (hf:f its.toArray = its'.toArray) (hv:Vals ys its') (hz:ys.length <= sizeLine) :
  Inv X pins Z (upd H l (.lst ys)) { s with heap:=s.heap.update l (Obj.mapSeq f),toks:=t' }:=by
 have q:=PySem.IsL.update e f
 rw [hf] at q
 refine I.write (x:=l) (e:=l) (by rw [hH];exact trivial) (.inl rfl) (λb' u hb hu=>(Heap.get?_update_other s.heap (Obj.mapSeq f) (Ne.symm hb)).trans hu) ⟨_,q⟩ ?_
 exact ⟨hz,its',_,hv,q⟩
theorem Inv.GP {its:List Value} {t':Nat} (I:Inv X pins Z H s) (hv:Vals ys its) (hz:ys.length <= sizeLine) :
  Inv X pins Z (upd H s.heap.objs.size (.lst ys)) { s with heap:=s.heap.push { cls:=.type "list",data:=.seq its.toArray },toks:=t' } :=
 I.laid (λ_ _ q=>Heap.get?_push_of_some _ q) (Nat.le_refl _) ⟨hz,its,0,hv,Heap.get?_push_size _ rfl⟩
theorem Inv.fresh (I:Inv X pins Z H s):H s.heap.objs.size = none:=I.hok.fresh (Nat.le_refl _)
theorem Inv.yR (I:Inv X pins Z H s) (hH:H l = some (.lst xs)):xs.length <= sizeLine /\ ∃ (its:List Value) (n:Nat),Vals xs its /\ xs.length = its.length /\ s.heap.get? l = some { cls:=.type "list",data:=.seq its.toArray n }:=by
 obtain ⟨z,its,n,r,e⟩:=I.hok l _ hH
 exact ⟨z,its,n,r,r.length,e⟩
theorem ye {n:Nat} (h:n <= sizeLine):Builtin.List.listTooLong n = false:=by
 unfold Builtin.List.listTooLong
 exact decide_eq_false (by lia)
end
section
variable {X:Cx}
def IP:V -> List V -> Hp -> VK -> Prop:=λx vs H Q=>∃ l xs y,x = .ref l /\ vs = [y] /\ H l = some (.lst xs) /\ xs.length < sizeLine /\ Q .cQ (upd H l (.lst (xs ++ [y])))
theorem bQ:Pc X "list.append" IP:=by
 intro pins s Z H x vs v us Q I rx rv h
 obtain ⟨l,xs,y,rfl,rfl,hH,hz,q⟩:=h
 cases rx
 obtain ⟨u,rfl,ru⟩:=rv.one
 obtain ⟨z,its,n,r,hl,e⟩:=I.yR hH
 refine call_meets F.slot_list_append ⟨_,e,rfl⟩ F.entry_list_append (F.args_list_append_2 _ _) (PySem.list_append l its.toArray n u (by rw [List.size_toArray];lia)) ⟨e,?_⟩
 refine ⟨.cQ,_,I.Hs (its':=its ++ [u]) hH e (by simp) (r.append (.cons ru .nil)) ?_,rfl,q⟩
 rw [List.length_append,List.length_singleton]
 lia
def IZ:V -> List V -> Hp -> VK -> Prop:=λx vs H Q=>∃ l b xs zs,x = .ref l /\ vs = [.ref b] /\ H l = some (.lst xs) /\ H b = some (.lst zs) /\ xs.length + zs.length <= sizeLine /\ Q .cQ (upd H l (.lst (xs ++ zs)))
theorem CF:Pc X "list.extend" IZ:=by
 intro pins s Z H x vs v us Q I rx rv h
 obtain ⟨l,b,xs,zs,rfl,rfl,hH,hB,hz,q⟩:=h
 cases rx
 obtain ⟨u,rfl,ru⟩:=rv.one
 cases ru
 obtain ⟨z,its,n,r,hl,e⟩:=I.yR hH
 obtain ⟨z2,its2,n2,r2,hl2,e2⟩:=I.yR hB
 have hsz:its.toArray.size + its2.toArray.size <= sizeLine:=by rw [List.size_toArray,List.size_toArray];lia
 have hlong:¬ (!its.toArray.isEmpty && Builtin.List.listTooLong (its.toArray.size + its2.toArray.size)) = true:=by
  rw [ye hsz,Bool.and_false]
  exact Bool.false_ne_true
 refine call_meets F.slot_list_extend ⟨_,e,rfl⟩ F.entry_list_extend (F.args_list_extend_2 _ _)
  (AutoSeq1.list_extend_list_list_0 l its.toArray n b its2.toArray n2 hlong (by rw [List.size_toArray];lia) (by lia)) ⟨e,e2,?_⟩
 refine ⟨.cQ,_,I.Hs (its':=its ++ its2) hH e (by simp) (r.append r2) ?_,rfl,q⟩
 rw [List.length_append]
 lia
def QX:V -> List V -> Hp -> VK -> Prop:=λx vs H Q=>∃ l xs y,x = .ref l /\ vs = [] /\ H l = some (.lst xs) /\ xs[xs.length - 1]? = some y /\ Q y (upd H l (.lst xs.dropLast))
theorem KH:Pc X "list.pop" QX:=by
 intro pins s Z H x vs v us Q I rx rv h
 obtain ⟨l,xs,y,rfl,rfl,hH,hy,q⟩:=h
 cases rx
 have hus:=rv.zero
 subst hus
 obtain ⟨z,its,n,r,hl,e⟩:=I.yR hH
 obtain ⟨u,hu,ru⟩:=r.get hy
 have hy':its.toArray[its.toArray.size - 1]? = some u:=by
  show its.toArray[its.length - 1]? = some u
  rw [← Array.getElem?_toList,← hl]
  exact hu
 refine call_meets F.slot_list_pop ⟨_,e,rfl⟩ F.entry_list_pop (F.args_list_pop_1 _) (MeetsSeq.list_pop_last l its.toArray n u hy' (by rw [List.size_toArray];lia)) ⟨e,?_⟩
 refine ⟨y,_,I.Hs (its':=its.dropLast) hH e ?_ r.dropLast ?_,ru,q⟩
 ·show its.toArray.eraseIdxIfInBounds (its.toArray.size - 1) = its.dropLast.toArray
  rw [List.size_toArray,List.eraseIdxIfInBounds_toArray,Au]
 ·rw [List.length_dropLast]
  lia
def PJ:R2:=λx y H Q=>∃ l b xs zs,x = .ref l /\ y = .ref b /\ H l = some (.lst xs) /\ H b = some (.lst zs) /\ xs.length + zs.length <= sizeLine /\ ∀ p,H p = none -> Q (.ref p) (upd H p (.lst (xs ++ zs)))
theorem m8:mD X (binaryOp .Add) PJ:=by
 intro pins s Z H x y v u Q I rx ry h
 obtain ⟨l,b,xs,zs,rfl,rfl,hH,hB,hz,q⟩:=h
 cases rx
 cases ry
 obtain ⟨z,its,n,r,hl,e⟩:=I.yR hH
 obtain ⟨z2,its2,n2,r2,hl2,e2⟩:=I.yR hB
 refine PySem.P.add_list e e2 ?_ (by rw [List.size_toArray,List.size_toArray];lia)
 have ea:its.toArray ++ its2.toArray = (its ++ its2).toArray:=by simp
 rw [ea]
 exact ⟨.ref _,_,I.GP (t':=s.toks) (r.append r2) (by rw [List.length_append];lia),rfl,q _ I.fresh⟩
def Q6:R2:=λx y H Q=>∃ l k xs,x = .ref l /\ y = .int k /\ H l = some (.lst xs) /\ -(2 ^ 63) <= k /\ k < 2 ^ 63 /\ xs.length * k.toNat <= sizeLine /\
 ∀ p,H p = none -> Q (.ref p) (upd H p (.lst (List.replicate k.toNat xs).flatten))
theorem len_rep {α:Type} (xs:List α) (k:Nat):(List.replicate k xs).flatten.length = k * xs.length:=by
 induction k with
 | zero=>simp
 | succ k ih=>rw [List.replicate_succ,List.flatten_cons,List.length_append,ih,Nat.succ_mul,Nat.add_comm]
theorem E8:mD X (binaryOp .Mult) Q6:=by
 intro pins s Z H x y v u Q I rx ry h
 obtain ⟨l,k,xs,rfl,rfl,hH,h1,h2,hz,q⟩:=h
 cases rx
 obtain ⟨t,rfl⟩:=ry
 obtain ⟨z,its,n,r,hl,e⟩:=I.yR hH
 have hlen:its.toArray.size * k.toNat <= sizeLine:=by rw [List.size_toArray,← hl];exact hz
 have hcap:¬ its.toArray.size * k.toNat > (2 ^ 63 - 1) / 8:=by
  have:(sizeLine:Nat) <= (2 ^ 63 - 1) / 8:=by decide
  lia
 have hfit:¬ (!Builtin.List.listFitsIndex k) = true:=by
  rw [fitsIndex_both h1 h2]
  exact Bool.false_ne_true
 have hlong:¬ Builtin.List.listTooLong (its.toArray.size * k.toNat) = true:=by
  rw [ye hlen]
  exact Bool.false_ne_true
 have hnew:List.foldl (λx1 x2=>x1 ++ x2) #[] (List.replicate (if its.toArray.isEmpty = true then 0 else k.toNat) its.toArray) = (List.replicate k.toNat its).flatten.toArray:=by
  have f0:∀ m:Nat,List.foldl (λx1 x2=>x1 ++ x2) #[] (List.replicate m its.toArray) = (List.replicate m its).flatten.toArray:=λm=>by
   have:=foldl_rep its m []
   rw [List.nil_append] at this
   exact this
  rw [f0]
  cases its with
  | nil=>simp
  | cons a r'=>rw [if_neg (by simp)]
 refine wpAny_binaryOp_repeat_ref (T:="list") (U:="int") (by decide) ⟨_,e,rfl⟩ (λs'=>typeIs_int s' k t) noFill_list_mul F.fills_int_mul F.slot_int_rmul repeat_list F.slot_int_index.lookup
  (call_meets F.slot_int_rmul (typeIs_int s k t) F.entry_int_rmul (F.args_int_rmul_2 _ _) (int___rmul___int_list k t l its.toArray n)
   ⟨e,rfl,⟨_,e,rfl⟩,call_meets F.slot_list_mul ⟨_,e,rfl⟩ F.entry_list_mul (F.args_list_mul_2 _ _) (AutoListH.list___mul___list_int_3 l its.toArray n k t hfit hcap hlong) ⟨e,?_⟩⟩)
 rw [hnew]
 exact ⟨.ref _,_,I.GP (t':=s.toks) (r.rep k.toNat) (by rw [len_rep,Nat.mul_comm];exact hz),rfl,q _ I.fresh⟩
end
section
variable {prog:Program} {w:World} {A:Around} {E:Value -> Shared -> Prop} {s:Shared}
set_option maxRecDepth 100000 in
end
section
variable {X:Cx}
end
end L2
namespace Att
open PySem PySem.W PySem.Calls PyProof.Rows
theorem ou {P:Params} {h:Heap}:∀ (ns:List Int) (vs:List Value),WellAll P h vs (ns.map WData.int) -> IntsAre vs ns:=by
 intro ns
 induction ns with
 | nil =>
  intro vs w
  rw [List.map_nil] at w
  cases w
  exact .nil
 | cons n ns ih =>
  intro vs w
  rw [List.map_cons] at w
  cases w with
  | cons a b =>
   cases a
   exact .cons _ _ (ih _ b)
theorem CM {l:OpenLaw} {n:Nat} (hn:l.most = some n) {P:Params} {h:Heap} {args:List WData} {vals:List Value}
  (hpre:l.row.toRowW.claim.pre args = true) (hwl:WellAll P h vals args) :
  ∃ a vs ns,vals = [Value.ref a] /\ args = [WData.list (ns.map WData.int)] /\ h.get? a = some { cls:=.type "list",data:=.seq vs.toArray } /\ IntsAre vs ns /\ ns.length <= n:=by
 have hsh:WShape.hasAll [] args [.list .int] = true:=(pre_splitW hpre).1
 have hc:l.pre.holds [] { args:=args } = true:=(pre_splitW hpre).2
 obtain ⟨d,r,rfl,h1,h2⟩:=hasAllW_cons hsh
 obtain rfl:=hasAllW_nil h2
 obtain ⟨xs,rfl,h3⟩:=hasW_list h1
 obtain ⟨ns,rfl⟩:=items_int h3
 have hlen:ns.length <= n:=by
  unfold OpenLaw.pre at hc
  have h4:(WTm.not (.lt (.lit (.int (n:Int))) (.len (.arg 0)))).holds [] { args:=[.list (ns.map .int)] } = true:=by
   have h4:=(holds_andW hc).1
   rw [hn] at h4
   exact h4
  have h5:=condW_of h4 (w_not (w_lt w_lit (w_len_list (w_arg rfl))))
  rw [List.length_map] at h5
  refine Nat.le_of_not_lt λq=>?_
  have q':(n:Int) < ((ns.length:Nat):Int):=by lia
  first
   | (rw [decide_eq_true q'] at h5;exact absurd h5 (by decide))
   | (simp at h5;lia)
 cases hwl with
 | cons w1 w2 =>
  cases w2
  cases w1 with
  | list ho hall=>exact ⟨_,_,ns,rfl,rfl,ho,ou ns _ hall,hlen⟩
theorem CQ (l:OpenLaw) (args:List WData):l.row.toRowW.claim.post args (.bool true) args = true :=
 postW_of (r:=l.row.toRowW) (X:=(true == true))
  (show WShape.has [] (.bool true) .bool = true by first | rfl | decide | simp [WShape.has,WShape.arms,WShape.armsAll])
  (show (WTm.eq .res (.lit (.bool true))).value [] { args:=args,res:=some (.bool true),after:=args } = some (.bool (true == true)) from w_eq_bool (w_res rfl) w_lit) rfl
theorem zw {l:OpenLaw} {n:Nat} {q:Program} {loose:List Str} {XP:(Str -> Option Value) -> Heap -> Prop} {YP:World -> Heap -> Prop} {d:DefRec}
  (hn:l.most = some n) (hdf:d.params.defaults = [])
  (call:∀ (w:World) (s₀ s₁:Shared) (mg mb:Str -> Option Value) (fa:Addr) (o:Obj) (pm cd doc:Value) (a:Addr) (vs:List Value) (ns:List Int),
   Ground q loose [] XP w s₀ mg mb s₁.heap -> YP w s₁.heap ->
   s₁.heap.get? fa = some o -> o.data = .func (docDef d.name d.params d.body d.scope pm cd doc) -> s₁.heap.CodeRec cd d.name -> mg d.name = some (.ref fa) ->
   s₁.heap.get? a = some { cls:=.type "list",data:=.seq vs.toArray } -> IntsAre vs ns -> ns.length <= n -> s₁.gens = #[] ->
   codeAny (model l.prog w) callerA (.call (.ref fa) ⟨[.ref a],[]⟩) (λr s'=>r = .ok (.ret (.bool true)) /\ OldK s₁.heap s'.heap /\ s'.os = s₁.os /\ AllBare s'.gens) s₁) :
  WalkO q loose XP YP l.row.toRowW d [] (λf vs=>PySem.call f vs):=by
 intro w s₀ s₁ mg mb G Y fa o pm cd doc dV kV ho hd hcd hD hmg hg args vals as hpre hlay hrd hwl hlo
 obtain rfl:dV = .none:=Dflts.none hD hdf
 obtain rfl:kV = .none:=Dflts.noKw hD
 obtain ⟨a,vs,ns,rfl,rfl,hobj,hints,hlen⟩:=CM hn hpre hwl
 refine enter_call (codeAny_mono (call w s₀ s₁ mg mb fa o pm cd doc a vs ns G Y ho (fd_plain hd) hcd hmg hobj hints hlen hg) λr s' hq=>?_)
 obtain ⟨rfl,h2,h3,h4⟩:=hq
 exact ⟨.inl ⟨.bool true,.bool true,[],rfl,λ_=>rfl,.bool true,CQ l _,λ_=>⟨List.Pairwise.nil,λ_ hm=>(nomatch hm)⟩⟩,h2,h3,h4⟩
section
variable {prog:Program} {w:World} {A:Around} {E:Value -> Shared -> Prop} {s:Shared} {K:Frag}
def jD (h:Heap):Heap:={ h with objs:=#[] }
theorem iN (h:Heap) (b:Addr):(jD h).get? b = none:=by
 cases e:(jD h).get? b with
 | none=>rfl
 | some o=>exact absurd (Heap.lt_size e) (Nat.not_lt_zero _)
theorem DA {h:Heap} {L:Addr} {m:Str -> Option Value} (n:h.Ns L m):Fr (jD h) L h m :=
 ⟨n,λb o e=>(by rw [iN] at e;cases e),Nat.zero_le _⟩
end
end Att
namespace L2
open PySem PySem.Spec PyProof.Rows
theorem sW:∀ {vs:List Value} {ns:List Int},IntsAre vs ns -> Vals (ns.map V.int) vs
 | _,_,.nil=>.nil
 | _,_,.cons n t h=>.cons ⟨t,rfl⟩ (sW h)
def JQ (H:Hp):Prop:=∀ b,H b = none ∨ ∃ o xs,H b = some (.Ar o (.lst xs))
theorem G7 {P:Program} {w:World} {K:PySem.W.Frag} {mg mb:Str -> Option Value} {CX:Ac} {k:Nat} {fa a:Addr} {fd:FuncData} {x:Str} {sp:Sp} {s₁:Shared} {vs:List Value} {ns:List Int}
  (KX:K.In s₁.heap) (hns:s₁.heap.Ns mainGlobals mg) (hb:s₁.heap.Ns builtinsNs mb) (hbb:∀ x:Str,x ≠ "__name__" -> mb x = bootBuiltins x) (hlim:s₁.heap.NoLimit) (hg:s₁.gens = #[])
  (ha:s₁.heap.get? a = some { cls:=.type "list",data:=.seq vs.toArray }) (hi:IntsAre vs ns) (hl:ns.length <= sizeLine) (hr:g9 k callerA)
  (F:∀ base:Heap,K.In base -> base.Ns mainGlobals mg -> bC P w K mg base CX k fa fd [x] sp) (hbind:∀ (s:Shared) (u:Value),BindsTo s fd ⟨[u],[]⟩ [(x,u)])
  (hsp:∀ H:Hp,JQ H -> bf K H a (ns.map V.int) -> sp [.ref a] H (λv _=>v = .bl true) λ_ _ _=>False)
  (hCX:∀ H e s',CX [] H s₁ (λ_ _ _=>False) e s' -> False) :
  codeAny (model P w) callerA (.call (.ref fa) ⟨[.ref a],[]⟩) (λr s'=>r = .ok (.ret (.bool true)) /\ OldK s₁.heap s'.heap /\ s'.os = s₁.os /\ AllBare s'.gens) s₁:=by
 have rv:=sW hi
 have lenV:=hi.length
 have core:∀ H:Hp,JQ H -> bf K H a (ns.map V.int) -> kD P w H s₁.heap -> (∀ b,H b ≠ none -> b = a) -> (H a ≠ none -> K.lookup a = none) ->
   codeAny (model P w) callerA (.call (.ref fa) ⟨[.ref a],[]⟩) (λr s'=>r = .ok (.ret (.bool true)) /\ OldK s₁.heap s'.heap /\ s'.os = s₁.os /\ AllBare s'.gens) s₁:=by
  intro H hO hS hok hA hK
  have base_of:∀ {b:Addr} {o:Obj},s₁.heap.get? b = some o -> H b = none -> (vC s₁.heap H).get? b = some o:=λe n=>FU e n
  have noA:∀ {b:Addr} {o:Obj} {es:Array DictEntry} {ep:Nat},s₁.heap.get? b = some o -> o.data = .dict es ep -> H b = none:=λ{b o es ep} e d=>by
   cases q:H b with
   | none=>rfl
   | some u =>
    have e':b = a:=hA b (by rw [q];simp)
    subst e'
    rw [ha] at e;cases e
    have d':Data.seq vs.toArray _ = Data.dict es ep:=d
    cases d'
  have nsK:∀ {b:Addr} {m:Str -> Option Value},s₁.heap.Ns b m -> (vC s₁.heap H).Ns b m:=λ{b m} ⟨o,es,ep,e,d,r⟩=>⟨o,es,ep,base_of e (noA e d),d,r⟩
  have hKb:K.In (vC s₁.heap H):=λb o e=>base_of (KX b o e) (by
   cases q:H b with
   | none=>rfl
   | some u =>
    have e':b = a:=hA b (by rw [q];simp)
    subst e'
    rw [hK (by rw [q];simp)] at e;cases e)
  have hM:Mod K mg (vC s₁.heap H):=⟨hKb,nsK hns,⟨mb,nsK hb,hbb⟩,let ⟨mc,h1,h2⟩:=hlim;⟨mc,nsK h1,h2⟩⟩
  have e0:Ay P w K mg (vC s₁.heap H) callerA [] s₁ H:=⟨rfl,hM,λb o e=>IX e,Nat.le_of_eq (CJ _ _),trivial,λb hb=>absurd (show b ∈ ([]:List Addr) from hb) (by simp),hok,.of_eq hg⟩
  refine codeAny_mono ((F _ hKb (nsK hns)).run callerA [] s₁ H ⟨[.ref a],[]⟩ [.ref a] [.ref a] _ _ hr e0 (hbind s₁ (.ref a)) (.cons rfl .nil) (hsp H hO hS)) λr s' h=>?_
  cases r with
  | error e=>exact (hCX H e s' h).elim
  | ok fl =>
   cases fl with
   | next=>exact False.elim h
   | brk=>exact False.elim h
   | cont=>exact False.elim h
   | ret u =>
    obtain ⟨v,H',os,bare,un,hok',r',q⟩:=h
    have q':v = .bl true:=q
    subst q'
    obtain rfl:u = Value.bool true:=r'
    refine ⟨rfl,OldK.of_keep λb o e=>?_,os,bare⟩
    cases q:H b with
    | none=>exact un.keep b o e q (by intro z;exact absurd (show b ∈ ([]:List Addr) from z) (by simp)) (by simp)
    | some u =>
     rcases hO b with z | ⟨ob,xs,z⟩
     ·rw [q] at z;cases z
     ·have z2:=un.sO b ob _ z
      obtain ⟨e1,_⟩:=hok b _ z
      obtain ⟨e2,_⟩:=hok' b _ z2
      rw [e] at e1;cases e1
      exact e2
 cases hk:K.lookup a with
 | some o =>
  have e:=KX a o hk
  rw [ha] at e
  cases e
  refine core (λ_=>none) (λ_=>.inl rfl) (.inr ⟨_,vs.toArray,_,hk,rfl,rfl,rfl,by rw [List.size_toArray,lenV];exact hl,by simpa using rv⟩) (λb u z=>by have z':(none:Option HO) = some u:=z;cases z') (λb z=>absurd rfl z) λz=>absurd rfl z
 | none =>
  refine core (λb=>if b = a then some (.Ar { cls:=.type "list",data:=.seq vs.toArray } (.lst (ns.map V.int))) else none) (λb=>?_) (.inl (.inr ⟨{ cls:=.type "list",data:=.seq vs.toArray },if_pos rfl⟩)) (λb u z=>?_) (λb z=>?_) λ_=>hk
  ·by_cases hb:b = a
   ·exact .inr ⟨_,_,if_pos hb⟩
   ·exact .inl (if_neg hb)
  ·by_cases hb:b = a
   ·have z':=(if_pos hb).symm.trans z
    cases z'
    subst hb
    exact ⟨ha,by rw [List.length_map];exact hl,vs,_,rv,ha⟩
   ·have z':=(if_neg hb).symm.trans z
    cases z'
  ·by_cases hb:b = a
   ·exact hb
   ·exact absurd (if_neg hb) z
end L2
namespace L2
open PySem PySem.Spec PyProof.Rows
theorem Ic {l:PySem.W.OpenLaw} {n k:Nat} {q:Program} {loose:List Str} {XP:(Str -> Option Value) -> Heap -> Prop} {YP:World -> Heap -> Prop} {d:DefRec} {K:Params -> PySem.W.Frag} {CX:World -> Ac} {sp:World -> Sp} {x:Str}
  (hn:l.most = some n) (hn2:n <= sizeLine) (hdf:d.params.defaults = []) (hr:g9 k callerA)
  (hY:∀ (w:World) (h:Heap),YP w h -> (K w.params).In h)
  (F:∀ (w:World) (mg:Str -> Option Value) (fa:Addr) (h:Heap),(K w.params).In h -> h.Ns mainGlobals mg -> mg d.name = some (.ref fa) ->
   ∃ fd:FuncData,(∀ (s:Shared) (u:Value),BindsTo s fd ⟨[u],[]⟩ [(x,u)]) /\
    ∀ base:Heap,(K w.params).In base -> base.Ns mainGlobals mg -> bC l.prog w (K w.params) mg base (CX w) k fa fd [x] (sp w))
  (hsp:∀ (w:World) (H:Hp) (a:Addr) (ns:List Int),ns.length <= n -> JQ H -> bf (K w.params) H a (ns.map V.int) -> sp w [.ref a] H (λv _=>v = .bl true) λ_ _ _=>False)
  (hCX:∀ (w:World) (H:Hp) (s:Shared) (e:Value) (s':Shared),CX w [] H s (λ_ _ _=>False) e s' -> False) :
  PySem.W.WalkO q loose XP YP l.row.toRowW d [] (λf vs=>PySem.call f vs):=by
 refine Att.zw hn hdf λw s₀ s₁ mg mb fa o pm cd doc a vs ns G Y ho hd hcd hmg hobj hints hlen hg=>?_
 have KX:=hY w _ Y
 obtain ⟨fd,hb,hF⟩:=F w mg fa _ KX G.T.g hmg
 exact G7 KX G.T.g G.T.b G.T.builtins G.T.nolimit hg hobj hints (Nat.le_trans hlen hn2) hr hF hb (λH hO hS=>hsp w H a ns hlen hO hS) λH e s'=>hCX w H s₁ e s'
end L2
namespace L2
open PySem PySem.Spec PyProof.Rows
noncomputable def inClass (s:Stmt) (j:Nat):Stmt:=match s with
 | .ClassDef _ _ _ body _ _ _ _ _ _ _=>body.getD j (.Pass ⟨0,0,0,0⟩)
 | _=>.Pass ⟨0,0,0,0⟩
def oA (s:Stmt):Arguments:=match s with
 | .FunctionDef _ a _ _ _ _ _ _ _ _=>a
 | _=>{ posonlyargs:=[],args:=[],vararg:=none,kwonlyargs:=[],kw_defaults:=[],kwarg:=none,defaults:=[] }
def lR (s:Stmt):List Stmt:=match s with
 | .FunctionDef _ _ b _ _ _ _ _ _ _=>b
 | _=>[]
def az (s:Stmt):Scope:=match s with
 | .FunctionDef _ _ _ _ _ _ sc _ _ _=>sc
 | _=>{ kind:=.function,names:=[],isGenerator:=false,isCoroutine:=false }
abbrev c6:Ac:=λ_ _ _ _ _ _=>False
abbrev E0:XK:=λ_ _ _=>False
theorem aF {X:Cx}:Passes c6 X E0:=λ_ _ _ _ _ _ _ h=>h.elim
structure bG (K:PySem.W.Frag) (x qual:Str) (st:Stmt) (f:Addr) (fd:FuncData):Prop where
 ex:∃ (oc:Value) (od:Option Addr) (kV doc pm:Value) (an:Option Addr) (cdv ct:Value) (osl:Array (Option Value)),
  fd = PySem.W.fnOf x qual (oA st) (lR st) (az st) .none kV doc pm an cdv ct /\ K.lookup f = some ⟨oc,od,.func fd,osl⟩ /\ PySem.W.codeIn K cdv qual = true
 kp:PySem.W.keepIn K (.ref f) = true
section
variable {P:Program} {w:World} {K:PySem.W.Frag} {mg:Str -> Option Value} {base:Heap}
theorem bG.ok {x qual:Str} {st:Stmt} {f:Addr} {fd:FuncData} {N ps:List Str} {k:Nat} {sp:Sp} (F:bG K x qual st f fd) (S:aE N ps (az st)) (len:∀ vs H Q E,sp vs H Q E -> vs.length = ps.length)
  (hbody:∀ (cdv:Value) (A:Around) (outer:List Env) (s:Shared) (H:Hp) (vs:List V) (Q:VK) (E:XK),g9 k (A.deeper (envOfC qual (az st) s.heap.objs.size f cdv)) -> sp vs H Q E ->
   ∃ t,AU (Ak c6 P w K mg base N qual (az st) f cdv A outer s H E).Pf (lR st) t /\ t { nx:=λ_ H'=>Q .cQ H',rt:=Q } (start N vs) H):bC P w K mg base c6 (k + 1) f fd ps sp:=by
 obtain ⟨oc,od,kV,doc,pm,an,cdv,ct,osl,rfl,lk,hcd⟩:=F.ex
 refine NX lk hcd S len λA outer s H vs Q E hr hsp=>?_
 obtain ⟨t,h,q⟩:=hbody cdv A outer s H vs Q E hr hsp
 exact ⟨t,h.Pf,q⟩
theorem bG.binds {x qual:Str} {st:Stmt} {f:Addr} {fd:FuncData} {ps:List Str} (F:bG K x qual st f fd)
  (h:∀ (kV doc pm:Value) (an:Option Addr) (cdv ct:Value) (us:List Value),us.length = ps.length -> bindArgs (PySem.W.fnOf x qual (oA st) (lR st) (az st) .none kV doc pm an cdv ct) ⟨us,[]⟩ = pure (ps.zip us)):Binds K fd ps []:=by
 obtain ⟨oc,od,kV,doc,pm,an,cdv,ct,osl,rfl,lk,hcd⟩:=F.ex
 exact .all (h kV doc pm an cdv ct)
theorem JN {x qual:Str} {st:Stmt} {f:Addr} {oc:Value} {od an:Option Addr} {osl:Array (Option Value)} {kV doc pm cdv ct:Value} (l:K.lookup f = some ⟨oc,od,.func (PySem.W.fnOf x qual (oA st) (lR st) (az st) .none kV doc pm an cdv ct),osl⟩)
  (c:PySem.W.codeIn K cdv qual = true) (k:PySem.W.keepIn K (.ref f) = true):bG K x qual st f (PySem.W.fnOf x qual (oA st) (lR st) (az st) .none kV doc pm an cdv ct):=⟨⟨oc,od,kV,doc,pm,an,cdv,ct,osl,rfl,l,c⟩,k⟩
end
theorem lG {A:Around} {k:Nat} (hr:g9 k A):A.units + 1 < cLine:=Nat.lt_of_le_of_lt (Nat.add_le_add_left (by decide:1 <= 64) _) hr.units
section
variable {X:Cx}
theorem pv (i:Nat) {x:Str} {pos:Pos} (hN:X.N[i]? = some x:=by rfl) (hv:O9 X.env.scope x:=by first | exact Or.inl rfl | exact Or.inr (Or.inl rfl) | exact Or.inr (Or.inr rfl)) (hd:(x == ("__debug__" : Str)) = false:=by decide)
  (hcd:(x == ("__classdict__" : Str)) = false:=by decide):PE X (.Name x pos) (Hw i):=Lf hN hv hd hcd
end
theorem uE {A B:Prop} (h:B):if false = true then A else B:=by
 rw [if_neg Bool.false_ne_true]
 exact h
theorem Jg {A B:Prop} (h:A):if true = true then A else B:=by
 rw [if_pos rfl]
 exact h
def aq (H H':Hp):Prop:=∀ b o,H b = some o -> H' b = some o
theorem aq.refl (H:Hp):aq H H:=λ_ _ h=>h
theorem aq.trans {H H1 H2:Hp} (a:aq H H1) (b:aq H1 H2):aq H H2:=λc o h=>b c o (a c o h)
theorem aq.free {H H':Hp} (e:aq H H') {l:Addr} (h:H' l = Option.none):H l = Option.none:=by
 cases q:H l with
 | none=>rfl
 | some o =>
  rw [e l o q] at h
  cases h
theorem aq.seq {K:PySem.W.Frag} {H H':Hp} {a:Addr} {xs:List V} (e:aq H H') (h:bf K H a xs):bf K H' a xs:=by
 rcases h with (h | ⟨o,h⟩) | h
 ·exact .inl (.inl (e _ _ h))
 ·exact .inl (.inr ⟨o,e _ _ h⟩)
 ·exact .inr h
end L2
set_option maxHeartbeats 4000000
namespace PySem.W.Fast
def tw11553549450693669862:=0
def tw5132773253143890712:=0
def tw15555658193343739674:=0
def tw15407271013156806625:=0
def tw5638992153283772602:=0
def tw11900588576591076996:=0
def tw15733768451718480417:=0
def tw17788441737204526474:=0
def tw210561163715151807:=0
def tw9493928142780650186:=0
def tw12028806293365178404:=0
def tw11872433800134054452:=0
def tw17168443994376041333:=0
def tw6656781836999173057:=0
def tw15442376020535995310:=0
def tw2732035044011569278:=0
def tw17522186949276037202:=0
def tw13378342049986451477:=0
def tw16127504885045363749:=0
def tw14419350928734429836:=0
def tw12935788761328727438:=0
def tw16902667563716803057:=0
def tw6693425450629504753:=0
def tw455335311295307356:=0
def tw11411967648584302366:=0
def tw808015991330089888:=0
def tw9157197809779533251:=0
def tw6195095504392041075:=0
def tw2480364423832471430:=0
def tw6408206359745318528:=0
def tw15608500995721088311:=0
def tw9096980623727225414:=0
def tw6981306094260801381:=0
def tw5790335022597356211:=0
def tw17692227240685071608:=0
def tw5313813940221656575:=0
def tw9001954327209875363:=0
def tw6977092809177195913:=0
def tw3874974130784397606:=0
def tw9246936524886187036:=0
def tw14205986221500167373:=0
def tw3814711596238529441:=0
def tw11630158032338449226:=0
def tw2381006941146775927:=0
def tw9587129999969017135:=0
def tw2349409489504848282:=0
def tw5653127364440155961:=0
def tw17193832673334573401:=0
def tw1021435017839083761:=0
def tw1018347770964490742:=0
def tw5695343137118482653:=0
def tw14084653979408467086:=0
def tw5752802590968219725:=0
def tw2232158390032751175:=0
def tw5352598212457236186:=0
def tw6884651851523129145:=0
def tw271624704779191960:=0
def tw9748572935442694320:=0
def tw13468216431125840829:=0
def tw10797768658093349572:=0
def tw13357746424065404846:=0
def tw10579152425632440092:=0
def tw8283413936557000033:=0
def tw13901013823617868759:=0
def tw453977027974429355:=0
def tw8219300050206877344:=0
def tw4868454103983634395:=0
def tw16714126628074882589:=0
def tw9813375366858721309:=0
def tw14030455727510087887:=0
def tw7080480863773840681:=0
def tw16620163107026800054:=0
def tw2602194858540918137:=0
def tw6798839994496356808:=0
def tw7493522707320086135:=0
def tw9097235658387743139:=0
def tw18098979562172559437:=0
def tw2349155073239413248:=0
def tw11553405782813245062:=0
def tw8195568742577603228:=0
def tw405342193394745765:=0
def tw6696578556650761121:=0
def tw13031570130421148636:=0
def tw3193308359691339850:=0
def tw6758348207756241680:=0
def tw17446824140954112446:=0
def tw16463267775050045303:=0
def tw16895455441298548993:=0
def tw9045930639296919144:=0
def tw18326087107062935203:=0
def tw16325055493099938835:=0
def tw14942724233830051941:=0
def tw13173637073219502349:=0
def tw6525776850917552271:=0
def tw671995488109011381:=0
def tw16911245256462750381:=0
def tw16118745110389361814:=0
def tw5324302890627155779:=0
def tw16562782230375290305:=0
def tw4003789154858087696:=0
def tw12496367950513153071:=0
def tw9630871812104876015:=0
def tw16200659831349041327:=0
def tw14655258303609504169:=0
def tw17939058984362797008:=0
def tw13833348686951584053:=0
def tw8508714994014236324:=0
def tw5159498791111672914:=0
def tw5088508065470565509:=0
def tw4254802629067935131:=0
def tw18369281683289790820:=0
def tw3961822095674263816:=0
def tw3713679137307781823:=0
def tw16217905492144894137:=0
def tw13995972226904296831:=0
def tw12935239817874128549:=0
def tw5159959966478280544:=0
def tw15633531933636672097:=0
def tw5039510476196628409:=0
def tw1812170504509756288:=0
def tw9367263861987585881:=0
def tw7063523570556970150:=0
def tw12947990459703916673:=0
def tw5704300932674468920:=0
def tw4246044802401796001:=0
def tw8330769874482800114:=0
def tw13835664427362498583:=0
def tw15561845176759843470:=0
def tw17138540007558796719:=0
def tw13001394691796552798:=0
def tw5725158898108525527:=0
def tw13572130265397187606:=0
def tw14355366217272570447:=0
def tw2274046049469432927:=0
def tw9544470176584358962:=0
def tw9592620682681587961:=0
def tw6404202383475006110:=0
def tw5766988071411791274:=0
def tw8035527569095780113:=0
def tw3918963108535337337:=0
def tw2577833520710126574:=0
def tw10095470775558356854:=0
def tw10020923163688633998:=0
def tw8834832258263115295:=0
def tw10249847995711707932:=0
def tw14153212437968268935:=0
def tw1572075841252649264:=0
def tw10295318396031776990:=0
def tw1762083903911248527:=0
def tw21242816138058334:=0
def tw8807867491495542239:=0
def tw15660404510227698816:=0
def tw5579833457131245787:=0
def tw14827485448454843856:=0
def tw12060577334284664393:=0
def tw7753320535888708518:=0
def tw115353324871013361:=0
def tw1642457030632584732:=0
def tw12330699111722403142:=0
def tw11705823499243348782:=0
def tw2848174693164401142:=0
def tw1700603473473556892:=0
def tw16415168793213913450:=0
def tw16563568623925141460:=0
def tw17139903228585902607:=0
def tw6112184118950912641:=0
def tw6034187933949405801:=0
def tw10895776621110500283:=0
def tw17789245761260912440:=0
def tw15211768280637596099:=0
def tw7902665262402474136:=0
def tw10751687269660010313:=0
def tw6464101573871881790:=0
def tw16713150170433522163:=0
def tw5278371291056517551:=0
def tw3581231278681018585:=0
def tw1857209232678077460:=0
def tw11587094010543702493:=0
def tw15414755453288657115:=0
def tw4969553330048436280:=0
def tw2926859108605232931:=0
def tw7756117263073407288:=0
def tw6554079971402098590:=0
def tw8713305564417886617:=0
def tw17191000521094896523:=0
def tw4973244090917077924:=0
def tw11435033127030143353:=0
def tw4392119910605647634:=0
def tw18079359619467767355:=0
def tw2170891914781614888:=0
def tw2144329968366274113:=0
def tw8887005712355138408:=0
def tw416092470573882910:=0
def tw5404768740823534398:=0
def tw17100727145830701110:=0
def tw7199121566901279275:=0
def tw12804574321596065013:=0
def tw15640882164539010039:=0
def tw7808303002207832639:=0
def tw14147547634716562819:=0
def tw16053270502481879788:=0
def tw7550457559636798850:=0
def tw9474921839560975915:=0
def tw12583784110066704580:=0
def tw16905150681247127013:=0
def tw3207546700101678845:=0
def tw7966340392419373743:=0
def tw13611399718297820458:=0
def tw2666069662946061794:=0
def tw16168562490271294495:=0
def tw6337820024395289521:=0
def tw7760783194349233917:=0
def tw2508365681188795323:=0
def tw9859231145711011826:=0
def tw10570094639905886461:=0
def tw12822116180071866438:=0
def tw11930801919302017106:=0
def tw12680183518112492377:=0
def tw10159148401240157337:=0
def tw6281393752462607083:=0
def tw986501611231188810:=0
def tw4188675049466053461:=0
def tw7816690041423683560:=0
def tw13715157520900792957:=0
def tw4060457930279377240:=0
def tw1247466647423130132:=0
def tw7874187655450950524:=0
def tw6407948545923581692:=0
def tw8987541403928369318:=0
def tw9738154800522205398:=0
def tw2589492465496964178:=0
def tw9245661848334752512:=0
def tw4463751704499789226:=0
def tw4863302990040964442:=0
def tw9408286718484080940:=0
def tw18116180710505282164:=0
def tw9976637699430636410:=0
def tw11999061634629326697:=0
def tw1956252109354286433:=0
def tw12921034092394290863:=0
def tw12456413335175363562:=0
def tw16375515696716815000:=0
def tw8273270510441133169:=0
def tw13718195603742542431:=0
def tw5251767953682461813:=0
def tw14439451926894145397:=0
def tw9140474902519110286:=0
def tw16890166927142878533:=0
def tw16759215659625154770:=0
def tw13411110736162857355:=0
def tw16241813794112905169:=0
def tw6718123319870388203:=0
def tw10401230878757068822:=0
def tw179708252361696099:=0
def tw1992198559477937536:=0
def tw11878389780611022886:=0
def tw7942139866460785303:=0
def tw16038519965912949655:=0
def tw9431504372608447466:=0
def tw12789851052382857565:=0
def tw8356067747761798089:=0
def tw5046674898943077343:=0
def tw7509428253664841947:=0
def tw13701788825438393896:=0
def tw8781306871632523866:=0
def tw15173563102961672358:=0
def tw13575878095557497890:=0
def tw11391961768484892456:=0
def tw1412306158961877453:=0
def tw17512846081852982543:=0
def tw393444127403839945:=0
def tw10690055685628271514:=0
def tw5735857944187411764:=0
def tw4423322023682563036:=0
def tw8607309691069571044:=0
def tw1478221584191003606:=0
def tw9480167464016020501:=0
def tw9461248243254898499:=0
def tw9795737051118054682:=0
def tw16142755576113617222:=0
def tw5012978355117201016:=0
def tw4302900402822606888:=0
def tw18013414376732516312:=0
def tw5794874695964154128:=0
def tw8388525849061188801:=0
def tw4806745401696397335:=0
def tw12463155197088085977:=0
def tw13449462274506367726:=0
def tw13978111806094329737:=0
def tw8088130866340030521:=0
def tw5783833716432401262:=0
def tw4160740262589527976:=0
def tw3196969472706862516:=0
def tw14655277567484025423:=0
def tw16414874636050471863:=0
def tw9864678743034312719:=0
def tw9225883683436265943:=0
def tw13503586810378233786:=0
def tw4780516655360208411:=0
def tw5517445569478832403:=0
def tw3444674172512213418:=0
def tw1369245421864429646:=0
def tw7681379963456435545:=0
def tw1906930260093451087:=0
def tw17922383892927675694:=0
def tw14019844302267550454:=0
def tw7515165711787399430:=0
def tw9489390586800076015:=0
def tw14042495608290439461:=0
def tw10499323130854300948:=0
def tw12777940200259472854:=0
def tw3580247434097751903:=0
def tw3412110722238491673:=0
def tw6891517856282787849:=0
def tw1051289412384206547:=0
def tw5393306278692317864:=0
def tw17642557515518544671:=0
def tw17789015357524824933:=0
def tw12633113507707395374:=0
def tw1599494406573475869:=0
def tw2829187603257939060:=0
def tw16506129891121003238:=0
def tw15656943583301357935:=0
def tw1133187862516862960:=0
def tw411270127874521047:=0
def tw3404150405262557647:=0
def tw13308114616080990439:=0
def tw12393158260220565833:=0
def tw9896956635220387016:=0
def tw2322709570087064890:=0
def tw5268039366779076005:=0
def tw13279522427188726307:=0
def tw7622713172798841395:=0
def tw7288237468845122987:=0
def tw12650989115664467971:=0
def tw5933592681380218103:=0
def tw8679421094006241509:=0
def tw14734916598338562141:=0
def tw1924617400017294680:=0
def tw16639265095335501454:=0
def tw17039713761982890441:=0
def tw8240643900441294909:=0
def tw2708759074129317714:=0
def tw12904092330807042177:=0
def tw4311821296861355417:=0
def tw5584181145490099850:=0
def tw10432908638886272362:=0
def tw15911970375191340423:=0
def tw2227214126799339944:=0
def tw9671271163484155743:=0
def tw11723766652985856917:=0
def tw7310505472444288649:=0
def tw3677250299292805339:=0
def tw11334350304701035915:=0
def tw15359326052968161894:=0
def tw15494930383850387035:=0
def tw15782407876279206874:=0
def tw7475220817478460128:=0
def tw6259058883138692477:=0
def tw9674634499988654882:=0
def tw9825490334170797850:=0
def tw5650825156883530907:=0
def tw12381559327464949636:=0
def tw8196629264923660075:=0
def tw5100906070187881843:=0
def tw10376398942296274372:=0
def tw13815345453119707183:=0
def tw13915837465958283912:=0
def tw16716977254327062465:=0
def tw3236393713860843052:=0
def tw2698325642583441965:=0
def tw10066589470706802462:=0
def tw188896741227486312:=0
def tw9464822526533048058:=0
def tw17917146749353124799:=0
def tw3450629901932235440:=0
def tw146519525390890445:=0
def tw13366107099322368152:=0
def tw5325696955680951217:=0
def tw17641761400180526761:=0
def tw13378794135961698272:=0
def tw5408218501957198968:=0
def tw17337487338612357889:=0
def tw8692807061431742524:=0
def tw17732467888562973572:=0
def tw7325122170912789460:=0
def tw8677630901932871462:=0
def tw452811878365566335:=0
def tw13083616444492975257:=0
def tw3878323676302143782:=0
def tw6025141705036738446:=0
def tw8406740390758721929:=0
def tw3591992178334021711:=0
def tw6383564600223999601:=0
def tw11714235608035199098:=0
def tw3805619478997617882:=0
def tw17473067594331060035:=0
def tw10826761053947971588:=0
def tw9887185051825022680:=0
def tw8288148756045349494:=0
def tw6676604042158204064:=0
def tw2325224481801967320:=0
def tw6394307294037782186:=0
def tw13275053066531049224:=0
def tw17062998532747075582:=0
def tw17103154588941827916:=0
def tw8082688346268250049:=0
def tw4756518139050993544:=0
def tw962044276906533194:=0
def tw11587776768797354325:=0
def tw16854587673931038673:=0
def tw15549783891417096058:=0
def tw4757638225750366508:=0
def tw13970193553635037603:=0
def tw3123639104194965332:=0
def tw18339838086367762362:=0
def tw1691159843039577630:=0
def tw2631839858926556776:=0
def tw9133965519009901524:=0
def tw15429037555946613869:=0
def tw7742673274436511688:=0
def tw3848150597300768826:=0
def tw15847821280832251556:=0
def tw14289500843637206546:=0
def tw15957677749150333283:=0
def tw1760550814663662750:=0
def tw7240144330601249180:=0
def tw14386676157048981550:=0
def tw7075165814295012638:=0
def tw11990975856017055422:=0
def tw6801029476139183312:=0
def tw16271844216026436225:=0
def tw18222768677362846958:=0
def tw4265274778305895476:=0
def tw14384099082730215700:=0
def tw16554124304153852296:=0
def tw1542208995375228177:=0
def tw9677349658555961191:=0
def tw12011600996378724539:=0
def tw2751512772001898743:=0
def tw9204203162362471934:=0
def tw14236866828821549027:=0
def tw5753477246381181295:=0
def tw15227931701778819280:=0
def tw7078277234810141265:=0
def tw7778128190444935357:=0
def tw7833414858894126337:=0
def tw12662484586497393853:=0
def tw1441743745933171993:=0
def tw6848798010935502157:=0
def tw8994733907554274037:=0
def tw17523687733329940928:=0
def tw2922262063960377238:=0
def tw5852416131135354159:=0
def tw10824961856174819581:=0
def tw4516866811197270479:=0
def tw14060859970242386355:=0
def tw1127587965616539439:=0
def tw10671557394336614523:=0
def tw785248648992367279:=0
def tw6197326629054633205:=0
def tw12851005809745248388:=0
def tw3850210384738990295:=0
def tw6022918195070839321:=0
def tw14964334683526527702:=0
def tw6558102845797885602:=0
def tw17149288713136542148:=0
def tw15498308255900878271:=0
def tw8818649051873090034:=0
def tw4875973293172203633:=0
def tw10501860422471403798:=0
def tw9993062641399815748:=0
def tw1964010372538190000:=0
def tw4814161831972677967:=0
def tw2416645918190966150:=0
def tw12937016895685749123:=0
def tw5625751233100257990:=0
def tw9049327644530937268:=0
def tw14220516410285279216:=0
def tw13209413477130333182:=0
def tw16484840775229853983:=0
def tw4710446693102610807:=0
def tw6506702125339953220:=0
def tw15977096561630401327:=0
def tw15077631809482411968:=0
def tw4166727030769767791:=0
def tw8343926276210964231:=0
def tw9093551163538121327:=0
def tw7560103762777114348:=0
def tw14786559322122367038:=0
def tw15436542170534216470:=0
def tw16436632261583688462:=0
def tw14965280831426246179:=0
def tw16917116578028462414:=0
def tw3789598480898321742:=0
def tw3823100327665637820:=0
def tw12354688630780886231:=0
def tw7325641055577215155:=0
def tw2733879650607662878:=0
def tw16940616791081659130:=0
def tw17383410445655560187:=0
def tw15556733204842230618:=0
def tw5150088831778239407:=0
def tw9023430618941127841:=0
def tw17163295521447606252:=0
def tw3482911112640277089:=0
def tw14066120929583539634:=0
def tw4501638030655277400:=0
def tw439688593043536991:=0
def tw12407045260440439335:=0
def tw11262817112726724402:=0
def tw17398747423386393230:=0
def tw18030078880169753571:=0
def tw4444463086783965515:=0
def tw15485662074090497415:=0
def tw14767418591841537902:=0
def tw1146662514156070407:=0
def tw17303810602656929614:=0
def tw10957066314924020035:=0
def tw9038464452273091533:=0
def tw16892485689287319638:=0
def tw14361666424355398449:=0
def tw6908876270898627826:=0
def tw26725359266217100:=0
def tw3630038815487820244:=0
def tw13361271526320663609:=0
def tw6043892918704572285:=0
def tw4198517096495653229:=0
def tw9552925858814464970:=0
def tw2731163927104888227:=0
def tw4174442624577731714:=0
def tw11232769517432959545:=0
def tw14841662556461059213:=0
def tw285710724381398154:=0
def tw14049423456885556620:=0
def tw1549081938870535990:=0
def tw17155062916923128755:=0
def tw2271869579783140024:=0
def tw16294737207071633415:=0
def tw10375939778571242814:=0
def tw2491099949122987989:=0
def tw2926894479339565349:=0
def tw14764462441768150685:=0
def tw3715152355986817341:=0
def tw3949521775621846467:=0
def tw57537058166866362:=0
def tw6892664700618670042:=0
def tw5564968363673166159:=0
def tw13602871578693442073:=0
def tw8590263517155808222:=0
def tw16294358959191526025:=0
def tw17154035794178261260:=0
def tw1149185202123593009:=0
def tw16520139754174145240:=0
def tw12738692358775638983:=0
def tw5893347237960430327:=0
def tw17320297224025364522:=0
def tw3313604151009386831:=0
def tw11494945936922779777:=0
def tw9339987041576858144:=0
def tw16275794382491314629:=0
def tw16956839032106229810:=0
def tw1983084181446724209:=0
def tw16961954578777943604:=0
def tw16931416024937964248:=0
def tw2134761449555729920:=0
def tw7663958244665983281:=0
def tw15048911622672588443:=0
def tw2841530450690616602:=0
def tw10963811555999171856:=0
def tw17690897719122969475:=0
def tw6111748204586376627:=0
def tw660623539643957681:=0
def tw1740507712749432233:=0
def tw1719933423829159709:=0
def tw6035003009466005301:=0
def tw5824241470400353313:=0
def tw10522139286284248698:=0
def tw17377254561864656429:=0
def tw18329825787910371397:=0
def tw5309724220005125874:=0
def tw6910976525641093123:=0
def tw9347171946317150408:=0
def tw3173027745401759075:=0
def tw12887541449750529190:=0
def tw16293367162729972556:=0
def tw920480811631714429:=0
def tw8528655318732477078:=0
def tw5222490793869169455:=0
def tw14914721178566982915:=0
def tw14536067062778177345:=0
def tw12439061984714897674:=0
def tw14561660686657499307:=0
def tw9811916889048993147:=0
def tw6365691152366748609:=0
def tw15980896328646933512:=0
def tw817505020379585311:=0
def tw17019984793707311829:=0
def tw8940955653082230295:=0
def tw15293584937260703436:=0
def tw7607949335669635082:=0
def tw12967762058134761951:=0
def tw16229636701400865737:=0
def tw6476283915893441920:=0
def tw786581532657073516:=0
def tw12141367927482780814:=0
def tw12594647734301240694:=0
def tw1097817390754839433:=0
def tw6501766832669257829:=0
def tw13403718863966628228:=0
def tw11463429324750175618:=0
def tw15922115197134750643:=0
def tw41845540807814183:=0
def tw8687266507417754361:=0
def tw15130513746061066492:=0
def tw13580856217448852786:=0
def tw10352850589874061990:=0
def tw15311511796262302737:=0
def tw17309470606786577859:=0
def tw6046450189779957275:=0
def tw9404562567135715879:=0
def tw4561654699930691680:=0
def tw710956946809905716:=0
def tw4018538937867561762:=0
def tw4950507245928054670:=0
def tw14243406432159276829:=0
def tw15005514198367328615:=0
def tw10833248490712616416:=0
def tw15962584257231057956:=0
def tw5776370533868925120:=0
def tw17907907891931551004:=0
def tw2164170317004892425:=0
def tw12722826314884737097:=0
def tw12144423336628371460:=0
def tw14182839076914065738:=0
def tw161134530857019194:=0
def tw6743323835205949455:=0
def tw14695919961107726200:=0
def tw16366064298273400673:=0
def tw4314390832549401861:=0
def tw16608175351220286814:=0
def tw16274503169467705016:=0
def tw589343493315699041:=0
def tw16845136206189827172:=0
def tw13868548730542346478:=0
def tw7092013944474108034:=0
def tw26211321329469686:=0
def tw16458782793986158345:=0
def tw2966042231879063712:=0
def tw9975211514069181240:=0
def tw5308197466712335295:=0
def tw4632046624193332035:=0
def tw14111736690737640605:=0
def tw330275422174534853:=0
def tw16452210229910066341:=0
def tw11326818255309025891:=0
def tw3892534762998982690:=0
def tw11029805070794498363:=0
def tw2624580254772273499:=0
def tw8299426919358006336:=0
def tw8753160075749762875:=0
def tw15163318723396939758:=0
def tw3558281685659518765:=0
def tw9674333423583812205:=0
def tw7844874622046639998:=0
def tw3612059957150160608:=0
def tw5073570575571523000:=0
def tw11262993844073978013:=0
def tw8029711190004854268:=0
def tw14430143198040326498:=0
def tw8027551303481303531:=0
def tw12906877190072180786:=0
def tw7672035012591282393:=0
def tw2858438602366831165:=0
def tw14230355823777053350:=0
def tw3193029211725145897:=0
def tw2974372972058218181:=0
def tw8493506089814668540:=0
def tw8285646926329616100:=0
def tw17750799988356064607:=0
def tw14824865978958511418:=0
def tw2498824811058455361:=0
def tw11221895504627001936:=0
def tw6920168489992775959:=0
def tw1554657079476749447:=0
def tw16202892666481075420:=0
def tw11332670692921203556:=0
def tw14172568694553618853:=0
def tw18293243725625549067:=0
def tw1439427286098015316:=0
def tw4848508062521070856:=0
def tw3892106292694963624:=0
def tw4262713964561852207:=0
def tw17313485985416884010:=0
def tw17118814573702806712:=0
def tw12615406480250917655:=0
def tw10652405460607960341:=0
def tw11509716319778582232:=0
def tw11269154348057496852:=0
def tw9881112102135134874:=0
def tw5324922926287387138:=0
def tw7443021371538904593:=0
def tw14221619717100937775:=0
def tw14709666179630569746:=0
def tw16318276806482071978:=0
def tw8907734434748021160:=0
def tw16375356828193878067:=0
def tw7315276435131507512:=0
def tw11919792403237066423:=0
def tw11953141356100817831:=0
def tw13075559306683750682:=0
def tw5869950028396881743:=0
def tw13451843334231381780:=0
def tw5347626958587773020:=0
def tw142106724276978599:=0
def tw16735466950777414721:=0
def tw17488653802329906771:=0
def tw14172380050646490064:=0
def tw17846674577911524586:=0
def tw14523716070307844429:=0
def tw4159077187191189524:=0
def tw2818523953300247736:=0
def tw13609389638316742863:=0
def tw496291932643681244:=0
def tw7349685674115750285:=0
def tw13193629382969601080:=0
def tw1670549029775888469:=0
def tw133643220514334926:=0
def tw5353324797031179978:=0
def tw15790314676589573585:=0
def tw14470407388521894042:=0
def tw2116308211480345429:=0
def tw9052581571810680137:=0
def tw754727082119535266:=0
def tw14931138733829940636:=0
def tw11565875638653798875:=0
def tw6603905315158892386:=0
def tw12427422152812892593:=0
def tw3198533830245161726:=0
def tw12505404848683707111:=0
def tw14718514008638624637:=0
def tw9276794588940619388:=0
def tw1433709090004778172:=0
def tw13086084977366055198:=0
def tw10136809670247770545:=0
def tw15918910888010473838:=0
def tw9397280776014135491:=0
def tw5219910140605161928:=0
def tw8450106984260195658:=0
def tw9609064031782961429:=0
def tw10881123170153531884:=0
def tw11026915452361276656:=0
def tw4791463785813381157:=0
def tw13193835476513354988:=0
def tw4907528822115814975:=0
def tw14375933449424951976:=0
def tw12637633377173657426:=0
def tw5211277776540516010:=0
def tw16314855956857419690:=0
def tw13420345275351157283:=0
def tw14079966796602883334:=0
def tw16808054274675286637:=0
def tw15518500346265571820:=0
def tw7433840847036070336:=0
def tw16925154810207078885:=0
def tw7959438693150712544:=0
def tw12002521736421593350:=0
def tw12503500657971555547:=0
def tw15852855516005835081:=0
def tw9874410976185230574:=0
def tw4423409133324662708:=0
def tw8559668259677475633:=0
def tw1053799380135323041:=0
def tw5433576033807289872:=0
def tw9523657158977012365:=0
def tw1014914874357364314:=0
def tw5256348650702361890:=0
def tw12420609715889527882:=0
def tw10500918884149119386:=0
def tw16130902048085155015:=0
def tw14664630640253197809:=0
def tw16378285826584753203:=0
def tw11691425203129995306:=0
def tw18393976083928724773:=0
def tw7548158298768857853:=0
def tw6301352096314456066:=0
def tw1825218349629472116:=0
def tw10573592751548909533:=0
def tw17416047489987597717:=0
def tw4754957263804428718:=0
def tw12303870395309865388:=0
def tw5860179707466402193:=0
def tw10622135873482167736:=0
def tw14588268233587031695:=0
def tw17825552205500191267:=0
def tw6189629718252905943:=0
def tw6941559451519986815:=0
def tw7609809034253575632:=0
def tw397106037486971290:=0
def tw5842725743664160613:=0
def tw8868521424716120746:=0
def tw17734605602506018629:=0
def tw9249787406037272220:=0
def tw16166744265509737807:=0
def tw1616109377017006655:=0
def tw11674595965430474902:=0
def tw13106955286102993214:=0
def tw17944964611319965854:=0
def tw17878767912638896468:=0
def tw16481578801580390870:=0
def tw14718303169055160954:=0
def tw16189163403449038495:=0
def tw7876446388961220271:=0
def tw5640143711250868656:=0
def tw14997052727051361642:=0
def tw18423651515656923691:=0
def tw11823635971167874490:=0
def tw6978254631379331019:=0
def tw1857390994730786775:=0
def tw15733552793477974425:=0
def tw5264407141631920148:=0
def tw15157219079772627161:=0
def tw4208482569812323229:=0
def tw17583605952342334754:=0
def tw16958852571989496489:=0
def tw6471388797901739575:=0
def tw10463434906666203072:=0
def tw13261770647470167256:=0
def tw347766826066388170:=0
def tw8544104938359476294:=0
def tw17005568657543275047:=0
def tw7473569221332540986:=0
def tw8255076439304220616:=0
def tw10254389566266362947:=0
def tw5882434569290868474:=0
def tw5370606440068076000:=0
def tw12643036074585070920:=0
def tw7288274582461465492:=0
def tw13839198587653401908:=0
def tw14470361966012596371:=0
def tw11857631384012976391:=0
def tw10375912699544389794:=0
def tw4379480264259954537:=0
def tw6559124585200497930:=0
def tw7156528478290355812:=0
def tw7537197975069268584:=0
def tw17985909855491941920:=0
def tw15361359402223236879:=0
def tw3778592909767299940:=0
def tw6888144125634413250:=0
def tw5629345228404278522:=0
def tw8957642860680689726:=0
def tw7794591058854613381:=0
def tw5126442421050856281:=0
def tw17861559596440539921:=0
def tw12046021056825353604:=0
def tw3396759077841301259:=0
def tw9245342642579457786:=0
def tw2793385276851734149:=0
def tw870236460400171552:=0
def tw15924413342497770940:=0
def tw11772965188518040986:=0
def tw13786609783528676514:=0
def tw11623002798015265581:=0
def tw14999331492039190861:=0
def tw7622426694258626664:=0
def tw10924271907684919002:=0
def tw14455291817327186965:=0
def tw6242263065275789796:=0
end PySem.W.Fast
namespace L2
open PySem PySem.Spec PyProof.Rows
structure u7 (sc csc:Scope) (N:List Str) (x:Str) (caps:List (Str × Nat)):Prop where
 cell:∀ p ∈ csc.names,p.2 ≠ .cell
 kind:csc.kind = .function
 loc:∀ p ∈ csc.names,p.2 = .local -> csc.names.lookup p.1 = some .local
 tg:csc.names.lookup x = some .local
 free:∀ p ∈ csc.names,p.2 = .free -> sc.names.lookup p.1 = some .cell
 cap:∀ p ∈ caps,N[p.2]? = some p.1 /\ csc.names.lookup p.1 = some .free
 nd:(caps.map (·.1) ++ [x]).Nodup
def fU (env:Env):List (Str × NameKind) -> List (Str × Addr) -> List (Str × Addr)
 | [],cs=>cs
 | (n,k) :: r,cs=>fU env r (if k == .free then (n,(env.cells.lookup n).getD 0) :: cs else cs)
theorem kH {env:Env} {sc:Scope} (h:∀ p ∈ sc.names,p.2 = .free -> ∃ c,env.cells.lookup p.1 = some c):closureFor sc env = pure (fU env sc.names []):=by
 obtain ⟨kind,names,g,c⟩:=sc
 simp only [closureFor]
 have aux:∀ (l:List (Str × NameKind)) (cs:List (Str × Addr)),(∀ p ∈ l,p.2 = .free -> ∃ c,env.cells.lookup p.1 = some c) ->
   (forIn l cs (λ(x:Str × NameKind) (r:List (Str × Addr))=>if (x.2 == NameKind.free) = true then (do let a ← cellOf env x.1;pure (ForInStep.yield ((x.1,a) :: r))) else pure (ForInStep.yield r)):Sem (List (Str × Addr))) = pure (fU env l cs):=by
  intro l
  induction l with
  | nil=>intro cs _;rfl
  | cons p r ih =>
   intro cs hp
   obtain ⟨n,k⟩:=p
   rw [List.forIn_cons]
   have ih':=λcs=>ih cs (λq hq=>hp q (List.mem_cons_of_mem _ hq))
   by_cases hk:(k == NameKind.free) = true
   ·obtain ⟨c,e⟩:=hp (n,k) List.mem_cons_self (by simpa using hk)
    simp only [hk,if_true,cellOf,e,fU,pure_bind,Option.getD_some]
    exact ih' _
   ·have hk':(k == NameKind.free) = false:=by simpa using hk
    simp only [hk',if_false,fU,pure_bind,Bool.false_eq_true]
    exact ih' _
 have:=aux names [] h
 first
  | (rw [this];rfl)
  | (simp only [bind_pure];exact this)
  | (refine Eq.trans (bind_pure _) this)
theorem iE {env:Env}:∀ (l:List (Str × NameKind)) (cs:List (Str × Addr)),(∀ p ∈ l,p.2 = .free -> ∃ c,env.cells.lookup p.1 = some c) -> (∀ y c,cs.lookup y = some c -> env.cells.lookup y = some c) ->
  ∀ y c,(fU env l cs).lookup y = some c -> env.cells.lookup y = some c
 | [],_,_,h2=>h2
 | (n,k) :: r,cs,h1,h2=>by
  unfold fU
  refine iE r _ (λq hq=>h1 q (List.mem_cons_of_mem _ hq)) ?_
  by_cases hk:(k == NameKind.free) = true
  ·obtain ⟨c,e⟩:=h1 (n,k) List.mem_cons_self (by simpa using hk)
   rw [if_pos hk]
   intro y c' h
   rw [e] at h
   rw [List.lookup_cons] at h
   cases hy:y == n with
   | true=>rw [hy] at h;simp at h;rw [eq_of_beq hy,← h];exact e
   | false=>rw [hy] at h;exact h2 y c' h
  ·rw [if_neg hk];exact h2
theorem kX {env:Env}:∀ (l:List (Str × NameKind)) (cs:List (Str × Addr)) (y:Str),((y,NameKind.free) ∈ l ∨ ∃ c,cs.lookup y = some c) -> ∃ c,(fU env l cs).lookup y = some c
 | [],_,_,h=>by
  rcases h with h | h
  ·cases h
  ·exact h
 | (n,k) :: r,cs,y,h=>by
  unfold fU
  refine kX r _ y ?_
  by_cases hk:(k == NameKind.free) = true
  ·rw [if_pos hk]
   by_cases hy:(y == n) = true
   ·exact .inr ⟨_,by rw [List.lookup_cons,hy]⟩
   ·have hy':(y == n) = false:=by simpa using hy
    rcases h with h | ⟨c,h⟩
    ·rcases List.mem_cons.mp h with z | z
     ·cases z;simp at hy
     ·exact .inl z
    ·exact .inr ⟨c,by rw [List.lookup_cons,hy'];exact h⟩
  ·rw [if_neg hk]
   rcases h with h | h
   ·rcases List.mem_cons.mp h with z | z
    ·cases z;simp at hk
    ·exact .inl z
   ·exact .inr h
abbrev eN (X:Cx) (N':List Str) (csc:Scope) (C:Addr) (s2:Shared) (H2:Hp) (fp:List Addr):Cx :=
 { X with N:=N',s₀:=s2,H₀:=H2,env:=compEnvC csc (fU X.env csc.names []) C X.env,outer:=X.stack,ex:=fp,fn:=λ_=>false,pn:=[],xe:=λ_ _=>False }
def kW (caps:List (Str × Nat)) (Z:St):St:=caps.map λp=>(Z[p.2]?).join
def BS (J:It) (caps:List (Str × Nat)) (te:TE) (Z:St) (H1:Hp) (Q:VK):Prop:=∃ W:Nat -> Nat -> List V -> Hp -> Prop,(∃ m,W 0 m [] H1) /\ ∀ i m ys H,W i m ys H ->
 (J.stop i H /\ ∀ D,H D = none -> Q (.ref D) (upd H D (.lst ys))) ∨ (J.go i H /\ ys.length < sizeLine /\ ∀ x H',J.Nm i H x H' -> te (kW caps Z ++ [some x]) H' λy H2=>∃ m',m' < m /\ W (i + 1) m' (ys ++ [y]) H2)
def Gx (caps:List (Str × Nat)) (wi:TI) (te:TE):TE:=λZ H Q=>wi Z H λJ H1=>BS J caps te Z H1 Q
theorem jC {env:Env} (hk:env.scope.kind = .function):∀ {names:List (Str × NameKind)} {x:Str},(∀ p ∈ names,p.2 = .free -> env.kindOf p.1 = some .cell) -> names.lookup x = some .free ->
  (names.map λ(n,k)=>if (k == NameKind.free && env.scope.kind == .function && env.kindOf n == some .cell) then (n,NameKind.cell) else (n,k)).lookup x = some .cell
 | [],_,_,h=>by simp at h
 | (n,k) :: r,x,hf,h=>by
  have ih:=@jC env hk r x (λp hp=>hf p (List.mem_cons_of_mem _ hp))
  show List.lookup x ((if (k == NameKind.free && env.scope.kind == .function && env.kindOf n == some .cell) = true then (n,NameKind.cell) else (n,k)) :: _) = _
  cases hx:x == n with
  | true =>
   simp only [List.lookup_cons,hx] at h
   cases h
   have:=hf (n,.free) List.mem_cons_self rfl
   have hk':(env.scope.kind == ScopeKind.function) = true:=by rw [hk];rfl
   simp [List.lookup_cons,hx,this,hk']
  | false =>
   simp only [List.lookup_cons,hx] at h
   by_cases hc:(k == NameKind.free && env.scope.kind == .function && env.kindOf n == some .cell) = true
   ·rw [if_pos hc];simp only [List.lookup_cons,hx];exact ih h
   ·rw [if_neg hc];simp only [List.lookup_cons,hx];exact ih h
theorem fV {env:Env}:∀ {names:List (Str × NameKind)} {x:Str} {k':NameKind},
  (names.map λ(n,k)=>if (k == NameKind.free && env.scope.kind == .function && env.kindOf n == some .cell) then (n,NameKind.cell) else (n,k)).lookup x = some k' -> (k' = .cell ∨ k' = .free) -> (∀ p ∈ names,p.2 ≠ .cell) -> (x,NameKind.free) ∈ names
 | [],_,_,h,_,_=>by simp at h
 | (n,k) :: r,x,k',h,hk,hn=>by
  have ih:=@fV env r x k'
  have h:List.lookup x ((if (k == NameKind.free && env.scope.kind == .function && env.kindOf n == some .cell) = true then (n,NameKind.cell) else (n,k)) :: (r.map λ(n,k)=>if (k == NameKind.free && env.scope.kind == .function && env.kindOf n == some .cell) then (n,NameKind.cell) else (n,k))) = some k':=h
  cases hx:x == n with
  | true =>
   have e:x = n:=eq_of_beq hx
   subst e
   by_cases hc:(k == NameKind.free && env.scope.kind == .function && env.kindOf x == some .cell) = true
   ·have:k = .free:=by
     simp only [Bool.and_eq_true] at hc
     simpa using hc.1.1
    subst this
    exact List.mem_cons_self
   ·rw [if_neg hc] at h
    simp only [List.lookup_cons,hx] at h
    cases h
    rcases hk with z | z
    ·exact absurd z (hn _ List.mem_cons_self)
    ·subst z;exact List.mem_cons_self
  | false =>
   refine List.mem_cons_of_mem _ (ih ?_ hk λp hp=>hn p (List.mem_cons_of_mem _ hp))
   by_cases hc:(k == NameKind.free && env.scope.kind == .function && env.kindOf n == some .cell) = true
   ·rw [if_pos hc] at h;simp only [List.lookup_cons,hx] at h;exact h
   ·rw [if_neg hc] at h;simp only [List.lookup_cons,hx] at h;exact h
section
variable {X:Cx} {pins:List (Addr × Obj)} {Z:St} {H:Hp} {s:Shared}
theorem g8 (caps:List (Str × Nat)) (Z:St):(kW caps Z).length = caps.length:=by simp [kW]
theorem pT {csc:Scope} {x:Str} {caps:List (Str × Nat)} {fp:List Addr} {h4:Heap} {t4:Nat} {C:Addr} {m0:Str -> Option Value} (I:Inv X pins Z H s) (ck:u7 X.env.scope csc X.N x caps) (hf:∀ b ∈ fp,sQ X pins H b)
  (hfs:∀ b ∈ fp,b < s.heap.objs.size) (hC:s.heap.objs.size <= C) (hk:∀ b o,s.heap.get? b = some o -> h4.get? b = some o) (hn:h4.Ns C m0) :
  Inv (eN X (caps.map (·.1) ++ [x]) csc C s H fp) [] (kW caps Z ++ [none]) H { s with heap:=h4,toks:=t4 }:=by
 have cellsOk:∀ p ∈ csc.names,p.2 = .free -> ∃ c,X.env.cells.lookup p.1 = some c:=λp hp e=>I.ok.has p.1 (.inl (ck.free p hp e))
 have inX:∀ y c,(fU X.env csc.names []).lookup y = some c -> X.env.cells.lookup y = some c:=iE _ _ cellsOk (λy c h=>by simp at h)
 have kf:∀ p ∈ csc.names,p.2 = .free -> X.env.kindOf p.1 = some .cell:=ck.free
 refine ⟨⟨I.ok.mod,ck.kind,I.ok.glob,I.ok.blt,hC,λy z c h1 h2=>I.ok.inj y z c (inX y c h1) (inX z c h2),λy hy=>?_,λy c h=>(nomatch h),I.ok.hd,I.ok.frames,.inl rfl,λb hb=>⟨?_,λy c h=>?_⟩,?_,?_,?_,?_,I.stack,I.BZ⟩,rfl,I.bare,Un.kept hk,⟨m0,hn,λi y v h1 h2 h3=>?_⟩,λy c h=>?_,I.hok.fresh hC,λy c h=>I.kF y c (inX y c h),λp hp=>absurd hp (by simp),I.hok.kept hk,?_⟩
 ·have hy':(csc.names.map λ(n,k)=>if (k == NameKind.free && X.env.scope.kind == .function && X.env.kindOf n == some .cell) then (n,NameKind.cell) else (n,k)).lookup y = some .cell ∨ (csc.names.map λ(n,k)=>if (k == NameKind.free && X.env.scope.kind == .function && X.env.kindOf n == some .cell) then (n,NameKind.cell) else (n,k)).lookup y = some .free:=hy
  refine kX _ _ y (.inl ?_)
  rcases hy' with z | z
  ·exact fV z (.inl rfl) ck.cell
  ·exact fV z (.inr rfl) ck.cell
 ·exact Nat.ne_of_lt (Nat.lt_of_lt_of_le (hfs b hb) hC)
 ·exact (hf b hb).2.2.2.2.1 y c (inX y c h)
 ·exact λb o e=>I.bs b o e
 ·exact Nat.le_trans I.ok.JE I.sz
 ·intro b o e hb
  rcases (hf b hb).2.2.2.1 with z | z
  ·exact I.ok.E3 b o e z
  ·exact absurd (Nat.lt_of_lt_of_le (Heap.lt_size (I.ok.bs b o e).1) z) (Nat.lt_irrefl _)
 ·intro b hb z
  rcases List.mem_cons.mp (I.pV b z) with e | e
  ·exact (hf b hb).2.1 e
  ·exact (hf b hb).2.2.1 e
 ·have hi:i < caps.length:=by
   by_cases hi:i < caps.length
   ·exact hi
   ·rw [List.getElem?_append_right (by rw [g8];lia),g8] at h2
    cases q:i - caps.length with
    | zero=>rw [q] at h2;simp at h2
    | succ k=>rw [q] at h2;simp at h2
  rw [List.getElem?_append_left (by rw [List.length_map];exact hi),List.getElem?_map] at h1
  rw [List.getElem?_append_left (by rw [g8];exact hi)] at h2
  unfold kW at h2
  rw [List.getElem?_map] at h2
  cases e:caps[i]? with
  | none=>rw [e] at h1;cases h1
  | some p =>
   rw [e] at h1 h2
   simp only [Option.map_some,Option.some.injEq] at h1 h2
   subst h1
   obtain ⟨hN,hfr⟩:=ck.cap p (List.mem_of_getElem? e)
   have h2':Z[p.2]? = some (some v):=by
    cases q:Z[p.2]? with
    | none=>rw [q] at h2;cases h2
    | some w=>rw [q] at h2;simp at h2;rw [h2]
   have hcX:X.env.scope.names.lookup p.1 = some .cell:=ck.free (p.1,.free) (PySem.mem_of_lookup hfr) rfl
   obtain ⟨m,_,hl⟩:=I.loc
   obtain ⟨u,r,l⟩:=hl p.2 p.1 v hN h2' (.inr (.inl hcX))
   refine ⟨u,r,?_⟩
   rcases l with ⟨k,_⟩ | ⟨_,c,hc,z⟩
   ·have k':X.env.scope.names.lookup p.1 = some .local:=k
    rw [hcX] at k';cases k'
   ·obtain ⟨c',hc'⟩:=kX (env:=X.env) csc.names [] p.1 (.inl (PySem.mem_of_lookup hfr))
    have:c' = c:=by
     have:=inX p.1 c' hc'
     rw [hc] at this
     exact (Option.some.inj this).symm
    subst this
    refine .inr ⟨.inl (jC I.ok.kind kf hfr),c',hc',?_⟩
    obtain ⟨o,ho,hd⟩:=z
    exact ⟨o,hk _ _ ho,hd⟩
 ·obtain ⟨v,o,ho,hd⟩:=I.cell y c (inX y c h)
  exact ⟨v,o,hk _ _ ho,hd⟩
 ·rw [List.length_append,g8,List.length_append,List.length_map];rfl
end
end L2
namespace L2
open PySem PySem.Spec PyProof.Rows
theorem nv {prog:Program} {w:World} {A:Around} {R:Result -> Shared -> Prop} {s:Shared} {elt target iter:Expr} {scope:Scope} {pos:Pos} {it acc:Value} {env:Env} (J:Nat -> Shared -> Prop)
  (turn:∀ n s,J n s -> wpAny (model prog w) A (pyNext it) (λr s₁=>match r with
   | none=>R (.ok .next) s₁
   | some v=>wpAny (model prog w) A (letOwnedTupleGo target it v) (λ_ s₁=>wpAny (model prog w) A (assign target env v) (λ_ s₂=>wpAny (model prog w) A (eval elt env) (λx s₃ =>
     wpAny (model prog w) A (call (.builtin "list.append") [acc,x]) (λ_ s₄=>∃ m,m < n /\ J m s₄) (λ_ _=>False) s₃)
     (λ_ _=>False) s₂) (λ_ _=>False) s₁) (λ_ _=>False) s₁) (λ_ _=>False) s)
  (n:Nat) (h:J n s) :
  codeAny (model prog w) A (.compLoop (.ListComp elt [⟨target,iter,[],0⟩] scope pos) 0 it acc env) R s:=by
 refine codeAny_loop rfl J (λn s hI=>?_) n h
 show wpAny _ _ ((compTurn (.ListComp elt [⟨target,iter,[],0⟩] scope pos) 0 it acc env).onRaise (λx=>do noteFrame x env;theTreesLotGoes x)) _ _ s
 refine wpAny_noted ?_
 rw [compTurn_list1]
 refine wpAny_bind (wpAny_standAt (wpAny_bind (wpAny_mono (turn n s hI) (λr s₁ h₁=>?_) λ_ _ h'=>h'.elim)))
 cases r with
 | none=>exact wpAny_pure h₁
 | some v =>
  refine wpAny_bind (wpAny_mono h₁ (λ_ s₁' h₁=>?_) λ_ _ h'=>h'.elim)
  exact wpAny_bind (wpAny_mono h₁ (λ_ s₂ h₂=>wpAny_bind (wpAny_bind (wpAny_mono h₂ (λx s₃ h₃=>wpAny_bind (wpAny_mono h₃
   (λ_ s₄ h₄=>wpAny_pure (wpAny_pure ⟨rfl,h₄⟩)) λ_ _ h'=>h'.elim)) λ_ _ h'=>h'.elim))) λ_ _ h'=>h'.elim)
theorem JL {a b:Nat} (h:a < b):a ≠ b:=Nat.ne_of_lt h
theorem Ip {a b:Nat} (h:a < b):a ≠ b + 1:=Nat.ne_of_lt (Nat.lt_succ_of_lt h)
theorem Hr {a:Nat}:a ≠ a + 1:=Nat.ne_of_lt (Nat.lt_succ_self a)
section
variable {X:Cx}
theorem tN {csc:Scope} {N':List Str} {fp:List Addr} {C D:Addr} {pins pl:List (Addr × Obj)} {Z Z':St} {H H':Hp} {s s':Shared} {h':Heap} {ys:List V} {its:List Value} {n:Nat} (I:Inv X pins Z H s)
  (J:Inv (eN X N' csc C s H fp) pl Z' H' s') (hf:∀ b ∈ fp,sQ X pins H b) (hC:s.heap.objs.size <= C) (hD:s.heap.objs.size <= D) (hDC:D ≠ C) (hs:Heap.SameBut C s'.heap h') (hv:Vals ys its) (hz:ys.length <= sizeLine)
  (hd:s'.heap.get? D = some { cls:=.type "list",data:=.seq its.toArray n }) (hDn:H' D = none):Inv X pins Z (upd H' D (.lst ys)) { s' with heap:=h' }:=by
 have ne:∀ b o,s.heap.get? b = some o -> b ≠ C /\ b ≠ D:=λb o e=>⟨Nat.ne_of_lt (Nat.lt_of_lt_of_le (Heap.lt_size e) hC),Nat.ne_of_lt (Nat.lt_of_lt_of_le (Heap.lt_size e) hD)⟩
 have u:Un (frs X.stack) fp H H' s.heap s'.heap:=J.base
 have nDt:∀ b o,H' b = some o -> b ≠ D:=λb o e=>aj e hDn
 refine I.Oc (s':={ s' with heap:=h' }) (ch:=fp) J.os ?_ ?_ J.bare λb hb=>⟨(hf b hb).2.2.2.1,(hf b hb).2.1,(hf b hb).2.2.2.2.1,(hf b hb).2.2.2.2.2⟩
 ·refine ⟨λb o q n hb he=>?_,λb o q n hb he=>?_,λb o q n he=>?_,λb o q he=>?_,λb xs q=>?_,λb o xs q=>?_,λb ps q=>?_⟩
  ·exact (hs.2 b (ne b o q).1).trans (u.keep b o q n hb he)
  ·obtain ⟨sl,e⟩:=u.slot b o q n hb he
   exact ⟨sl,(hs.2 b (ne b o q).1).trans e⟩
  ·rw [au (ne b o q).2];exact u.free b o q n he
  ·obtain ⟨o',e⟩:=u.there b o q he
   exact ⟨o',(hs.2 b (ne b o q).1).trans e⟩
  ·have:=u.tups b xs q
   rw [au (nDt b _ this)];exact this
  ·have:=u.sO b o xs q
   rw [au (nDt b _ this)];exact this
  ·obtain ⟨more,this⟩:=u.uY b ps q
   exact ⟨more,by rw [au (nDt b _ this)];exact this⟩
 ·intro b o e
  by_cases hb:b = D
  ·subst hb
   rw [ai] at e;cases e
   exact ⟨hz,its,n,hv,(hs.2 b hDC).trans hd⟩
  ·rw [au hb] at e
   refine (J.hok b o e).stay (λc v hc q=>(hs.2 c ?_).trans q) (λc q=>by rw [au (nDt c _ q)];exact q) λc xs q=>by rw [au (nDt c _ q)];exact q
   have hfree:H' C = none:=J.free
   rcases hc with z | z
   ·rw [z];exact aj e hfree
   ·exact aj z hfree
theorem gK {sc csc:Scope} {N:List Str} {elt iter:Expr} {x:Str} {px pos:Pos} {caps:List (Str × Nat)} {wi:TI} {te:TE} (ck:u7 sc csc N x caps) (hi:PI X (.Name x px) iter wi)
  (he:∀ C s2 H2 fp,PE (eN X (caps.map (·.1) ++ [x]) csc C s2 H2 fp) elt te) (hc:X.calm = true:=by rfl) (hsc:X.env.scope = sc:=by rfl) (hXN:X.N = N:=by rfl) (hs:∀ x,foldedSetIterable iter X.env x = pure x:=by intro _;rfl) :
  PE X (.ListComp elt [⟨.Name x px,iter,[],0⟩] csc pos) (Gx caps wi te):=by
 subst hsc hXN
 intro pins s Z H Q I h
 rw [eval_ListComp]
 have cellsOk:∀ p ∈ csc.names,p.2 = .free -> ∃ c,X.env.cells.lookup p.1 = some c:=λp hp e=>I.ok.has p.1 (.inl (ck.free p hp e))
 refine wpAny_comprehension_free (use:=none) rfl hs (kH cellsOk) ck.kind ck.loc (dN (hi pins s Z H _ I h) λv s1 h1=>dN h1 λitv s2 h2=>?_)
 obtain ⟨it,fp,tn,J,H2,e,I2,T,st2,f2,W,⟨m0,w0⟩,turn⟩:=h2
 subst e
 refine wpAny_newObj_type (wpAny_newFunctionEnv ck.cell (by intro y hy;simp at hy) (λh4 hns4 hsb4=>?_) ck.kind)
 dsimp only at hns4 hsb4 ⊢
 generalize hD:s2.heap.objs.size = D at hns4 hsb4 ⊢
 generalize hH2:s2.heap.push { cls:=.type "list",dict:=none,data:=.seq ([]:List Value).toArray } = G at hns4 hsb4 ⊢
 have hGs:G.objs.size = D + 1:=by rw [← hH2,Heap.size_push,hD]
 rw [hGs] at hns4 hsb4 ⊢
 have lt2:∀ b o,s2.heap.get? b = some o -> b < D:=λb o e=>hD ▸ Heap.lt_size e
 have old:∀ b o,s2.heap.get? b = some o -> b ≠ D + 1 /\ b ≠ D:=λb o e=>⟨Ip (lt2 b o e),JL (lt2 b o e)⟩
 have leD:s2.heap.objs.size <= D:=Nat.le_of_eq hD
 have leD1:s2.heap.objs.size <= D + 1:=Nat.le_succ_of_le leD
 have keep4:∀ b o,s2.heap.get? b = some o -> h4.get? b = some o:=λb o e=>hsb4.extBut b o (old b o e).1 (Heap.get?_push_of_some _ (hH2 ▸ Heap.get?_push_of_some _ e))
 have hDo:h4.get? D = some { cls:=.type "list",data:=.seq ([]:List Value).toArray 0 }:=by
  refine hsb4.extBut D _ Hr (Heap.get?_push_of_some _ ?_)
  rw [← hH2,← hD]
  exact Heap.get?_push_size _ rfl
 have fps:∀ b ∈ fp,b < s2.heap.objs.size:=λb hb=>by
  obtain ⟨o,e,_⟩:=T.obj _ _ st2 b hb
  exact Heap.lt_size e
 have I4:∀ t4,Inv (eN X (caps.map (·.1) ++ [x]) csc (D + 1) s2 H2 fp) [] (kW caps Z ++ [none]) H2 { s2 with heap:=h4,toks:=t4 }:=λt4=>pT (m0:=λx=>[].reverse.lookup x) I2 ck f2 fps leD1 keep4 hns4
 have cellsLt:∀ y c,(fU X.env csc.names []).lookup y = some c -> c < D:=λy c e=>by
  obtain ⟨v,o,ho,_⟩:=I2.cell y c (iE _ _ cellsOk (λy c h=>by simp at h) y c e)
  exact lt2 c o ho
 have fsLt:∀ b ∈ frs X.stack,b < D:=λb hb=>by
  obtain ⟨_,o,ho,_⟩:=I2.stack.mem hb
  exact lt2 b o ho
 have fpC:∀ {pl:List (Addr × Obj)} {H':Hp},(∀ p ∈ pl,p.1 = D) -> (∀ b ∈ fp,H' b = none) -> ∀ b ∈ fp,sQ (eN X (caps.map (·.1) ++ [x]) csc (D + 1) s2 H2 fp) pl H' b:=λ{pl H'} hpl hn b hb=>by
  have hb':b < D:=hD ▸ fps b hb
  refine ⟨hn b hb,Ip hb',?_,.inl hb,λy c e=>?_,λp hp=>?_⟩
  ·intro z
   rcases List.mem_cons.mp (I2.pV b z) with e | e
   ·exact (f2 b hb).2.1 e
   ·exact (f2 b hb).2.2.1 e
  ·exact (f2 b hb).2.2.2.2.1 y c (iE _ _ cellsOk (λy c h=>by simp at h) y c e)
  ·have:p.1 = D:=hpl p (by simpa using hp)
   rw [this];exact λz=>JL hb' z.symm
 have loop:∀ t4,codeAny (model X.prog X.w) X.A (.compLoop (.ListComp elt [⟨.Name x px,iter,[],0⟩] csc pos) 0 (.ref it) (.ref D) (compEnvC csc (fU X.env csc.names []) (D + 1) X.env))
   (compPost (model X.prog X.w) X.A X.xe none (EP X pins Z Q) (.ref D) (D + 1)) { s2 with heap:=h4,toks:=t4 }:=by
  intro t4
  refine nv (λn s'=>∃ (i:Nat) (ys:List V) (its:List Value) (k:Nat) (Z':St) (H':Hp),Inv (eN X (caps.map (·.1) ++ [x]) csc (D + 1) s2 H2 fp) [(D,{ cls:=.type "list",data:=.seq its.toArray k })] Z' H' s' /\ tn i s'.heap /\ (∀ b ∈ fp,H' b = none) /\ Vals ys its /\ ys.length <= sizeLine /\ W i n ys H' /\ (∃ z,Z' = kW caps Z ++ [z])) ?_ m0 ?_
  ·rintro n s3 ⟨i,ys,its,k,Z3,H3,I3,st3,fr3,hv,hz,w3,z3,rfl⟩
   have pl1:∀ p ∈ [((D,{ cls:=.type "list",data:=.seq its.toArray k }):Addr × Obj)],p.1 = D:=λp hp=>by rw [List.mem_singleton.mp hp]
   rcases turn i n ys H3 w3 with ⟨stop,qn⟩ | ⟨go,hlt,step⟩
   ·refine wpAny_mono (T.done (eN X (caps.map (·.1) ++ [x]) csc (D + 1) s2 H2 fp) rfl rfl rfl hc i _ s3 _ H3 (λ_ _=>False) I3 (fpC pl1 fr3) st3 stop) (λr s4 hY=>?_) λ_ _ f=>f.elim
    obtain ⟨hr,I4'⟩:=hY
    subst hr
    obtain ⟨m,hn,_⟩:=id I4'.loc
    have pD:=I4'.pin (D,{ cls:=.type "list",data:=.seq its.toArray k }) (by simp)
    refine ⟨m,hn,λh' hs'=>⟨.ref D,_,tN I2 I4' f2 leD1 leD Hr hs' hv hz pD.1 pD.2.1,rfl,qn D pD.2.1⟩⟩
   ·refine wpAny_mono (T.item (eN X (caps.map (·.1) ++ [x]) csc (D + 1) s2 H2 fp) rfl rfl rfl hc i _ s3 _ H3 (λ_ _=>False) I3 (fpC pl1 fr3) st3 go) (λr s4 hY=>?_) λ_ _ f=>f.elim
    obtain ⟨u,hr,h4'⟩:=hY
    subst hr
    refine wpAny_mono h4' (λ_ s4 hY=>?_) λ_ _ f=>f.elim
    obtain ⟨xv,H5,I5,r5,y5,st5,fr5⟩:=hY
    have I5':=I5.pinned (fpC pl1 fr5) (T.obj _ _ st5)
    have hiN:(caps.map (·.1) ++ [x])[caps.length]? = some x:=by rw [List.getElem?_append_right (by simp)];simp
    refine wpAny_mono (bJ (X:=eN X (caps.map (·.1) ++ [x]) csc (D + 1) s2 H2 fp) (i:=caps.length) ck.nd hiN (.inl (lookup_relabel_local ck.tg)) (.inr (lookup_relabel_local ck.tg)) _ s4 _ H5 xv u _ I5' r5 (show um caps.length xv _ H5 (λZ6 H6=>Z6 = kW caps Z ++ [some xv] /\ H6 = H5) from ⟨?_,rfl⟩)) (λ_ s6 ⟨Z6,H6,I6,hZ,hH⟩=>?_) λ_ _ f=>f.elim
    ·rw [List.set_append_right _ _ (by rw [g8];exact Nat.le_refl _),g8,Nat.sub_self];rfl
    subst hZ hH
    refine wpAny_mono (he (D + 1) s2 H2 fp _ s6 _ H6 _ I6 (step xv H6 y5)) (λw7 s7 hY=>?_) λ_ _ f=>f.elim
    obtain ⟨y,H7,I7,r7,m',hm,w8⟩:=hY
    have pD:=I7.pin (D,{ cls:=.type "list",data:=.seq its.toArray k }) (by simp)
    have hll:=hv.length
    refine call_meets F.slot_list_append ⟨_,pD.1,rfl⟩ F.entry_list_append (F.args_list_append_2 _ _) (PySem.list_append D its.toArray k w7 (by rw [List.size_toArray];lia)) ⟨pD.1,?_⟩
    have q:=PySem.IsL.update pD.1 (·.push w7)
    have hpush:its.toArray.push w7 = (its ++ [w7]).toArray:=by simp
    rw [hpush] at q
    obtain ⟨k',q⟩:∃ k',(s7.heap.update D (Obj.mapSeq (·.push w7))).get? D = some { cls:=.type "list",data:=.seq (its ++ [w7]).toArray k' }:=⟨_,q⟩
    have I7u:Inv (eN X (caps.map (·.1) ++ [x]) csc (D + 1) s2 H2 fp) (jR fp s4.heap) _ H7 s7:=I7.gM λp hp=>I7.pin p (List.mem_append_right _ (List.mem_append_right _ hp))
    have pfp:∀ p ∈ jR fp s4.heap,p.1 < D:=λp hp=>hD ▸ fps p.1 (mP hp).1
    have I8:=I7u.turned (h':=s7.heap.update D (Obj.mapSeq (·.push w7))) (t':=s7.toks) (it:=D) (λb o hb e=>(Heap.get?_update_other s7.heap _ (Ne.symm hb)).trans e) pD.2.1 Hr (.inr leD) (λy c e=>JL (cellsLt y c e)) (λp hp=>JL (pfp p (by simpa using hp)))
    refine ⟨m',hm,i + 1,ys ++ [y],its ++ [w7],k',_,H7,I8.gM λp hp=>?_,T.keep _ _ _ st5 λb hb o e=>(I8.pin (b,o) (List.mem_append_right _ (gy hb e))).1,λb hb=>?_,hv.append (.cons r7 .nil),?_,w8,_,rfl⟩
    ·rw [List.mem_singleton.mp hp]
     exact ⟨q,pD.2.1,pD.2.2.1,pD.2.2.2.1,λv=>by simp⟩
    ·obtain ⟨o,e,d⟩:=T.obj _ _ st5 b hb
     exact (I8.pin (b,o) (List.mem_append_right _ (gy hb e))).2.1
    ·rw [List.length_append,List.length_singleton];lia
  ·refine ⟨0,[],[],0,_,H2,(I4 t4).gM λp hp=>?_,T.keep _ _ _ st2 λb hb o e=>keep4 b o e,λb hb=>(f2 b hb).1,.nil,Nat.zero_le _,w0,_,rfl⟩
   rw [List.mem_singleton.mp hp]
   refine ⟨hDo,I2.hok.fresh leD,Hr,λz=>absurd (fsLt D z) (Nat.lt_irrefl _),λv=>by simp⟩
 exact codeAny_compStart_list (loop _) (T.self _ 0 _ _ _ (T.keep _ _ _ st2 λb hb o e=>keep4 b o e) (loop _))
end
end L2
namespace L2
open PySem PySem.Spec PyProof.Rows
section
variable {X:Cx}
theorem Af {ys:List Str}:∀ {us:List Value},Vals (ys.map V.str) us -> StrsAre us ys:=by
 induction ys with
 | nil=>intro us r;cases r;exact .nil
 | cons y r ih =>
  intro us h
  cases h with
  | cons h t =>
   obtain ⟨k,rfl⟩:=h
   exact .cons _ _ (ih t)
def rJoin (K:PySem.W.Frag):V -> List V -> Hp -> VK -> Prop:=λx vs H Q=>∃ z p ys,x = .str z /\ vs = [.ref p] /\ bf K H p (ys.map V.str) /\ (ys.map (·.length)).sum + ys.length * z.length <= 16777216 /\ Q (.str (Txt.join z ys)) H
theorem jw:Nl X "str.join" (rJoin X.K):=by
 intro pins s Z H x vs v us Q I rx rv h
 obtain ⟨z,p,ys,rfl,rfl,hq,hz,q⟩:=h
 obtain ⟨t,rfl⟩:=rx
 obtain ⟨u,rfl,ru⟩:=rv.one
 cases ru
 obtain ⟨its,r,pl,_⟩:=I.list hq
 exact PyProof.Rows.join_list pl.isList (by simpa using Af r) hz λt' k=>⟨.str _,H,I.tok _,⟨_,rfl⟩,q⟩
def xN:V -> List V -> Hp -> VK -> Prop:=λx vs H Q=>∃ a b i,x = .str a /\ vs = [.str b,.int i] /\ Q (.bl (fromIndex a.length i + b.length <= a.length && Builtin.Str.subAt a b (fromIndex a.length i))) H
theorem zK:Nl X "str.startswith" xN:=by
 intro pins s Z H x vs v us Q I rx rv h
 obtain ⟨a,b,i,rfl,rfl,q⟩:=h
 obtain ⟨t,rfl⟩:=rx
 obtain ⟨u,w',rfl,ru,rw'⟩:=rv.two
 obtain ⟨t1,rfl⟩:=ru
 obtain ⟨t2,rfl⟩:=rw'
 exact call_gives F.slot_str_startswith (typeIs_str _ _ _) F.entry_str_startswith (F.args_str_startswith_3 _ _ _) (gives_str_startswith_from a b i t t1 t2) ⟨.bl _,H,I,rfl,q⟩
def vN:V -> List V -> Hp -> VK -> Prop:=λx vs H Q=>∃ a b,x = .str a /\ vs = [.str b] /\ Q (.bl (0 + b.length <= a.length && Builtin.Str.subAt a b 0)) H
theorem qY:Nl X "str.startswith" vN:=by
 intro pins s Z H x vs v us Q I rx rv h
 obtain ⟨a,b,rfl,rfl,q⟩:=h
 obtain ⟨t,rfl⟩:=rx
 obtain ⟨u,rfl,ru⟩:=rv.one
 obtain ⟨t1,rfl⟩:=ru
 exact call_gives F.slot_str_startswith (typeIs_str _ _ _) F.entry_str_startswith (F.args_str_startswith_2 _ _) (gives_str_startswith a b t t1) ⟨.bl _,H,I,rfl,q⟩
def qe (z:Str):List V:=z.cps.toList.map λc=>V.str ⟨#[c]⟩
theorem z6 {z:Str} {acc:Array Value} (h:ItemsOf (SignAt z) acc z.cps.size):Vals (qe z) acc.toList:=by
 obtain ⟨hs,hi⟩:=h
 have aux:∀ (cs:List Nat) (us:List Value),us.length = cs.length -> (∀ (i:Nat) (v:Value),us[i]? = some v -> ∃ c u,cs[i]? = some c /\ v = Value.str ⟨#[c]⟩ u) -> Vals (cs.map λc=>V.str ⟨#[c]⟩) us:=by
  intro cs
  induction cs with
  | nil=>intro us hl _;cases us with
   | nil=>exact .nil
   | cons _ _=>cases hl
  | cons c r ih =>
   intro us hl h
   cases us with
   | nil=>cases hl
   | cons u r' =>
    refine .cons ?_ (ih r' (by simpa using hl) λi v e=>h (i + 1) v (by simpa using e))
    obtain ⟨c',t,e,z⟩:=h 0 u rfl
    simp at e
    subst e
    exact ⟨t,z⟩
 refine aux _ _ (by simp [hs]) λi v e=>?_
 obtain ⟨c,u,e1,e2⟩:=hi i v (by simpa using e)
 exact ⟨c,u,by simpa using e1,e2⟩
theorem Ah (hc:X.calm = true):jA X (.type "list") (λxs H Q=>∃ z:Str,xs = [.str z] /\ z.length <= sizeLine /\ ∀ l,H l = none -> Q (.ref l) (upd H l (.lst (qe z)))):=by
 intro pins s Z H xs us Q I r h
 obtain ⟨z,rfl,hz,q⟩:=h
 obtain ⟨u,rfl,rx⟩:=vals1 r
 obtain ⟨t,rfl⟩:=rx
 refine PySem.call_list_str (I.ok.hd hc) z t (λh' tk acc' c' kp e hi=>?_) hz
 have hv:=z6 hi
 exact ⟨.ref s.heap.objs.size,_,I.laid (t':=tk) kp (Nat.le_refl _) (show c5 X.prog X.w _ h' _ (.lst (qe z)) from ⟨by simp only [qe,List.length_map,Array.length_toList];exact hz,acc'.toList,c',hv,by simpa using e⟩),rfl,q _ (I.hok.fresh (Nat.le_refl _))⟩
theorem G9:jA X (.builtin "isinstance") (λxs H Q=>∃ x c cv t b,xs = [x,c] /\ (c = V.ty cv ∨ False) /\ mS X.K H x t /\ PySem.W.kitOne X.K t (.type cv) = some b /\ Q (.bl b) H):=by
 intro pins s Z H xs us Q I r h
 obtain ⟨x,c,cv,t,b,rfl,hc,ty,e,q⟩:=h
 obtain ⟨u,w',rfl,ru,rw'⟩:=vals2 r
 rcases hc with rfl | hc
 ·cases rw'
  exact Cu I ru ty e λtk=>⟨.bl b,H,I.tok _,rfl,q⟩
 ·exact hc.elim
end
end L2
namespace L2
open PySem PySem.Spec PyProof.Rows
def At (X:Cx) (D:Ends) (sts:List Stmt) (Z:St) (H:Hp):Prop:=∀ (pins:List (Addr × Obj)) (s:Shared),Inv X pins Z H s -> wpAny (model X.prog X.w) X.A (execs sts X.env) (SP X pins D) X.xe s
section
variable {X:Cx} {D:Ends} {st:Stmt} {rest sts:List Stmt} {t:TS} {Z:St} {H:Hp}
theorem ay:AU X sts (λD Z H=>At X D sts Z H):=λpins s Z H D I h=>h pins s I
theorem aZ (h:D.nx Z H):At X D [] Z H:=λ_ _ I=>wpAny_execs_nil ⟨Z,H,I,h⟩
theorem ao (h:PS X st t) (q:t { D with nx:=λZ H=>At X D rest Z H } Z H):At X D (st :: rest) Z H:=λpins s I =>
 (vW h ay) pins s Z H D I q
theorem av (h:PS X st t) (q:t D Z H):At X D [st] Z H:=λpins s I=>(Je h) pins s Z H D I q
theorem BU (h:At X D sts Z H):∃ t,AU X sts t /\ t D Z H:=⟨λD' Z' H'=>D' = D /\ Z' = Z /\ H' = H,λpins s Z' H' D' I ⟨e1,e2,e3⟩=>by subst e1 e2 e3;exact h pins s I,rfl,rfl,rfl⟩
end
theorem dJ {c:Prop} [Decidable c] {A B:Prop} (h1:c -> A) (h2:¬ c -> B):if decide c = true then A else B:=by
 by_cases h:c
 ·rw [decide_eq_true h];exact h1 h
 ·rw [decide_eq_false h];exact h2 h
theorem g7 {c:Prop} [Decidable c] {A B:Prop} (h1:¬ c -> A) (h2:c -> B):if (!decide c) = true then A else B:=by
 by_cases h:c
 ·rw [decide_eq_true h];exact h2 h
 ·rw [decide_eq_false h];exact h1 h
theorem OG {c:Bool} {A B:Prop} (h1:c = true -> A) (h2:c = false -> B):if c = true then A else B:=by
 cases c
 ·exact h2 rfl
 ·exact h1 rfl
theorem OO {c:Bool} {A B:Prop} (h1:c = false -> A) (h2:c = true -> B):if (!c) = true then A else B:=by
 cases c
 ·exact h1 rfl
 ·exact h2 rfl
theorem aq.upd {H:Hp} {p:Addr} {o:HO} (h:H p = none):aq H (upd H p o):=λb u e=>by rw [au (aj e h)];exact e
theorem aq.to {H H1:Hp} {p:Addr} {o:HO} (s:aq H H1) (h:H1 p = none):aq H (L2.upd H1 p o):=s.trans (aq.upd h)
theorem bf.same {K:PySem.W.Frag} {H H':Hp} {a:Addr} {xs:List V} (h:bf K H a xs) (e:aq H H'):bf K H' a xs:=e.seq h
section
variable {X:Cx} {C:Addr} {x:Str} {p pos:Pos}
def Ds (C:Addr):TE:=λ_ H Q=>∀ x dx,H x = none -> H dx = none -> dx ≠ x -> Q (.ref x) (upd (upd H dx (.own x)) x (.ins C dx []))
end
end L2
namespace L2
open PySem PySem.Spec PyProof.Rows
section
variable {X:Cx} {C:Addr} {x:Str} {p pos:Pos}
structure Pa (K:PySem.W.Frag) (C:Addr):Prop where
 makes:PySem.W.makesIn K C = true
 init:PySem.W.findIn K (.ref C) "__init__" = some (some (.builtin "object.__init__"))
 kp:PySem.W.keepIn K (.ref C) = true
theorem qW (M:Pa X.K C) (hg:Gl X x) (hm:X.mg x = some (.ref C)) (hdb:(x == ("__debug__" : Str)) = false:=by decide):PE X (.Call (.Name x p) [] [] pos) (Ds C):=by
 intro pins s Z H Q I h
 refine wpAny_Call_Name_kw (mh I hg hm ?_ hdb)
 refine PySem.W.callWith_K0 I.lP M.kp (wpAny_call ?_)
 have hq:=h (s.heap.objs.size + 1) s.heap.objs.size (I.hok.fresh (Nat.le_succ _)) (I.hok.fresh (Nat.le_refl _)) (Nat.ne_of_lt (Nat.lt_succ_self _))
 have I2:=Inv.made (C:=C) I
 have Y:=PySem.W.makes_of (M:=model X.prog X.w) I.lP M.makes
 refine CG I.lP M.makes M.init (λself=>PySem.W.Looks.of_pure (PySem.W.oi_bind self)) ?_
 obtain ⟨hh,g,d,t,os⟩:=s
 have e2:((hh.push PySem.W.emptyDict).push (PySem.W.instObj C hh.objs.size)).get? (hh.objs.size + 1) = some (PySem.W.instObj C hh.objs.size):=by
  have:=Heap.get?_push_size (hh.push PySem.W.emptyDict) (o:=PySem.W.instObj C hh.objs.size) rfl
  rwa [Heap.size_push] at this
 have t1:PySem.W.Looks (model X.prog X.w) ((hh.push PySem.W.emptyDict).push (PySem.W.instObj C hh.objs.size)) (typeOf (.ref (hh.objs.size + 1))) (.ref C):=(PySem.W.Looks.ld e2).andThen .now
 have t2:PySem.W.Looks (model X.prog X.w) ((hh.push PySem.W.emptyDict).push (PySem.W.instObj C hh.objs.size)) (isInstance (.ref (hh.objs.size + 1)) (.type "object")) true:=t1.andThen (Y.top.keeps λb o e=>Heap.get?_push_of_some _ (Heap.get?_push_of_some _ e))
 refine codeAny_call_builtin PySem.W.oi_plain PySem.W.entry_oi (@PySem.W.check_slot (model X.prog X.w) _ _ _ "object.__init__" "object" "__init__" (.ref (hh.objs.size + 1)) [] [] _ PySem.W.oi_kind PySem.W.oi_split t2 (PySem.W.oi_args (.ref (hh.objs.size + 1))) ?_)
 rw [PySem.W.oi_run]
 exact wpAny_pure ⟨rfl,⟨V.ref (hh.objs.size + 1),_,I2,rfl,hq⟩⟩
end
end L2
namespace L2
open PySem PySem.Spec PyProof.Rows
section
variable {X:Cx}
def Nr:V -> Option Int -> Option Int -> Hp -> VK -> Prop:=λx lo hi H Q=>∃ z,x = .str z /\ z.length <= sizeLine /\ Q (.str (Txt.slice z lo hi)) H
theorem part_of {v:Value} {o:Option Int} (h:IsPart v o):∃ l:Option (Int × Tok),v = partValue l /\ l.map (·.1) = o:=by
 cases h with
 | none=>exact ⟨none,rfl,rfl⟩
 | int i t=>exact ⟨some (i,t),rfl,rfl⟩
theorem gw:QS X Nr:=by
 intro pins s Z H x v vl vu lo hi sl Q I rx hs pl pu h
 obtain ⟨z,rfl,hz,q⟩:=h
 obtain ⟨t,rfl⟩:=rx
 obtain ⟨l,rfl,rfl⟩:=part_of pl
 obtain ⟨u,rfl,rfl⟩:=part_of pu
 refine ⟨"str",_,F.slot_str_getitem.lookup,typeIs_str _ _ _,wpAny_getItem_str_slice (l:=l) (u:=u) (st:=none) (by obtain ⟨o,e,c,d⟩:=hs;exact ⟨o,e,c,d⟩) rfl ?_⟩
 exact post_val_or_str ⟨Nat.le_trans (Txt.slice_le z _ _) hz,λt' k=>⟨.str _,H,I.tok _,⟨t',rfl⟩,q⟩⟩
end
end L2
namespace L2
open PySem PySem.Spec PyProof.Rows
section
variable {X:Cx} {D:Ends} {st:Stmt} {rest sts:List Stmt} {t:TS} {Z:St} {H:Hp}
theorem aG (R:St -> Hp -> Prop) (h:PS X st t) (q:t { D with nx:=R } Z H) (r:∀ Z H,R Z H -> At X D rest Z H):At X D (st :: rest) Z H:=λpins s I =>
 (vW h (u:=λD' Z H=>D' = D /\ R Z H) (λpins s Z H D' I ⟨e,z⟩=>by subst e;exact r Z H z pins s I)) pins s Z H D I (by
  have e:(λZ H=>D = D /\ R Z H) = R:=by funext Z H;simp
  show t { D with nx:=λZ H=>D = D /\ R Z H } Z H
  rw [e];exact q)
theorem Ms {CX:Ac} {P:Program} {w:World} {K:PySem.W.Frag} {mg:Str -> Option Value} {base:Heap} {N:List Str} {qual:Str} {scope:Scope} {f:Addr} {cd:Value} {A:Around} {outer:List Env} {s:Shared} {H:Hp} {E:XK} :
  (Ak CX P w K mg base N qual scope f cd A outer s H E).K = K:=rfl
end
end L2
namespace L2
open PySem PySem.Spec PyProof.Rows
theorem jk {caps:List (Str × Nat)} {lo:Int} {n:Nat} {te:TE} {Z:St} {H:Hp} {Q:VK} (Pv:Nat -> List V -> Hp -> Prop) (h0:Pv 0 [] H) (hn:n < sizeLine)
  (hs:∀ i ys H,i < n -> ys.length = i -> Pv i ys H -> te (kW caps Z ++ [some (.int (lo + i))]) H λy H2=>∃ m',m' < n - i /\ m' = n - (i + 1) /\ i + 1 <= n /\ (ys ++ [y]).length = i + 1 /\ Pv (i + 1) (ys ++ [y]) H2) (hd:∀ ys H,ys.length = n -> Pv n ys H -> ∀ D,H D = none -> Q (.ref D) (upd H D (.lst ys))) :
  BS (Jq lo n) caps te Z H Q:=by
 refine ⟨λi m ys H=>m = n - i /\ i <= n /\ ys.length = i /\ Pv i ys H,⟨n,by simp,Nat.zero_le _,rfl,h0⟩,?_⟩
 rintro i m ys H ⟨rfl,hi,hl,p⟩
 by_cases hlt:i < n
 ·refine .inr ⟨hlt,by lia,λx H' y=>?_⟩
  obtain ⟨e,y⟩:=y
  subst e y
  exact hs i ys _ hlt hl p
 ·have e:i = n:=by lia
  subst e
  exact .inl ⟨Nat.le_refl _,hd ys H hl p⟩
theorem gx {K:PySem.W.Frag} {a:Addr} {xs:List V} {caps:List (Str × Nat)} {te:TE} {Z:St} {H:Hp} {Q:VK} (Pv:Nat -> List V -> Hp -> Prop) (h0:Pv 0 [] H) (hn:xs.length < sizeLine)
  (hq:∀ i ys H,i <= xs.length -> Pv i ys H -> bf K H a xs)
  (hs:∀ i x ys H,xs[i]? = some x -> ys.length = i -> Pv i ys H -> te (kW caps Z ++ [some x]) H λy H2=>∃ m',m' < xs.length - i /\ m' = xs.length - (i + 1) /\ i + 1 <= xs.length /\ (ys ++ [y]).length = i + 1 /\ Pv (i + 1) (ys ++ [y]) H2) (hd:∀ ys H,ys.length = xs.length -> Pv xs.length ys H -> ∀ D,H D = none -> Q (.ref D) (upd H D (.lst ys))) :
  BS (L3 K a) caps te Z H Q:=by
 refine ⟨λi m ys H=>m = xs.length - i /\ i <= xs.length /\ ys.length = i /\ Pv i ys H,⟨xs.length,by simp,Nat.zero_le _,rfl,h0⟩,?_⟩
 rintro i m ys H ⟨rfl,hi,hl,p⟩
 have q:=hq i ys H hi p
 by_cases hlt:i < xs.length
 ·refine .inr ⟨⟨xs,xs[i],q,by simp [hlt]⟩,by lia,λx H' y=>?_⟩
  obtain ⟨e,y⟩:=y
  subst e
  exact hs i x ys _ (y xs q) hl p
 ·have e:i = xs.length:=by lia
  subst e
  exact .inl ⟨⟨xs,q,Nat.le_refl _⟩,hd ys H hl p⟩
theorem dh {n i:Nat} {ys:List V} {y:V} {R:Prop} (hi:i < n) (hl:ys.length = i) (r:R):∃ m',m' < n - i /\ m' = n - (i + 1) /\ i + 1 <= n /\ (ys ++ [y]).length = i + 1 /\ R :=
 ⟨n - (i + 1),by lia,rfl,hi,by simp [hl],r⟩
theorem kP {α:Type} (xs:List α) {i:Int} (h0:0 <= i) (h1:i < xs.length):∃ v,xs[i.toNat]? = some v /\ rA xs i = some v:=by
 have h3:i.toNat < xs.length:=by lia
 refine ⟨xs[i.toNat],List.getElem?_eq_getElem h3,?_⟩
 have q:=aQ (xs:=xs) (List.getElem?_eq_getElem h3)
 rw [Int.toNat_of_nonneg h0] at q
 exact q
theorem jL (a:Int) {m:Int} (h:0 < m):0 <= a % m /\ a % m < m:=⟨Int.emod_nonneg _ (by lia),Int.emod_lt_of_pos _ h⟩
theorem b7 {n:Nat} (h:n <= 1000000):n <= sizeLine:=Nat.le_trans h (by decide)
theorem cZ {n:Nat} (h:n <= 1000000):n < sizeLine:=Nat.lt_of_le_of_lt h (by decide)
theorem IY {K:PySem.W.Frag} {i:Nat} {f:Str} {Z:St} {H:Hp} {Q:VK} {a C dx:Addr} {fs:List (Str × V)} {v:V} (e:Z[i]? = some (some (.ref a))) (h:H a = some (.ins C dx fs)) (c:nB K C) (n:cz K C f) (l:fs.lookup f = some v) (q:Q v H):LW K (Hw i) f Z H Q :=
 ⟨_,e,a,C,dx,fs,v,rfl,h,c,n,l,q⟩
def El (J:It) (g:TG) (tb:TS) (D:Ends) (Z:St) (H1:Hp):Prop:=∃ W:Nat -> Nat -> St -> Hp -> Prop,(∃ m,W 0 m Z H1) /\ ∀ i m Z H,W i m Z H ->
 (J.stop i H /\ D.nx Z H) ∨ (J.go i H /\ ∃ N:St -> Hp -> Prop,(∀ Z' H',N Z' H' -> ∃ m',m' < m /\ W (i + 1) m' Z' H') /\ ∀ x H',J.Nm i H x H' -> g x Z H' λZ2 H2=>tb { D with nx:=N,ct:=N,bk:=D.nx } Z2 H2)
def Og (wi:TI) (g:TG) (tb:TS):TS:=λD Z H=>wi Z H λJ H1=>El J g tb D Z H1
theorem dj {X:Cx} {tg iter:Expr} {body:List Stmt} {wi:TI} {g:TG} {tb:TS} {pos:Pos} (hp:PassesOwn (model X.prog X.w) X.A X.env X.xe) (hc:X.calm = true) (hi:PI X tg iter wi) (hg:PG X tg g) (hb:AU X body tb)
  (hs:∀ x,foldedSetIterable iter X.env x = pure x:=by intro _;rfl):PS X (.For tg iter body [] pos) (Og wi g tb):=L6 hp hc hi hg hb hs
theorem fX {lo:Int} {n:Nat} {g:TG} {tb:TS} {D:Ends} {Z:St} {H:Hp} (Pv:Nat -> St -> Hp -> Prop) (h0:Pv 0 Z H)
  (hs:∀ i Z H,i < n -> Pv i Z H -> g (.int (lo + i)) Z H λZ2 H2=>tb { D with nx:=Pv (i + 1),ct:=Pv (i + 1),bk:=D.nx } Z2 H2) (hd:∀ Z H,Pv n Z H -> D.nx Z H):El (Jq lo n) g tb D Z H:=Cr Pv h0 hs hd
theorem gE {K:PySem.W.Frag} {a:Addr} {xs:List V} {g:TG} {tb:TS} {D:Ends} {Z:St} {H:Hp} (Pv:Nat -> St -> Hp -> Prop) (h0:Pv 0 Z H) (hl:∀ i Z H,i <= xs.length -> Pv i Z H -> bf K H a xs)
  (hs:∀ i x Z H,xs[i]? = some x -> Pv i Z H -> g x Z H λZ2 H2=>tb { D with nx:=Pv (i + 1),ct:=Pv (i + 1),bk:=D.nx } Z2 H2) (hd:∀ Z H,Pv xs.length Z H -> D.nx Z H):El (L3 K a) g tb D Z H:=Ef Pv h0 hl hs hd
end L2
namespace L2
open PySem PySem.Spec PyProof.Rows
section
variable {κ:Type} [DecidableEq κ]
def iM (kvs:List (κ × V)) (k:κ):Option V:=(kvs.find? λkv=>decide (kv.1 = k)).map (·.2)
def putK (kvs:List (κ × V)) (k:κ) (v:V):List (κ × V) :=
 if (kvs.any λkv=>decide (kv.1 = k)) = true then kvs.map (λkv=>if kv.1 = k then (kv.1,v) else kv) else kvs ++ [(k,v)]
theorem fm {p:κ × V} {r:List (κ × V)} {k:κ} (e:p.1 = k):iM (p :: r) k = some p.2:=by simp [iM,List.find?_cons,e]
theorem fc {p:κ × V} {r:List (κ × V)} {k:κ} (e:¬ p.1 = k):iM (p :: r) k = iM r k:=by simp [iM,List.find?_cons,e]
theorem jQ (k:κ):∀ kvs:List (κ × V),(kvs.any λkv=>decide (kv.1 = k)) = (iM kvs k).isSome
 | []=>rfl
 | p :: r=>by
  rw [List.any_cons]
  by_cases e:p.1 = k
  ·simp only [fm e,decide_eq_true e,Bool.true_or,Option.isSome_some]
  ·rw [fc e,decide_eq_false e,Bool.false_or];exact jQ k r
theorem w9 (k j:κ) (y:V):∀ kvs:List (κ × V),iM (kvs.map λkv=>if kv.1 = k then (kv.1,y) else kv) j = (iM kvs j).map λx=>if j = k then y else x
 | []=>rfl
 | p :: r=>by
  have ih:=w9 k j y r
  rw [List.map_cons]
  by_cases h:p.1 = k
  ·rw [if_pos h]
   by_cases e:p.1 = j
   ·rw [fm (p:=(p.1,y)) e,fm e,Option.map_some,if_pos (e.symm.trans h)]
   ·rw [fc (p:=(p.1,y)) e,fc e,ih]
  ·rw [if_neg h]
   by_cases e:p.1 = j
   ·rw [fm (p:=p) e,fm e,Option.map_some,if_neg (λz=>h (e.trans z))]
   ·rw [fc (p:=p) e,fc e,ih]
theorem tM (k j:κ) (y:V):∀ kvs:List (κ × V),iM kvs k = none -> iM (kvs ++ [(k,y)]) j = if j = k then some y else iM kvs j
 | [],_=>by
  by_cases e:k = j
  ·rw [if_pos e.symm];exact fm (p:=(k,y)) e
  ·rw [if_neg (λz=>e z.symm)];exact fc (p:=(k,y)) e
 | p :: r,hn=>by
  rw [List.cons_append]
  have hk:¬ p.1 = k:=λz=>by rw [fm z] at hn;cases hn
  rw [fc hk] at hn
  have ih:=tM k j y r hn
  by_cases e:p.1 = j
  ·rw [fm e,fm e,if_neg (λz=>hk (e.trans z))]
  ·rw [fc e,fc e,ih]
theorem xA (kvs:List (κ × V)) (k j:κ) (y:V):iM (putK kvs k y) j = if j = k then some y else iM kvs j:=by
 unfold putK
 by_cases a:(kvs.any λkv=>decide (kv.1 = k)) = true
 ·rw [if_pos a,w9]
  rw [jQ] at a
  by_cases e:j = k
  ·obtain ⟨x,hx⟩:=Option.isSome_iff_exists.mp a
   rw [if_pos e,e,hx,Option.map_some,if_pos rfl]
  ·rw [if_neg e]
   cases iM kvs j with
   | none=>rfl
   | some x=>rw [Option.map_some,if_neg e]
 ·rw [if_neg a]
  refine tM k j y kvs ?_
  rw [jQ] at a
  cases q:iM kvs k with
  | none=>rfl
  | some x=>rw [q] at a;exact (a rfl).elim
theorem nX (kvs:List (κ × V)) (k:κ) (v:V):(putK kvs k v).length <= kvs.length + 1:=by
 unfold putK
 split
 ·rw [List.length_map];lia
 ·rw [List.length_append,List.length_cons,List.length_nil];lia
theorem kr.m6 {o:Option V} {u:Option Value} (r:kr o u):o.isSome = u.isSome:=by
 cases o with
 | none=>cases u with
  | none=>rfl
  | some _=>exact (show False from r).elim
 | some _=>cases u with
  | none=>exact (show False from r).elim
  | some _=>rfl
theorem kr.getD {o:Option V} {u:Option Value} {d:V} {d':Value} (r:kr o u) (rd:RelV d d'):RelV (o.getD d) (u.getD d'):=by
 cases o with
 | none=>cases u with
  | none=>exact rd
  | some _=>exact (show False from r).elim
 | some _=>cases u with
  | none=>exact (show False from r).elim
  | some _=>exact r
theorem KV.val {kvs:List (κ × V)} {vs:List (κ × Value)} (r:KV kvs vs) (k:κ):kr (iM kvs k) (valueAt vs k):=by
 unfold KV at r
 induction r with
 | nil=>exact True.intro
 | @cons p q ps qs h t ih =>
  obtain ⟨h1,h2⟩:=h
  by_cases e:p.1 = k
  ·have e':q.1 = k:=h1.symm.trans e
   have b:valueAt (q :: qs) k = some q.2:=by simp [valueAt,List.find?_cons,e']
   rw [fm e,b];exact h2
  ·have e':¬ q.1 = k:=λz=>e (h1.trans z)
   have b:valueAt (q :: qs) k = valueAt qs k:=by simp [valueAt,List.find?_cons,e']
   rw [fc e,b];exact ih
theorem KV.any {kvs:List (κ × V)} {vs:List (κ × Value)} (r:KV kvs vs) (k:κ):(kvs.any λkv=>decide (kv.1 = k)) = vs.any λkv=>decide (kv.1 = k):=by
 unfold KV at r
 induction r with
 | nil=>rfl
 | cons h t ih=>rw [List.any_cons,List.any_cons,ih,h.1]
theorem KV.repl {kvs:List (κ × V)} {vs:List (κ × Value)} (r:KV kvs vs) (k:κ) {y:V} {u:Value} (ry:RelV y u) :
  KV (kvs.map λkv=>if kv.1 = k then (kv.1,y) else kv) (vs.map λkv=>if kv.1 = k then (kv.1,u) else kv):=by
 unfold KV at r ⊢
 induction r with
 | nil=>exact .nil
 | @cons p q ps qs h t ih =>
  rw [List.map_cons,List.map_cons]
  refine .cons ?_ ih
  obtain ⟨h1,h2⟩:=h
  by_cases e:p.1 = k
  ·rw [if_pos e,if_pos (h1.symm.trans e)];exact ⟨h1,ry⟩
  ·rw [if_neg e,if_neg (λz=>e (h1.trans z))];exact ⟨h1,h2⟩
theorem KV.put {kvs:List (κ × V)} {vs:List (κ × Value)} (r:KV kvs vs) (k:κ) {y:V} {u:Value} (ry:RelV y u):KV (putK kvs k y) (stored vs k u):=by
 unfold putK stored
 rw [r.any k]
 by_cases e:(vs.any λkv=>decide (kv.1 = k)) = true
 ·rw [if_pos e,if_pos e];exact r.repl k ry
 ·rw [if_neg e,if_neg e];exact Paired.snoc r ⟨rfl,ry⟩
theorem KV.length {kvs:List (κ × V)} {vs:List (κ × Value)} (r:KV kvs vs):kvs.length = vs.length:=Paired.length r
end
theorem By {P:Program} {w:World} {k:Key} {u:Value} (r:RelV (kV k) u):(dP P w).is k u = true:=by
 cases k with
 | inl i=>obtain ⟨t,e⟩:=(show ∃ t,u = Value.int i t from r);subst e;exact vF P w i t
 | inr x=>obtain ⟨t,e⟩:=(show ∃ t,u = Value.str x t from r);subst e;exact vK P w x t
theorem tS {P:Program} {w:World}:∀ {ks:List Key} {us:List Value},Vals (ks.map kV) us -> ItemsAre (dP P w) ks us
 | [],_,r=>by rw [List.map_nil] at r;cases r;exact .nil
 | k :: ks,_,r=>by
  rw [List.map_cons] at r
  cases r with
  | cons h t=>exact .cons (By h) (tS t)
abbrev KT (H:Hp):List (List Key × V) -> List (List Key × Addr × Value) -> Prop:=Paired λp q=>p.1 = q.1 /\ H q.2.1 = some (.tup (p.1.map kV)) /\ RelV p.2 q.2.2
theorem KT.val {H:Hp} {kvs:List (List Key × V)} {xs:List (List Key × Addr × Value)} (r:KT H kvs xs) (k:List Key):kr (iM kvs k) ((atKey xs k).map (·.2)):=by
 induction r with
 | nil=>exact True.intro
 | @cons p q ps qs h t ih =>
  obtain ⟨h1,_,h2⟩:=h
  by_cases e:p.1 = k
  ·have e':q.1 = k:=h1.symm.trans e
   have b:atKey (q :: qs) k = some q.2:=by simp [atKey,List.find?_cons,e']
   rw [fm e,b];exact h2
  ·have e':¬ q.1 = k:=λz=>e (h1.trans z)
   have b:atKey (q :: qs) k = atKey qs k:=by simp [atKey,List.find?_cons,e']
   rw [fc e,b];exact ih
theorem KT.repl {H:Hp} {kvs:List (List Key × V)} {xs:List (List Key × Addr × Value)} (r:KT H kvs xs) (k:List Key) {y:V} {u:Value} (ry:RelV y u) :
  KT H (kvs.map λkv=>if kv.1 = k then (kv.1,y) else kv) (xs.map (putAt k u)):=by
 induction r with
 | nil=>exact .nil
 | @cons p q ps qs h t ih =>
  rw [List.map_cons,List.map_cons]
  refine .cons ?_ ih
  obtain ⟨h1,h2,h3⟩:=h
  unfold putAt
  by_cases e:p.1 = k
  ·rw [if_pos e,if_pos (h1.symm.trans e)];exact ⟨h1,h2,ry⟩
  ·rw [if_neg e,if_neg (λz=>e (h1.trans z))];exact ⟨h1,h2,h3⟩
theorem KT.put {H:Hp} {kvs:List (List Key × V)} {xs:List (List Key × Addr × Value)} (r:KT H kvs xs) (k:List Key) {b:Addr} {y:V} {u:Value} (hb:H b = some (.tup (k.map kV))) (ry:RelV y u) :
  KT H (putK kvs k y) (storedH xs k b u):=by
 have e:(kvs.any λkv=>decide (kv.1 = k)) = (atKey xs k).isSome:=by
  rw [jQ,(r.val k).m6,Option.isSome_map]
 unfold putK storedH
 rw [e]
 by_cases q:(atKey xs k).isSome = true
 ·rw [if_pos q,if_pos q];exact r.repl k ry
 ·rw [if_neg q,if_neg q];exact Paired.snoc r ⟨rfl,hb,ry⟩
theorem KT.keeps {H H':Hp} {kvs:List (List Key × V)} {xs:List (List Key × Addr × Value)} (r:KT H kvs xs) (ht:∀ b ys,H b = some (.tup ys) -> H' b = some (.tup ys)):KT H' kvs xs :=
 Paired.KS r λ_ _ z=>⟨z.1,ht _ _ z.2.1,z.2.2⟩
section
variable {P:Program} {w:World} {H:Hp} {h:Heap} {a:Addr}
theorem Jt {u:HO} (ok:kD P w H h) (e:Rd H a u):c5 P w H h a u:=e.ok ok
theorem xC {kvs:List (Key × V)} (ok:kD P w H h) (e:Rd H a (.dK kvs)):kvs.length <= sizeLine /\ (a == sysModules) = false /\ ∃ vs,KV kvs vs /\ h.DictOf (dP P w) a vs :=
 show c5 P w H h a (.dK kvs) from Jt ok e
theorem Nv {kvs:List (Key × V)} (ok:kD P w H h) (e:H a = some (.dK kvs)):kvs.length <= sizeLine /\ (a == sysModules) = false /\ ∃ vs,KV kvs vs /\ h.DictOf (dP P w) a vs:=xC ok (.inl e)
theorem vn {ks:List Key} (ok:kD P w H h) (e:H a = some (.tup (ks.map kV))):(tupleKind (dP P w)).is h ks a:=by
 obtain ⟨_,its,r,o,h1,h2,n,h3⟩:=(show c5 P w H h a (.tup (ks.map kV)) from ok a _ e)
 exact ⟨o,its.toArray,n,h1,h2,h3,by simpa using tS r⟩
theorem Bg {kvs:List (List Key × V)} (ok:kD P w H h) (e:Rd H a (.dT kvs)):kvs.length <= sizeLine /\ (a == sysModules) = false /\
  ∃ xs,KT H kvs xs /\ h.DictOfH (tupleKind (dP P w)) a xs:=by
 obtain ⟨z,y,xs,r,o,es,ep,h1,h2,h3,h4,h5⟩:=(show c5 P w H h a (.dT kvs) from Jt ok e)
 refine ⟨z,y,xs,r,o,es,ep,h1,h2,h3,h4,λx hx=>?_,h5⟩
 have all:∀ {l:List (List Key × V)} {m:List (List Key × Addr × Value)},KT H l m -> ∀ x ∈ m,(tupleKind (dP P w)).is h x.1 x.2.1:=by
  intro l m q
  induction q with
  | nil=>intro x hx;exact nomatch hx
  | @cons p q ps qs hq t ih =>
   intro x hx
   rcases List.mem_cons.mp hx with e | hx
   ·subst e
    exact vn ok (by rw [← hq.1];exact hq.2.1)
   ·exact ih x hx
 exact all r x hx
theorem N4 {kvs:List (List Key × V)} (ok:kD P w H h) (e:H a = some (.dT kvs)):kvs.length <= sizeLine /\ (a == sysModules) = false /\
  ∃ xs,KT H kvs xs /\ h.DictOfH (tupleKind (dP P w)) a xs:=Bg ok (.inl e)
end
def xj (H:Hp) (a:Addr) (y:V) (r:Option V):Prop :=
 (∃ kvs k,Rd H a (.dK kvs) /\ y = kV k /\ r = iM kvs k) ∨ ∃ kvs k b,Rd H a (.dT kvs) /\ y = .ref b /\ H b = some (.tup (k.map kV)) /\ r = iM kvs k
def EJ (H:Hp) (a:Addr) (y v:V) (H':Hp):Prop :=
 (∃ kvs k,H a = some (.dK kvs) /\ y = kV k /\ kvs.length < sizeLine /\ H' = upd H a (.dK (putK kvs k v))) ∨
 ∃ kvs k b,H a = some (.dT kvs) /\ y = .ref b /\ H b = some (.tup (k.map kV)) /\ kvs.length < sizeLine /\ H' = upd H a (.dT (putK kvs k v))
theorem xj.k {H:Hp} {a:Addr} {kvs:List (Key × V)} {k:Key} (e:H a = some (.dK kvs)):xj H a (kV k) (iM kvs k):=.inl ⟨kvs,k,.inl e,rfl,rfl⟩
theorem EJ.k {H:Hp} {a:Addr} {kvs:List (Key × V)} {k:Key} {v:V} (e:H a = some (.dK kvs)) (hl:kvs.length < sizeLine):EJ H a (kV k) v (upd H a (.dK (putK kvs k v))):=.inl ⟨kvs,k,e,rfl,hl,rfl⟩
section
variable {X:Cx} {pins:List (Addr × Obj)} {Z:St} {H:Hp} {s:Shared} {a:Addr} {y v:V} {u r:Value} {o:Option V} {A:Around} {E:Value -> Shared -> Prop}
theorem Inv.big (I:Inv X pins Z H s):sysModules < s.heap.objs.size:=by
 have h:mainGlobals < s.heap.objs.size:=(I.mod.glob.keeps I.bk).lt
 exact Nat.lt_trans (by decide) h
theorem Iz {Q:Value -> Shared -> Prop} (hu:A.units + 1 < cLine) (I:Inv X pins Z H s) (g:xj H a y o) (ry:RelV y u) (h:∀ s',Inv X pins Z H s' -> Q (.bool (!o.isSome)) s') :
  wpAny (model X.prog X.w) A (compareOp .NotIn u (.ref a)) Q E s:=by
 rcases g with ⟨kvs,k,e,ey,l⟩ | ⟨kvs,k,b,e,ey,eb,l⟩
 ·subst ey
  obtain ⟨z,hd,vs,rel,dd⟩:=xC I.hok e
  refine wpAny_notIn_of (By ry) hd dd.mapOf ?_
  rw [← (rel.val k).m6,← l]
  exact h _ (I.tok _)
 ·subst ey
  cases (show u = Value.ref b from ry)
  obtain ⟨z,hd,xs,rel,dd⟩:=Bg I.hok e
  refine wpAny_notIn_heap (tupleKind_room_in1 hu) (vn I.hok eb) hd dd ?_
  have q:=(rel.val k).m6
  rw [Option.isSome_map] at q
  rw [← q,← l]
  exact h _ (I.tok _)
theorem Bb {h':Heap} {t':Nat} {ob:HO} (I:Inv X pins Z H s) (mu:Oh (H a)) (hs:Heap.SameBut a s.heap h') (he:∃ q,h'.get? a = some q) (new:c5 X.prog X.w (upd H a ob) h' a ob) :
  Inv X pins Z (upd H a ob) { s with heap:=h',toks:=t' } :=
 I.write (x:=a) (e:=a) mu (.inl rfl) (λb q hb z=>(hs.2 b hb).trans z) he new
theorem Lx {P:Program} {w:World} {H':Hp} {h':Heap} {kvs:List (Key × V)} {vs:List (Key × Value)} (z:kvs.length <= sizeLine) (hd:(a == sysModules) = false) (rel:KV kvs vs) (dd:h'.DictOf (dP P w) a vs) :
  c5 P w H' h' a (.dK kvs):=⟨z,hd,vs,rel,dd⟩
theorem Ct {H':Hp} {Q:Unit -> Shared -> Prop} (hu:A.units + 1 < cLine) (I:Inv X pins Z H s) (g:EJ H a y v H') (ry:RelV y u) (rv:RelV v r) (h:∀ s',Inv X pins Z H' s' -> Q () s') :
  wpAny (model X.prog X.w) A (setItem (.ref a) u r) Q E s:=by
 rcases g with ⟨kvs,k,e,ey,l,eH⟩ | ⟨kvs,k,b,e,ey,eb,l,eH⟩
 ·subst ey eH
  obtain ⟨z,hd,vs,rel,dd⟩:=Nv I.hok e
  have hz:vs.length <= sizeLine:=by rw [← rel.length];exact z
  have hl:(putK kvs k v).length <= sizeLine:=by have:=nX kvs k v;lia
  refine wpAny_setItem_pairs (hsz:=hz) (By ry) dd λh' dd' hs=>h _ ?_
  have he:∃ q,h'.get? a = some q:=let ⟨q,_,_,hq,_⟩:=dd';⟨q,hq⟩
  exact Bb I (by rw [e];exact True.intro) hs he (Lx hl hd (rel.put k rv) dd')
 ·subst ey eH
  cases (show u = Value.ref b from ry)
  obtain ⟨z,hd,xs,rel,dd⟩:=N4 I.hok e
  have hz:xs.length <= sizeLine:=by rw [← Paired.length rel];exact z
  have hl:(putK kvs k v).length <= sizeLine:=by have:=nX kvs k v;lia
  refine wpAny_setItem_heap (hsz:=hz) (tupleKind_room_in1 hu) (vn I.hok eb) dd λh' dd' hs=>h _ ?_
  obtain ⟨q,es,ep,hq,h2,h3,h4,_,h5⟩:=dd'
  refine Bb I (by rw [e];exact True.intro) hs ⟨q,hq⟩ ⟨hl,hd,_,(rel.put k eb rv).keeps λc ys ec=>?_,q,es,ep,hq,h2,h3,h4,h5⟩
  rw [au (cA ec e (λz=>nomatch z))]
  exact ec
end
section
variable {X:Cx} {pins:List (Addr × Obj)} {Z:St} {H:Hp} {s:Shared} {a:Addr} {kvs:List (Key × V)} {k:Key} {u:Value} {A:Around} {E:Value -> Shared -> Prop}
theorem NC {Q:Value -> Shared -> Prop} (I:Inv X pins Z H s) (e:Rd H a (.dK kvs)) (h:∀ t s',Inv X pins Z H s' -> Q (.int kvs.length t) s'):wpAny (model X.prog X.w) A (call (.builtin "len") [.ref a]) Q E s:=by
 obtain ⟨z,hd,vs,rel,dd⟩:=xC I.hok e
 refine call_len_dict hd dd (by rw [← rel.length];rw [sizeLine_eq] at z;lia) ?_
 rw [← rel.length]
 exact h _ _ (I.tok _)
end
def Jc (ty td:TE):TE:=λZ H Q=>ty Z H λy H1=>td Z H1 λx H2=>∃ a o,x = .ref a /\ xj H2 a y o /\ Q (.bl (!o.isSome)) H2
def OM (td ty tv:TE):TS:=λD Z H=>tv Z H λv H1=>td Z H1 λx H2=>ty Z H2 λy H3=>∃ a H4,x = .ref a /\ EJ H3 a y v H4 /\ D.nx Z H4
section
variable {X:Cx} {o i e value:Expr} {pos pos' tpos:Pos} {td ty tv:TE}
theorem CO (hu:X.A.units + 1 < cLine) (hi:PE X i ty) (ho:PE X o td):PC X .NotIn i o (Jc ty td):=by
 intro pins s Z H Q I h
 refine dN (hi pins s Z H _ I h) λiv s1 ⟨y,H1,I1,ry,q1⟩=>dN (ho pins s1 Z H1 _ I1 q1) λu s2  hZ=>?_
 obtain ⟨x,H2,I2,rx,a,ov,ex,g,q2⟩:=hZ
 subst ex
 obtain rfl:u = Value.ref a:=rx
 exact Iz hu I2 g ry λs3 I3=>⟨.bl (!ov.isSome),H2,I3,rfl,q2⟩
theorem Jf (hu:X.A.units + 1 < cLine) (ho:PE X o td) (hi:PE X i ty) (hv:PE X value tv) (hs:swapsWith value (some (.Subscript o i pos')) pos.line X.env = pure false) :
  PS X (.Assign [.Subscript o i pos'] value pos) (OM td ty tv):=by
 intro pins s Z H D I h
 refine wpAny_Assign_Subscript (dN (hv pins s Z H _ I h) λr s1 ⟨v,H1,I1,rv,q1⟩=>dN (ho pins s1 Z H1 _ I1 q1) λu s2 ⟨x,H2,I2,rx,q2⟩=>dN (hi pins s2 Z H2 _ I2 q2) λiv s3 hY=>?_) hs
 obtain ⟨y,H3,I3,ry,a,H4,ex,g,q3⟩:=hY
 subst ex
 obtain rfl:u = Value.ref a:=rx
 exact Ct hu I3 g ry rv λs4 I4=>⟨Z,H4,I4,q3⟩
end
theorem G4 {P:Program} {w:World} {H:Hp} (h:Heap) (hb:sysModules < h.objs.size):c5 P w H (h.push { cls:=.type "dict",data:=.dict #[] }) h.objs.size (.dK []) :=
 ⟨Nat.zero_le _,beq_eq_false_iff_ne.mpr (Ne.symm (Nat.ne_of_lt hb)),[],.nil,Heap.DictOf.new h⟩
def Mh:TE:=λ_ H Q=>∀ p,H p = none -> Q (.ref p) (upd H p (.dK []))
section
variable {X:Cx} {pos:Pos}
theorem GD:PE X (.Dict [] [] pos) Mh:=λpins s Z H Q I h =>
 wpAny_Dict_empty ⟨.ref s.heap.objs.size,_,I.laid (a:=s.heap.objs.size) (o:=.dK []) (t':=s.toks) (λ_ _ q=>Heap.get?_push_of_some _ q) (Nat.le_refl _) (G4 s.heap I.big),rfl,h _ (I.hok.fresh (Nat.le_refl _))⟩
end
structure M1 (X:Cx) (o:Expr) (m:Str) (apos:Pos) (e:Expr) (cpos:Pos):Prop where
 base:attributeBase o m X.env (eval o X.env) = eval o X.env
 few:((backTo cpos (starEach [e] X.env)).all (λx=>!x.1) && (backToKw cpos (keywordEach [] X.env)).all (λx=>x.1.isSome)
  && decide (([e]:List Expr).length + ([]:List Keyword).length + (if ([]:List Keyword).isEmpty then 0 else 1) < 30)) = true
 line:(apos.endLine == cpos.line) = true
 trees:backTo cpos (starEach [e] X.env) = [(false,eval e X.env)]
def IsD (H:Hp) (a:Addr):Prop:=(∃ kvs,Rd H a (.dK kvs)) ∨ ∃ kvs,Rd H a (.dT kvs)
theorem Nj {X:Cx} {pins:List (Addr × Obj)} {Z:St} {H:Hp} {s:Shared} {a:Addr} (I:Inv X pins Z H s) (d:IsD H a) :
  s.TypeIs (.ref a) "dict" /\ (∀ b,Value.ref a = .ref b -> ∃ ob,s.heap.get? b = some ob /\ ob.dict = none) /\ (a == sysModules) = false:=by
 rcases d with ⟨kvs,e⟩ | ⟨kvs,e⟩
 ·obtain ⟨_,hd,vs,_,dd⟩:=xC I.hok e
  refine ⟨dd.typeIs,λb q=>?_,hd⟩
  cases q
  obtain ⟨ob,_,_,h1,h2,_⟩:=dd
  exact ⟨ob,h1,h2.2.1⟩
 ·obtain ⟨_,hd,xs,_,dd⟩:=Bg I.hok e
  refine ⟨dd.typeIs,λb q=>?_,hd⟩
  cases q
  obtain ⟨ob,_,_,h1,h2,_⟩:=dd
  exact ⟨ob,h1,h2.2.1⟩
section
variable {X:Cx} {pins:List (Addr × Obj)} {Z:St} {H:Hp} {s:Shared} {a:Addr} {y d:V} {u r:Value} {o:Option V} {A:Around} {E:Value -> Shared -> Prop}
theorem L0 {Q:Value -> Shared -> Prop} (hu:A.units + 1 < cLine) (I:Inv X pins Z H s) (g:xj H a y o) (ry:RelV y u) (h:∀ w' s',Inv X pins Z H s' -> RelV (o.getD .cQ) w' -> Q w' s') :
  wpAny (model X.prog X.w) A (call (.builtin "dict.get") [.ref a,u]) Q E s:=by
 rcases g with ⟨kvs,k,e,ey,l⟩ | ⟨kvs,k,b,e,ey,eb,l⟩
 ·subst ey
  obtain ⟨z,hd,vs,rel,dd⟩:=xC I.hok e
  refine call_meetsIn PySem.F.slot_dict_get dd.typeIs PySem.F.entry_dict_get (PySem.F.args_dict_get_2 _ _) (meets_dict_get (dP X.prog X.w) a (By ry) hd) ⟨_,dd.mapOf,h _ _ (I.tok _) ?_⟩
  rw [l]
  exact (rel.val k).getD rfl
 ·subst ey
  cases (show u = Value.ref b from ry)
  obtain ⟨z,hd,xs,rel,dd⟩:=Bg I.hok e
  refine call_meetsIn PySem.F.slot_dict_get dd.typeIs PySem.F.entry_dict_get (PySem.F.args_dict_get_2 _ _) (meetsH_dict_get (tupleKind (dP X.prog X.w)) a b hd) ⟨tupleKind_room_in1 hu,k,xs,vn I.hok eb,dd,h _ _ (I.tok _) ?_⟩
  rw [l]
  exact (rel.val k).getD rfl
end
def LU (td ty:TE):TE:=λZ H Q=>td Z H λx H1=>∃ a,x = .ref a /\ IsD H1 a /\ ty Z H1 λy H2=>∃ o,xj H2 a y o /\ Q (o.getD .cQ) H2
section
variable {X:Cx} {o e f:Expr} {apos cpos:Pos} {td ty tx:TE}
theorem C6 (hu:X.A.units + 1 < cLine) (ho:PE X o td) (he:PE X e ty) (m:M1 X o "get" apos e cpos):PE X (.Call (.Attribute o "get" apos) [e] [] cpos) (LU td ty):=by
 intro pins s Z H Q I h
 refine wpAny_Call_method m.base m.few m.line PySem.F.plainAttrs_dict PySem.F.slot_dict_get PySem.F.type_dict_get (dN (ho pins s Z H _ I h) λu s1  hZ=>?_)
 obtain ⟨x,H1,I1,rx,a,ex,d,q1⟩:=hZ
 subst ex
 obtain rfl:u = Value.ref a:=rx
 obtain ⟨t1,t2,_⟩:=Nj I1 d
 refine ⟨t1,t2,?_⟩
 rw [m.trees]
 refine Calls.callWith_builtin rfl (Calls.evalArgs_plain (Calls.spliced_cons (dN (he pins s1 Z H1 _ I1 q1) λiv s2 ⟨y,H2,I2,ry,ov,g,q2⟩=>Calls.spliced_nil ?_)))
 exact L0 hu I2 g ry λw' s3 I3 rw'=>⟨_,H2,I3,rw',q2⟩
end
section
variable {X:Cx} {pins:List (Addr × Obj)} {Z:St} {H:Hp} {s:Shared} {a:Addr} {kvs:List (Key × V)} {A:Around} {E:Value -> Shared -> Prop}
end
section
variable {X:Cx} {pins:List (Addr × Obj)} {Z:St} {H:Hp} {s:Shared} {a:Addr} {y:V} {u:Value} {A:Around} {E:Value -> Shared -> Prop}
end
section
variable {X:Cx}
theorem CT:jA X (.builtin "len") (λxs H Q=>∃ a kvs,xs = [V.ref a] /\ H a = some (.dK kvs) /\ Q (.int kvs.length) H):=by
 intro pins s Z H xs us Q I r h
 obtain ⟨a,kvs,rfl,ha,q⟩:=h
 obtain ⟨u,rfl,ru⟩:=vals1 r
 cases ru
 exact NC I (.inl ha) λt s' I'=>⟨.int kvs.length,H,I',⟨t,rfl⟩,q⟩
end
section
variable {κ:Type} [DecidableEq κ]
end
end L2
namespace L2
open PySem PySem.Spec PyProof.Rows
section
variable {X:Cx}
def Fw:V -> List V -> Hp -> VK -> Prop:=λx vs H Q=>∃ a b:Str,x = .str a /\ vs = [.str b] /\ (b.length == 0) = false /\ a.length + 2 <= sizeLine /\ ∀ p,H p = none -> Q (.ref p) (upd H p (.lst ((PySem.Txt.split a b).map V.str)))
theorem Co:∀ (n:Nat) (ys:List Str),Vals (ys.map V.str) (strsFrom n ys):=by
 intro n ys
 rw [strsFrom_eq]
 have aux:∀ (l:List (Str × Tok)),Vals ((l.map (·.1)).map V.str) (strValues l):=by
  intro l
  induction l with
  | nil=>exact .nil
  | cons p r ih=>exact .cons ⟨p.2,rfl⟩ ih
 have:=aux (numbered n ys)
 rwa [numbered_texts] at this
theorem jJ:Nl X "str.split" Fw:=by
 intro pins s Z H x vs v us Q I rx rv h
 obtain ⟨a,b,rfl,rfl,hb,hz,q⟩:=h
 obtain ⟨t,rfl⟩:=rx
 obtain ⟨u,rfl,ru⟩:=rv.one
 obtain ⟨t1,rfl⟩:=ru
 have q0:=q s.heap.objs.size (I.hok.fresh (Nat.le_refl _))
 have hle:=PyProof.Rows.split_le a b
 cases h1:(decide (a.length < b.length) || decide (Builtin.Str.strKind a < Builtin.Str.strKind b))
 ·cases hf:(Builtin.Str.occurrences a b 0 a.length (a.length + 1)).isEmpty
  ·have e:PySem.Txt.split a b = Builtin.Str.partsBetween a (Builtin.Str.occurrences a b 0 a.length (a.length + 1)) b.length:=by
    unfold PySem.Txt.split
    rw [if_neg (ne_true_of_eq_false h1),if_neg (ne_true_of_eq_false hf)]
   rw [e] at q0 hle
   refine call_meets F.slot_str_split (typeIs_str _ _ _) F.entry_str_split (F.args_str_split_2 _ _) (meets_str_split_sep a b t t1 h1 hb hf (by lia) (by lia)) ?_
   exact ⟨.ref _,_,I.GP (t':=_) (Co s.toks _) (by rw [List.length_map];lia),rfl,q0⟩
  ·have e:PySem.Txt.split a b = [a]:=by
    unfold PySem.Txt.split
    rw [if_neg (ne_true_of_eq_false h1),if_pos hf]
   rw [e] at q0
   refine call_meets F.slot_str_split (typeIs_str _ _ _) F.entry_str_split (F.args_str_split_2 _ _) (meets_str_split_not_found a b t t1 h1 hb hf) ?_
   exact ⟨.ref _,_,I.GP (ys:=[.str a]) (t':=s.toks) (.cons ⟨t,rfl⟩ .nil) (by show 1 <= sizeLine;decide),rfl,q0⟩
 ·have e:PySem.Txt.split a b = [a]:=by
   unfold PySem.Txt.split
   rw [if_pos h1]
  rw [e] at q0
  refine call_meets F.slot_str_split (typeIs_str _ _ _) F.entry_str_split (F.args_str_split_2 _ _) (meets_str_split_cannot_occur a b t t1 h1) ?_
  exact ⟨.ref _,_,I.GP (ys:=[.str a]) (t':=s.toks) (.cons ⟨t,rfl⟩ .nil) (by show 1 <= sizeLine;decide),rfl,q0⟩
theorem zg {bs:List Bool}:∀ {us:List Value},Vals (bs.map V.bl) us -> LSm.BoolsAre us bs:=by
 induction bs with
 | nil=>intro us r;cases r;exact .nil
 | cons y r ih =>
  intro us h
  cases h with
  | cons h t =>
   cases h
   exact .cons _ (ih t)
theorem Cm (hc:X.calm = true):jA X (.builtin "all") (λxs H Q=>∃ (p:Addr) (bs:List Bool),xs = [.ref p] /\ bf X.K H p (bs.map V.bl) /\ Q (.bl (bs.all id)) H):=by
 intro pins s Z H xs us Q I r h
 obtain ⟨p,bs,rfl,hq,q⟩:=h
 obtain ⟨u,rfl,rx⟩:=vals1 r
 cases rx
 obtain ⟨its,r',pl,hz⟩:=I.list hq
 have hb:=zg r'
 have hl:=pl.isList
 have hlt:p < s.heap.objs.size:=by obtain ⟨_,e,_⟩:=hl;exact Heap.lt_size e
 refine call_all_walk (wpAny_pyIter_list hl ?_)
 refine ⟨s.heap.objs.size,[s.heap.objs.size,p],[s.heap.objs.size],its.toArray.size,_,_,λi=>(bs[i]?).getD true,rfl,Walks.list (A:=X.A.in1) (I.ok.hd hc) _ p (Nat.ne_of_lt hlt) its.toArray,
  ⟨⟨_,Heap.get?_push_size _ rfl,rfl,rfl⟩,hl.push _⟩,λi v s' Q' E' hP hQ=>?_,λh' tk hk=>?_⟩
 ·obtain ⟨b,e,rfl⟩:=hb.get i v (by simpa using hP)
  simp only [e,Option.getD_some] at hQ
  exact wpAny_truthy_bool hQ
 ·have e:((List.range its.toArray.size).all λi=>(bs[i]?).getD true) = bs.all id:=by
   rw [List.size_toArray,hb.length];exact LSm.range_all bs
  rw [e]
  exact ⟨.bl _,H,I.kept (t':=tk) (LSm.kept_iter hk),rfl,q⟩
end
def Pd (z:Str):It:=⟨λi _=>i < z.length,λi H x H'=>H' = H /\ ∃ c,z.cps.toList[i]? = some c /\ x = .str ⟨#[c]⟩,λi _=>z.length <= i⟩
section
variable {X:Cx} {tg:Expr}
theorem ue {P:Program} {w:World} {K:PySem.W.Frag} {x:Str} {px:Pos} (z:Str) (it:Addr) (St:Nat -> Heap -> Prop) (cl:∀ i h,St i h -> ∃ o,h.get? it = some o /\ ∀ v,o.data ≠ .cell v)
  (fr:∀ i h h',St i h -> (∀ o,h.get? it = some o -> h'.get? it = some o) -> St i h') (sf:∀ (A:Around) (i:Nat) (s:Shared) (Q:Value -> Shared -> Prop) (E:Value -> Shared -> Prop),St i s.heap -> Q (.ref it) s -> wpAny (model P w) A (pyIter (.ref it)) Q E s)
  (W:∀ A:Around,A.handled = none -> Walks P w A it [it] [it] z.cps.size (SignAt z) St):Turn P w K (.Name x px) (Pd z) [it] it (λi h=>St i h /\ i <= z.length) where
 mem:=by simp
 obj:=λi h st b hb=>by
  have e:b = it:=by simpa using hb
  subst e
  exact cl i h st.1
 keep:=λi h h' st k=>⟨fr i h h' st.1 λo e=>k it (by simp) o e,st.2⟩
 item:=by
  intro X hP hw hK hc i pins s Z H E I hf st hg
  subst hP hw hK
  obtain ⟨f0,f1,f2,f3,f4,f5⟩:=hf it (by simp)
  refine (W X.A (I.ok.hd hc)).item i s _ E hg st.1 λv h' tk hP st' hk=>?_
  obtain ⟨c,u,e1,rfl⟩:=hP
  refine ⟨_,rfl,?_⟩
  show wpAny _ _ (pure ()) _ _ _
  refine wpAny_pure ⟨.str ⟨#[c]⟩,H,I.turned (t':=tk) (λb o hb e=>hk b o (by simpa using hb) e) f0 f1 f3 f4 f5,⟨u,rfl⟩,⟨rfl,c,by simpa using e1,rfl⟩,⟨st',hg⟩,λb hb=>(hf b hb).1⟩
 done:=by
  intro X hP hw hK hc i pins s Z H E I hf st hg
  subst hP hw hK
  obtain ⟨f0,f1,f2,f3,f4,f5⟩:=hf it (by simp)
  have e:i = z.cps.size:=Nat.le_antisymm st.2 hg
  subst e
  exact (W X.A (I.ok.hd hc)).done s _ E st.1 λh' tk hk=>⟨rfl,I.turned (t':=tk) (λb o hb e=>hk b o (by simpa using hb) e) f0 f1 f3 f4 f5⟩
 self:=λA i s Q E st h=>sf A i s Q E st.1 h
def Qn (te:TE):TI:=λZ H R=>te Z H λx H1=>∃ z:Str,x = .str z /\ R (Pd z) H1
theorem KI {e:Expr} {te:TE} {x:Str} {px:Pos} (he:PE X e te):PI X (.Name x px) e (Qn te):=by
 intro pins s Z H R I h
 refine dN (he pins s Z H _ I h) λv s1  hZ=>?_
 obtain ⟨y,H1,I1,r1,q1⟩:=hZ
 obtain ⟨z,rfl,q⟩:=q1
 obtain ⟨t,rfl⟩:=r1
 have fin:∀ (o:Obj) (St:Nat -> Heap -> Prop),Turn X.prog X.w X.K (.Name x px) (Pd z) [s1.heap.objs.size] s1.heap.objs.size St -> St 0 (s1.heap.push o) -> QD X pins Z (.Name x px) R (.ref s1.heap.objs.size) { s1 with heap:=s1.heap.push o }:=λo St T st=>by
  refine ⟨s1.heap.objs.size,[s1.heap.objs.size],_,_,H1,rfl,I1.kept (t':=s1.toks) λb o e=>Heap.get?_push_of_some _ e,T,st,λb hb=>?_,q⟩
  have e:b = s1.heap.objs.size:=by simpa using hb
  subst e
  exact I1.Dt (Nat.le_refl _) (I1.hok.fresh (Nat.le_refl _))
 have cl:∀ ty (i:Nat) (h:Heap),h.IsStrIter s1.heap.objs.size ty z t i -> ∃ o,h.get? s1.heap.objs.size = some o /\ ∀ v,o.data ≠ .cell v:=λty i h st=>by
  obtain ⟨o,e,c,d⟩:=st
  exact ⟨o,e,λv q=>by rw [d] at q;cases q⟩
 have fr:∀ ty (i:Nat) (h h':Heap),h.IsStrIter s1.heap.objs.size ty z t i -> (∀ o,h.get? s1.heap.objs.size = some o -> h'.get? s1.heap.objs.size = some o) -> h'.IsStrIter s1.heap.objs.size ty z t i:=λty i h h' st k=>by
  obtain ⟨o,e,r⟩:=st
  exact ⟨o,k o e,r⟩
 cases ha:z.cps.all (· < 128)
 ·exact wpAny_pyIter_wide ha (fin _ _ (ue z _ _ (cl _) (fr _) (λA i s Q E st h=>wpAny_pyIter_striter_wide st h) (λA hA=>Walks.strWide hA _ z t)) ⟨⟨_,Heap.get?_push_size _ rfl,rfl,rfl⟩,Nat.zero_le _⟩)
 ·exact wpAny_pyIter_ascii ha (fin _ _ (ue z _ _ (cl _) (fr _) (λA i s Q E st h=>wpAny_pyIter_striter_ascii st h) (λA hA=>Walks.strAscii hA _ z t)) ⟨⟨_,Heap.get?_push_size _ rfl,rfl,rfl⟩,Nat.zero_le _⟩)
def QM (K:PySem.W.Frag) (a:Addr):It :=
 ⟨λi H=>∃ xs x,bf K H a xs /\ xs[i]? = some x,λi H x H'=>∃ p v,H p = none /\ x = .ref p /\ H' = upd H p (.tup [.int i,v]) /\ ∀ xs,bf K H a xs -> xs[i]? = some v,λi H=>∃ xs,bf K H a xs /\ xs.length <= i⟩
theorem CC {P:Program} {w:World} {K:PySem.W.Frag} {elts:List Expr} {x1} {pos:Pos} (a e it:Addr) (hne:e ≠ it):Turn P w K (.Tuple elts x1 pos) (QM K a) [e,it] e (λi h=>∃ old,IsEnum h e it i old /\ h.IsListIter it a i) where
 mem:=by simp
 obj:=λi h st b hb=>by
  obtain ⟨old,st,si⟩:=st
  rcases List.mem_cons.mp hb with z | z
  ·subst z
   exact ⟨_,st,λv q=>by cases q⟩
  ·have e:b = it:=by simpa using z
   subst e
   obtain ⟨o,e,c,d⟩:=si
   exact ⟨o,e,λv q=>by rw [d] at q;cases q⟩
 keep:=λi h h' st k=>by
  obtain ⟨old,st,si⟩:=st
  exact ⟨old,k e (by simp) _ st,si.at λo q=>k it (by simp) o q⟩
 item:=by
  intro X hP hw hK hc i pins s Z H E I hf st hg
  subst hP hw hK
  obtain ⟨old,st,si⟩:=st
  obtain ⟨xs,x,hq,hx⟩:=hg
  obtain ⟨its,rv,p,hz⟩:=I.list hq
  obtain ⟨u,hu,ru⟩:=rv.get hx
  have f:=hf e (by simp)
  have g:=hf it (by simp)
  refine wpAny_pyNext_enum_item st si p.isList (x:=u) (by simpa using hu) hne λh1 eo si1 ht hsz hk=>?_
  refine ⟨_,rfl,wpAny_letOwnedTupleGo_enum (s:={ s with heap:=h1,toks:=s.toks + 1 }) eo λh2 en sb=>?_⟩
  have hs1:e ≠ s.heap.objs.size:=Nat.ne_of_lt (Heap.lt_size st)
  have hs2:it ≠ s.heap.objs.size:=by obtain ⟨o,q,_⟩:=si;exact Nat.ne_of_lt (Heap.lt_size q)
  have k2:∀ b o,b ≠ e -> b ≠ it -> s.heap.get? b = some o -> h2.get? b = some o:=λb o n1 n2 q=>(sb.2 b n1).trans (hk b o n1 n2 q)
  have fresh:=I.hok.fresh (Nat.le_refl s.heap.objs.size)
  have I1:Inv X pins Z (upd H s.heap.objs.size (.tup [.int i,x])) { s with heap:=h2,toks:=s.toks + 1 }:=by
   refine I.step (g':=s.gens) (d':=s.drawn) (ch:=[e,it]) (λb hb=>?_) (λb o _ _ hc q _=>?_) (λb o _ _ hc q _=>?_) (λb o hc q n=>?_) (λb o hc q=>?_) (λb ys q=>?_) (λb o ys q=>?_) (λb ps q=>?_) (λm hm=>?_) (λb u' q=>?_) I.bare
   ·rcases List.mem_cons.mp hb with z | z
    ·rw [z];exact ⟨f.2.2.2.1,f.2.1,f.2.2.2.2.1,f.2.2.2.2.2⟩
    ·have z:b = it:=by simpa using z
     rw [z];exact ⟨g.2.2.2.1,g.2.1,g.2.2.2.2.1,g.2.2.2.2.2⟩
   ·exact k2 b o (λz=>hc (by simp [z])) (λz=>hc (by simp [z])) q
   ·exact ⟨o.slots,k2 b o (λz=>hc (by simp [z])) (λz=>hc (by simp [z])) q⟩
   ·rw [au (Nat.ne_of_lt (Heap.lt_size q))];exact n
   ·exact ⟨o,k2 b o (λz=>hc (by simp [z])) (λz=>hc (by simp [z])) q⟩
   ·rw [au (aj q fresh)];exact q
   ·rw [au (aj q fresh)];exact q
   ·exact ⟨#[],by rw [au (aj q fresh),q];simp⟩
   ·obtain ⟨o,es,ep,ho,r⟩:=hm
    exact ⟨o,es,ep,k2 _ o (Ne.symm f.2.1) (Ne.symm g.2.1) ho,r⟩
   ·by_cases hb:b = s.heap.objs.size
    ·subst hb
     rw [ai] at q;cases q
     refine ⟨by show 2 <= sizeLine;decide,[_,u],.cons ⟨_,rfl⟩ (.cons ru .nil),⟨_,(sb.2 _ (Ne.symm hs1)).trans ht,rfl,_,rfl⟩⟩
    ·rw [au hb] at q
     refine (I.hok b u' q).stay (λc v hc' r=>k2 c v ?_ ?_ r) (λc r=>by rw [au (aj r fresh)];exact r) λc ys r=>by rw [au (aj r fresh)];exact r
     ·rcases hc' with z | z
      ·rw [z];exact aj q f.1
      ·exact aj z f.1
     ·rcases hc' with z | z
      ·rw [z];exact aj q g.1
      ·exact aj z g.1
  refine ⟨.ref s.heap.objs.size,_,I1,rfl,⟨_,x,fresh,rfl,rfl,λys hy=>by rw [I.mC hy hq];exact hx⟩,⟨_,en,?_⟩,λb hb=>?_⟩
  ·obtain ⟨o,q,r⟩:=si1
   exact ⟨o,(sb.2 it (Ne.symm hne)).trans q,r⟩
  ·have hb':=(hf b hb).1
   rcases List.mem_cons.mp hb with z | z
   ·rw [au (by rw [z];exact hs1)];exact hb'
   ·have z:b = it:=by simpa using z
    rw [au (by rw [z];exact hs2)];exact hb'
 done:=by
  intro X hP hw hK hc i pins s Z H E I hf st hg
  subst hP hw hK
  obtain ⟨old,st,si⟩:=st
  obtain ⟨xs,hq,hx⟩:=hg
  obtain ⟨its,rv,p,hz⟩:=I.list hq
  obtain ⟨f0,f1,f2,f3,f4,f5⟩:=hf it (by simp)
  have hl:=rv.length
  exact wpAny_pyNext_enum_end (I.ok.hd hc) st si p.isList (by simp;lia) λh' eb=>⟨rfl,I.turned (t':=s.toks) (λb o hb e=>eb b o hb e) f0 f1 f3 f4 f5⟩
 self:=λ_ _ _ _ _ st h=>by
  obtain ⟨old,st,si⟩:=st
  exact wpAny_pyIter_enum st h
def NP (K:PySem.W.Frag) (ta:TA):TI:=λZ H R=>ta Z H λvs H1=>∃ a xs,vs = [.ref a] /\ bf K H1 a xs /\ R (QM K a) H1
theorem BE {a:Expr} {ta:TA} {p pos tp:Pos} {elts:List Expr} {x1} (hg:Gl X "enumerate") (hm:X.mg "enumerate" = none) (ha:PA X [a] ta) (hs:starEach [a] X.env = [(false,eval a X.env)]:=by rfl) :
  PI X (.Tuple elts x1 tp) (.Call (.Name "enumerate" p) [a] [] pos) (NP X.K ta):=by
 intro pins s Z H R I h
 refine Call_ (jX I hg hm (show bootBuiltins "enumerate" = some (.type "enumerate") by decide +kernel) (PyProof.Rows.callWith_type1 (dN (ha pos pins s Z H _ I h) λus s1 hY=>?_) hs rfl))
 obtain ⟨vs,H1,I1,r1,q1⟩:=hY
 obtain ⟨l,xs,rfl,hq,q⟩:=q1
 obtain ⟨u,rfl,ru⟩:=r1.one
 cases ru
 obtain ⟨its,rv,pl,hz⟩:=I1.list hq
 refine call_enumerate_list pl.isList λh' he hi hsz hk=>?_
 refine wpAny_pyIter_enum (s:={ s1 with heap:=h' }) he ?_
 refine ⟨s1.heap.objs.size + 1,[s1.heap.objs.size + 1,s1.heap.objs.size],_,_,H1,rfl,I1.kept (t':=s1.toks) hk,CC l _ _ (Nat.succ_ne_self _),⟨_,he,hi⟩,λb hb=>?_,q⟩
 have hb':s1.heap.objs.size <= b:=by
  rcases List.mem_cons.mp hb with z | z
  ·rw [z];exact Nat.le_succ _
  ·have z:b = s1.heap.objs.size:=by simpa using z
   rw [z];exact Nat.le_refl _
 exact I1.Dt hb' (I1.hok.fresh hb')
end
end L2
namespace L2
open PySem PySem.Spec PyProof.Rows
theorem jo {x y:Str} (h:x.cps.toList = y.cps.toList):x = y:=by
 obtain ⟨a⟩:=x
 obtain ⟨b⟩:=y
 have:a = b:=Array.toList_inj.mp h
 rw [this]
theorem eU (x y:Str):(x ++ y).cps.toList = x.cps.toList ++ y.cps.toList:=by
 show (x.cps ++ y.cps).toList = _
 simp
def bI (c:Nat):List (List Nat) -> List Nat
 | []=>[]
 | [x]=>x
 | x :: y :: r=>x ++ c :: bI c (y :: r)
theorem dD (c:Nat):∀ ps:List Str,(Str.join ⟨#[c]⟩ ps).cps.toList = bI c (ps.map λp=>p.cps.toList)
 | []=>rfl
 | [x]=>rfl
 | x :: y :: r=>by
  show (x ++ ⟨#[c]⟩ ++ Str.join ⟨#[c]⟩ (y :: r)).cps.toList = x.cps.toList ++ c :: bI c ((y :: r).map λp=>p.cps.toList)
  rw [eU,eU,dD c (y :: r)]
  simp
theorem BH {c:Nat}:∀ {a b r s:List Nat},c ∉ a -> c ∉ b -> a ++ c :: r = b ++ c :: s -> a = b /\ r = s
 | [],[],r,s,_,_,h=>⟨rfl,by simpa using h⟩
 | [],y :: b,r,s,_,hb,h=>by
  simp at h
  exact absurd (by simp [h.1]) hb
 | x :: a,[],r,s,ha,_,h=>by
  simp at h
  exact absurd (by simp [h.1]) ha
 | x :: a,y :: b,r,s,ha,hb,h=>by
  simp only [List.cons_append,List.cons.injEq] at h
  obtain ⟨e1,e2⟩:=BH (λz=>ha (List.mem_cons_of_mem _ z)) (λz=>hb (List.mem_cons_of_mem _ z)) h.2
  exact ⟨by rw [h.1,e1],e2⟩
theorem uc {c:Nat}:∀ {ps qs:List (List Nat)},ps ≠ [] -> qs ≠ [] -> (∀ p ∈ ps,c ∉ p) -> (∀ q ∈ qs,c ∉ q) -> bI c ps = bI c qs -> ps = qs
 | [],_,h,_,_,_,_=>absurd rfl h
 | _ :: _,[],_,h,_,_,_=>absurd rfl h
 | [x],[y],_,_,_,_,h=>by simp only [bI] at h;rw [h]
 | [x],y :: z :: r,_,_,hx,_,h=>by
  simp only [bI] at h
  exact absurd (by rw [h];simp) (hx x (by simp))
 | x :: z :: r,[y],_,_,_,hy,h=>by
  simp only [bI] at h
  exact absurd (by rw [← h];simp) (hy y (by simp))
 | x :: x2 :: r,y :: y2 :: s,_,_,hx,hy,h=>by
  simp only [bI] at h
  obtain ⟨e1,e2⟩:=BH (hx x (by simp)) (hy y (by simp)) h
  have:=uc (ps:=x2 :: r) (qs:=y2 :: s) (by simp) (by simp) (λp hp=>hx p (List.mem_cons_of_mem _ hp)) (λq hq=>hy q (List.mem_cons_of_mem _ hq)) e2
  rw [e1,this]
theorem kT {c:Nat} {ps:List Str} (hn:ps ≠ []) (hf:∀ p ∈ ps,c ∉ p.cps.toList):PySem.Txt.split (Str.join ⟨#[c]⟩ ps) ⟨#[c]⟩ = ps:=by
 have h1:=PySem.StrLaws.join_split (Str.join ⟨#[c]⟩ ps) ⟨#[c]⟩
 have h2:=PySem.StrLaws.split_free (Str.join ⟨#[c]⟩ ps) c
 have h3:=PyProof.Rows.split_pos (Str.join ⟨#[c]⟩ ps) ⟨#[c]⟩
 generalize PySem.Txt.split (Str.join ⟨#[c]⟩ ps) ⟨#[c]⟩ = qs at h1 h2 h3
 have h4:=congrArg (λx:Str=>x.cps.toList) h1
 simp only [dD] at h4
 have inj:∀ {a b:List Str},(a.map λp=>p.cps.toList) = (b.map λp=>p.cps.toList) -> a = b:=by
  intro a
  induction a with
  | nil=>intro b h;cases b with
   | nil=>rfl
   | cons _ _=>cases h
  | cons x r ih =>
   intro b h
   cases b with
   | nil=>cases h
   | cons y s =>
    simp only [List.map_cons,List.cons.injEq] at h
    rw [jo h.1,ih h.2]
 refine inj (uc (c:=c) ?_ ?_ ?_ ?_ h4)
 ·intro z
  have:=congrArg List.length z
  simp at this
  rw [this] at h3
  simp at h3
 ·intro z
  have:=congrArg List.length z
  simp at this
  exact hn this
 ·intro p hp
  obtain ⟨q,hq,rfl⟩:=List.mem_map.mp hp
  exact h2 q hq
 ·intro p hp
  obtain ⟨q,hq,rfl⟩:=List.mem_map.mp hp
  exact hf q hq
def jM (c d:Nat) (l:List Nat):List Nat:=l.map λx=>if x = c then d else x
theorem nc {c d:Nat}:∀ {l:List Nat},c ∉ l -> jM c d l = l
 | [],_=>rfl
 | x :: r,h=>by
  unfold jM
  rw [List.map_cons,if_neg (λz=>h (by simp [z]))]
  congr 1
  exact nc λz=>h (List.mem_cons_of_mem _ z)
theorem sZ {c d:Nat}:∀ {ps:List (List Nat)},(∀ p ∈ ps,c ∉ p) -> jM c d (bI c ps) = bI d ps
 | [],_=>rfl
 | [x],h=>nc (h x (by simp))
 | x :: y :: r,h=>by
  simp only [bI]
  have e1:jM c d (x ++ c :: bI c (y :: r)) = jM c d x ++ d :: jM c d (bI c (y :: r)):=by simp [jM]
  rw [e1,nc (h x (by simp)),sZ (ps:=y :: r) λp hp=>h p (List.mem_cons_of_mem _ hp)]
theorem jK (x:Str) (c d:Nat):(PySem.Txt.replace x ⟨#[c]⟩ ⟨#[d]⟩).cps.toList = jM c d x.cps.toList:=by
 rw [PySem.StrLaws.replace_one,dD]
 have h1:=congrArg (λx:Str=>x.cps.toList) (PySem.StrLaws.join_split x ⟨#[c]⟩)
 simp only [dD] at h1
 conv=>rhs;rw [← h1]
 rw [sZ]
 intro p hp
 obtain ⟨q,hq,rfl⟩:=List.mem_map.mp hp
 exact PySem.StrLaws.split_free x c q hq
theorem Ca {c d:Nat} {l:List Nat} (h:d ∉ l):jM d c (jM c d l) = l:=by
 induction l with
 | nil=>rfl
 | cons x r ih =>
  have hx:x ≠ d:=λz=>h (by simp [z])
  have ih':=ih λz=>h (List.mem_cons_of_mem _ z)
  unfold jM at *
  simp only [List.map_cons]
  rw [ih']
  by_cases e:x = c
  ·subst e;simp
  ·rw [if_neg e,if_neg hx]
end L2
namespace L2
open PySem PySem.Spec PyProof.Rows
theorem OV {α:Type} {t:Sem α} {Q Q':α -> Shared -> Prop} {M:Model} {A:Around} {E E':Value -> Shared -> Prop} {s:Shared} (h:wpAny M A t Q E s) (hQ:∀ a s,Q a s -> Q' a s) (hE:∀ a s,E a s -> E' a s):wpAny M A t Q' E' s:=wpAny_mono h hQ hE
section
variable {X:Cx} {o e:Expr} {to te:TE} {apos cpos pos p1 p2 p3 p4 p5:Pos} {j1 j2 j3:Nat}
def Ba (y z:Str):V -> Hp -> VK -> Prop:=λx H Q=>∃ a:Str,x = .str a /\ a.length + (a.length + 1) * z.length <= 16777216 /\ Q (.str (PySem.Txt.replace a y z)) H
theorem tw {y z:Str} (hyz:(y == z) = false) {pins:List (Addr × Obj)} {s:Shared} {Z:St} {H:Hp} {Q:VK} (I:Inv X pins Z H s)
  (ho:wpAny (model X.prog X.w) X.A (eval o X.env) (λu s'=>1 <= s'.toks /\ EP X pins Z (λx H1=>Ba y z x H1 Q) u s') X.xe s)
  (hbase:attributeBase o "replace" X.env (eval o X.env) = eval o X.env:=by rfl) (hline:(apos.endLine == cpos.line) = true:=by rfl) :
  wpAny (model X.prog X.w) X.A (eval (.Call (.Attribute o "replace" apos) [.Constant (.str y) j1 p1,.Constant (.str z) j2 p2] [] cpos) X.env) (EP X pins Z Q) X.xe s:=by
 refine wpAny_Call_method_late hbase rfl hline rfl (dN ho λv s1  hZ=>?_)
 obtain ⟨hk,x,H1,I1,r1,q1⟩:=hZ
 obtain ⟨a,rfl,hz,q⟩:=q1
 obtain ⟨t,rfl⟩:=r1
 refine ⟨"str","str.replace",F.plainAttrs_str,F.slot_str_replace,F.type_str_replace,typeIs_str _ _ _,(λ_ e=>nomatch e),?_⟩
 refine Calls.callWith_builtin rfl (Calls.evalArgs_plain ?_)
 refine Calls.spliced_cons (Calls.Constant_str (k:=j1) (pos:=p1) (Calls.spliced_cons (Calls.Constant_str (k:=j2) (pos:=p2) (Calls.spliced_nil ?_))))
 exact SC.replace (u:=s1.toks) (v:=s1.toks + 1) (Nat.ne_of_gt hk) (Nat.succ_ne_zero _) Hr hyz hz λt' k=>⟨.str _,H1,I1.tok _,⟨t',rfl⟩,q⟩
theorem AG {y z:Str} {k:Int} (hyz:(y == z) = false) (he:PE X e te)
  (hbase:attributeBase (.Subscript e (.Slice (some (.Constant (.int k) j3 p4)) none none p3) p5) "replace" X.env (eval (.Subscript e (.Slice (some (.Constant (.int k) j3 p4)) none none p3) p5) X.env) = eval (.Subscript e (.Slice (some (.Constant (.int k) j3 p4)) none none p3) p5) X.env:=by rfl)
  (hline:(apos.endLine == cpos.line) = true:=by rfl) :
  PE X (.Call (.Attribute (.Subscript e (.Slice (some (.Constant (.int k) j3 p4)) none none p3) p5) "replace" apos) [.Constant (.str y) j1 p1,.Constant (.str z) j2 p2] [] cpos) (λZ H Q=>te Z H λx H1=>∃ w:Str,x = .str w /\ w.length <= sizeLine /\ Ba y z (.str (PySem.Txt.slice w (some k) none)) H1 Q):=by
 intro pins s Z H Q I h
 refine tw hyz I ?_ hbase hline
 refine Subscript_ (dN (he pins s Z H _ I h) λv s1  hZ=>?_)
 obtain ⟨x,H1,I1,r1,w,hx,hw,q1⟩:=hZ
 subst hx
 obtain ⟨t,rfl⟩:=r1
 refine wpAny_Slice ?_
 rw [evalPart_some]
 refine wpAny_Constant_int ?_
 rw [evalPart_none]
 refine wpAny_pure ?_
 refine wpAny_pure ?_
 have I2:Inv X pins Z H1 { s1 with toks:=s1.toks + 1 }:=I1.tok _
 have I4:Inv X pins Z H1 { s1 with toks:=s1.toks + 1,heap:=s1.heap.push { cls:=.type "slice",data:=.fields #[.int k s1.toks,.none,.none] } }:=I2.kept (t':=s1.toks + 1) λb ob q=>Heap.get?_push_of_some _ q
 obtain ⟨T,id,hT,ht,hg⟩:=gw (X:=X) pins { s1 with toks:=s1.toks + 1,heap:=s1.heap.push { cls:=.type "slice",data:=.fields #[.int k s1.toks,.none,.none] } } Z H1 (.str w) (.str w t) (.int k s1.toks) .none (some k) none s1.heap.objs.size (λx H1=>Ba y z x H1 Q) I4 ⟨t,rfl⟩ (Heap.IsSliceOf.new ..) (.int k _) .none ⟨w,rfl,hw,q1⟩
 have fin:=tail_any (value:=e) (slice:=.Slice (some (.Constant (.int k) j3 p4)) none none p3) (ops:=[.ref s1.heap.objs.size,.str w t]) ht hT hg (by with_unfolding_all rfl)
 exact OV (wpAny_toks_of (n:=1) (show 1 <= s1.toks + 1 by lia) fin) (λ_ _ q=>q) λ_ _ q=>q.2
theorem xJ {q y z:Str} (hyz:(y == z) = false) (ho:PE X o to) (hbase:attributeBase o "replace" X.env (eval o X.env) = eval o X.env:=by rfl) (hline:(apos.endLine == cpos.line) = true:=by rfl) :
  PE X (.BinOp (.Constant (.str q) j3 p3) .Add (.Call (.Attribute o "replace" apos) [.Constant (.str y) j1 p1,.Constant (.str z) j2 p2] [] cpos) pos)
   (λZ H Q=>to Z H λx H1=>Ba y z x H1 λv H2=>∃ b:Str,v = .str b /\ q.length + b.length <= sizeLine /\ Q (.str (q ++ b)) H2):=by
 intro pins s Z H Q I h
 refine wpAny_BinOp (Calls.Constant_str ?_)
 have I2:Inv X pins Z H { s with toks:=s.toks + 1 }:=I.tok _
 refine dN (tw (j1:=j1) (j2:=j2) (p1:=p1) (p2:=p2) (apos:=apos) (cpos:=cpos) hyz I2 (Q:=λv H2=>∃ b:Str,v = .str b /\ q.length + b.length <= sizeLine /\ Q (.str (q ++ b)) H2)
  (OV (wpAny_toks_of (n:=1) (show 1 <= s.toks + 1 by lia) (ho pins _ Z H _ I2 h)) (λ_ _ q=>q) λ_ _ q=>q.2) hbase hline) λu s2 ⟨x,H2,I3,r,b,hx,hz,q2⟩=>?_
 subst hx
 obtain ⟨t,rfl⟩:=r
 exact add_str (λt' tk=>⟨.str (q ++ b),H2,I3.tok _,⟨_,rfl⟩,q2⟩) hz
end
end L2
namespace L2
open PySem PySem.Spec PyProof.Rows
section
variable {X:Cx}
theorem gn {x:Str} {v:V} {pos:Pos} (hg:Gl X x) (h:∃ u,X.mg x = some u /\ RelV v u) (hd:(x == ("__debug__" : Str)) = false:=by decide):PE X (.Name x pos) (tC v):=by
 obtain ⟨u,e,r⟩:=h
 exact lQ hg e r hd
theorem DT:∀ {x:V},iK x = true -> B5 x x = true
 | .cQ,_=>rfl
 | .bl b,_=>by simp [B5]
 | .int b,_=>by simp [B5]
 | .str b,_=>by simp [B5]
theorem Dw {caps:List (Str × Nat)} {z:Str} {te:TE} {Z:St} {H:Hp} {Q:VK} (Pv:Nat -> List V -> Hp -> Prop) (h0:Pv 0 [] H) (hn:z.length < sizeLine)
  (hs:∀ i c ys H,z.cps.toList[i]? = some c -> ys.length = i -> Pv i ys H -> te (kW caps Z ++ [some (.str ⟨#[c]⟩)]) H λy H2=>∃ m',m' < z.length - i /\ m' = z.length - (i + 1) /\ i + 1 <= z.length /\ (ys ++ [y]).length = i + 1 /\ Pv (i + 1) (ys ++ [y]) H2) (hd:∀ ys H,ys.length = z.length -> Pv z.length ys H -> ∀ D,H D = none -> Q (.ref D) (upd H D (.lst ys))) :
  BS (Pd z) caps te Z H Q:=by
 refine ⟨λi m ys H=>m = z.length - i /\ i <= z.length /\ ys.length = i /\ Pv i ys H,⟨z.length,by simp,Nat.zero_le _,rfl,h0⟩,?_⟩
 rintro i m ys H ⟨rfl,hi,hl,p⟩
 by_cases hlt:i < z.length
 ·refine .inr ⟨hlt,by lia,λx H' y=>?_⟩
  obtain ⟨e,c,e1,rfl⟩:=y
  subst e
  exact hs i c ys _ e1 hl p
 ·have e:i = z.length:=by lia
  subst e
  exact .inl ⟨Nat.le_refl _,hd ys H hl p⟩
theorem sR {K:PySem.W.Frag} {a:Addr} {xs:List V} {g:TG} {tb:TS} {D:Ends} {Z:St} {H:Hp} (Pv:Nat -> St -> Hp -> Prop) (h0:Pv 0 Z H) (hl:∀ i Z H,i <= xs.length -> Pv i Z H -> bf K H a xs)
  (hs:∀ i x p Z H,xs[i]? = some x -> H p = none -> Pv i Z H -> g (.ref p) Z (upd H p (.tup [.int i,x])) λZ2 H2=>tb { D with nx:=Pv (i + 1),ct:=Pv (i + 1),bk:=D.nx } Z2 H2) (hd:∀ Z H,Pv xs.length Z H -> D.nx Z H):El (QM K a) g tb D Z H:=by
 refine ⟨λi m Z H=>m = xs.length - i /\ i <= xs.length /\ Pv i Z H,⟨xs.length,by simp,Nat.zero_le _,h0⟩,?_⟩
 rintro i m Z H ⟨rfl,hi,p⟩
 have q:=hl i Z H hi p
 by_cases hlt:i < xs.length
 ·refine .inr ⟨⟨xs,xs[i],q,by simp [hlt]⟩,Pv (i + 1),λZ' H' p'=>⟨xs.length - (i + 1),by lia,rfl,hlt,p'⟩,λx H' y=>?_⟩
  obtain ⟨pp,v,h1,rfl,rfl,h2⟩:=y
  exact hs i v pp Z H (h2 xs q) h1 p
 ·have e:i = xs.length:=by lia
  subst e
  exact .inl ⟨⟨xs,q,Nat.le_refl _⟩,hd Z H p⟩
end
def iS (H H':Hp) (p:Addr):Prop:=∀ b o,H b = some o -> b ≠ p -> H' b = some o
theorem iS.refl (H:Hp) (p:Addr):iS H H p:=λ_ _ h _=>h
theorem iS.trans {H H1 H2:Hp} {p:Addr} (a:iS H H1 p) (b:iS H1 H2 p):iS H H2 p:=λc o h n=>b c o (a c o h n) n
theorem iS.same {H H1 H2:Hp} {p:Addr} (a:iS H H1 p) (b:aq H1 H2):iS H H2 p:=λc o h n=>b c o (a c o h n)
theorem aq.HL {H H1 H2:Hp} {p:Addr} (a:aq H H1) (b:iS H1 H2 p):iS H H2 p:=λc o h n=>b c o (a c o h) n
theorem iS.upd {H:Hp} {p:Addr} {o:HO}:iS H (L2.upd H p o) p:=λb u h n=>by rw [au n];exact h
end L2
namespace L2
open PySem PySem.Spec PyProof.Rows
section
variable {X:Cx}
theorem Gf {sc csc:Scope} {N:List Str} {elt iter:Expr} {x:Str} {px pos ppos:Pos} {caps:List (Str × Nat)} {wi:TI} {te:TE} (ck:u7 sc csc N x caps) (hi:PI X (.Name x px) iter wi)
  (he:∀ C s2 H2 fp,PE (eN X (caps.map (·.1) ++ [x]) csc C s2 H2 fp) elt te) (hc:X.calm = true) (hsc:X.env.scope = sc) (hXN:X.N = N) (hs:∀ x,foldedSetIterable iter X.env x = pure x)
  {pins:List (Addr × Obj)} {s:Shared} {Z:St} {H:Hp} {Q:VK} (I:Inv X pins Z H s) (h:Gx caps wi te Z H Q) (use:Option (Value -> Sem Unit)) (QQ:Value -> Shared -> Prop)
  (fin:∀ (s2:Shared) (H2:Hp) (D C:Addr) (ys:List V) (H':Hp) (s4:Shared) (m:Str -> Option Value),Inv X pins Z H2 s2 -> s2.heap.objs.size <= C -> s2.heap.objs.size <= D -> D ≠ C -> s4.heap.Ns C m ->
   (∀ h',Heap.SameBut C s4.heap h' -> Inv X pins Z (upd H' D (.lst ys)) { s4 with heap:=h' }) -> H' C = none -> Q (.ref D) (upd H' D (.lst ys)) ->
   compPost (model X.prog X.w) X.A X.xe use QQ (.ref D) C (.ok .next) s4) :
  wpAny (model X.prog X.w) X.A (comprehension (.ListComp elt [⟨.Name x px,iter,[],0⟩] csc pos) csc X.env ppos (newList []) false (eval iter X.env) use) QQ X.xe s:=by
 subst hsc hXN
 have cellsOk:∀ p ∈ csc.names,p.2 = .free -> ∃ c,X.env.cells.lookup p.1 = some c:=λp hp e=>I.ok.has p.1 (.inl (ck.free p hp e))
 refine wpAny_comprehension_free (use:=use) rfl hs (kH cellsOk) ck.kind ck.loc (dN (hi pins s Z H _ I h) λv s1 h1=>dN h1 λitv s2 h2=>?_)
 obtain ⟨it,fp,tn,J,H2,e,I2,T,st2,f2,W,⟨m0,w0⟩,turn⟩:=h2
 subst e
 refine wpAny_newObj_type (wpAny_newFunctionEnv ck.cell (by intro y hy;simp at hy) (λh4 hns4 hsb4=>?_) ck.kind)
 dsimp only at hns4 hsb4 ⊢
 generalize hD:s2.heap.objs.size = D at hns4 hsb4 ⊢
 generalize hH2:s2.heap.push { cls:=.type "list",dict:=none,data:=.seq ([]:List Value).toArray } = G at hns4 hsb4 ⊢
 have hGs:G.objs.size = D + 1:=by rw [← hH2,Heap.size_push,hD]
 rw [hGs] at hns4 hsb4 ⊢
 have lt2:∀ b o,s2.heap.get? b = some o -> b < D:=λb o e=>hD ▸ Heap.lt_size e
 have old:∀ b o,s2.heap.get? b = some o -> b ≠ D + 1 /\ b ≠ D:=λb o e=>⟨Ip (lt2 b o e),JL (lt2 b o e)⟩
 have leD:s2.heap.objs.size <= D:=Nat.le_of_eq hD
 have leD1:s2.heap.objs.size <= D + 1:=Nat.le_succ_of_le leD
 have keep4:∀ b o,s2.heap.get? b = some o -> h4.get? b = some o:=λb o e=>hsb4.extBut b o (old b o e).1 (Heap.get?_push_of_some _ (hH2 ▸ Heap.get?_push_of_some _ e))
 have hDo:h4.get? D = some { cls:=.type "list",data:=.seq ([]:List Value).toArray 0 }:=by
  refine hsb4.extBut D _ Hr (Heap.get?_push_of_some _ ?_)
  rw [← hH2,← hD]
  exact Heap.get?_push_size _ rfl
 have fps:∀ b ∈ fp,b < s2.heap.objs.size:=λb hb=>by
  obtain ⟨o,e,_⟩:=T.obj _ _ st2 b hb
  exact Heap.lt_size e
 have I4:∀ t4,Inv (eN X (caps.map (·.1) ++ [x]) csc (D + 1) s2 H2 fp) [] (kW caps Z ++ [none]) H2 { s2 with heap:=h4,toks:=t4 }:=λt4=>pT (m0:=λx=>[].reverse.lookup x) I2 ck f2 fps leD1 keep4 hns4
 have cellsLt:∀ y c,(fU X.env csc.names []).lookup y = some c -> c < D:=λy c e=>by
  obtain ⟨v,o,ho,_⟩:=I2.cell y c (iE _ _ cellsOk (λy c h=>by simp at h) y c e)
  exact lt2 c o ho
 have fsLt:∀ b ∈ frs X.stack,b < D:=λb hb=>by
  obtain ⟨_,o,ho,_⟩:=I2.stack.mem hb
  exact lt2 b o ho
 have fpC:∀ {pl:List (Addr × Obj)} {H':Hp},(∀ p ∈ pl,p.1 = D) -> (∀ b ∈ fp,H' b = none) -> ∀ b ∈ fp,sQ (eN X (caps.map (·.1) ++ [x]) csc (D + 1) s2 H2 fp) pl H' b:=λ{pl H'} hpl hn b hb=>by
  have hb':b < D:=hD ▸ fps b hb
  refine ⟨hn b hb,Ip hb',?_,.inl hb,λy c e=>?_,λp hp=>?_⟩
  ·intro z
   rcases List.mem_cons.mp (I2.pV b z) with e | e
   ·exact (f2 b hb).2.1 e
   ·exact (f2 b hb).2.2.1 e
  ·exact (f2 b hb).2.2.2.2.1 y c (iE _ _ cellsOk (λy c h=>by simp at h) y c e)
  ·have:p.1 = D:=hpl p (by simpa using hp)
   rw [this];exact λz=>JL hb' z.symm
 have loop:∀ t4,codeAny (model X.prog X.w) X.A (.compLoop (.ListComp elt [⟨.Name x px,iter,[],0⟩] csc pos) 0 (.ref it) (.ref D) (compEnvC csc (fU X.env csc.names []) (D + 1) X.env))
   (compPost (model X.prog X.w) X.A X.xe use QQ (.ref D) (D + 1)) { s2 with heap:=h4,toks:=t4 }:=by
  intro t4
  refine nv (λn s'=>∃ (i:Nat) (ys:List V) (its:List Value) (k:Nat) (Z':St) (H':Hp),Inv (eN X (caps.map (·.1) ++ [x]) csc (D + 1) s2 H2 fp) [(D,{ cls:=.type "list",data:=.seq its.toArray k })] Z' H' s' /\ tn i s'.heap /\ (∀ b ∈ fp,H' b = none) /\ Vals ys its /\ ys.length <= sizeLine /\ W i n ys H' /\ (∃ z,Z' = kW caps Z ++ [z])) ?_ m0 ?_
  ·rintro n s3 ⟨i,ys,its,k,Z3,H3,I3,st3,fr3,hv,hz,w3,z3,rfl⟩
   have pl1:∀ p ∈ [((D,{ cls:=.type "list",data:=.seq its.toArray k }):Addr × Obj)],p.1 = D:=λp hp=>by rw [List.mem_singleton.mp hp]
   rcases turn i n ys H3 w3 with ⟨stop,qn⟩ | ⟨go,hlt,step⟩
   ·refine wpAny_mono (T.done (eN X (caps.map (·.1) ++ [x]) csc (D + 1) s2 H2 fp) rfl rfl rfl hc i _ s3 _ H3 (λ_ _=>False) I3 (fpC pl1 fr3) st3 stop) (λr s4 hY=>?_) λ_ _ f=>f.elim
    obtain ⟨hr,I4'⟩:=hY
    subst hr
    obtain ⟨m,hn,_⟩:=id I4'.loc
    have pD:=I4'.pin (D,{ cls:=.type "list",data:=.seq its.toArray k }) (by simp)
    exact fin s2 H2 D (D + 1) ys H3 s4 m I2 leD1 leD Hr hn (λh' hs'=>tN I2 I4' f2 leD1 leD Hr hs' hv hz pD.1 pD.2.1) I4'.free (qn D pD.2.1)
   ·refine wpAny_mono (T.item (eN X (caps.map (·.1) ++ [x]) csc (D + 1) s2 H2 fp) rfl rfl rfl hc i _ s3 _ H3 (λ_ _=>False) I3 (fpC pl1 fr3) st3 go) (λr s4 hY=>?_) λ_ _ f=>f.elim
    obtain ⟨u,hr,h4'⟩:=hY
    subst hr
    refine wpAny_mono h4' (λ_ s4 hY=>?_) λ_ _ f=>f.elim
    obtain ⟨xv,H5,I5,r5,y5,st5,fr5⟩:=hY
    have I5':=I5.pinned (fpC pl1 fr5) (T.obj _ _ st5)
    have hiN:(caps.map (·.1) ++ [x])[caps.length]? = some x:=by rw [List.getElem?_append_right (by simp)];simp
    refine wpAny_mono (bJ (X:=eN X (caps.map (·.1) ++ [x]) csc (D + 1) s2 H2 fp) (i:=caps.length) ck.nd hiN (.inl (lookup_relabel_local ck.tg)) (.inr (lookup_relabel_local ck.tg)) _ s4 _ H5 xv u _ I5' r5 (show um caps.length xv _ H5 (λZ6 H6=>Z6 = kW caps Z ++ [some xv] /\ H6 = H5) from ⟨?_,rfl⟩)) (λ_ s6 ⟨Z6,H6,I6,hZ,hH⟩=>?_) λ_ _ f=>f.elim
    ·rw [List.set_append_right _ _ (by rw [g8];exact Nat.le_refl _),g8,Nat.sub_self];rfl
    subst hZ hH
    refine wpAny_mono (he (D + 1) s2 H2 fp _ s6 _ H6 _ I6 (step xv H6 y5)) (λw7 s7 hY=>?_) λ_ _ f=>f.elim
    obtain ⟨y,H7,I7,r7,m',hm,w8⟩:=hY
    have pD:=I7.pin (D,{ cls:=.type "list",data:=.seq its.toArray k }) (by simp)
    have hll:=hv.length
    refine call_meets F.slot_list_append ⟨_,pD.1,rfl⟩ F.entry_list_append (F.args_list_append_2 _ _) (PySem.list_append D its.toArray k w7 (by rw [List.size_toArray];lia)) ⟨pD.1,?_⟩
    have q:=PySem.IsL.update pD.1 (·.push w7)
    have hpush:its.toArray.push w7 = (its ++ [w7]).toArray:=by simp
    rw [hpush] at q
    obtain ⟨k',q⟩:∃ k',(s7.heap.update D (Obj.mapSeq (·.push w7))).get? D = some { cls:=.type "list",data:=.seq (its ++ [w7]).toArray k' }:=⟨_,q⟩
    have I7u:Inv (eN X (caps.map (·.1) ++ [x]) csc (D + 1) s2 H2 fp) (jR fp s4.heap) _ H7 s7:=I7.gM λp hp=>I7.pin p (List.mem_append_right _ (List.mem_append_right _ hp))
    have pfp:∀ p ∈ jR fp s4.heap,p.1 < D:=λp hp=>hD ▸ fps p.1 (mP hp).1
    have I8:=I7u.turned (h':=s7.heap.update D (Obj.mapSeq (·.push w7))) (t':=s7.toks) (it:=D) (λb o hb e=>(Heap.get?_update_other s7.heap _ (Ne.symm hb)).trans e) pD.2.1 Hr (.inr leD) (λy c e=>JL (cellsLt y c e)) (λp hp=>JL (pfp p (by simpa using hp)))
    refine ⟨m',hm,i + 1,ys ++ [y],its ++ [w7],k',_,H7,I8.gM λp hp=>?_,T.keep _ _ _ st5 λb hb o e=>(I8.pin (b,o) (List.mem_append_right _ (gy hb e))).1,λb hb=>?_,hv.append (.cons r7 .nil),?_,w8,_,rfl⟩
    ·rw [List.mem_singleton.mp hp]
     exact ⟨q,pD.2.1,pD.2.2.1,pD.2.2.2.1,λv=>by simp⟩
    ·obtain ⟨o,e,d⟩:=T.obj _ _ st5 b hb
     exact (I8.pin (b,o) (List.mem_append_right _ (gy hb e))).2.1
    ·rw [List.length_append,List.length_singleton];lia
  ·refine ⟨0,[],[],0,_,H2,(I4 t4).gM λp hp=>?_,T.keep _ _ _ st2 λb hb o e=>keep4 b o e,λb hb=>(f2 b hb).1,.nil,Nat.zero_le _,w0,_,rfl⟩
   rw [List.mem_singleton.mp hp]
   refine ⟨hDo,I2.hok.fresh leD,Hr,λz=>absurd (fsLt D z) (Nat.lt_irrefl _),λv=>by simp⟩
 exact codeAny_compStart_list (loop _) (T.self _ 0 _ _ _ (T.keep _ _ _ st2 λb hb o e=>keep4 b o e) (loop _))
theorem BK {i:Nat} {y:Str} {sc csc:Scope} {N:List Str} {elt iter:Expr} {x:Str} {px pos pos' spos:Pos} {caps:List (Str × Nat)} {wi:TI} {te:TE} (hN:X.N.Nodup) (hiy:X.N[i]? = some y) (hy:Loc X.env.scope y) (ck:u7 sc csc N x caps) (hi:PI X (.Name x px) iter wi)
  (he:∀ C s2 H2 fp,PE (eN X (caps.map (·.1) ++ [x]) csc C s2 H2 fp) elt te) (hc:X.calm = true:=by rfl) (hsc:X.env.scope = sc:=by rfl) (hXN:X.N = N:=by rfl) (hs:∀ x,foldedSetIterable iter X.env x = pure x:=by intro _;rfl)
  (hsw:swapsWith (.ListComp elt [⟨.Name x px,iter,[],0⟩] csc pos) (some (.Name y pos')) spos.line X.env = pure true:=by rfl) (hf:X.fn y = true ∨ X.env.scope.names.lookup y = some .local:=by first | exact .inl rfl | exact .inr rfl | assumption) :
  PS X (.Assign [.Name y pos'] (.ListComp elt [⟨.Name x px,iter,[],0⟩] csc pos) spos) (Io (Gx caps wi te) (um i)):=by
 intro pins s Z H D I h
 rw [exec_Assign_Name_used _ _ _ _ hsw]
 refine wpAny_bind (wpAny_standAt (wpAny_bind ?_))
 show wpAny _ X.A (do let _ ← comprehension (.ListComp elt [⟨.Name x px,iter,[],0⟩] csc pos) csc X.env _ (newList []) false (eval iter X.env) (some (assign (.Name y pos') X.env))) _ _ s
 refine wpAny_bind (wpAny_mono (Gf ck hi he hc hsc hXN hs I h (some (assign (.Name y pos') X.env)) (λ_ s'=>SP X pins D .next s') ?_) (λ_ s' hq=>wpAny_pure (wpAny_pure hq)) λ_ _ e=>e)
 intro s2 H2 Dl C ys H' s4 m I2 leC leD nDC hns hI hfC q
 have I0:Inv X pins Z (upd H' Dl (.lst ys)) s4:=hI s4.heap (Heap.SameBut.refl _ _)
 have hCD:C ≠ Dl:=Ne.symm nDC
 have hHC:upd H' Dl (.lst ys) C = none:=by rw [au hCD];exact hfC
 have hCL:C ≠ X.env.locals:=λz=>by have:=I2.lt;rw [← z] at this;exact absurd this (Nat.not_lt.mpr leC)
 have hCfs:C ∉ X.fs:=I2.OY leC
 have pinlt:∀ p ∈ X.pn ++ pins,p.1 ≠ C:=λp hp z=>by
  have:=(I2.pin p hp).1
  have:=Heap.lt_size this
  rw [z] at this
  exact absurd this (Nat.not_lt.mpr leC)
 have celllt:∀ z c,X.env.cells.lookup z = some c -> c ≠ C:=λz c e w=>by
  obtain ⟨v,o,ho,_⟩:=I2.cell z c e
  have:=Heap.lt_size ho
  rw [w] at this
  exact absurd this (Nat.not_lt.mpr leC)
 obtain ⟨oC,es,ep,eC,dC,rC⟩:=id hns
 have I1:Inv X (pins ++ [(C,oC)]) Z (upd H' Dl (.lst ys)) s4:=I0.gM λp hp=>by
  rcases List.mem_append.mp hp with hp | hp
  ·exact I0.pin p (List.mem_append_right _ hp)
  ·rw [List.mem_singleton.mp hp]
   exact ⟨eC,hHC,hCL,hCfs,λv z=>by rw [dC] at z;cases z⟩
 refine dN (bJ (i:=i) (pos:=pos') hN hiy hy hf (pins ++ [(C,oC)]) s4 Z _ (.ref Dl) (.ref Dl) D.nx I1 rfl q) λ_ s5  hZ=>?_
 obtain ⟨Z5,H5,I5,q5⟩:=hZ
 have pC:=I5.pin (C,oC) (by simp)
 refine ⟨m,⟨oC,es,ep,pC.1,dC,rC⟩,λh' hs'=>?_⟩
 have I6:Inv X pins Z5 H5 s5:=I5.gM λp hp=>I5.pin p (List.mem_append_right _ (List.mem_append_left _ hp))
 exact ⟨Z5,H5,I6.turned (h':=h') (t':=s5.toks) (it:=C) (λb o hb e=>(hs'.2 b hb).trans e) pC.2.1 hCL (.inr (Nat.le_trans I2.sz leC)) celllt pinlt,q5⟩
theorem oG {K:PySem.W.Frag} {e:Expr} {ta:TE} {f:Str} {pos:Pos} (he:PE X e ta) (hb:attributeBase e f X.env (eval e X.env) = eval e X.env) (hK:X.K = K:=by rfl):PE X (.Attribute e f pos) (LW K ta f):=by
 subst hK;exact aT he hb
theorem xO {K:PySem.W.Frag} (hK:X.K = K):Np X (IU K):=by subst hK;exact aS
theorem IE {K:PySem.W.Frag} (hK:X.K = K):Np X (Kw K):=by subst hK;exact bw
end
end L2
namespace L2
open PySem PySem.Spec PyProof.Rows
section
variable {X:Cx}
def strsOf:List Expr -> Option (List Str)
 | []=>some []
 | e :: r=>match e with
  | .Constant (.str x) _ _=>(strsOf r).map (x :: ·)
  | _=>none
theorem fP:∀ {es:List Expr} {xs:List Str},strsOf es = some xs -> PA X es (λ_ H Q=>Q (xs.map V.str) H)
 | [],xs,h=>by
  have e:xs = []:=(Option.some.inj h).symm
  subst e
  exact af
 | e :: r,xs,h=>by
  unfold strsOf at h
  split at h
  ·rename_i x j p
   obtain ⟨ys,h1,h2⟩:=Option.map_eq_some_iff.mp h
   subst h2
   exact aa (te:=tC (.str x)) (t:=λ_ H Q=>Q (ys.map V.str) H) aX (fP h1) rfl
  ·cases h
end
end L2
namespace L2
open PySem PySem.Spec PyProof.Rows
section
variable {X:Cx} {pins:List (Addr × Obj)} {Z:St} {H:Hp} {s:Shared}
def qu (xs ys:List V):Prop:=∀ x ∈ xs,∀ y ∈ ys,iK x = true /\ iK y = true /\ B5 x y = decide (x = y)
theorem wu {xs ys:List V} {is js:List Value} {A:Around} (p:qu xs ys) (r1:Vals xs is) (r2:Vals ys js) :
  ∀ j (h1:j < is.toArray.size) (h2:j < js.toArray.size),SeqAt.EqAt A s is.toArray[j] js.toArray[j] ((λj=>decide (xs[j]? = ys[j]?)) j):=by
 intro j h1 h2
 have l1:=r1.length
 have l2:=r2.length
 have j1:j < xs.length:=by simpa [l1] using h1
 have j2:j < ys.length:=by simpa [l2] using h2
 have e1:=List.getElem?_eq_getElem j1
 have e2:=List.getElem?_eq_getElem j2
 obtain ⟨u1,g1,q1⟩:=r1.get e1
 obtain ⟨u2,g2,q2⟩:=r2.get e2
 have g1':is.toArray[j] = u1:=by simpa [List.getElem?_eq_some_iff] using (List.getElem?_eq_some_iff.mp g1).2
 have g2':js.toArray[j] = u2:=by simpa [List.getElem?_eq_some_iff] using (List.getElem?_eq_some_iff.mp g2).2
 rw [g1',g2']
 obtain ⟨f1,f2,f3⟩:=p _ (List.getElem_mem j1) _ (List.getElem_mem j2)
 have:=Aq (A:=A) (s:=s) q1 q2 f1 f2
 rw [f3] at this
 have e:decide (xs[j]? = ys[j]?) = decide (xs[j] = ys[j]):=by rw [e1,e2];simp
 show SeqAt.EqAt A s u1 u2 (decide (xs[j]? = ys[j]?))
 rw [e]
 exact this
theorem Dp {xs ys:List V} (h:xs.length = ys.length):((List.range xs.length).all λj=>decide (xs[j]? = ys[j]?)) = decide (xs = ys):=by
 rw [Bool.eq_iff_iff,List.all_eq_true,decide_eq_true_eq]
 constructor
 ·intro z
  refine List.ext_getElem? λj=>?_
  by_cases hj:j < xs.length
  ·simpa using z j (List.mem_range.mpr hj)
  ·rw [List.getElem?_eq_none (by lia),List.getElem?_eq_none (by lia)]
 ·intro z j _
  rw [z];simp
def OB (K:PySem.W.Frag):R2:=λx y H Q=>∃ a b xs ys,x = .ref a /\ y = .ref b /\ bf K H a xs /\ bf K H b ys /\ qu xs ys /\ Q (.bl (!decide (xs = ys))) H
theorem lM (hu:X.A.units < cLine):mD X (compareOp .NotEq) (OB X.K):=by
 intro pins s Z H x y v u Q I rx ry h
 obtain ⟨a,b,xs,ys,rfl,rfl,ha,hb,hp,q⟩:=h
 cases rx
 cases ry
 obtain ⟨is,r1,p1,_⟩:=I.list ha
 obtain ⟨js,r2,p2,_⟩:=I.list hb
 obtain ⟨o1,n1,e1,c1,_,d1⟩:=p1
 obtain ⟨o2,n2,e2,c2,_,d2⟩:=p2
 have l1:=r1.length
 have l2:=r2.length
 by_cases hl:xs.length = ys.length
 ·refine PySem.SeqAt.RcNeAt.lists (e:=λj=>decide (xs[j]? = ys[j]?)) ⟨o1,e1,c1,n1,d1⟩ ⟨o2,e2,c2,n2,d2⟩ (by simp [← l1,← l2,hl]) hu (wu hp r1 r2) _ _ _ _ ?_
  have z:is.toArray.size = xs.length:=by simp [← l1]
  rw [z,Dp hl]
  exact ⟨.bl _,H,I,rfl,q⟩
 ·refine PySem.SeqAt.RcNeAt.lists_lengths ⟨o1,e1,c1,n1,d1⟩ ⟨o2,e2,c2,n2,d2⟩ (by simpa [← l1,← l2] using hl) hu _ _ _ _ ?_
  rw [decide_eq_false (λz=>hl (by rw [z]))] at q
  exact ⟨.bl true,H,I,rfl,q⟩
theorem qB {α β:Type} (f:α -> Int) (g:β -> Int) (xs:List α) (ys:List β):qu (xs.map λx=>V.int (f x)) (ys.map λy=>V.int (g y)):=by
 intro x hx y hy
 obtain ⟨a,_,rfl⟩:=List.mem_map.mp hx
 obtain ⟨b,_,rfl⟩:=List.mem_map.mp hy
 refine ⟨rfl,rfl,?_⟩
 show (f a == g b) = _
 rw [Bool.eq_iff_iff]
 simp
theorem pP (xs ys:List Str):qu (xs.map V.str) (ys.map V.str):=by
 intro x hx y hy
 obtain ⟨a,_,rfl⟩:=List.mem_map.mp hx
 obtain ⟨b,_,rfl⟩:=List.mem_map.mp hy
 refine ⟨rfl,rfl,?_⟩
 show (a == b) = _
 rw [Bool.eq_iff_iff]
 simp
end
end L2
namespace L2
open PySem PySem.Spec PyProof.Rows
section
variable {M:Model} {A:Around} {E:Value -> Shared -> Prop} {s:Shared} {base:Heap} {env:Env} {outer:List Env} {L e:Addr}
end
section
variable {M:Model} {A:Around} {E:Value -> Shared -> Prop} {s:Shared} {base:Heap} {env:Env} {outer:List Env} {L e C T:Addr} {d:Option Addr}
end
end L2
namespace L2
open PySem PySem.Spec PyProof.Rows
theorem c5.there {P:Program} {w:World} {H:Hp} {h:Heap} {a:Addr} {o:HO} (x:c5 P w H h a o):∃ ob,h.get? a = some ob:=by
 induction o with
 | lst xs=>obtain ⟨_,_,_,_,e⟩:=x;exact ⟨_,e⟩
 | tup xs=>obtain ⟨_,_,_,p⟩:=x;obtain ⟨ob,e,_⟩:=p;exact ⟨ob,e⟩
 | dK kvs=>obtain ⟨_,_,_,_,o,_,_,e,_⟩:=x;exact ⟨o,e⟩
 | dT kvs=>obtain ⟨_,_,_,_,o,_,_,e,_⟩:=x;exact ⟨o,e⟩
 | set S n=>obtain ⟨o,_,_,_,e,_⟩:=x;exact ⟨o,e⟩
 | ins C dx fs=>obtain ⟨_,_,_,e,_⟩:=x;exact ⟨_,e⟩
 | own y=>exact x
 | xd fs=>obtain ⟨_,⟨o,_,_,e,_⟩,_⟩:=x;exact ⟨o,e⟩
 | met f y=>exact ⟨_,x⟩
 | Pg lo hi=>obtain ⟨_,_,_,e⟩:=x;exact ⟨_,e⟩
 | Ar o u _=>exact ⟨o,x.1⟩
 | Js ps=>exact ⟨_,x⟩
 | ext φ=>exact x.2.1
theorem kD.new {P:Program} {w:World} {H:Hp} {h:Heap} {a:Addr} (k:kD P w H h) (e:h.get? a = none):H a = none:=by
 cases q:H a with
 | none=>rfl
 | some o =>
  obtain ⟨ob,q2⟩:=(k a o q).there
  rw [e] at q2;cases q2
section
variable {P:Program} {w:World} {K:PySem.W.Frag} {mg:Str -> Option Value} {base:Heap} {N:List Str} {qual:Str} {scope:Scope} {f:Addr} {cd:Value} {A:Around} {outer:List Env} {s:Shared} {H:Hp} {E:XK}
end
end L2
namespace L2
open PySem PySem.Spec PyProof.Rows
section
variable {X:Cx} {pins:List (Addr × Obj)} {Z:St} {H:Hp} {s:Shared} {h':Heap}
end
section
variable {P:Program} {w:World} {K:PySem.W.Frag} {mg:Str -> Option Value} {base:Heap} {N:List Str} {qual:Str} {scope:Scope} {f:Addr} {cd:Value} {A:Around} {outer:List Env} {s:Shared} {H:Hp} {E:XK}
end
end L2
namespace L2
open PySem PySem.Spec PyProof.Rows
section
variable {M:Model} {A:Around} {E:Value -> Shared -> Prop}
end
end L2
namespace L2
open PySem PySem.Spec PyProof.Rows
section
variable {X:Cx} {pins pins':List (Addr × Obj)} {Z:St} {H:Hp} {s:Shared}
end
end L2
namespace L2
open PySem PySem.Spec PyProof.Rows
section
variable {X:Cx} {pins:List (Addr × Obj)} {Z:St} {H:Hp} {s:Shared} {h2:Heap} {e C T T2:Addr} {d:Option Addr}
end
end L2
namespace L2
open PySem PySem.Spec PyProof.Rows
section
variable {X:Cx}
end
section
variable {X:Cx} {CX:Ac} {k:Nat} {f C:Addr} {fd:FuncData} {ps:List Str} {sp:Sp} {dvs:List V} {ds:List Value} {x m:Str} {p pos apos:Pos} {e o:Expr} {es:List Expr} {ta:TE} {t:TA}
end
section
variable {P:Program} {w:World} {K:PySem.W.Frag} {mg:Str -> Option Value} {base:Heap}
end
end L2
namespace L2
open PySem PySem.Spec PyProof.Rows PySem.W
section
variable {prog:Program} {w:World} {A:Around} {E:Value -> Shared -> Prop} {s:Shared} {K:Frag} {x C:Addr} {ox:Obj} {od:Option Obj} {name:Str}
end
end L2
namespace L2
open PySem PySem.Spec PyProof.Rows PySem.W
section
variable {prog:Program} {w:World} {A:Around} {E:Value -> Shared -> Prop} {h:Heap} {g:Array GenState} {d:Drawn} {t:Nat} {os:OsState} {K:Frag} {C fI:Addr} {oI:Obj} {bm:List Value} {Nn:Addr} {mN:Str -> Option Value} {rest:List Value}
end
end L2
namespace L2
open PySem PySem.Spec PyProof.Rows PySem.W
section
variable {prog:Program} {w:World} {A:Around} {E:Value -> Shared -> Prop} {s:Shared} {K:Frag} {e C:Addr} {oe:Obj} {od:Option Obj} {bm:List Value} {Nn:Addr} {mN:Str -> Option Value} {name:Str} {v:Value} {vs:Array Value}
end
end L2
namespace L2
open PySem PySem.Spec PyProof.Rows PySem.W
section
variable {X:Cx} {pins:List (Addr × Obj)} {Z:St} {H:Hp} {s:Shared} {e C dx:Addr} {d:Option Addr} {fs:List (Str × V)} {f:Str} {A:Around} {E:Value -> Shared -> Prop}
end
end L2
namespace L2
open PySem PySem.Spec PyProof.Rows PySem.W
section
variable {X:Cx} {o value ex:Expr} {f:Str} {pos pos':Pos} {ta tv:TE}
end
end L2
namespace L2
open PySem PySem.Spec PyProof.Rows PySem.W
section
variable {P:Program} {w:World} {K:PySem.W.Frag} {mg:Str -> Option Value} {base:Heap} {N:List Str} {qual:Str} {scope:Scope} {f:Addr} {cd:Value} {A:Around} {outer:List Env} {s:Shared} {H:Hp} {E:XK}
end
end L2
namespace L2
open PySem PySem.Spec PyProof.Rows PySem.W
section
variable {P:Program} {w:World} {K:Frag} {mg:Str -> Option Value} {base:Heap} {CX:Ac} {k:Nat} {f:Addr} {fd:FuncData} {ps:List Str} {sp:Sp}
end
section
variable {X:Cx} {CX:Ac} {k:Nat} {f:Addr} {fd:FuncData} {ps:List Str} {sp:Sp} {x:Str} {p pos:Pos} {e:Expr} {es:List Expr} {t:TA} {E:XK}
end
end L2
namespace L2
open PySem PySem.Spec PyProof.Rows PySem.W
section
variable {X:Cx} {pins:List (Addr × Obj)} {Z:St} {H:Hp} {s:Shared} {e C:Addr} {d:Option Addr} {A:Around} {E:Value -> Shared -> Prop}
end
section
variable {X:Cx} {T:Str} {tp apos pos:Pos} {e1:Expr} {es:List Expr} {t:TA} {D:Addr}
end
end L2
namespace L2
open PySem PySem.Spec PyProof.Rows PySem.W
end L2
namespace L2
open PySem PySem.Spec PyProof.Rows
section
variable {X:Cx} {pins:List (Addr × Obj)} {Z:St} {H:Hp} {s:Shared}
end
end L2
namespace L2
open PySem PySem.Spec PyProof.Rows
section
variable {X:Cx} {pins:List (Addr × Obj)} {Z:St} {H:Hp} {s:Shared}
end
end L2
namespace L2
open PySem PySem.Spec PyProof.Rows
def mF (K:PySem.W.Frag) (H:Hp):Nat -> V -> V -> Prop
 | 0,x,y=>x = y /\ (iK x = true ∨ ∃ a,x = .ref a)
 | n + 1,x,y=>(x = y /\ (iK x = true ∨ ∃ a,x = .ref a)) ∨ ∃ a b xs ys,x = .ref a /\ y = .ref b /\ ((bf K H a xs /\ bf K H b ys) ∨ (d8 K H a xs /\ d8 K H b ys)) /\ xs.length = ys.length /\ ∀ (j:Nat) (x y:V),xs[j]? = some x -> ys[j]? = some y -> mF K H n x y
section
variable {X:Cx} {pins:List (Addr × Obj)} {Z:St} {H:Hp} {s:Shared}
theorem iC {n:Nat} {xs ys:List V} {is js:List Value} {A:Around} (ih:∀ (x y:V) (u v:Value),RelV x u -> RelV y v -> mF X.K H n x y -> SeqAt.EqAt A s u v true) (r1:Vals xs is) (r2:Vals ys js) (h:∀ (j:Nat) (x y:V),xs[j]? = some x -> ys[j]? = some y -> mF X.K H n x y) :
  ∀ j (h1:j < is.toArray.size) (h2:j < js.toArray.size),SeqAt.EqAt A s is.toArray[j] js.toArray[j] ((λ_=>true) j):=by
 intro j h1 h2
 have l1:=r1.length
 have l2:=r2.length
 have j1:j < xs.length:=by simpa [l1] using h1
 have j2:j < ys.length:=by simpa [l2] using h2
 obtain ⟨u1,g1,q1⟩:=r1.get (List.getElem?_eq_getElem j1)
 obtain ⟨u2,g2,q2⟩:=r2.get (List.getElem?_eq_getElem j2)
 have g1':is.toArray[j] = u1:=by simpa [List.getElem?_eq_some_iff] using (List.getElem?_eq_some_iff.mp g1).2
 have g2':js.toArray[j] = u2:=by simpa [List.getElem?_eq_some_iff] using (List.getElem?_eq_some_iff.mp g2).2
 rw [g1',g2']
 exact ih _ _ _ _ q1 q2 (h j _ _ (List.getElem?_eq_getElem j1) (List.getElem?_eq_getElem j2))
theorem BO {A:Around} {x:V} {u v:Value} (rx:RelV x u) (ry:RelV x v) (h:iK x = true ∨ ∃ a,x = .ref a):SeqAt.EqAt A s u v true:=by
 rcases h with f | ⟨a,rfl⟩
 ·have:=Aq (A:=A) (s:=s) rx ry f f
  rwa [DT f] at this
 ·cases rx
  cases ry
  exact SeqAt.EqAt.same _
theorem ud (I:Inv X pins Z H s):∀ (n:Nat) (A:Around) (x y:V) (u v:Value),A.units + n < cLine -> RelV x u -> RelV y v -> mF X.K H n x y -> SeqAt.EqAt A s u v true
 | 0,A,x,y,u,v,_,rx,ry,⟨e,f⟩=>by
  subst e
  exact BO rx ry f
 | n + 1,A,x,y,u,v,hu,rx,ry,h=>by
  rcases h with ⟨e,f⟩ | ⟨a,b,xs,ys,rfl,rfl,hs,hl,hj⟩
  ·subst e
   exact BO rx ry f
  ·cases rx
   cases ry
   by_cases ne:a = b
   ·subst ne;exact SeqAt.EqAt.same _
   have ih:=λx y u v=>ud I n A.in1 x y u v (by show A.units + 1 + n < cLine;lia)
   rcases hs with ⟨h1,h2⟩ | ⟨h1,h2⟩
   ·obtain ⟨is,r1,p1,_⟩:=I.list h1
    obtain ⟨js,r2,p2,_⟩:=I.list h2
    obtain ⟨o1,n1,e1,c1,_,d1⟩:=p1
    obtain ⟨o2,n2,e2,c2,_,d2⟩:=p2
    have sz:is.toArray.size = js.toArray.size:=by simp [← r1.length,← r2.length,hl]
    have:=SeqAt.EqAt.of_refs ne (SeqAt.RcAt.lists ⟨o1,e1,c1,n1,d1⟩ ⟨o2,e2,c2,n2,d2⟩ sz (by lia) (iC ih r1 r2 hj))
    have z:((List.range is.toArray.size).all λ_=>true) = true:=List.all_eq_true.mpr λ_ _=>rfl
    rwa [z] at this
   ·obtain ⟨is,r1,p1,_⟩:=I.tuple h1
    obtain ⟨js,r2,p2,_⟩:=I.tuple h2
    obtain ⟨o1,e1,c1,n1,d1⟩:=p1
    obtain ⟨o2,e2,c2,n2,d2⟩:=p2
    have:=SeqAt.EqAt.of_refs ne (SeqAt.RcAt.tuples ⟨o1,e1,c1,n1,d1⟩ ⟨o2,e2,c2,n2,d2⟩ (by lia) (iC ih r1 r2 hj))
    have z:(((List.range (min is.toArray.size js.toArray.size)).all λ_=>true) && is.toArray.size == js.toArray.size) = true:=by simp [← r1.length,← r2.length,hl]
    rwa [z] at this
def Qk (K:PySem.W.Frag) (n:Nat):R2:=λx y H Q=>∃ a b xs ys,x = .ref a /\ y = .ref b /\ ((bf K H a xs /\ bf K H b ys) ∨ (d8 K H a xs /\ d8 K H b ys)) /\ xs.length = ys.length /\ (∀ (j:Nat) (x y:V),xs[j]? = some x -> ys[j]? = some y -> mF K H n x y) /\ Q (.bl false) H
theorem Km (n:Nat) (hu:X.A.units + (n + 1) < cLine):mD X (compareOp .NotEq) (Qk X.K n):=by
 intro pins s Z H x y v u Q I rx ry h
 obtain ⟨a,b,xs,ys,rfl,rfl,hs,hl,hj,q⟩:=h
 cases rx
 cases ry
 have ih:=λx y u v=>ud I n X.A.in1 x y u v (by show X.A.units + 1 + n < cLine;lia)
 rcases hs with ⟨ha,hb⟩ | ⟨ha,hb⟩
 ·obtain ⟨is,r1,p1,_⟩:=I.list ha
  obtain ⟨js,r2,p2,_⟩:=I.list hb
  obtain ⟨o1,n1,e1,c1,_,d1⟩:=p1
  obtain ⟨o2,n2,e2,c2,_,d2⟩:=p2
  refine PySem.SeqAt.RcNeAt.lists (e:=λ_=>true) ⟨o1,e1,c1,n1,d1⟩ ⟨o2,e2,c2,n2,d2⟩ (by simp [← r1.length,← r2.length,hl]) (by lia) (iC ih r1 r2 hj) _ _ _ _ ?_
  have z:((List.range is.toArray.size).all λ_=>true) = true:=List.all_eq_true.mpr λ_ _=>rfl
  rw [z]
  exact ⟨.bl false,H,I,rfl,q⟩
 ·obtain ⟨is,r1,p1,_⟩:=I.tuple ha
  obtain ⟨js,r2,p2,_⟩:=I.tuple hb
  obtain ⟨o1,e1,c1,n1,d1⟩:=p1
  obtain ⟨o2,e2,c2,n2,d2⟩:=p2
  refine PySem.SeqAt.RcNeAt.tuples (e:=λ_=>true) ⟨o1,e1,c1,n1,d1⟩ ⟨o2,e2,c2,n2,d2⟩ (by lia) (iC ih r1 r2 hj) _ _ _ _ ?_
  have z:(((List.range (min is.toArray.size js.toArray.size)).all λ_=>true) && is.toArray.size == js.toArray.size) = true:=by simp [← r1.length,← r2.length,hl]
  rw [z]
  exact ⟨.bl false,H,I,rfl,q⟩
end
end L2
namespace PySem
namespace F
theorem B9:typeLookup (.type "list_reverseiterator") "__len__" = pure none:=by rw [typeLookup_type,builtinLookup_eq_fast];kernel_rfl
theorem FD:typeLookup (.type "list_reverseiterator") "__length_hint__" = pure (some (.builtin "list_reverseiterator.__length_hint__")):=by rw [typeLookup_type,builtinLookup_eq_fast];kernel_rfl
end F
section
variable {prog:Program} {w:World} {A:Around} {s:Shared} {R:Result -> Shared -> Prop}
variable {I:Addr} {fp wr:List Addr} {G:Array GenState -> Array GenState -> Prop} {n:Nat} {P:Nat -> Value -> Prop} {St:Nat -> Shared -> Prop}
theorem zU (W:WalksS prog w A.in1 I fp wr G n P St) (hT:∀ i s,St i s -> s.TypeIs (.ref I) "list_reverseiterator") (S:Addr) (res:Value) (c₀:Nat) (hst:St 0 s) (hSf:S ∉ fp) (hI:I ∈ fp)
  (hS:s.heap.get? S = some { cls:=.type "list",data:=.seq #[] c₀ })
  (hR:∀ s' acc' c',Moved (S :: wr) G s s' -> s'.heap.get? S = some { cls:=.type "list",dict:=none,data:=.seq acc' c',slots:=#[] } -> ItemsOf P acc' n -> R (.ok (.ret res)) s') (hn:n <= sizeLine) :
  wpAny (model prog w) A.in1 (Builtin.List.listExtendWith (.ref S) (.ref I) res)
   (λfin s'=>match fin with | .done f=>R (.ok f) s' | .again c'=>c'.quiet = true /\ codeAny (model prog w) A c' R s') (λe s'=>R (.error e) s') s:=by
 have hSI:S ≠ I:=λe=>hSf (e ▸ hI)
 unfold Builtin.List.listExtendWith
 refine wpAny_bind (wpAny_typeOf (hT 0 _ hst) ?_)
 have h1:Builtin.List.listSameRef (.ref S) (.ref I) = false:=by simp [Builtin.List.listSameRef,hSI]
 rw [if_neg (by rw [h1];decide)]
 refine wpAny_bind (W.self 0 _ _ _ hst ?_)
 refine wpAny_bind (wpAny_holding ?_)
 unfold Builtin.List.listLengthHint
 refine wpAny_bind (wpAny_specialOf (hT 0 _ hst) F.B9 ?_)
 show wpAny _ A.in1 (specialOf (Value.ref I) (Str.ofString "__length_hint__") >>= _) _ _ _
 refine wpAny_bind (wpAny_specialOf (hT 0 _ hst) F.FD ?_)
 (generalize hid:("list_reverseiterator.__length_hint__" : String) = id0;(fail_if_success (clear hid id0));wp_delta;rw [show splitId id0 = some ("list_reverseiterator","__length_hint__") from by subst hid;decide +kernel];subst hid)
 refine wpAny_bind (wpAny_isInstance (b:=true) (hT 0 _ hst) (by rw [isSubtype_type];kernel_rfl) ?_)
 refine wpAny_pure ?_
 rw [if_neg (by decide)]
 refine wpAny_pure ⟨plainId_quiet F.plain_extend_loop _,codeAny_extend_loopS W hn _ hSf _ n 0 _ _ _ rfl (Nat.zero_le _) hst hS (ItemsOf.nil P) λs' acc' c' hm hS' hacc=>?_⟩
 exact hR s' acc' c' hm hS' hacc
theorem GS (W:WalksS prog w A.in1 I fp wr G n P St) (hT:∀ i s,St i s -> s.TypeIs (.ref I) "list_reverseiterator") (S:Addr) (hst:St 0 s) (hSf:S ∉ fp) (hI:I ∈ fp)
  (hS:s.heap.get? S = some { cls:=.type "list",data:=.seq #[] })
  (hR:∀ s' acc' c',Moved (S :: wr) G s s' -> s'.heap.get? S = some { cls:=.type "list",dict:=none,data:=.seq acc' c',slots:=#[] } -> ItemsOf P acc' n -> R (.ok (.ret .none)) s') (hn:n <= sizeLine) :
  wpAny (model prog w) A.in1 (Builtin.«list.__init__» ⟨[.ref S,.ref I],[]⟩)
   (λfin s'=>match fin with | .done f=>R (.ok f) s' | .again c'=>c'.quiet = true /\ codeAny (model prog w) A c' R s') (λe s'=>R (.error e) s') s:=by
 show wpAny _ A.in1 (Builtin.List.listItems (.ref S) >>= λold=>Builtin.List.listUpdate (.ref S) (λ_=>#[]) >>= λ_=>letGo old.toList.reverse >>= λ_=>Builtin.List.listExtendWith (.ref S) (.ref I) .none) _ _ s
 refine wpAny_bind ?_
 unfold Builtin.List.listItems
 refine wpAny_bind (wpAny_seqItems hS rfl (wpAny_pure ?_))
 show wpAny _ A.in1 (updateSeq S (λ_=>#[]) >>= λ_=>letGo (#[]:Array Value).toList.reverse >>= λ_=>Builtin.List.listExtendWith (.ref S) (.ref I) .none) _ _ s
 refine wpAny_bind (wpAny_updateSeq hS rfl ?_)
 have hS₂:=Heap.get?_update_self (Obj.mapSeq (λ_=>(#[]:Array Value))) hS rfl
 have oth:∀ b o,b ≠ S -> s.heap.get? b = some o -> (s.heap.update S (Obj.mapSeq (λ_=>(#[]:Array Value)))).get? b = some o :=
  λb o hb e=>(Heap.get?_update_other _ _ (Ne.symm hb)).trans e
 refine wpAny_bind (wpAny_letGo ?_)
 refine zU (hn:=hn) W hT S .none _ (W.frame 0 s _ s.toks hst (Nat.le_refl _) λb hb o e=>oth b o (λh=>hSf (h ▸ hb)) e) hSf hI hS₂ λs' acc' c' hm hS' hacc=>?_
 exact hR s' acc' c' (Moved.trans W.gtrans ((Moved.refl W.grefl).then_heap (Nat.le_refl _) λb o hb e=>oth b o (λh=>hb (h ▸ List.mem_cons_self)) e) hm) hS' hacc
end
section
variable {prog:Program} {w:World} {A:Around} {E:Value -> Shared -> Prop} {s:Shared}
theorem sF {I l:Addr} {items:Array Value} {Q:Value -> Shared -> Prop} (hh:A.handled = none) (hne:l ≠ I) (hi:s.heap.IsRevIter I l ((items.size:Int) - 1)) (hl:s.heap.IsList l items) (hn:items.size <= sizeLine)
  (hQ:∀ h' tk acc' c',(∀ b o,b ≠ I -> s.heap.get? b = some o -> h'.get? b = some o) -> h'.get? s.heap.objs.size = some { cls:=.type "list",dict:=none,data:=.seq acc' c',slots:=#[] } ->
   ItemsOf (λi v=>items[items.size - 1 - i]? = some v) acc' items.size -> Q (.ref s.heap.objs.size) { s with heap:=h',toks:=tk }) :
  wpAny (model prog w) A (call (.type "list") [.ref I]) Q E s:=by
 have W:=(Walks.listRev (prog:=prog) (w:=w) (A:=A.in1.in1) hh I l hne items).toS
 have lI:I < s.heap.objs.size:=by obtain ⟨_,e,_⟩:=hi;exact Heap.lt_size e
 have ll:l < s.heap.objs.size:=by obtain ⟨_,e,_⟩:=hl;exact Heap.lt_size e
 have hSf:s.heap.objs.size ∉ [I,l]:=λz=>by
  rcases List.mem_cons.mp z with e | e
  ·exact Nat.ne_of_gt lI e
  ·exact Nat.ne_of_gt ll (List.mem_singleton.mp e)
 have hst:(0:Nat) <= items.size /\ s.heap.IsRevIter I l ((items.size:Int) - 1 - ((0:Nat):Int)) /\ s.heap.IsList l items:=⟨Nat.zero_le _,by simpa using hi,hl⟩
 refine callType_codes (Q₁:=λobj s₁=>obj = .ref s.heap.objs.size /\ s₁ = { s with heap:=s.heap.push { cls:=.type "list",data:=.seq #[] } }) F.called_list (F.typeCall_list_1 _) F.entry_list_init
  (code_list_new _ ⟨rfl,rfl⟩) λobj s₁ h₁=>?_
 obtain ⟨rfl,rfl⟩:=h₁
 have hS:(s.heap.push { cls:=.type "list",data:=.seq #[] }).get? s.heap.objs.size = some { cls:=.type "list",data:=.seq #[] }:=Heap.get?_push_size _ rfl
 refine ⟨⟨_,hS,rfl⟩,F.args_list_init_2 _ _,GS (A:=A.in1) (hn:=hn) W (λi s st=>st.2.1.typeIs) _ (W.frame 0 s _ s.toks hst (Nat.le_refl _) λb _ o e=>Heap.get?_push_of_some _ e) hSf (by simp) hS λs' acc' c' hm hS' hacc=>?_⟩
 rw [Moved.eq_with hm]
 refine ⟨rfl,hQ s'.heap s'.toks acc' c' (λb o hb e=>?_) hS' hacc⟩
 refine hm.heap b o (λhmem=>?_) (Heap.get?_push_of_some _ e)
 rcases List.mem_cons.mp hmem with z | z
 ·exact absurd (Heap.lt_size e) (by rw [z];exact Nat.lt_irrefl _)
 ·exact hb (List.mem_singleton.mp z)
end
end PySem
namespace L2
open PySem PySem.Spec PyProof.Rows
theorem Inv.Iu {X:Cx} {pins:List (Addr × Obj)} {Z:St} {H:Hp} {s:Shared} {h':Heap} {t':Nat} {ch:List Addr} (I:Inv X pins Z H s) (k:∀ b o,b ∉ ch -> s.heap.get? b = some o -> h'.get? b = some o) (hn:∀ b ∈ ch,H b = none)
  (hL:∀ b ∈ ch,b ≠ X.env.locals) (h1:∀ b ∈ ch,b ∈ X.ex ∨ X.s₀.heap.objs.size <= b) (h2:∀ b ∈ ch,∀ x c,X.env.cells.lookup x = some c -> c ≠ b) (h3:∀ b ∈ ch,∀ p ∈ X.pn ++ pins,p.1 ≠ b) :
  Inv X pins Z H { s with heap:=h',toks:=t' }:=by
 have nit:∀ b u,H b = some u -> b ∉ ch:=λb u e z=>by rw [hn b z] at e;cases e
 refine I.step (g':=s.gens) (d':=s.drawn) (ch:=ch) (λb hb=>⟨h1 b hb,hL b hb,h2 b hb,h3 b hb⟩) (λb o _ _ hc e _=>k b o hc e) (λb o _ _ hc e _=>⟨o.slots,k b o hc e⟩) (λ_ _ _ _ n=>n)
  (λb o hc e=>⟨o,k b o hc e⟩) (λ_ _ e=>e) (λ_ _ _ e=>e) (λb ps e=>⟨#[],by rw [e];simp⟩) (λm hm=>?_) (λb u e=>?_) I.bare
 ·obtain ⟨o,es,ep,ho,r⟩:=hm
  exact ⟨o,es,ep,k _ o (λz=>hL _ z rfl) ho,r⟩
 ·refine (I.hok b u e).stay (λc v hc q=>k c v ?_ q) (λ_ q=>q) λ_ _ q=>q
  rcases hc with z | z
  ·rw [z];exact nit b u e
  ·exact nit c _ z
def Q2 (K:PySem.W.Frag) (a b:Addr):It :=
 ⟨λi H=>∃ xs ys x y,bf K H a xs /\ bf K H b ys /\ xs[i]? = some x /\ ys[i]? = some y,
  λi H x H'=>∃ p v u,H p = none /\ x = .ref p /\ H' = upd H p (.tup [v,u]) /\ (∀ xs,bf K H a xs -> xs[i]? = some v) /\ ∀ ys,bf K H b ys -> ys[i]? = some u,
  λi H=>∃ xs ys,bf K H a xs /\ bf K H b ys /\ (xs.length <= i ∨ ys.length <= i)⟩
theorem Gp {P:Program} {w:World} {K:PySem.W.Frag} {elts:List Expr} {x1} {pos:Pos} (a b z TI TO i1 i2:Addr) (D:ZipApart z TI TO i1 i2 a b) :
  Turn P w K (.Tuple elts x1 pos) (Q2 K a b) [z,TI,TO,i1,i2] z (λi h=>∃ v u,IsZip h z TI TO .none /\ IsPair h TI (.ref i1) (.ref i2) /\ IsPair h TO v u /\ h.IsListIter i1 a i /\ h.IsListIter i2 b i) where
 mem:=by simp
 obj:=λi h st c hc=>by
  obtain ⟨v,u,hz,hI,hO,h1,h2⟩:=st
  simp only [List.mem_cons,List.not_mem_nil,or_false] at hc
  rcases hc with e | e | e | e | e
  ·subst e;exact ⟨_,hz,λv q=>by cases q⟩
  ·subst e;exact ⟨_,hI,λv q=>by cases q⟩
  ·subst e;exact ⟨_,hO,λv q=>by cases q⟩
  ·subst e;obtain ⟨o,e,c,d⟩:=h1;exact ⟨o,e,λv q=>by rw [d] at q;cases q⟩
  ·subst e;obtain ⟨o,e,c,d⟩:=h2;exact ⟨o,e,λv q=>by rw [d] at q;cases q⟩
 keep:=λi h h' st k=>by
  obtain ⟨v,u,hz,hI,hO,h1,h2⟩:=st
  exact ⟨v,u,k z (by simp) _ hz,k TI (by simp) _ hI,k TO (by simp) _ hO,h1.at λo q=>k i1 (by simp) o q,h2.at λo q=>k i2 (by simp) o q⟩
 item:=by
  intro X hP hw hK hc i pins s Z H E I hf st hg
  subst hP hw hK
  obtain ⟨v0,u0,hz,hI,hO,h1,h2⟩:=st
  obtain ⟨xs,ys,x,y,hq1,hq2,hx,hy⟩:=hg
  obtain ⟨is,r1,p1,z1⟩:=I.list hq1
  obtain ⟨js,r2,p2,z2⟩:=I.list hq2
  obtain ⟨u,hu,ru⟩:=r1.get hx
  obtain ⟨v,hv,rv⟩:=r2.get hy
  have fz:=hf z (by simp)
  have fI:=hf TI (by simp)
  have fO:=hf TO (by simp)
  have f1:=hf i1 (by simp)
  have f2:=hf i2 (by simp)
  refine wpAny_pyNext_zip_item D hz hI hO h1 h2 p1.isList p2.isList (x:=u) (y:=v) (by simpa using hu) (by simpa using hv) λg1 gz gO ga gb gT hsz hk=>?_
  refine ⟨_,rfl,wpAny_letOwnedTupleGo_zip (s:={ s with heap:=g1 }) gz λg2 en sb=>?_⟩
  have lz:z ≠ s.heap.objs.size:=Nat.ne_of_lt (Heap.lt_size hz)
  have lI:TI ≠ s.heap.objs.size:=Nat.ne_of_lt (Heap.lt_size hI)
  have lO:TO ≠ s.heap.objs.size:=Nat.ne_of_lt (Heap.lt_size hO)
  have l1:i1 ≠ s.heap.objs.size:=by obtain ⟨o,q,_⟩:=h1;exact Nat.ne_of_lt (Heap.lt_size q)
  have l2:i2 ≠ s.heap.objs.size:=by obtain ⟨o,q,_⟩:=h2;exact Nat.ne_of_lt (Heap.lt_size q)
  have k2:∀ c o,c ∉ [z,TI,TO,i1,i2] -> s.heap.get? c = some o -> g2.get? c = some o:=λc o n q=>by
   simp only [List.mem_cons,List.not_mem_nil,or_false,not_or] at n
   exact (sb.2 c n.1).trans (hk c o n.1 n.2.2.1 n.2.2.2.1 n.2.2.2.2 q)
  have fresh:=I.hok.fresh (Nat.le_refl s.heap.objs.size)
  have I1:Inv X pins Z (upd H s.heap.objs.size (.tup [x,y])) { s with heap:=g2 }:=by
   refine I.step (g':=s.gens) (d':=s.drawn) (t':=s.toks) (ch:=[z,TI,TO,i1,i2]) (λb hb=>?_) (λb o _ _ hc q _=>?_) (λb o _ _ hc q _=>?_) (λb o hc q n=>?_) (λb o hc q=>?_) (λb ys q=>?_) (λb o ys q=>?_) (λb ps q=>?_) (λm hm=>?_) (λb u' q=>?_) I.bare
   ·have f:=hf b hb
    exact ⟨f.2.2.2.1,f.2.1,f.2.2.2.2.1,f.2.2.2.2.2⟩
   ·exact k2 b o hc q
   ·exact ⟨o.slots,k2 b o hc q⟩
   ·rw [au (Nat.ne_of_lt (Heap.lt_size q))];exact n
   ·exact ⟨o,k2 b o hc q⟩
   ·rw [au (aj q fresh)];exact q
   ·rw [au (aj q fresh)];exact q
   ·exact ⟨#[],by rw [au (aj q fresh),q];simp⟩
   ·obtain ⟨o,es,ep,ho,r⟩:=hm
    refine ⟨o,es,ep,k2 _ o (λn=>?_) ho,r⟩
    exact (hf _ n).2.1 rfl
   ·by_cases hb:b = s.heap.objs.size
    ·subst hb
     rw [ai] at q;cases q
     refine ⟨by show 2 <= sizeLine;decide,[u,v],.cons ru (.cons rv .nil),⟨_,(sb.2 _ (Ne.symm lz)).trans gT,rfl,_,rfl⟩⟩
    ·rw [au hb] at q
     refine (I.hok b u' q).stay (λc v hc' r=>k2 c v (λn=>?_) r) (λc r=>by rw [au (aj r fresh)];exact r) λc ys r=>by rw [au (aj r fresh)];exact r
     have n0:=(hf c n).1
     rcases hc' with e | e
     ·rw [e] at n0;rw [n0] at q;cases q
     ·rw [n0] at e;cases e
  refine ⟨.ref s.heap.objs.size,_,I1,rfl,⟨_,x,y,fresh,rfl,rfl,λzs hs=>by rw [I.mC hs hq1];exact hx,λzs hs=>by rw [I.mC hs hq2];exact hy⟩,⟨u,v,en,?_,?_,?_,?_⟩,λc hc=>?_⟩
  ·exact (sb.2 TI D.TIz).trans (hk _ _ D.TIz D.TITO D.TIi1 D.TIi2 hI)
  ·exact (sb.2 TO D.TOz).trans gO
  ·obtain ⟨o,q,r⟩:=ga
   exact ⟨o,(sb.2 i1 D.i1z).trans q,r⟩
  ·obtain ⟨o,q,r⟩:=gb
   exact ⟨o,(sb.2 i2 D.i2z).trans q,r⟩
  ·have hb':=(hf c hc).1
   simp only [List.mem_cons,List.not_mem_nil,or_false] at hc
   rw [au]
   ·exact hb'
   ·rcases hc with e | e | e | e | e <;> rw [e] <;> assumption
 done:=by
  intro X hP hw hK hc i pins s Z H E I hf st hg
  subst hP hw hK
  obtain ⟨v0,u0,hz,hI,hO,h1,h2⟩:=st
  obtain ⟨xs,ys,hq1,hq2,hx⟩:=hg
  obtain ⟨is,r1,p1,z1⟩:=I.list hq1
  obtain ⟨js,r2,p2,z2⟩:=I.list hq2
  have e1:=r1.length
  have e2:=r2.length
  refine wpAny_pyNext_zip_end (I.ok.hd hc) D hz hI hO h1 h2 p1.isList p2.isList (by rcases hx with h | h;· left;simp;lia
                                                                                    ·right;simp;lia) λh' eb=>⟨rfl,?_⟩
  refine I.Iu (t':=s.toks) (ch:=[z,TI,TO,i1,i2]) (λb o hb e=>?_) (λb hb=>(hf b hb).1) (λb hb=>(hf b hb).2.1) (λb hb=>(hf b hb).2.2.2.1) (λb hb=>(hf b hb).2.2.2.2.1) λb hb=>(hf b hb).2.2.2.2.2
  simp only [List.mem_cons,List.not_mem_nil,or_false,not_or] at hb
  exact eb b o hb.1 hb.2.2.1 hb.2.2.2.1 hb.2.2.2.2 e
 self:=λ_ _ _ _ _ st h=>by
  obtain ⟨v,u,hz,hI,hO,h1,h2⟩:=st
  exact wpAny_pyIter_zip hz h
theorem CV {n l m:Nat} (h:l < n) (h':m < n):ZipApart (n + 4) (n + 2) (n + 3) n (n + 1) l m:=by
 constructor <;> (intro e;have e:(_:Nat) = _:=e;lia)
section
variable {X:Cx}
def Pp (K:PySem.W.Frag) (ta:TA):TI:=λZ H R=>ta Z H λvs H1=>∃ a b xs ys,vs = [.ref a,.ref b] /\ bf K H1 a xs /\ bf K H1 b ys /\ R (Q2 K a b) H1
theorem LY {a b:Expr} {ta:TA} {p pos tp:Pos} {elts:List Expr} {x1} (hg:Gl X "zip") (hm:X.mg "zip" = none) (ha:PA X [a,b] ta) (hs:starEach [a,b] X.env = (false,eval a X.env) :: starEach [b] X.env:=by rfl) (hs2:(backTo pos (starEach [b] X.env)).any (·.1) = false:=by rfl) :
  PI X (.Tuple elts x1 tp) (.Call (.Name "zip" p) [a,b] [] pos) (Pp X.K ta):=by
 intro pins s Z H R I h
 refine Call_ (jX I hg hm (show bootBuiltins "zip" = some (.type "zip") by decide +kernel) (PyProof.Rows.callWith_type1 (dN (ha pos pins s Z H _ I h) λus s1 hY=>?_) hs hs2))
 obtain ⟨vs,H1,I1,r1,q1⟩:=hY
 obtain ⟨l,m,xs,ys,rfl,hq1,hq2,q⟩:=q1
 obtain ⟨u,v,rfl,ru,rv⟩:=r1.two
 cases ru
 cases rv
 obtain ⟨is,_,p1,_⟩:=I1.list hq1
 obtain ⟨js,_,p2,_⟩:=I1.list hq2
 refine call_zip_2 p1.isList p2.isList λh' hz hI hO h1 h2 hsz hk=>?_
 refine wpAny_pyIter_zip (s:={ s1 with heap:=h' }) hz ?_
 have ll:l < s1.heap.objs.size:=by obtain ⟨_,e,_⟩:=p1.isList;exact Heap.lt_size e
 have lm:m < s1.heap.objs.size:=by obtain ⟨_,e,_⟩:=p2.isList;exact Heap.lt_size e
 refine ⟨s1.heap.objs.size + 4,[s1.heap.objs.size + 4,s1.heap.objs.size + 2,s1.heap.objs.size + 3,s1.heap.objs.size,s1.heap.objs.size + 1],_,_,H1,rfl,I1.kept (t':=s1.toks) hk,Gp l m _ _ _ _ _ (CV ll lm),⟨_,_,hz,hI,hO,h1,h2⟩,λb hb=>?_,q⟩
 have hb':s1.heap.objs.size <= b:=by
  simp only [List.mem_cons,List.not_mem_nil,or_false] at hb
  rcases hb with e | e | e | e | e <;> rw [e]
  ·exact Nat.le_add_right _ _
  ·exact Nat.le_add_right _ _
  ·exact Nat.le_add_right _ _
  ·exact Nat.le_refl _
  ·exact Nat.le_add_right _ _
 exact I1.Dt hb' (I1.hok.fresh hb')
theorem DR {K:PySem.W.Frag} {a b:Addr} {xs ys:List V} {g:TG} {tb:TS} {D:Ends} {Z:St} {H:Hp} (Pv:Nat -> St -> Hp -> Prop) (h0:Pv 0 Z H) (hl:∀ i Z H,i <= xs.length -> i <= ys.length -> Pv i Z H -> bf K H a xs /\ bf K H b ys)
  (hs:∀ i x y p Z H,xs[i]? = some x -> ys[i]? = some y -> H p = none -> Pv i Z H -> g (.ref p) Z (upd H p (.tup [x,y])) λZ2 H2=>tb { D with nx:=Pv (i + 1),ct:=Pv (i + 1),bk:=D.nx } Z2 H2)
  (hd:∀ i Z H,(i = xs.length ∨ i = ys.length) -> i <= xs.length -> i <= ys.length -> Pv i Z H -> D.nx Z H):El (Q2 K a b) g tb D Z H:=by
 refine ⟨λi m Z H=>m = xs.length - i /\ i <= xs.length /\ i <= ys.length /\ Pv i Z H,⟨xs.length,by simp,Nat.zero_le _,Nat.zero_le _,h0⟩,?_⟩
 rintro i m Z H ⟨rfl,hi,hj,p⟩
 obtain ⟨q1,q2⟩:=hl i Z H hi hj p
 by_cases h1:i < xs.length
 ·by_cases h2:i < ys.length
  ·refine .inr ⟨⟨xs,ys,xs[i],ys[i],q1,q2,by simp [h1],by simp [h2]⟩,Pv (i + 1),λZ' H' p'=>⟨xs.length - (i + 1),by lia,rfl,h1,h2,p'⟩,λx H' y=>?_⟩
   obtain ⟨pp,v,u,e1,rfl,rfl,e2,e3⟩:=y
   exact hs i v u pp Z H (e2 xs q1) (e3 ys q2) e1 p
  ·exact .inl ⟨⟨xs,ys,q1,q2,.inr (by lia)⟩,hd i Z H (.inr (by lia)) hi hj p⟩
 ·exact .inl ⟨⟨xs,ys,q1,q2,.inl (by lia)⟩,hd i Z H (.inl (by lia)) hi hj p⟩
theorem Eo {xs:List V} {is:List Value} {acc:Array Value} (r:Vals xs is) (hi:ItemsOf (λi v=>is.toArray[is.toArray.size - 1 - i]? = some v) acc is.toArray.size):Vals xs.reverse acc.toList:=by
 have e:acc.toList = is.reverse:=by
  apply List.ext_getElem?
  intro i
  have hz:acc.size = is.length:=by have:=hi.1;simpa using this
  by_cases hlt:i < is.length
  ·have hi':i < acc.size:=by rw [hz];exact hlt
   have h2:=hi.2 i acc[i] (by simp [hi'])
   rw [List.getElem?_reverse hlt]
   have h2:is[is.length - 1 - i]? = some acc[i]:=by simpa using h2
   rw [h2]
   simp [hi']
  ·rw [List.getElem?_eq_none (by simp;lia),List.getElem?_eq_none (by simp;lia)]
 rw [e]
 clear e hi
 induction r with
 | nil=>exact .nil
 | cons h t ih =>
  rw [List.reverse_cons,List.reverse_cons]
  exact ih.append (.cons h .nil)
def Fb (K:PySem.W.Frag) (ta:TA):TE:=λZ H Q=>ta Z H λvs H1=>∃ l xs,vs = [.ref l] /\ bf K H1 l xs /\ ∀ r,H1 r = none -> Q (.ref r) (upd H1 r (.lst xs.reverse))
theorem rM {a:Expr} {ta:TA} {p pos p2 pos2:Pos} (hc:X.calm = true) (hg:Gl X "list") (hm:X.mg "list" = none) (hg2:Gl X "reversed") (hm2:X.mg "reversed" = none) (ha:PA X [a] ta)
  (hs:starEach [.Call (.Name "reversed" p2) [a] [] pos2] X.env = [(false,eval (.Call (.Name "reversed" p2) [a] [] pos2) X.env)]:=by rfl) (hs2:starEach [a] X.env = [(false,eval a X.env)]:=by rfl) :
  PE X (.Call (.Name "list" p) [.Call (.Name "reversed" p2) [a] [] pos2] [] pos) (Fb X.K ta):=by
 intro pins s Z H Q I h
 refine Call_ (jX I hg hm (show bootBuiltins "list" = some (.type "list") by decide +kernel) (PyProof.Rows.callWith_type1 ?_ hs rfl))
 rw [hs]
 show wpAny _ _ (spliced [(false,eval (.Call (.Name "reversed" p2) [a] [] pos2) X.env)]) _ _ s
 refine Calls.spliced_cons ?_
 refine Call_ (jX I hg2 hm2 (show bootBuiltins "reversed" = some (.type "reversed") by decide +kernel) (PyProof.Rows.callWith_type1 (dN (ha pos2 pins s Z H _ I h) λus s1 hY=>?_) hs2 rfl))
 obtain ⟨vs,H1,I1,r1,q1⟩:=hY
 obtain ⟨l,xs,rfl,hq,q⟩:=q1
 obtain ⟨u,rfl,ru⟩:=r1.one
 cases ru
 obtain ⟨is,rv,pl,hz⟩:=I1.list hq
 refine call_reversed_list pl.isList (Calls.spliced_nil ?_)
 have ll:l < s1.heap.objs.size:=by obtain ⟨_,e,_⟩:=pl.isList;exact Heap.lt_size e
 refine sF (I.ok.hd hc) (Nat.ne_of_lt ll) ⟨_,Heap.get?_push_size _ rfl,rfl,rfl⟩ (pl.isList.push _) (by have:=rv.length;simp;lia) λh' tk acc c kp e hi=>?_
 have sz:(s1.heap.push (revObj l ((is.toArray.size:Int) - 1))).objs.size = s1.heap.objs.size + 1:=Heap.size_push ..
 have hlen:xs.length <= sizeLine:=hz
 have k2:∀ b u,s1.heap.get? b = some u -> h'.get? b = some u:=λb u eb=>kp b u (Nat.ne_of_lt (Heap.lt_size eb)) (Heap.get?_push_of_some _ eb)
 have hp:s1.heap.objs.size <= (s1.heap.push (revObj l ((is.toArray.size:Int) - 1))).objs.size:=by rw [sz];exact Nat.le_add_right _ _
 refine ⟨.ref _,_,I1.laid (t':=tk) (o:=.lst xs.reverse) k2 hp (show c5 X.prog X.w _ h' _ (.lst xs.reverse) from ⟨by rw [List.length_reverse];exact hlen,acc.toList,c,Eo rv hi,by simpa using e⟩),rfl,q _ (I1.hok.fresh hp)⟩
end
end L2
namespace L2
open PySem PySem.Spec PyProof.Rows
section
variable {X:Cx} {e v1 v2:Expr} {es:List Expr} {te:TE} {pos:Pos}
variable {t:TF}
end
end L2
namespace L2
open PySem PySem.Spec PyProof.Rows PySem.W
section
variable {X:Cx}
end
end L2
namespace L2
open PySem PySem.Spec PyProof.Rows
section
variable {X:Cx}
end
end L2
namespace L2
open PySem PySem.Spec PyProof.Rows
section
variable {X:Cx}
end
end L2
namespace L2
open PySem PySem.Spec PyProof.Rows
section
variable {X:Cx}
def Ir:V -> List V -> Hp -> VK -> Prop:=λx vs H Q=>∃ (l:Addr) (xs:List V) (i:Int) (k:Nat) (y:V),x = .ref l /\ vs = [.int i,y] /\ i = (k:Int) /\ H l = some (.lst xs) /\ k <= xs.length /\ xs.length < 1000000 /\ Q .cQ (upd H l (.lst (xs.take k ++ [y] ++ xs.drop k)))
theorem B6:Pc X "list.insert" Ir:=by
 intro pins s Z H x vs v us Q I rx rv h
 obtain ⟨l,xs,i,k,y,rfl,rfl,hik,hH,hk,hz,q⟩:=h
 cases rx
 obtain ⟨u1,u,rfl,ru1,ru⟩:=rv.two
 obtain ⟨t1,rfl⟩:=ru1
 obtain ⟨z,its,n,r,hl,e⟩:=I.yR hH
 have sz:=sizeLine_eq
 have hil:its.length = xs.length:=r.length.symm
 have hf:Builtin.List.listFitsIndex i = true:=by
  unfold Builtin.List.listFitsIndex
  rw [Bool.and_eq_true,decide_eq_true_eq,decide_eq_true_eq]
  exact ⟨by lia,by lia⟩
 have hsz:its.toArray.size <= sizeLine:=by rw [List.size_toArray];lia
 have hf2:¬ (!Builtin.List.listFitsIndex i) = true:=by rw [hf];exact Bool.false_ne_true
 have M:=PySem.AutoSeq1.list_insert_list_int_val_1 l its.toArray n i t1 u hf2 hsz
 refine call_meets PySem.F.slot_list_insert ⟨_,e,rfl⟩ PySem.F.entry_list_insert (PySem.F.args_list_insert_3 _ _ _) M ⟨e,?_⟩
 have ek:(if i < 0 then (i + ((its.toArray.size:Nat):Int)).toNat else min i.toNat its.toArray.size) = k:=by
  rw [if_neg (by lia),hik,Int.toNat_natCast,List.size_toArray,Nat.min_eq_left (by lia)]
 refine ⟨.cQ,_,I.Hs (its':=its.take k ++ u :: its.drop k) (ys:=xs.take k ++ [y] ++ xs.drop k) hH e ?_ ?_ ?_,rfl,q⟩
 ·show (its.toArray.extract 0 (if i < 0 then (i + ((its.toArray.size:Nat):Int)).toNat else min i.toNat its.toArray.size)).push u ++ its.toArray.extract (if i < 0 then (i + ((its.toArray.size:Nat):Int)).toNat else min i.toNat its.toArray.size) = _
  rw [ek]
  exact PySem.W.kl_ins_eq its k u
 ·rw [List.append_assoc]
  exact (r.take k).append (.cons ru (r.drop k))
 ·rw [List.length_append,List.length_append,List.length_take,List.length_drop]
  show _ + 1 + _ <= _
  lia
end
end L2
namespace L2
open PySem PySem.Spec PyProof.Rows
variable {X:Cx}
end L2
namespace L2
open PySem PySem.Spec PyProof.Rows
section
variable {prog:Program} {w:World} {A:Around} {E:Value -> Shared -> Prop} {s:Shared}
set_option maxRecDepth 100000 in
end
section
variable {X:Cx}
end
end L2
namespace HT
open PySem PyProof.Rows
def c7:List Int -> List Int -> Bool
 | [],[]=>false
 | [],_ :: _=>false
 | _ :: _,[]=>true
 | x :: xs,y :: ys=>if x = y then c7 xs ys else decide (x > y)
theorem gC (x y:Int) (xs ys:List Int):c7 (x :: xs) (y :: ys) = if x = y then c7 xs ys else decide (x > y):=rfl
theorem sJ:c7 [] [] = false:=rfl
theorem qV (y:Int) (ys:List Int):c7 [] (y :: ys) = false:=rfl
theorem rJ (x:Int) (xs:List Int):c7 (x :: xs) [] = true:=rfl
theorem E6 (A:Around) (s:Shared) (a:Int) (t:Tok) (c:Int) (u:Tok) (prog:Program) (w:World) (E:Value -> Shared -> Prop) (Q:Value -> Shared -> Prop) (h:Q (.bool (decide (a > c))) s) :
  wpAny (model prog w) A (richCompare .Gt (.int a t) (.int c u)) Q E s :=
 (PyProof.Rows.gt_int h:wpAny (model prog w) A (compareOp .Gt (.int a t) (.int c u)) Q E s)
section
open PySem.SeqAt
open PySem.AutoSeq1 (wpAny_loadPart')
open PySem.MeetsSeq PySem.MeetsSeq2 PySem.MeetsSeq3
theorem sI (l b:Addr) (items items2:Array Value) (n n2:Nat) (dd dd2:Option Addr) (sl sl2:Array (Option Value)) (ns ms:List Int) (hi:IntsAre items.toList ns) (hj:IntsAre items2.toList ms) :
  Meets (Builtin.«tuple.__gt__» ⟨[.ref l,.ref b],[]⟩)
   (λ_ R s=>s.heap.get? l = some { cls:=.type "tuple",dict:=dd,data:=.seq items n,slots:=sl } /\ s.heap.get? b = some { cls:=.type "tuple",dict:=dd2,data:=.seq items2 n2,slots:=sl2 } /\
    R (.ok (.ret (.bool (c7 ns ms)))) s) :=
 .of_wp λprog w A R s h=>by
  obtain ⟨hp,g,d,tk,os⟩:=s;obtain ⟨hl,hb,h⟩:=h
  have f2:=AutoSeq1.sub_tuple_tuple
  have z1:items.size = ns.length:=by rw [← hi.length];simp
  have z2:items2.size = ms.length:=by rw [← hj.length];simp
  wp_walk using wpAny_loadPart' hl,wpAny_loadPart' hb,wpAny_forIn_list _ (λrest b s'=>b.1 = none /\ s' = ⟨hp,g,d,tk,os⟩ /\ ∃ (vs ws:List Value) (ns' ms':List Int),rest = vs.zip ws /\
   IntsAre vs ns' /\ IntsAre ws ms' /\ ns'.length + items2.size = ms'.length + items.size /\ R (.ok (.ret (.bool (c7 ns' ms')))) ⟨hp,g,d,tk,os⟩) _
  case turn =>
   rintro ⟨y,x⟩ rest b s' ⟨hb',rfl,vs,ws,ns',ms',hz,hvi,hwi,hlen,hR⟩
   cases hvi with
   | nil=>rw [List.zip_nil_left] at hz;cases hz
   | cons a t hvi' =>
    cases hwi with
    | nil=>rw [List.zip_nil_right] at hz;cases hz
    | cons c u hwi' =>
     rw [List.zip_cons_cons] at hz
     injection hz with hyx hrest
     injection hyx with hy hx
     subst hy hx
     rw [gC] at hR
     simp only [List.length_cons] at hlen
     obtain ⟨e,he,hiff⟩:=E1 A.in1 ⟨hp,g,d,tk,os⟩ a t c u
     refine wpAny_bind (he prog w _ _ ?_)
     cases e with
     | true =>
      rw [if_pos (hiff.mp rfl)] at hR
      wp_walk
      exact ⟨rfl,rfl,_,_,_,_,hrest,hvi',hwi',by lia,hR⟩
     | false =>
      rw [if_neg (λq=>absurd (hiff.mpr q) Bool.false_ne_true)] at hR
      have hri:=E6 A.in1 ⟨hp,g,d,tk,os⟩ a t c u prog w
      wp_walk using hri
      exact ⟨_,rfl,by simpa using hR⟩
  case fin =>
   rintro ⟨b1,b2⟩ s' ⟨hb',rfl,vs,ws,ns',ms',hz,hvi,hwi,hlen,hR⟩
   simp only at hb'
   subst hb'
   have hv:c7 ns' ms' = decide (items2.size < items.size):=by
    cases hvi with
    | nil =>
     cases hwi with
     | nil =>
      simp only [List.length_nil] at hlen
      rw [sJ]
      exact (decide_eq_false (by lia)).symm
     | cons c u hw =>
      simp only [List.length_nil,List.length_cons] at hlen
      rw [qV]
      exact (decide_eq_false (by lia)).symm
    | cons a t hv =>
     cases hwi with
     | nil =>
      simp only [List.length_nil,List.length_cons] at hlen
      rw [rJ]
      exact (decide_eq_true (by lia)).symm
     | cons c u hw =>
      rw [List.zip_cons_cons] at hz
      cases hz
   rw [hv] at hR
   wp_walk
   exact ⟨_,rfl,by simpa [Builtin.Tuple.tupleCompareSizes] using hR⟩
  case h =>
   exact ⟨rfl,rfl,items.toList,items2.toList,ns,ms,rfl,hi,hj,by lia,h⟩
end
section
variable {prog:Program} {w:World} {A:Around} {E:Value -> Shared -> Prop} {s:Shared}
theorem AB {l b:Addr} {items items2:Array Value} {ns ms:List Int} {Q:Value -> Shared -> Prop} (hl:IsTup s.heap l items) (hb:IsTup s.heap b items2) (hi:IntsAre items.toList ns) (hj:IntsAre items2.toList ms)
  (hu:A.units < cLine) (h:Q (.bool (c7 ns ms)) s):wpAny (model prog w) A (compareOp .Gt (.ref l) (.ref b)) Q E s:=by
 obtain ⟨⟨cls,dd,data,sl⟩,ho,hc,n,hd⟩:=id hl
 obtain ⟨⟨cls2,dd2,data2,sl2⟩,ho2,hc2,n2,hd2⟩:=id hb
 simp only at hc hd hc2 hd2
 subst hc hd hc2 hd2
 exact richCompare_meets_room (op:=.Gt) ⟨_,ho,rfl⟩ ⟨_,ho2,rfl⟩ PySem.F.slot_tuple_gt PySem.F.entry_tuple_gt (PySem.F.args_tuple_gt_2 _ _) (sI l b items items2 n n2 dd dd2 sl sl2 ns ms hi hj)
  ⟨ho,ho2,show Value.bool (c7 ns ms) ≠ Value.notImplemented /\ Q (.bool (c7 ns ms)) s from ⟨(λx=>nomatch x),h⟩⟩ hu
end
end HT
namespace L2
open PySem PySem.Spec PyProof.Rows
variable {X:Cx}
theorem mY:∀ {ns:List Int} {us:List Value},Vals (ns.map V.int) us -> PyProof.Rows.IntsAre us ns
 | [],_,.nil=>.nil
 | n :: ns,_,.cons h t=>by
  obtain ⟨k,rfl⟩:=h
  exact .cons _ _ (mY t)
def OL (K:PySem.W.Frag):R2:=λx y H Q=>∃ a b ns ms,x = .ref a /\ y = .ref b /\ d8 K H a (ns.map V.int) /\ d8 K H b (ms.map V.int) /\ Q (.bl (HT.c7 ns ms)) H
theorem Hz (hu:X.A.units < cLine):mD X (compareOp .Gt) (OL X.K):=by
 intro pins s Z H x y v u Q I rx ry h
 obtain ⟨a,b,ns,ms,rfl,rfl,ha,hb,q⟩:=h
 cases rx
 cases ry
 obtain ⟨is,r1,p1,_⟩:=I.tuple ha
 obtain ⟨js,r2,p2,_⟩:=I.tuple hb
 exact HT.AB p1 p2 (mY (by simpa using r1)) (mY (by simpa using r2)) hu ⟨.bl _,H,I,rfl,q⟩
end L2
namespace L2
open PySem PySem.Spec PyProof.Rows
theorem z5:W.kas_sort 2 = W.KasT.ask 1 0 (λb=>W.KasT.ret (if b = true then #[1,0] else #[0,1])):=by
 show W.KasT.ask 1 0 _ = _
 congr 1
 funext b
 cases b <;> rfl
section
variable {X:Cx}
def KN (K:PySem.W.Frag):List V -> Hp -> VK -> Prop:=λxs H Q=>∃ (p a b:Addr) (x1 y1 x2 y2:Int),xs = [.ref p] /\ bf K H p [.ref a,.ref b] /\ d8 K H a [.int x1,.int y1] /\ d8 K H b [.int x2,.int y2] /\
 ∀ l,H l = none -> Q (.ref l) (upd H l (.lst (if HT.c7 [x1,y1] [x2,y2] = true then [.ref b,.ref a] else [.ref a,.ref b])))
theorem vt:jA X (.builtin "sorted") (KN X.K):=by
 intro pins s Z H xs us Q I r h
 obtain ⟨p,a,b,x1,y1,x2,y2,rfl,hp,ha,hb,q⟩:=h
 obtain ⟨u,rfl,rx⟩:=vals1 r
 cases rx
 obtain ⟨its,r',pl,hz⟩:=I.list hp
 obtain ⟨ta,ra,pa,_⟩:=I.tuple ha
 obtain ⟨tb,rb,pb,_⟩:=I.tuple hb
 cases r' with
 | cons e1 r1=>cases r1 with
  | cons e2 r2 =>
   cases r2
   cases e1
   cases e2
   cases ra with
   | cons f1 s1=>cases s1 with
    | cons f2 s2 =>
     cases s2
     obtain ⟨t1,rfl⟩:=f1
     obtain ⟨t2,rfl⟩:=f2
     cases rb with
     | cons g1 w1=>cases w1 with
      | cons g2 w2 =>
       cases w2
       obtain ⟨t3,rfl⟩:=g1
       obtain ⟨t4,rfl⟩:=g2
       obtain ⟨oa,ea,ca,na,da⟩:=pa
       obtain ⟨ob,eb,cb,nb,db⟩:=pb
       obtain ⟨m,hns,_⟩:=id I.loc
       have nL:∀ {c o xs n},s.heap.get? c = some o -> o.data = Data.seq xs n -> c ≠ X.env.locals:=λ{c o xs n} e d z=>by
        obtain ⟨oL,es,ep,eL,dL,_⟩:=hns
        rw [z,eL] at e
        cases e
        rw [dL] at d
        cases d
       refine W.kat_sorted (h₀:=Att.jD s.heap) (L:=X.env.locals) (m:=m) (news:=lD (Att.jD s.heap) s.heap X.env.locals) (Att.DA hns) w5 pl.isList (show 2 <= 2 by decide) (show 2 < 64 by decide) (λD e1 h' F N hlt=>?_)
       have kp:∀ c o,c ≠ X.env.locals -> s.heap.get? c = some o -> h'.get? c = some o:=λc o n e=>(N (c,o) (List.mem_cons_of_mem _ (iV n (Att.iN _ _) e))).1
       have ea':=kp _ _ (nL ea da) ea
       have eb':=kp _ _ (nL eb db) eb
       refine W.kat_kind (fs:=[.int x1 t1,.int x2 t3]) (T:=.type "int") (.cons ea' ca da rfl (.cons eb' cb db rfl .nil)) (show 0 < 2 by decide) (λv hv=>?_) rfl ?_
       ·have:∃ z t,v = Value.int z t:=by
         simp only [List.mem_cons,List.not_mem_nil,or_false] at hv
         rcases hv with rfl | rfl <;> exact ⟨_,_,rfl⟩
        obtain ⟨z,t,rfl⟩:=this
        exact λA' Q' E' s' _ h=>wpAny_pure h
       show W.KasT.kasWp _ (W.kas_sort 2) _ _
       rw [z5]
       have fin:∀ gt:Bool,gt = HT.c7 [x1,y1] [x2,y2] -> W.KasFin (Att.jD s.heap) X.env.locals m D e1 (List.map (λi=>[Value.ref a,Value.ref b].getD i Value.none) (if gt = true then #[1,0] else #[0,1]:Array Nat).toList) (λs3=>EP X pins Z Q (Value.ref D) s3) { s with heap:=h' }:=λgt hgt=>by
        have nD:=(N (D,_) (List.mem_cons_self ..)).2.1
        have hD0:s.heap.get? D = none:=by
         cases e:s.heap.get? D with
         | none=>rfl
         | some o=>exact absurd (hlt (D,o) (iV nD (Att.iN _ _) e)) (Nat.lt_irrefl _)
        refine W.KasFin.intro F N (W.UpdF.head λq hq=>Nat.ne_of_lt (hlt q hq)) (λh2 c F2 N2=>?_)
        have kp2:∀ c o,c ≠ X.env.locals -> s.heap.get? c = some o -> h2.get? c = some o:=λc o n e=>(N2 (c,o) (List.mem_cons_of_mem _ (iV n (Att.iN _ _) e))).1
        have eD:=(N2 (D,_) (List.mem_cons_self ..)).1
        have fD:H D = none:=I.hok.new hD0
        have eout:List.map (λi=>[Value.ref a,Value.ref b].getD i Value.none) (if gt = true then #[1,0] else #[0,1]:Array Nat).toList = if gt = true then [Value.ref b,Value.ref a] else [Value.ref a,Value.ref b]:=by cases gt <;> rfl
        rw [eout] at eD
        have hv:Vals (if HT.c7 [x1,y1] [x2,y2] = true then [V.ref b,.ref a] else [.ref a,.ref b]) (if gt = true then [Value.ref b,Value.ref a] else [Value.ref a,Value.ref b]):=by
         rw [← hgt]
         cases gt
         ·exact .cons rfl (.cons rfl .nil)
         ·exact .cons rfl (.cons rfl .nil)
        have hlen:(if HT.c7 [x1,y1] [x2,y2] = true then [V.ref b,.ref a] else [.ref a,.ref b]).length <= sizeLine:=by split <;> (show 2 <= sizeLine;decide)
        have nDb:∀ {b u},H b = some u -> b ≠ D:=λ{b u} e z=>by rw [z,fD] at e;cases e
        refine (λI2=>?_) (I.step (g':=s.gens) (d':=s.drawn) (t':=s.toks) (ch:=[]) (H':=upd H D (.lst (if HT.c7 [x1,y1] [x2,y2] = true then [V.ref b,.ref a] else [.ref a,.ref b]))) (h':=h2) (λb hb=>by cases hb) (λb o n _ _ e _=>kp2 b o n e) (λb o n _ _ e _=>⟨o.slots,kp2 b o n e⟩) (λb o _ e n=>?_) (λb o _ e=>?_) (λb xs e=>by rw [au (nDb e)];exact e) (λb o u e=>by rw [au (nDb e)];exact e) (λb ps e=>⟨#[],by rw [au (nDb e),e];simp⟩) (λm' hm'=>?_) (λb u e=>?_) I.bare)
        ·exact ⟨.ref D,_,I2,rfl,q D fD⟩
        ·rw [au (λz=>?_)];exact n
         rw [z] at e
         rw [hD0] at e;cases e
        ·by_cases z:b = X.env.locals
         ·obtain ⟨oL,es,ep,eL,_⟩:=F2.ns
          exact ⟨oL,by rw [z];exact eL⟩
         ·exact ⟨o,kp2 b o z e⟩
        ·have em:m' = m:=by
          obtain ⟨o1,es1,ep1,a1,d1,_,r1⟩:=hm'
          obtain ⟨o2,es2,ep2,a2,d2,_,r2⟩:=hns
          rw [a1] at a2
          cases a2
          rw [d1] at d2
          cases d2
          funext n
          rw [← r1,← r2]
         rw [em];exact F2.ns
        ·by_cases z:b = D
         ·rw [z,ai] at e
          cases e
          rw [z]
          exact ⟨hlen,_,c,hv,eD⟩
         ·rw [au z] at e
          refine (I.hok b u e).stay (λc v hc q=>kp2 c v (λy=>?_) q) (λc hc=>by rw [au (nDb hc)];exact hc) (λc xs hc=>by rw [au (nDb hc)];exact hc)
          have fL:=I.free
          rcases hc with hc | hc
          ·rw [← hc,y,fL] at e;cases e
          ·rw [y,fL] at hc;cases hc
       refine W.kat_lt eb' db ea' da ?_
       refine W.kat_cons (wpAny_eqBool_int (W.kat_go (λe=>W.kat_yes (W.kat_cons (wpAny_eqBool_int (W.kat_go (λe2=>W.kat_yes (W.kat_nil ?_)) (λe2=>W.kat_no (W.kat_one _ _ (P.lt_int ?_))))))) (λe=>W.kat_no (oneLt_int ?_))))
       ·have e:(x2 == x1) = true:=e
        have e2:(y2 == y1) = true:=e2
        have z1:=eq_of_beq e
        have z2:=eq_of_beq e2
        exact fin false (by rw [z1,z2,HT.gC,if_pos rfl,HT.gC,if_pos rfl];rfl)
       ·have e:(x2 == x1) = true:=e
        have e2:(y2 == y1) = false:=e2
        have z1:=eq_of_beq e
        have z2:¬ y1 = y2:=λz=>by rw [z] at e2;simp at e2
        exact fin (decide (y2 < y1)) (by rw [z1,HT.gC,if_pos rfl,HT.gC,if_neg z2])
       ·have e:(x2 == x1) = false:=e
        have z1:¬ x1 = x2:=λz=>by rw [z] at e;simp at e
        exact fin (decide (x2 < x1)) (by rw [HT.gC,if_neg z1])
end
end L2
namespace L2
open PySem PySem.Spec PyProof.Rows
section
variable {X:Cx}
theorem Inv.Ko {pins:List (Addr × Obj)} {Z:St} {H:Hp} {s:Shared} {h':Heap} {m:Str -> Option Value} {t':Nat} (I:Inv X pins Z H s) (hns:s.heap.Ns X.env.locals m) (F:h'.Ns X.env.locals m) (kp:∀ c o,c ≠ X.env.locals -> s.heap.get? c = some o -> h'.get? c = some o):Inv X pins Z H { s with heap:=h',toks:=t' }:=by
 refine I.step (g':=s.gens) (d':=s.drawn) (t':=t') (ch:=[]) (H':=H) (h':=h') (λb hb=>by cases hb) (λb o n _ _ e _=>kp b o n e) (λb o n _ _ e _=>⟨o.slots,kp b o n e⟩) (λb o _ e n=>n) (λb o _ e=>?_) (λb xs e=>e) (λb o u e=>e) (λb ps e=>⟨#[],by rw [e];simp⟩) (λm' hm'=>?_) (λb u e=>?_) I.bare
 ·by_cases z:b = X.env.locals
  ·obtain ⟨oL,es,ep,eL,_⟩:=F
   exact ⟨oL,by rw [z];exact eL⟩
  ·exact ⟨o,kp b o z e⟩
 ·have em:m' = m:=by
   obtain ⟨o1,es1,ep1,a1,d1,_,r1⟩:=hm'
   obtain ⟨o2,es2,ep2,a2,d2,_,r2⟩:=hns
   rw [a1] at a2
   cases a2
   rw [d1] at d2
   cases d2
   funext n
   rw [← r1,← r2]
  rw [em];exact F
 ·refine (I.hok b u e).stay (λc v hc q=>kp c v (λy=>?_) q) (λc hc=>hc) (λc xs hc=>hc)
  have fL:=I.free
  rcases hc with hc | hc
  ·rw [← hc,y,fL] at e;cases e
  ·rw [y,fL] at hc;cases hc
theorem BN:∀ {ns:List Int} {vs:List Value},Vals (ns.map V.int) vs -> IntsAre vs ns
 | [],_,.nil=>.nil
 | n :: ns,_,.cons r h=>by
  obtain ⟨t,rfl⟩:=r
  exact .cons n t (BN h)
theorem Fy (hc:X.calm = true):jA X (.builtin "sum") (λxs H Q=>∃ (p:Addr) (ns:List Int),xs = [.ref p] /\ bf X.K H p (ns.map V.int) /\ Q (.int ns.sum) H):=by
 intro pins s Z H xs us Q I r h
 obtain ⟨p,ns,rfl,hp,q⟩:=h
 obtain ⟨u,rfl,rx⟩:=vals1 r
 cases rx
 obtain ⟨its,r',pl,hz⟩:=I.list hp
 obtain ⟨m,hns,_⟩:=id I.loc
 refine LSm.sum_ints (h₀:=Att.jD s.heap) (L:=X.env.locals) (m:=m) (news:=lD (Att.jD s.heap) s.heap X.env.locals) (Att.DA hns) w5 (I.ok.hd hc) pl.isList (BN r') (λh' tk t' F N=>?_)
 exact ⟨.int ns.sum,H,I.Ko (t':=tk) hns F.ns (λc o n e=>(N (c,o) (iV n (Att.iN _ _) e)).1),⟨_,rfl⟩,q⟩
end
end L2
namespace L2
open PySem PySem.Spec PyProof.Rows
section
variable {X:Cx} {pos:Pos}
def OW (K:PySem.W.Frag) (n:Nat) (t:IF):TG:=λv Z H Q=>∃ a xs,v = .ref a /\ bf K H a xs /\ xs.length = n /\ t xs Z H Q
theorem IC {es:List Expr} {k:Nat} {t:IF} {n:Nat} (hc:X.calm = true) (h:N5 X es t)
  (hn:(assignEach es X.env).length = n:=by rfl) (hst:(assignEach es X.env).findIdx? (·.1) = none:=by rfl):PG X (.Tuple es k pos) (OW X.K n t):=by
 intro pins s Z H v u Q I r hw
 obtain ⟨a,xs,e1,hq,hl,hw⟩:=hw
 subst e1
 cases r
 obtain ⟨its,rv,ht,hz⟩:=I.list hq
 have hsz:(assignEach es X.env).length = its.toArray.size:=by simp [hn,← hl,rv.length]
 rw [assign_Tuple]
 refine wpAny_bind (wpAny_standAt ?_)
 unfold unpack
 rw [hsz,hst]
 refine wpAny_bind (wpAny_holding (PySem.W.kun_itemsOf (I.ok.hd hc) ht.isList λh' hx=>?_))
 have I1:Inv X pins Z H { s with heap:=h' }:=I.kept (t':=s.toks) λb o e=>hx b o (Nat.ne_of_lt (Heap.lt_size e)) e
 exact h pins _ Z H xs _ Q I1 (by simpa using rv) hw
end
end L2
namespace K33
open PySem L2
set_option hygiene false
local macro_rules | `(tactic| walk_at "i")=>`(tactic| (intro vs H Q E h;repeat (first | (obtain ⟨rfl,_⟩:=h;exact rfl) | (obtain ⟨_,h⟩:=h)));(intro cdv A outer s H vs Q E hr h;refine BU ?_))
local macro_rules | `(tactic| walk_at "0")=>`(tactic| (intro _ _ _ _ _ _ us hl;obtain rfl:=ls0 hl;rfl))
local macro_rules | `(tactic| walk_at "1")=>`(tactic| (intro _ _ _ _ _ _ us hl;obtain ⟨_,rfl⟩:=ls1 hl;rfl))
local macro_rules | `(tactic| walk_at "2")=>`(tactic| (intro _ _ _ _ _ _ us hl;obtain ⟨_,_,rfl⟩:=Jr hl;rfl))
local macro_rules | `(tactic| walk_at "3")=>`(tactic| (intro _ _ _ _ _ _ us hl;obtain ⟨_,_,_,rfl⟩:=ls3 hl;rfl))
local macro_rules | `(tactic| walk_at "4")=>`(tactic| (intro _ _ _ _ _ _ us hl;obtain ⟨_,_,_,_,rfl⟩:=ls4 hl;rfl))
local macro_rules | `(tactic| walk_at "5")=>`(tactic| (intro _ _ _ _ _ _ us hl;obtain ⟨_,_,_,_,_,rfl⟩:=ls5 hl;rfl))
local macro_rules | `(tactic| walk_at "6")=>`(tactic| (intro _ _ _ _ _ _ us hl;obtain ⟨_,_,_,_,_,_,rfl⟩:=ls6 hl;rfl))
local macro_rules | `(tactic| left)=>`(tactic| walk_at "u")
local macro_rules | `(tactic| walk_at "sc")=>`(tactic| exact ⟨rfl,rfl,rfl,by decide +kernel,rfl,by decide +kernel,by decide +kernel⟩)
noncomputable def top (i:Nat):Stmt:=PySem.Challenge.pw_tintrow_k33_whole_put_and_cut.main.body.getD i (.Pass ⟨0,0,0,0⟩)
noncomputable abbrev ER:Stmt:=inClass (top 6) 0
theorem PB:aE ["self","row","at"] ["self","row","at"] (az ER):=by walk_at "sc"
noncomputable abbrev FE:Stmt:=inClass (top 6) 1
theorem J8:aE ["self"] ["self"] (az FE):=by walk_at "sc"
noncomputable abbrev G8:Stmt:=inClass (top 7) 0
theorem MS:aE ["self","text"] ["self","text"] (az G8):=by walk_at "sc"
noncomputable abbrev Er:Stmt:=inClass (top 7) 1
theorem La:aE ["self","row","at"] ["self","row","at"] (az Er):=by walk_at "sc"
noncomputable abbrev EG:Stmt:=inClass (top 7) 2
theorem M5:aE ["self"] ["self"] (az EG):=by walk_at "sc"
noncomputable abbrev Gr:Stmt:=inClass (top 8) 0
theorem MR:aE ["self","signs"] ["self","signs"] (az Gr):=by walk_at "sc"
noncomputable abbrev En:Stmt:=inClass (top 8) 1
theorem Kp:aE ["self","row","at"] ["self","row","at"] (az En):=by walk_at "sc"
noncomputable abbrev FP:Stmt:=inClass (top 8) 2
theorem LA:aE ["self"] ["self"] (az FP):=by walk_at "sc"
noncomputable abbrev Et:Stmt:=inClass (top 9) 0
theorem LI:aE ["self","signs"] ["self","signs"] (az Et):=by walk_at "sc"
noncomputable abbrev Hj:Stmt:=inClass (top 9) 1
theorem Kl:aE ["self","row","at"] ["self","row","at"] (az Hj):=by walk_at "sc"
noncomputable abbrev GC:Stmt:=inClass (top 9) 2
theorem Ld:aE ["self"] ["self"] (az GC):=by walk_at "sc"
noncomputable abbrev Gg:Stmt:=inClass (top 10) 0
theorem JP:aE ["self","signs"] ["self","signs"] (az Gg):=by walk_at "sc"
noncomputable abbrev DE:Stmt:=inClass (top 10) 1
theorem AV:aE ["self","row","at","end"] ["self","row","at"] (az DE):=by walk_at "sc"
noncomputable abbrev Du:Stmt:=inClass (top 10) 2
theorem LZ:aE ["self"] ["self"] (az Du):=by walk_at "sc"
noncomputable abbrev K4:Stmt:=inClass (top 11) 0
theorem Nu:aE ["self","row","at"] ["self","row","at"] (az K4):=by walk_at "sc"
noncomputable abbrev KW:Stmt:=inClass (top 11) 1
theorem OU:aE ["self"] ["self"] (az KW):=by walk_at "sc"
noncomputable abbrev EK:Stmt:=inClass (top 12) 0
theorem Ks:aE ["self","row","at"] ["self","row","at"] (az EK):=by walk_at "sc"
noncomputable abbrev Eu:Stmt:=inClass (top 13) 0
theorem Ls:aE ["self","row","at"] ["self","row","at"] (az Eu):=by walk_at "sc"
noncomputable abbrev A9:Stmt:=top 18
theorem MP:aE ["word"] ["word"] (az A9):=by walk_at "sc"
noncomputable abbrev EX:Stmt:=inClass (top 19) 0
theorem Lo:aE ["self","pattern","colour","deed","goal","fold"] ["self","pattern","colour","deed","goal","fold"] (az EX):=by walk_at "sc"
noncomputable abbrev CY:Stmt:=inClass (top 20) 0
theorem ML:aE ["self","name","colour","rules"] ["self","name","colour","rules"] (az CY):=by walk_at "sc"
noncomputable abbrev F4:Stmt:=inClass (top 21) 0
theorem K7:aE ["self","modes"] ["self","modes"] (az F4):=by walk_at "sc"
noncomputable abbrev B4:Stmt:=top 22
theorem Le:aE ["rules"] ["rules"] (az B4):=by walk_at "sc"
noncomputable abbrev BD:Stmt:=top 23
theorem KJ:aE ["mode"] ["mode"] (az BD):=by walk_at "sc"
noncomputable abbrev E5:Stmt:=top 24
theorem Kz:aE ["rule"] ["rule"] (az E5):=by walk_at "sc"
noncomputable abbrev EC:Stmt:=top 27
theorem AN:aE ["rules","mode","row","at","number","rule"] ["rules","mode","row","at"] (az EC):=by walk_at "sc"
noncomputable abbrev Fp:Stmt:=top 28
theorem M6:aE ["modes","rule"] ["modes","rule"] (az Fp):=by walk_at "sc"
noncomputable abbrev FW:Stmt:=top 29
theorem GA:aE ["rules","found"] ["rules"] (az FW):=by walk_at "sc"
noncomputable abbrev Bp:Stmt:=top 30
theorem pU:aE ["rules","row","first","ring"] ["rules"] (az Bp):=by walk_at "sc"
noncomputable abbrev DJ:Stmt:=top 31
theorem J5:aE [] [] (az DJ):=by walk_at "sc"
noncomputable abbrev Dr:Stmt:=top 32
theorem rN:aE ["rules","first","row","ring","modes","rule"] ["rules","first","row"] (az Dr):=by walk_at "sc"
noncomputable abbrev DL:Stmt:=top 33
theorem An:aE ["rules","mode","row","number","rule"] ["rules","mode","row"] (az DL):=by walk_at "sc"
noncomputable abbrev Ey:Stmt:=top 35
theorem jW:aE ["rules","modes","row","on","tints","marks","at","mode","number","rule"] ["rules","modes","row"] (az Ey):=by walk_at "sc"
noncomputable abbrev Hi:Stmt:=inClass (top 37) 0
theorem Dk:aE ["self","rules","modes","row","told"] ["self","rules","modes","row"] (az Hi):=by walk_at "sc"
noncomputable abbrev F6:Stmt:=inClass (top 38) 0
theorem Nb:aE ["self","rules","rows"] ["self","rules","rows"] (az F6):=by walk_at "sc"
noncomputable abbrev BW:Stmt:=inClass (top 38) 1
theorem J7:aE ["self"] ["self"] (az BW):=by walk_at "sc"
noncomputable abbrev F5:Stmt:=inClass (top 38) 2
theorem L8:aE ["self","row"] ["self","row"] (az F5):=by walk_at "sc"
noncomputable abbrev D3:Stmt:=inClass (top 38) 3
theorem MT:aE ["self","row"] ["self","row"] (az D3):=by walk_at "sc"
noncomputable abbrev DK:Stmt:=inClass (top 38) 4
theorem LJ:aE ["self","row"] ["self","row"] (az DK):=by walk_at "sc"
noncomputable abbrev EB:Stmt:=inClass (top 38) 5
theorem mJ:aE ["self","row","many","rows","taken","ahead","back","first","changed"] ["self","row","many","rows"] (az EB):=by walk_at "sc"
noncomputable abbrev Ew:Stmt:=inClass (top 38) 6
theorem GJ:aE ["self","row","at","text","signs"] ["self","row","at","text"] (az Ew):=by walk_at "sc"
noncomputable abbrev DY:Stmt:=inClass (top 38) 7
theorem Dj:aE ["self","row","at","row2","at2","left"] ["self","row","at","row2","at2"] (az DY):=by walk_at "sc"
noncomputable abbrev DF:Stmt:=inClass (top 38) 8
theorem DC:aE ["self","row","at","row2","at2","parts"] ["self","row","at","row2","at2"] (az DF):=by walk_at "sc"
noncomputable abbrev Dm:Stmt:=inClass (top 38) 9
theorem qq:aE ["self","modes","rows","gone_rows","row","gone"] ["self","modes","rows"] (az Dm):=by walk_at "sc"
noncomputable abbrev Gd:Stmt:=inClass (top 38) 10
theorem AQ:aE ["self","row","at"] ["self","row"] (az Gd):=by walk_at "sc"
noncomputable abbrev Gb:Stmt:=inClass (top 38) 11
theorem Ln:aE ["self","row"] ["self","row"] (az Gb):=by walk_at "sc"
noncomputable abbrev Ec:Stmt:=inClass (top 38) 12
theorem LF:aE ["self","row"] ["self","row"] (az Ec):=by walk_at "sc"
noncomputable abbrev D7:Stmt:=inClass (top 38) 13
theorem JX:aE ["self","row"] ["self","row"] (az D7):=by walk_at "sc"
noncomputable abbrev EH:Stmt:=inClass (top 38) 14
theorem Lj:aE ["self","row","at"] ["self","row","at"] (az EH):=by walk_at "sc"
noncomputable abbrev Eh:Stmt:=inClass (top 38) 15
theorem MK:aE ["self","row","at","row2","at2"] ["self","row","at","row2","at2"] (az Eh):=by walk_at "sc"
noncomputable abbrev Fd:Stmt:=inClass (top 38) 16
theorem L7:aE ["self","row","many"] ["self","row","many"] (az Fd):=by walk_at "sc"
noncomputable abbrev E2:Stmt:=top 39
theorem rS:aE ["some","others","many","one","other"] ["some","others"] (az E2):=by walk_at "sc"
noncomputable abbrev CZ:Stmt:=top 40
theorem J0:aE ["some","others"] ["some","others"] (az CZ):=by walk_at "sc"
noncomputable abbrev M4:Stmt:=inClass (top 48) 0
theorem N8:aE ["self","row","text"] ["self","row","text"] (az M4):=by walk_at "sc"
noncomputable abbrev KO:Stmt:=inClass (top 48) 1
theorem Od:aE ["self"] ["self"] (az KO):=by walk_at "sc"
noncomputable abbrev My:Stmt:=inClass (top 48) 2
theorem OE:aE ["self"] ["self"] (az My):=by walk_at "sc"
noncomputable abbrev MH:Stmt:=inClass (top 48) 3
theorem Oz:aE ["self","good"] ["self","good"] (az MH):=by walk_at "sc"
noncomputable abbrev Mc:Stmt:=inClass (top 48) 4
theorem Jj:aE ["self","good","word"] ["self","good"] (az Mc):=by walk_at "sc"
noncomputable abbrev K3:Stmt:=inClass (top 48) 5
theorem OJ:aE ["self","words"] ["self","words"] (az K3):=by walk_at "sc"
noncomputable abbrev Lr:Stmt:=inClass (top 48) 6
theorem Oq:aE ["self"] ["self"] (az Lr):=by walk_at "sc"
noncomputable abbrev Kq:Stmt:=inClass (top 48) 7
theorem JJ:aE ["self","word"] ["self"] (az Kq):=by walk_at "sc"
noncomputable abbrev Fe:Stmt:=top 49
theorem jl:aE ["text","rows","numbers","modes","nowhere","number","row","cursor","rules"] ["text"] (az Fe):=by walk_at "sc"
noncomputable abbrev Ek:Stmt:=top 50
theorem vq:aE ["rows","numbers","row","words"] ["rows"] (az Ek):=by walk_at "sc"
noncomputable abbrev AY:Stmt:=top 51
theorem Az:aE ["cursor","modes","name","colour"] ["cursor","modes"] (az AY):=by walk_at "sc"
noncomputable abbrev C0:Stmt:=top 52
theorem mV:aE ["cursor","numbers","nowhere","pattern","colour","deed","goal","fold"] ["cursor","numbers","nowhere"] (az C0):=by walk_at "sc"
noncomputable abbrev E4:Stmt:=top 53
theorem zO:aE ["cursor","kind","signs"] ["cursor"] (az E4):=by walk_at "sc"
noncomputable abbrev FN:Stmt:=top 54
theorem z9:aE ["cursor","numbers","nowhere","place","name"] ["cursor","numbers","nowhere"] (az FN):=by walk_at "sc"
noncomputable abbrev Eb:Stmt:=top 56
theorem mU:aE ["_law_script","_law_k","_law_many","_law_cell","_law_digits","_law_j","_law_seed"] ["_law_script","_law_k","_law_many"] (az Eb):=by walk_at "sc"
noncomputable abbrev BL:Stmt:=top 57
theorem D9:aE ["_law_script","_law_base","_law_size"] ["_law_script","_law_base"] (az BL):=by walk_at "sc"
noncomputable abbrev EY:Stmt:=top 58
theorem ic:aE ["_law_script","_law_base","_law_number","_law_many","_law_calm","_law_sort","_law_deed_here","_law_goal","_law_colour","_law_fold"] ["_law_script","_law_base","_law_number","_law_many","_law_calm"] (az EY):=by walk_at "sc"
noncomputable abbrev Gh:Stmt:=top 59
theorem jP:aE ["_law_script","_law_base","_law_calm","_law_names","_law_many","_law_modes_here","_law_k","_law_rules","_law_j"] ["_law_script","_law_base","_law_calm"] (az Gh):=by walk_at "sc"
noncomputable abbrev G6:Stmt:=top 60
theorem ig:aE ["_law_modes_here","_law_rows","_law_name","_law_colour","_law_rules","_law_sort","_law_signs_here","_law_shade","_law_deed_here","_law_goal","_law_fold","_law_words"] ["_law_modes_here"] (az G6):=by walk_at "sc"
noncomputable abbrev Fz:Stmt:=top 61
theorem AW:aE ["_law_script","_law_base","_law_modes_here"] ["_law_script","_law_base"] (az Fz):=by walk_at "sc"
noncomputable abbrev Di:Stmt:=top 62
theorem vg:aE ["_law_rule_here","_law_row_here","_law_at","_law_many"] ["_law_rule_here","_law_row_here","_law_at"] (az Di):=by walk_at "sc"
noncomputable abbrev FQ:Stmt:=top 63
theorem Fx:aE ["_law_modes_here","_law_top","_law_row_here","_law_at","_law_rule_here"] ["_law_modes_here","_law_top","_law_row_here","_law_at"] (az FQ):=by walk_at "sc"
noncomputable abbrev Ez:Stmt:=top 64
theorem KG:aE ["_law_rule_here","_law_on"] ["_law_rule_here","_law_on"] (az Ez):=by walk_at "sc"
noncomputable abbrev DI:Stmt:=top 65
theorem gD:aE ["_law_modes_here","_law_on","_law_row_here","_law_shades","_law_marked","_law_at","_law_left","_law_rule_here","_law_many"] ["_law_modes_here","_law_on","_law_row_here"] (az DI):=by walk_at "sc"
noncomputable abbrev Be:Stmt:=top 66
theorem Gy:aE ["_law_script","_law_base","_law_most","_law_size"] ["_law_script","_law_base","_law_most"] (az Be):=by walk_at "sc"
noncomputable abbrev Dq:Stmt:=top 67
theorem m7:aE ["_law_modes_here","_law_rows","_law_on","_law_found","_law_row_here","_law_gone_here"] ["_law_modes_here","_law_rows"] (az Dq):=by walk_at "sc"
noncomputable abbrev A2:Stmt:=top 68
theorem C9:aE ["_law_text_here","_law_kept","_law_k"] ["_law_text_here","_law_kept"] (az A2):=by walk_at "sc"
noncomputable abbrev Ei:Stmt:=top 69
theorem iH:aE ["_law_former","_law_kept","_law_row_here","_law_many","_law_fresh","_law_first_here","_law_last","_law_count_here","_law_old","_law_new"] ["_law_former","_law_kept","_law_row_here","_law_many","_law_fresh"] (az Ei):=by walk_at "sc"
noncomputable abbrev Df:Stmt:=top 70
theorem GO:aE ["_law_script","_law_base","_law_rows","_law_row_here"] ["_law_script","_law_base","_law_rows"] (az Df):=by walk_at "sc"
noncomputable abbrev Bm:Stmt:=top 71
theorem JR:aE ["_law_rows","_law_place_here"] ["_law_rows","_law_place_here"] (az Bm):=by walk_at "sc"
noncomputable abbrev BF:Stmt:=top 72
theorem zY:aE ["_law_script","_law_base","_law_signs_here","_law_k"] ["_law_script","_law_base"] (az BF):=by walk_at "sc"
noncomputable abbrev A0:Stmt:=top 73
theorem cV:aE ["_law_script","_law_modes_here","_law_rows","_law_text_here","_law_kept","_law_k","_law_base","_law_one","_law_other","_law_whole_here","_law_spots","_law_piece_here","_law_count_here","_law_many","_law_former","_law_behind","_law_fresh"] ["_law_script"] (az A0):=by walk_at "sc"
set_option genInjectivity false in
structure gp where
 iU:Addr
 j9:Addr
 oN:Addr
 kj:Addr
 iD:Addr
 b8:Addr
 cT:Addr
 br:Addr
 b9:Addr
 dz:Addr
 bO:Addr
 dG:Addr
 cM:Addr
 bZ:Addr
 cR:Addr
 bg:Addr
 aH:Addr
 bu:Addr
 tD:Addr
 B3:FuncData
 jf:Addr
 pN:FuncData
 nP:Addr
 wc:FuncData
 lW:Addr
 tF:FuncData
 mw:Addr
 uh:FuncData
 nN:Addr
 vH:FuncData
 l9:Addr
 sU:FuncData
 lC:Addr
 uy:FuncData
 oi:Addr
 yN:FuncData
 k9:Addr
 uC:FuncData
 lZ:Addr
 tV:FuncData
 nC:Addr
 yE:FuncData
 lV:Addr
 uq:FuncData
 lJ:Addr
 tQ:FuncData
 vh:Addr
 Cb:FuncData
 uF:Addr
 CU:FuncData
 lY:Addr
 tH:FuncData
 lU:Addr
 uv:FuncData
 pL:Addr
 zx:FuncData
 om:Addr
 yX:FuncData
 nh:Addr
 yK:FuncData
 ny:Addr
 xX:FuncData
 pX:Addr
 wK:FuncData
 qi:Addr
 wV:FuncData
 rW:Addr
 yS:FuncData
 rF:Addr
 v9:FuncData
 pQ:Addr
 zC:FuncData
 qa:Addr
 xV:FuncData
 qc:Addr
 yD:FuncData
 r8:Addr
 yj:FuncData
 rP:Addr
 vJ:FuncData
 rL:Addr
 wO:FuncData
 q8:Addr
 yb:FuncData
 nZ:Addr
 wo:FuncData
 nE:Addr
 xE:FuncData
 nF:Addr
 v8:FuncData
 nG:Addr
 yF:FuncData
 nT:Addr
 xB:FuncData
 nJ:Addr
 yG:FuncData
 nA:Addr
 yc:FuncData
 nU:Addr
 xF:FuncData
 nR:Addr
 xT:FuncData
 nj:Addr
 xR:FuncData
 nS:Addr
 wA:FuncData
 nu:Addr
 yP:FuncData
 ni:Addr
 zB:FuncData
 nW:Addr
 yh:FuncData
 oq:Addr
 yV:FuncData
 nQ:Addr
 wG:FuncData
 oh:Addr
 v7:FuncData
 nq:Addr
 vR:FuncData
 qE:Addr
 xG:FuncData
 r9:Addr
 zm:FuncData
 zy:Addr
 EE:FuncData
 xM:Addr
 FI:FuncData
 yd:Addr
 FG:FuncData
 xZ:Addr
 EU:FuncData
 wz:Addr
 DM:FuncData
 wZ:Addr
 Ea:FuncData
 w6:Addr
 Fv:FuncData
 wU:Addr
 EZ:FuncData
 qO:Addr
 vP:FuncData
 pB:Addr
 xW:FuncData
 qC:Addr
 yY:FuncData
 qT:Addr
 vV:FuncData
 rX:Addr
 yW:FuncData
 ql:Addr
 vL:FuncData
 pK:Addr
 xH:FuncData
 qD:Addr
 yM:FuncData
 qh:Addr
 wM:FuncData
 sE:Addr
 yi:FuncData
 q9:Addr
 yL:FuncData
 o6:Addr
 zD:FuncData
 sD:Addr
 wY:FuncData
 qP:Addr
 yQ:FuncData
 oV:Addr
 yJ:FuncData
 qx:Addr
 zd:FuncData
 sA:Addr
 yp:FuncData
 qU:Addr
 xD:FuncData
 qF:Addr
 ze:FuncData
 qK:Addr
 zq:FuncData
 qG:Addr
 xS:FuncData
 rY:Addr
 wH:FuncData
 rK:Addr
 wX:FuncData
 fk:Addr
 iY:Addr
 jr:Addr
 i7:Addr
structure Txt (K:W.Frag) (mg:Str -> Option Value) (t:gp):Prop where
 Hq:mg "TintError" = some (.ref t.iU)
 Jl:mg "NoRules" = some (.ref t.j9)
 Nq:mg "Rings" = some (.ref t.oN)
 JK:mg "NoPlace" = some (.ref t.kj)
 Jy:mg "Pattern" = some (.ref t.iD)
 Eg:mg "Word" = some (.ref t.b8)
 Ik:mg "One" = some (.ref t.cT)
 xY:mg "Without" = some (.ref t.br)
 FT:mg "Many" = some (.ref t.b9)
 HV:mg "Any" = some (.ref t.dz)
 B7:mg "Still" = some (.ref t.bO)
 Ji:mg "End" = some (.ref t.dG)
 v5:mg "Rule" = some (.ref t.cM)
 yO:mg "Mode" = some (.ref t.bZ)
 tG:mg "Rules" = some (.ref t.cR)
 nK:mg "GoneRow" = some (.ref t.bg)
 zT:mg "Tinted" = some (.ref t.aH)
 zW:mg "Cursor" = some (.ref t.bu)
 Jp:bG K "eaten" "Pattern.eaten" ER t.tD t.B3
 rG:bG K "eats" "Pattern.eats" FE t.jf t.pN
 BP:bG K "__init__" "Word.__init__" G8 t.nP t.wc
 yo:bG K "eaten" "Word.eaten" Er t.lW t.tF
 xx:bG K "eats" "Word.eats" EG t.mw t.uh
 BI:bG K "__init__" "One.__init__" Gr t.nN t.vH
 yq:bG K "eaten" "One.eaten" En t.l9 t.sU
 wJ:bG K "eats" "One.eats" FP t.lC t.uy
 Bv:bG K "__init__" "Without.__init__" Et t.oi t.yN
 vI:bG K "eaten" "Without.eaten" Hj t.k9 t.uC
 wD:bG K "eats" "Without.eats" GC t.lZ t.tV
 A1:bG K "__init__" "Many.__init__" Gg t.nC t.yE
 vU:bG K "eaten" "Many.eaten" DE t.lV t.uq
 zG:bG K "eats" "Many.eats" Du t.lJ t.tQ
 DS:bG K "eaten" "Any.eaten" K4 t.vh t.Cb
 Ff:bG K "eats" "Any.eats" KW t.uF t.CU
 zc:bG K "eaten" "Still.eaten" EK t.lY t.tH
 xo:bG K "eaten" "End.eaten" Eu t.lU t.uv
 wj:bG K "__init__" "Rule.__init__" EX t.om t.yX
 wQ:bG K "__init__" "Mode.__init__" CY t.nh t.yK
 yr:bG K "__init__" "Rules.__init__" F4 t.ny t.xX
 xQ:bG K "__init__" "GoneRow.__init__" Hi t.nZ t.wo
 A8:bG K "__init__" "Tinted.__init__" F6 t.nE t.xE
 qZ:bG K "rows" "Tinted.rows" BW t.nF t.v8
 xr:bG K "begin" "Tinted.begin" F5 t.nG t.yF
 yH:bG K "colours" "Tinted.colours" D3 t.nT t.xB
 vQ:bG K "marks" "Tinted.marks" DK t.nJ t.yG
 sS:bG K "change" "Tinted.change" EB t.nA t.yc
 xw:bG K "put" "Tinted.put" Ew t.nU t.xF
 xP:bG K "cut" "Tinted.cut" DY t.nR t.xT
 yk:bG K "part" "Tinted.part" DF t.nj t.xR
 t7:bG K "go_over" "Tinted.go_over" Dm t.nS t.wA
 zA:bG K "go_on" "Tinted.go_on" Gd t.nu t.yP
 oS:bG K "modes_ahead" "Tinted.modes_ahead" Gb t.ni t.zB
 qQ:bG K "gone_row" "Tinted.gone_row" Ec t.nW t.yh
 ur:bG K "ask_row" "Tinted.ask_row" D7 t.oq t.yV
 rH:bG K "ask_place" "Tinted.ask_place" EH t.nQ t.wG
 uA:bG K "ask_places" "Tinted.ask_places" Eh t.oh t.v7
 xg:bG K "ask_taken" "Tinted.ask_taken" Fd t.nq t.vR
 HY:bG K "__init__" "Cursor.__init__" M4 t.zy t.EE
 zu:bG K "more" "Cursor.more" KO t.xM t.FI
 qb:bG K "peek" "Cursor.peek" My t.yd t.FG
 sP:bG K "ask" "Cursor.ask" MH t.xZ t.EU
 Av:bG K "take" "Cursor.take" Mc t.wz t.DM
 zz:bG K "take_choice" "Cursor.take_choice" K3 t.wZ t.Ea
 za:bG K "take_name" "Cursor.take_name" Lr t.w6 t.Fv
 Hg:bG K "take_signs" "Cursor.take_signs" Kq t.wU t.EZ
 zf:bG K "is_name" "is_name" A9 t.pL t.zx
 Mu:mg "is_name" = some (.ref t.pL)
 yy:bG K "copied_rules" "copied_rules" B4 t.pX t.wK
 K2:mg "copied_rules" = some (.ref t.pX)
 yI:bG K "copied_mode" "copied_mode" BD t.qi t.wV
 Kg:mg "copied_mode" = some (.ref t.qi)
 xu:bG K "copied_rule" "copied_rule" E5 t.rW t.yS
 LK:mg "copied_rule" = some (.ref t.rW)
 qL:bG K "first_rule" "first_rule" EC t.rF t.v9
 DO:mg "first_rule" = some (.ref t.rF)
 su:bG K "do_deed" "do_deed" Fp t.pQ t.zC
 D8:mg "do_deed" = some (.ref t.pQ)
 vO:bG K "ask_rings" "ask_rings" FW t.qa t.xV
 MQ:mg "ask_rings" = some (.ref t.qa)
 p9:bG K "ring_of" "ring_of" Bp t.qc t.yD
 Fj:mg "ring_of" = some (.ref t.qc)
 wN:bG K "short_rows" "short_rows" DJ t.r8 t.yj
 JT:mg "short_rows" = some (.ref t.r8)
 sj:bG K "ring_from" "ring_from" Dr t.rP t.vJ
 DH:mg "ring_from" = some (.ref t.rP)
 oW:bG K "idle_rule" "idle_rule" DL t.rL t.wO
 FA:mg "idle_rule" = some (.ref t.rL)
 zF:bG K "gone_over" "gone_over" Ey t.q8 t.yb
 LV:mg "gone_over" = some (.ref t.q8)
 pH:bG K "same_ahead" "same_ahead" E2 t.qE t.xG
 E9:mg "same_ahead" = some (.ref t.qE)
 we:bG K "same_back" "same_back" CZ t.r9 t.zm
 MX:mg "same_back" = some (.ref t.r9)
 pe:bG K "read_rules" "read_rules" Fe t.qO t.vP
 Ej:mg "read_rules" = some (.ref t.qO)
 zp:bG K "mode_numbers" "mode_numbers" Ek t.pB t.xW
 M7:mg "mode_numbers" = some (.ref t.pB)
 xh:bG K "read_mode" "read_mode" AY t.qC t.yY
 KU:mg "read_mode" = some (.ref t.qC)
 yT:bG K "read_rule" "read_rule" C0 t.qT t.vV
 LO:mg "read_rule" = some (.ref t.qT)
 yZ:bG K "read_pattern" "read_pattern" E4 t.rX t.yW
 LG:mg "read_pattern" = some (.ref t.rX)
 xy:bG K "read_goal" "read_goal" FN t.ql t.vL
 KR:mg "read_goal" = some (.ref t.ql)
 bY:bG K "_law_draw" "_law_draw" Eb t.pK t.xH
 dM:mg "_law_draw" = some (.ref t.pK)
 vY:bG K "_law_signs" "_law_signs" BL t.qD t.yM
 MI:mg "_law_signs" = some (.ref t.qD)
 yU:bG K "_law_rule" "_law_rule" EY t.qh t.wM
 Mq:mg "_law_rule" = some (.ref t.qh)
 pR:bG K "_law_modes" "_law_modes" Gh t.sE t.yi
 De:mg "_law_modes" = some (.ref t.sE)
 qk:bG K "_law_text" "_law_text" G6 t.q9 t.yL
 DB:mg "_law_text" = some (.ref t.q9)
 zk:bG K "_law_let_by" "_law_let_by" Fz t.o6 t.zD
 Lh:mg "_law_let_by" = some (.ref t.o6)
 rq:bG K "_law_eaten" "_law_eaten" Di t.sD t.wY
 GU:mg "_law_eaten" = some (.ref t.sD)
 qo:bG K "_law_first" "_law_first" FQ t.qP t.yQ
 Ft:mg "_law_first" = some (.ref t.qP)
 xm:bG K "_law_deed" "_law_deed" Ez t.oV t.yJ
 LP:mg "_law_deed" = some (.ref t.oV)
 vG:bG K "_law_gone" "_law_gone" DI t.qx t.zd
 MZ:mg "_law_gone" = some (.ref t.qx)
 yg:bG K "_law_row" "_law_row" Be t.sA t.yp
 LN:mg "_law_row" = some (.ref t.sA)
 pW:bG K "_law_whole" "_law_whole" Dq t.qU t.xD
 FH:mg "_law_whole" = some (.ref t.qU)
 wI:bG K "_law_shows" "_law_shows" A2 t.qF t.ze
 JO:mg "_law_shows" = some (.ref t.qF)
 zl:bG K "_law_count" "_law_count" Ei t.qK t.zq
 Nf:mg "_law_count" = some (.ref t.qK)
 pA:bG K "_law_place" "_law_place" Df t.qG t.xS
 Ed:mg "_law_place" = some (.ref t.qG)
 o5:bG K "_law_spot" "_law_spot" Bm t.rY t.wH
 DP:mg "_law_spot" = some (.ref t.rY)
 vX:bG K "_law_piece" "_law_piece" BF t.rK t.wX
 M9:mg "_law_piece" = some (.ref t.rK)
 oF:nB K t.b8
 vd:Mk K t.b8 t.nP
 fK:cz K t.b8 "wanted"
 NW:Meth K t.b8 "eaten" t.lW
 ND:Meth K t.b8 "eats" t.mw
 zM:nB K t.cT
 Ab:Mk K t.cT t.nN
 iW:cz K t.cT "signs"
 Om:Meth K t.cT "eaten" t.l9
 NR:Meth K t.cT "eats" t.lC
 kM:nB K t.br
 kY:Mk K t.br t.oi
 fS:cz K t.br "signs"
 Ny:Meth K t.br "eaten" t.k9
 ON:Meth K t.br "eats" t.lZ
 vc:nB K t.b9
 uR:Mk K t.b9 t.nC
 iz:cz K t.b9 "signs"
 NB:Meth K t.b9 "eaten" t.lV
 OH:Meth K t.b9 "eats" t.lJ
 L4:nB K t.dz
 zR:Pa K t.dz
 Q9:Meth K t.dz "eaten" t.vh
 Po:Meth K t.dz "eats" t.uF
 Ep:nB K t.bO
 qg:Pa K t.bO
 O3:Meth K t.bO "eaten" t.lY
 uH:Meth K t.bO "eats" t.jf
 MD:nB K t.dG
 Ad:Pa K t.dG
 OR:Meth K t.dG "eaten" t.lU
 AX:Meth K t.dG "eats" t.jf
 cE:nB K t.cM
 oB:Mk K t.cM t.om
 cW:cz K t.cM "pattern"
 fH:cz K t.cM "colour"
 d9:cz K t.cM "deed"
 gh:cz K t.cM "goal"
 fZ:cz K t.cM "fold"
 fB:nB K t.bZ
 oE:Mk K t.bZ t.nh
 gg:cz K t.bZ "name"
 fN:cz K t.bZ "colour"
 dF:cz K t.bZ "rules"
 g6:nB K t.cR
 lS:Mk K t.cR t.ny
 cB:cz K t.cR "modes"
 aW:nB K t.bu
 mH:Mk K t.bu t.zy
 iA:cz K t.bu "row"
 e9:cz K t.bu "words"
 fj:cz K t.bu "at"
 Ib:Meth K t.bu "more" t.xM
 Ae:Meth K t.bu "peek" t.yd
 CL:Meth K t.bu "ask" t.xZ
 Lc:Meth K t.bu "take" t.wz
 IJ:Meth K t.bu "take_choice" t.wZ
 IL:Meth K t.bu "take_name" t.w6
 Qq:Meth K t.bu "take_signs" t.wU
 bV:nB K t.bg
 jm:Mk K t.bg t.nZ
 cy:cz K t.bg "signs"
 dW:cz K t.bg "before"
 fT:cz K t.bg "tints"
 d7:cz K t.bg "behind"
 fu:cz K t.bg "folded"
 aN:nB K t.aH
 mW:Mk K t.aH t.nE
 fh:cz K t.aH "rules"
 aP:cz K t.aH "gone_rows"
 Dz:Meth K t.aH "rows" t.nF
 Nz:Meth K t.aH "begin" t.nG
 O8:Meth K t.aH "colours" t.nT
 Ol:Meth K t.aH "marks" t.nJ
 JI:Meth K t.aH "change" t.nA
 NT:Meth K t.aH "put" t.nU
 NZ:Meth K t.aH "cut" t.nR
 O2:Meth K t.aH "part" t.nj
 Jv:Meth K t.aH "go_over" t.nS
 N6:Meth K t.aH "go_on" t.nu
 Gj:Meth K t.aH "modes_ahead" t.ni
 GW:Meth K t.aH "gone_row" t.nW
 Jo:Meth K t.aH "ask_row" t.oq
 Ga:Meth K t.aH "ask_place" t.nQ
 JA:Meth K t.aH "ask_places" t.oh
 N9:Meth K t.aH "ask_taken" t.nq
 cg:W.specialIn K (.builtin "object.__class__") "__get__" = some (some (.builtin "getset_descriptor.__get__"))
 ct:W.takesIn K (.builtin "object.__class__") = some true
 uD:W.findIn K (.ref t.b8) "__class__" = some (some (.builtin "object.__class__"))
 uP:W.mroIn K t.b8 (.type "object") = some true
 AR:W.findIn K (.ref t.cT) "__class__" = some (some (.builtin "object.__class__"))
 zV:W.mroIn K t.cT (.type "object") = some true
 kL:W.findIn K (.ref t.br) "__class__" = some (some (.builtin "object.__class__"))
 kN:W.mroIn K t.br (.type "object") = some true
 uT:W.findIn K (.ref t.b9) "__class__" = some (some (.builtin "object.__class__"))
 uK:W.mroIn K t.b9 (.type "object") = some true
 Ao:W.findIn K (.ref t.dz) "__class__" = some (some (.builtin "object.__class__"))
 AH:W.mroIn K t.dz (.type "object") = some true
 pO:W.findIn K (.ref t.bO) "__class__" = some (some (.builtin "object.__class__"))
 rR:W.mroIn K t.bO (.type "object") = some true
 zX:W.findIn K (.ref t.dG) "__class__" = some (some (.builtin "object.__class__"))
 Aj:W.mroIn K t.dG (.type "object") = some true
 kE:W.kitOne K (.ref t.b8) (.ref t.b8) = some true
 nM:W.kitOne K (.ref t.cT) (.ref t.cT) = some true
 ir:W.kitOne K (.ref t.br) (.ref t.br) = some true
 kI:W.kitOne K (.ref t.b9) (.ref t.b9) = some true
 nO:W.kitOne K (.ref t.dz) (.ref t.dz) = some true
 jz:W.kitOne K (.ref t.bO) (.ref t.bO) = some true
 oj:W.kitOne K (.ref t.dG) (.ref t.dG) = some true
 qy:W.kitOne K (.type "int") (.type "int") = some true
 jG:W.kitOne K (.type "int") (.type "bool") = some false
 zh:∃ u,mg "LETTERS" = some u /\ RelV (.str "abcdefghijklmnopqrstuvwxyz") u
 mE:∃ u,mg "LONGEST_NAME" = some u /\ RelV (.int 8) u
 j8:∃ u,mg "START" = some u /\ RelV (.int 0) u
 Cq:∃ u,mg "SIGNS" = some u /\ RelV (.str " !\"#$&'()*+,-./0123456789:;<=>?@ABCDEFGHIJKLMNOPQRSTUVWXYZ[\\]^_`abcdefghijklmnopqrstuvwxyz{|}~") u
 qS:∃ u,mg "MOST_MODES" = some u /\ RelV (.int 12) u
 sr:∃ u,mg "MOST_RULES" = some u /\ RelV (.int 12) u
 uN:mg "PATTERNS" = some (.ref t.fk)
 yu:∀ H,d8 K H t.fk [.str "word",.str "one",.str "none",.str "many",.str "any",.str "still",.str "end"]
 Cd:mg "DEEDS" = some (.ref t.iY)
 DQ:∀ H,d8 K H t.iY [.str "stay",.str "push",.str "pop",.str "into"]
 Cn:mg "GOING" = some (.ref t.jr)
 Fq:∀ H,d8 K H t.jr [.str "push",.str "into"]
 Cf:mg "FOLDS" = some (.ref t.i7)
 GN:∀ H,d8 K H t.i7 [.str "open",.str "close"]
 EL:mg "all" = none
 zI:mg "bool" = none
 iX:mg "enumerate" = none
 uB:mg "int" = none
 jv:mg "isinstance" = none
 bK:mg "len" = none
 iO:mg "list" = none
 fE:mg "range" = none
 jj:mg "reversed" = none
 qN:mg "sorted" = none
 ED:mg "sum" = none
 AZ:mg "tuple" = none
 EA:mg "zip" = none
theorem ls0 {us:List Value} (h:us.length = 0):us = []:=List.length_eq_zero_iff.mp h
theorem lsS {us:List Value} {n:Nat} (h:us.length = n+1):∃ a t,us = a::t /\ t.length = n:=by
 cases us with
 | nil=>cases h
 | cons a t=>exact ⟨a,t,rfl,Nat.succ.inj h⟩
theorem lsN {us:List Value} (h:us.length = 0):us = []:=List.length_eq_zero_iff.mp h
theorem ls1 {us:List Value} (h:us.length = 1):∃ a0,us = [a0]:=by
 obtain ⟨a0,t0,rfl,h0⟩:=lsS h
 cases lsN h0
 exact ⟨a0,rfl⟩
theorem Jr {us:List Value} (h:us.length = 2):∃ a0 a1,us = [a0,a1]:=by
 obtain ⟨a0,t0,rfl,h0⟩:=lsS h
 obtain ⟨a1,t1,rfl,h1⟩:=lsS h0
 cases lsN h1
 exact ⟨a0,a1,rfl⟩
theorem ls3 {us:List Value} (h:us.length = 3):∃ a0 a1 a2,us = [a0,a1,a2]:=by
 obtain ⟨a0,t0,rfl,h0⟩:=lsS h
 obtain ⟨a1,t1,rfl,h1⟩:=lsS h0
 obtain ⟨a2,t2,rfl,h2⟩:=lsS h1
 cases lsN h2
 exact ⟨a0,a1,a2,rfl⟩
theorem ls4 {us:List Value} (h:us.length = 4):∃ a0 a1 a2 a3,us = [a0,a1,a2,a3]:=by
 obtain ⟨a0,t0,rfl,h0⟩:=lsS h
 obtain ⟨a1,t1,rfl,h1⟩:=lsS h0
 obtain ⟨a2,t2,rfl,h2⟩:=lsS h1
 obtain ⟨a3,t3,rfl,h3⟩:=lsS h2
 cases lsN h3
 exact ⟨a0,a1,a2,a3,rfl⟩
theorem ls5 {us:List Value} (h:us.length = 5):∃ a0 a1 a2 a3 a4,us = [a0,a1,a2,a3,a4]:=by
 obtain ⟨a0,t0,rfl,h0⟩:=lsS h
 obtain ⟨a1,t1,rfl,h1⟩:=lsS h0
 obtain ⟨a2,t2,rfl,h2⟩:=lsS h1
 obtain ⟨a3,t3,rfl,h3⟩:=lsS h2
 obtain ⟨a4,t4,rfl,h4⟩:=lsS h3
 cases lsN h4
 exact ⟨a0,a1,a2,a3,a4,rfl⟩
theorem ls6 {us:List Value} (h:us.length = 6):∃ a0 a1 a2 a3 a4 a5,us = [a0,a1,a2,a3,a4,a5]:=by
 obtain ⟨a0,t0,rfl,h0⟩:=lsS h
 obtain ⟨a1,t1,rfl,h1⟩:=lsS h0
 obtain ⟨a2,t2,rfl,h2⟩:=lsS h1
 obtain ⟨a3,t3,rfl,h3⟩:=lsS h2
 obtain ⟨a4,t4,rfl,h4⟩:=lsS h3
 obtain ⟨a5,t5,rfl,h5⟩:=lsS h4
 cases lsN h5
 exact ⟨a0,a1,a2,a3,a4,a5,rfl⟩
section
variable {P:Program} {w:World} {K:W.Frag} {mg:Str -> Option Value} {base:Heap} {t:gp}
end
local macro_rules | `(tactic| walk_at "rd")=>`(tactic| simp only [NG,Io,tIf,JB,tB,Nk,Ph,Dv,Dy,Hw,tC,L2.start,rI,Jz,um,OP,Ou,tOr,OI,O0,OF,tUn,rU,rEq,rNe,Qm,MN,O4,IU,Kw,OC,GY,Gu,JH,Ds,JG,tBM,OZ,NV,ipI,Jw,Pk,Jx,tSl,Nr,JD,Bh,rJoin,xN,vN,Fw,Ms,kW,Option.join_some,Option.join_none,if_true,if_false,Bool.false_eq_true,List.map_cons,List.map_nil,List.length_cons,List.length_nil,List.replicate,List.cons_append,List.nil_append,List.append_nil,List.getElem?_cons_zero,List.getElem?_cons_succ,List.set_cons_zero,List.set_cons_succ,Option.some.injEq,exists_eq_left',exists_eq_left,V.int.injEq,V.str.injEq,V.ref.injEq,V.bl.injEq,List.cons.injEq,and_true,true_and,and_assoc,exists_and_left,exists_eq,exists_const])
local macro_rules | `(tactic| walk_at "ck")=>`(tactic| exact ⟨by decide +kernel,rfl,by decide +kernel,by decide +kernel,by decide +kernel,by decide +kernel,by decide +kernel⟩)
section
variable {P:Program} {w:World} {K:PySem.W.Frag} {mg:Str -> Option Value} {base:Heap} {t:gp}
def isName (z:Str):Bool:=decide (1 <= z.length) && decide (z.length <= 8) && z.cps.toList.all λc=>decide (c ∈ (Str.ofString "abcdefghijklmnopqrstuvwxyz").cps.toList)
noncomputable def GI:Sp:=λvs H Q _=>∃ z:Str,vs = [.str z] /\ z.length <= 100000 /\ ∀ H',aq H H' -> Q (.bl (isName z)) H'
theorem KY (T:Txt K mg t):bC P w K mg base c6 1 t.pL t.zx ["word"] GI:=by
 refine T.zf.ok MP ?_ ?_
 walk_at "i"
 ·obtain ⟨z,rfl,hz,q⟩:=h
  refine aG (λZ' H'=>Z' = [some (.str z)] /\ H' = H /\ 1 <= z.length /\ z.length <= 8) (bx (PW.pt (jy (aA ff (aO bD (by rfl) T.bK (by decide +kernel) (aa (pv 0) af)) ak (aI _)) (i8 (aA i6 (aO bD (by rfl) T.bK (by decide +kernel) (aa (pv 0) af)) (gn rfl T.mE) (aI _))))) ay ay) ?_ ?_
  ·walk_at "rd"
   refine ⟨b7 (by lia),dJ (λh=>?_) (λh=>?_)⟩
   ·refine av (aJ jh) ?_
    have:=q H (aq.refl H)
    rw [isName,decide_eq_false (by lia)] at this
    exact this
   ·refine ⟨b7 (by lia),dJ (λh=>?_) (λh=>aZ ⟨rfl,rfl,by lia,by lia⟩)⟩
    refine av (aJ jh) ?_
    have:=q H (aq.refl H)
    rw [isName,decide_eq_false (p:=z.length <= 8) (by lia),Bool.and_false] at this
    exact this
  rintro Z' H' ⟨rfl,e,h1,h2⟩
  rw [e]
  clear e H'
  refine av (aJ (aO (Cm rfl) (by rfl) T.EL (by decide +kernel) (aa (gK (sc:=az A9) (N:=["word"]) (x:="sign") (caps:=[]) (by walk_at "ck") (KI (pv 0)) (λ_ _ _ _=>(gH jg (pv 0) (gn rfl T.zh) rfl))) af))) ?_
  refine ⟨_,rfl,z,rfl,Dw (λi ys H2=>H2 = H /\ ys = (z.cps.toList.take i).map λc=>V.bl (decide (c ∈ (Str.ofString "abcdefghijklmnopqrstuvwxyz").cps.toList))) ⟨rfl,rfl⟩ (cZ (by lia)) ?_ ?_⟩
  ·rintro i c ys H2 hc hl ⟨rfl,rfl⟩
   have hi:i < z.length:=by
    have:=(List.getElem?_eq_some_iff.mp hc).1
    simpa [Str.length] using this
   refine ⟨_,rfl,_,_,rfl,rfl,?_⟩
   rw [PySem.StrLaws.found_one]
   refine dh hi hl ⟨rfl,?_⟩
   rw [List.take_succ,hc,List.map_append]
   rfl
  ·rintro ys H2 hl ⟨rfl,rfl⟩ D hD
   refine ⟨D,(z.cps.toList.map λc=>decide (c ∈ (Str.ofString "abcdefghijklmnopqrstuvwxyz").cps.toList)),rfl,bf.of (by rw [ai,List.take_of_length_le (by simp [Str.length]),List.map_map];rfl),?_⟩
   have:=q _ (aq.upd (o:=.lst (((z.cps.toList.take z.length)).map λc=>V.bl (decide (c ∈ (Str.ofString "abcdefghijklmnopqrstuvwxyz").cps.toList)))) hD)
   rw [isName,decide_eq_true h1,decide_eq_true h2] at this
   rw [List.all_map]
   exact this
def cf (row:Int) (lw:Addr) (i:Nat):List (Str × V):=[("row",.int row),("words",.ref lw),("at",.int i)]
structure k8 (t:gp) (H:Hp) (p dx lw:Addr) (row:Int) (ws:List Str) (i:Nat):Prop where
 ob:H p = some (.ins t.bu dx (cf row lw i))
 ls:H lw = some (.lst (ws.map V.str))
 sz:ws.length <= 1000 /\ ∀ w ∈ ws,w.length <= 100000
theorem k8.ne {H:Hp} {p dx lw:Addr} {row:Int} {ws:List Str} {i:Nat} (c:k8 t H p dx lw row ws i):p ≠ lw:=cA c.ob c.ls (by intro z;cases z)
theorem k8.same {H H':Hp} {p dx lw:Addr} {row:Int} {ws:List Str} {i:Nat} (c:k8 t H p dx lw row ws i) (s:aq H H'):k8 t H' p dx lw row ws i:=⟨s _ _ c.ob,s _ _ c.ls,c.sz⟩
def pk (ws:List Str) (i:Nat):Str:=ws.getD i ""
theorem JC {ws:List Str} {i:Nat} (h:i < ws.length):pk ws i = ws[i]:=by simp [pk,h]
theorem Ju {ws:List Str} {i:Nat} (h:ws.length <= i):pk ws i = "" := by
 unfold pk
 rw [List.getD_eq_getElem?_getD,List.getElem?_eq_none h]
 rfl
theorem k8.pkl {H:Hp} {p dx lw:Addr} {row:Int} {ws:List Str} {i:Nat} (c:k8 t H p dx lw row ws i):(pk ws i).length <= 100000:=by
 by_cases h:i < ws.length
 ·rw [JC h];exact c.sz.2 _ (List.getElem_mem h)
 ·rw [Ju (by lia)];decide
noncomputable def II (t:gp):Sp:=λvs H Q _=>∃ (p dx:Addr) (row:Int) (text:Str),vs = [.ref p,.int row,.str text] /\ H p = some (.ins t.bu dx []) /\ text.length <= 100000 /\ (PySem.Txt.split text ⟨#[32]⟩).length <= 1000 /\
 ∀ lw H',H lw = none -> k8 t H' p dx lw row (PySem.Txt.split text ⟨#[32]⟩) 0 -> iS H H' p -> Q .cQ H'
theorem Ow (T:Txt K mg t):bC P w K mg base c6 1 t.zy t.EE ["self","row","text"] (II t):=by
 refine T.HY.ok N8 ?_ ?_
 walk_at "i"
 ·obtain ⟨p,dx,row,text,rfl,hp,hz,hn,q⟩:=h
  refine ao (cS (pv 0) (pv 1) rfl) ⟨_,rfl,_,rfl,p,_,dx,[],rfl,hp,T.aW,T.iA,by decide,?_⟩
  refine ao (cS (pv 0) (cH F.plainAttrs_str F.slot_str_split F.type_str_split jJ (pv 2) (aa aX af)) rfl) ?_
  refine ⟨_,rfl,rfl,_,_,rfl,rfl,by decide,b7 (by lia),λlw hl=>⟨_,rfl,p,_,dx,[("row",.int row)],rfl,?_,T.aW,T.e9,by show 1 < 1000;decide,?_⟩⟩
  ·rw [au (aj ai hl)];exact ai
  have npl:p ≠ lw:=aj ai hl
  refine av (cS (pv 0) ak rfl) ⟨_,rfl,p,_,dx,[("row",.int row),("words",.ref lw)],rfl,ai,T.aW,T.fj,by show 2 < 1000;decide,?_⟩
  have hl0:H lw = none:=by rw [au (Ne.symm npl)] at hl;exact hl
  refine q lw _ hl0 ⟨ai,?_,hn,λw hw=>Nat.le_trans (PyProof.Rows.part_short hw) hz⟩ λb o hb nb=>?_
  ·rw [au (Ne.symm npl),au (Ne.symm npl),ai];rfl
  ·rw [au nb,au nb,au (aj hb hl0),au nb];exact hb
noncomputable def MV (t:gp):Sp:=λvs H Q _=>∃ (p dx lw:Addr) (row:Int) (ws:List Str) (i:Nat),vs = [.ref p] /\ k8 t H p dx lw row ws i /\ Q (.bl (decide (i < ws.length))) H
theorem A5 (T:Txt K mg t):bC P w K mg base c6 1 t.xM t.FI ["self"] (MV t):=by
 refine T.zu.ok Od ?_ ?_
 walk_at "i"
 ·obtain ⟨p,dx,lw,row,ws,i,rfl,C,q⟩:=h
  refine av (aJ (gH ff (aT (pv 0) rfl) (aO aR (by rfl) T.bK (by decide +kernel) (aa (aT (pv 0) rfl) af)) (aI _))) ?_
  simp only [MN,Nk,Ph,Dv,Dy]
  refine IY rfl C.ob T.aW T.fj rfl ?_
  refine IY rfl C.ob T.aW T.e9 rfl ?_
  refine ⟨_,_,rfl,.inl (bf.of C.ls),_,_,rfl,rfl,?_⟩
  rw [List.length_map]
  have e:decide ((i:Int) < (ws.length:Int)) = decide (i < ws.length):=by simp
  show Q (.bl (decide ((i:Int) < (ws.length:Int)))) H
  rw [e]
  exact q
noncomputable def Mg (t:gp):Sp:=λvs H Q _=>∃ (p dx lw:Addr) (row:Int) (ws:List Str) (i:Nat),vs = [.ref p] /\ k8 t H p dx lw row ws i /\ Q (.str (pk ws i)) H
theorem qj (T:Txt K mg t):bC P w K mg base c6 2 t.yd t.FG ["self"] (Mg t):=by
 refine T.qb.ok OE ?_ ?_
 walk_at "i"
 ·obtain ⟨p,dx,lw,row,ws,i,rfl,C,q⟩:=h
  refine av (aJ (cX (i9 (b6 (pv 0) T.aW T.Ib (A5 T) (hr.mono (by decide)) (T.zu.binds (by walk_at "1")) .nil aF)) (aL aS (aT (pv 0) rfl) (aT (pv 0) rfl) (λ_ _=>rfl)) aX)) ?_
  refine ⟨_,rfl,p,dx,_,rfl,C.ob,rfl,p,dx,lw,row,ws,i,rfl,C,_,rfl,dJ (λh=>?_) (λh=>?_)⟩
  ·refine IY rfl C.ob T.aW T.e9 rfl ?_
   refine IY rfl C.ob T.aW T.fj rfl ?_
   refine ⟨_,_,_,.str (pk ws i),rfl,rfl,bf.of C.ls,aQ ?_,q⟩
   rw [List.getElem?_map,List.getElem?_eq_getElem h,JC h]
   rfl
  ·rw [Ju (by lia)] at q
   exact q
noncomputable def OS:Sp:=λvs H Q _=>∃ p:V,vs = [p,.bl true] /\ Q .cQ H
theorem tY (T:Txt K mg t):bC P w K mg base c6 1 t.xZ t.EU ["self","good"] OS:=by
 refine T.sP.ok Oz ?_ ?_
 walk_at "i"
 ·obtain ⟨p,rfl,q⟩:=h
  refine av (bx (mX (i9 (pv 1))) ay ay) ⟨_,rfl,true,rfl,uE (aZ q)⟩
noncomputable def Mi (t:gp):Sp:=λvs H Q _=>∃ (p dx lw:Addr) (row:Int) (ws:List Str) (i:Nat),vs = [.ref p,.bl true] /\ k8 t H p dx lw row ws i /\ ∀ H',k8 t H' p dx lw row ws (i + 1) -> iS H H' p -> Q (.str (pk ws i)) H'
theorem Es (T:Txt K mg t):bC P w K mg base c6 3 t.wz t.DM ["self","good"] (Mi t):=by
 refine T.Av.ok Jj ?_ ?_
 walk_at "i"
 ·obtain ⟨p,dx,lw,row,ws,i,rfl,C,q⟩:=h
  refine ao (bz (bA (pv 0) T.aW T.CL (tY T) (hr.mono (by decide)) (T.sP.binds (by walk_at "2")) .nil aF (aa (pv 1) af))) ⟨_,rfl,p,dx,_,rfl,C.ob,rfl,_,rfl,_,rfl,?_⟩
  refine ao (aB (i:=2) Jj.nd rfl (Or.inl rfl) (b6 (pv 0) T.aW T.Ae (qj T) (hr.mono (by decide)) (T.qb.binds (by walk_at "1")) .nil aF)) ⟨_,rfl,p,dx,_,rfl,C.ob,rfl,p,dx,lw,row,ws,i,rfl,C,?_⟩
  refine ao (CP (pv 0) ak Ke) ⟨_,rfl,p,_,dx,_,_,rfl,C.ob,T.aW,T.fj,rfl,?_⟩
  refine ⟨_,_,rfl,rfl,dx,_,C.ob,by show 3 < 1000;decide,?_⟩
  refine av (aJ (pv 2)) ⟨_,rfl,?_⟩
  have C':k8 t (upd H p (.ins t.bu dx (cf row lw (i + 1)))) p dx lw row ws (i + 1):=⟨ai,by rw [au (Ne.symm C.ne)];exact C.ls,C.sz⟩
  exact q _ C' iS.upd
noncomputable def EF (K:PySem.W.Frag) (t:gp):Sp:=λvs H Q _=>∃ (p dx lw c:Addr) (cs:List Str) (row:Int) (ws:List Str) (i:Nat),vs = [.ref p,.ref c] /\ k8 t H p dx lw row ws i /\ d8 K H c (cs.map V.str) /\ pk ws i ∈ cs /\ ∀ H',k8 t H' p dx lw row ws (i + 1) -> iS H H' p -> Q (.str (pk ws i)) H'
theorem iL {x:Str} {cs:List Str}:Jm (.str x) (cs.map V.str) = decide (x ∈ cs):=by
 unfold Jm
 rw [List.any_map,Bool.eq_iff_iff,List.any_eq_true,decide_eq_true_eq]
 constructor
 ·rintro ⟨y,hy,e⟩
  have:(y == x) = true:=e
  rw [← eq_of_beq this];exact hy
 ·intro h
  exact ⟨x,h,by show (x == x) = true;simp⟩
theorem ua {cs:List Str}:(cs.map V.str).all iK = true:=by
 rw [List.all_map,List.all_eq_true]
 intro _ _
 rfl
theorem Br (T:Txt K mg t):bC P w K mg base c6 4 t.wZ t.Ea ["self","words"] (EF K t):=by
 refine T.zz.ok OJ ?_ ?_
 walk_at "i"
 ·obtain ⟨p,dx,lw,c,cs,row,ws,i,rfl,C,hc,hin,q⟩:=h
  refine av (aJ (bA (pv 0) T.aW T.Lc (Es T) (hr.mono (by decide)) (T.Av.binds (by walk_at "2")) .nil aF (aa (gH fY (b6 (pv 0) T.aW T.Ae (qj T) (hr.mono (by decide)) (T.qb.binds (by walk_at "1")) .nil aF) (pv 1) rfl) af))) ?_
  refine ⟨_,rfl,p,dx,_,rfl,C.ob,rfl,?_⟩
  refine ⟨_,rfl,p,dx,_,rfl,C.ob,rfl,p,dx,lw,row,ws,i,rfl,C,_,rfl,_,_,rfl,.inr hc,rfl,ua,?_⟩
  rw [iL,decide_eq_true hin]
  exact ⟨p,dx,lw,row,ws,i,rfl,C,q⟩
noncomputable def K8 (t:gp):Sp:=λvs H Q _=>∃ (p dx lw:Addr) (row:Int) (ws:List Str) (i:Nat),vs = [.ref p] /\ k8 t H p dx lw row ws i /\ isName (pk ws i) = true /\ ∀ H',k8 t H' p dx lw row ws (i + 1) -> iS H H' p -> Q (.str (pk ws i)) H'
theorem Bj (T:Txt K mg t):bC P w K mg base c6 4 t.w6 t.Fv ["self"] (K8 t):=by
 refine T.za.ok Oq ?_ ?_
 walk_at "i"
 ·obtain ⟨p,dx,lw,row,ws,i,rfl,C,hin,q⟩:=h
  refine av (aJ (bA (pv 0) T.aW T.Lc (Es T) (hr.mono (by decide)) (T.Av.binds (by walk_at "2")) .nil aF (aa (aM (KY T) (hr.mono (by decide)) rfl T.Mu T.zf.kp (T.zf.binds (by walk_at "1")) .nil aF (aa (b6 (pv 0) T.aW T.Ae (qj T) (hr.mono (by decide)) (T.qb.binds (by walk_at "1")) .nil aF) af)) af))) ?_
  refine ⟨_,rfl,p,dx,_,rfl,C.ob,rfl,?_⟩
  refine ⟨_,rfl,p,dx,_,rfl,C.ob,rfl,p,dx,lw,row,ws,i,rfl,C,pk ws i,rfl,C.pkl,λH1 s1=>?_⟩
  rw [hin]
  exact ⟨p,dx,lw,row,ws,i,rfl,C.same s1,λH2 C2 a2=>q H2 C2 (s1.HL a2)⟩
def iG (z:Str):Str:="'" ++ PySem.Txt.replace z " " "_"
theorem gA (z:Str):(iG z).cps.toList = 39 :: jM 32 95 z.cps.toList:=by
 unfold iG
 rw [eU,show ((" " : Str)) = ⟨#[32]⟩ from by decide +kernel,show (("_" : Str)) = ⟨#[95]⟩ from by decide +kernel,jK]
 rfl
noncomputable def Iv (t:gp):Sp:=λvs H Q _=>∃ (p dx lw:Addr) (row:Int) (ws:List Str) (i:Nat) (z:Str),vs = [.ref p] /\ k8 t H p dx lw row ws i /\ pk ws i = iG z /\ 1 <= z.length /\ z.length <= 1000 /\ 95 ∉ z.cps.toList /\ ∀ H',k8 t H' p dx lw row ws (i + 1) -> iS H H' p -> Q (.str z) H'
theorem LB {w:Str} (h:1 <= w.length):(PySem.Txt.slice w (some 1) none).cps.toList = w.cps.toList.drop 1:=by
 rw [PyProof.Rows.slice_from_eq (b:=(w.length:Int)) (by decide) (by lia) rfl]
 show (w.cps.toList.drop 1).take _ = _
 refine List.take_of_length_le ?_
 rw [List.length_drop,Array.length_toList]
 show w.length - 1 <= _
 lia
theorem NK (T:Txt K mg t):bC P w K mg base c6 4 t.wU t.EZ ["self"] (Iv t):=by
 refine T.Hg.ok JJ ?_ ?_
 walk_at "i"
 ·obtain ⟨p,dx,lw,row,ws,i,z,rfl,C,hw,hz1,hz2,hz3,q⟩:=h
  have hlen:(iG z).length = z.length + 1:=by
   have:=congrArg List.length (gA z)
   simpa [Str.length,jM] using this
  refine ao (aB (i:=1) JJ.nd rfl (Or.inl rfl) (b6 (pv 0) T.aW T.Ae (qj T) (hr.mono (by decide)) (T.qb.binds (by walk_at "1")) .nil aF)) ⟨_,rfl,p,dx,_,rfl,C.ob,rfl,p,dx,lw,row,ws,i,rfl,C,?_⟩
  rw [hw]
  refine ao (bz (bA (pv 0) T.aW T.Lc (Es T) (hr.mono (by decide)) (T.Av.binds (by walk_at "2")) .nil aF (aa (Lv (gH i6 (aO bD (by rfl) T.bK (by decide +kernel) (aa (pv 1) af)) ak (aI _)) (Mb (cH F.plainAttrs_str F.slot_str_startswith F.type_str_startswith qY (pv 1) (aa aX af)))) af))) ?_
  refine ⟨_,rfl,p,dx,_,rfl,C.ob,rfl,?_⟩
  refine ⟨_,rfl,_,rfl,b7 (by lia),_,_,rfl,rfl,_,rfl,?_⟩
  rw [decide_eq_true (by lia),if_pos rfl]
  refine ⟨_,rfl,rfl,_,_,rfl,rfl,?_⟩
  have hst:(decide (0 + ("'" : Str).length <= (iG z).length) && Builtin.Str.subAt (iG z) "'" 0) = true:=by
   have e1:("'" : Str).length = 1:=by decide +kernel
   rw [Bool.and_eq_true,decide_eq_true_eq,e1]
   refine ⟨by lia,?_⟩
   unfold Builtin.Str.subAt
   rw [beq_iff_eq,← Array.toList_inj,e1]
   have e2:=gA z
   simp only [Array.toList_extract,List.extract_eq_take_drop,e2]
   rfl
  rw [hst]
  refine ⟨p,dx,lw,row,ws,i,rfl,C,λH1 C1 a1=>?_⟩
  refine av (aJ (AG (by decide +kernel) (pv 1))) ⟨_,rfl,_,rfl,b7 (by lia),_,rfl,?_,?_⟩
  ·have h1:(PySem.Txt.slice (iG z) (some 1) none).length <= 1001:=Nat.le_trans (PySem.Txt.slice_le _ _ _) (by lia)
   have h2:(" " : Str).length = 1:=by decide +kernel
   rw [h2]
   lia
  ·have e:PySem.Txt.replace (PySem.Txt.slice (iG z) (some 1) none) "_" " " = z:=by
    refine jo ?_
    rw [show ((" " : Str)) = ⟨#[32]⟩ from by decide +kernel,show (("_" : Str)) = ⟨#[95]⟩ from by decide +kernel,jK,LB (by lia),gA]
    exact Ca hz3
   rw [e]
   exact q H1 C1 a1
end
local macro_rules | `(tactic| walk_at "u")=>`(tactic| first | rfl | decide | exact Or.inl rfl | exact Or.inr rfl | exact Or.inr (Or.inl rfl) | exact Or.inr (Or.inr rfl) | assumption | (intro _;rfl) | exact yf _ (by decide) (by decide))
section
variable {P:Program} {w:World} {K:PySem.W.Frag} {mg:Str -> Option Value} {base:Heap} {t:gp}
def iB (sg:List Nat):List Nat -> Nat
 | []=>0
 | c :: r=>if c ∈ sg then 1 + iB sg r else 0
def eY (sort signs row:Str) (i:Nat):V :=
 if sort = "end" then (if i = row.length then .int 0 else .cQ)
 else if sort = "word" then (if (row.cps.toList.drop i).take signs.length = signs.cps.toList then .int signs.length else .cQ)
 else match row.cps.toList[i]? with
  | none=>.cQ
  | some c =>
   if sort = "any" ∨ sort = "still" then .int (if sort = "any" then 1 else 0)
   else if sort = "none" then (if c ∈ signs.cps.toList then .cQ else .int 1)
   else if c ∈ signs.cps.toList then .int (if sort = "many" then 1 + iB signs.cps.toList (row.cps.toList.drop (i + 1)) else 1) else .cQ
theorem getL {row:Str} {i:Nat}:row.cps.toList.length = row.length:=by simp [Str.length]
theorem strAt {row:Str} {i:Int} (h0:0 <= i) (h1:i < row.length):∃ c,row.cps.toList[i.toNat]? = some c /\ rA row.cps.toList i = some c:=kP _ h0 (by rw [getL (i:=0)];exact h1)
noncomputable def nI (C:Addr) (fl:Str -> List (Str × V)) (sort:Str):Sp:=λvs H Q _=>∃ (p dx:Addr) (signs row:Str) (i:Nat),vs = [.ref p,.str row,.int i] /\ H p = some (.ins C dx (fl signs)) /\ signs.length <= 1000 /\ row.length <= 1000 /\ i <= row.length /\ Q (eY sort signs row i) H
noncomputable def kO (b:Bool):Sp:=λvs H Q _=>∃ p:V,vs = [p] /\ Q (.bl b) H
noncomputable def ve (C:Addr) (f:Str):Sp:=λvs H Q _=>∃ (p dx:Addr) (z:Str),vs = [.ref p,.str z] /\ H p = some (.ins C dx []) /\ Q .cQ (upd H p (.ins C dx [(f,.str z)]))
theorem JW (T:Txt K mg t):bC P w K mg base c6 1 t.nP t.wc ["self","text"] (ve t.b8 "wanted"):=by
 refine T.BP.ok MS ?_ ?_
 walk_at "i"
 ·obtain ⟨p,dx,z,rfl,hp,q⟩:=h
  refine @av _ _ _ _ _ _ (cS (pv 0) (pv 1) rfl) ?_
  exact ⟨_,rfl,_,rfl,p,_,dx,[],rfl,hp,T.oF,T.fK,by decide,q⟩
theorem K6 (T:Txt K mg t):bC P w K mg base c6 1 t.nN t.vH ["self","signs"] (ve t.cT "signs"):=by
 refine T.BI.ok MR ?_ ?_
 walk_at "i"
 ·obtain ⟨p,dx,z,rfl,hp,q⟩:=h
  refine @av _ _ _ _ _ _ (cS (pv 0) (pv 1) rfl) ?_
  exact ⟨_,rfl,_,rfl,p,_,dx,[],rfl,hp,T.zM,T.iW,by decide,q⟩
theorem Lz (T:Txt K mg t):bC P w K mg base c6 1 t.oi t.yN ["self","signs"] (ve t.br "signs"):=by
 refine T.Bv.ok LI ?_ ?_
 walk_at "i"
 ·obtain ⟨p,dx,z,rfl,hp,q⟩:=h
  refine @av _ _ _ _ _ _ (cS (pv 0) (pv 1) rfl) ?_
  exact ⟨_,rfl,_,rfl,p,_,dx,[],rfl,hp,T.kM,T.fS,by decide,q⟩
theorem LC (T:Txt K mg t):bC P w K mg base c6 1 t.nC t.yE ["self","signs"] (ve t.b9 "signs"):=by
 refine T.A1.ok JP ?_ ?_
 walk_at "i"
 ·obtain ⟨p,dx,z,rfl,hp,q⟩:=h
  refine @av _ _ _ _ _ _ (cS (pv 0) (pv 1) rfl) ?_
  exact ⟨_,rfl,_,rfl,p,_,dx,[],rfl,hp,T.vc,T.iz,by decide,q⟩
theorem Fo (T:Txt K mg t):bC P w K mg base c6 1 t.jf t.pN ["self"] (kO false):=by
 refine T.rG.ok J8 ?_ ?_
 walk_at "i"
 ·obtain ⟨p,rfl,q⟩:=h
  exact @av _ _ _ _ _ _ (aJ jh) q
theorem KA (T:Txt K mg t):bC P w K mg base c6 1 t.mw t.uh ["self"] (kO true):=by
 refine T.xx.ok M5 ?_ ?_
 walk_at "i"
 ·obtain ⟨p,rfl,q⟩:=h
  exact @av _ _ _ _ _ _ (aJ jh) q
theorem Ma (T:Txt K mg t):bC P w K mg base c6 1 t.lC t.uy ["self"] (kO true):=by
 refine T.wJ.ok LA ?_ ?_
 walk_at "i"
 ·obtain ⟨p,rfl,q⟩:=h
  exact @av _ _ _ _ _ _ (aJ jh) q
theorem Mj (T:Txt K mg t):bC P w K mg base c6 1 t.lZ t.tV ["self"] (kO true):=by
 refine T.wD.ok Ld ?_ ?_
 walk_at "i"
 ·obtain ⟨p,rfl,q⟩:=h
  exact @av _ _ _ _ _ _ (aJ jh) q
theorem Kn (T:Txt K mg t):bC P w K mg base c6 1 t.lJ t.tQ ["self"] (kO true):=by
 refine T.zG.ok LZ ?_ ?_
 walk_at "i"
 ·obtain ⟨p,rfl,q⟩:=h
  exact @av _ _ _ _ _ _ (aJ jh) q
theorem O6 (T:Txt K mg t):bC P w K mg base c6 1 t.uF t.CU ["self"] (kO true):=by
 refine T.Ff.ok OU ?_ ?_
 walk_at "i"
 ·obtain ⟨p,rfl,q⟩:=h
  exact @av _ _ _ _ _ _ (aJ jh) q
theorem Cy {row sg:Str} {i:Nat} (hi:i <= row.length):(decide (fromIndex row.length (i:Int) + sg.length <= row.length) && Builtin.Str.subAt row sg (fromIndex row.length (i:Int))) = decide ((row.cps.toList.drop i).take sg.length = sg.cps.toList):=by
 have e:fromIndex row.length (i:Int) = i:=by unfold fromIndex;rw [if_neg (by lia)];lia
 rw [e]
 have e2:Builtin.Str.subAt row sg i = decide ((row.cps.toList.drop i).take sg.length = sg.cps.toList):=by
  unfold Builtin.Str.subAt
  rw [Bool.eq_iff_iff,beq_iff_eq,decide_eq_true_eq]
  rw [← Array.toList_inj]
  simp [Array.toList_extract,List.extract_eq_take_drop]
 rw [e2,Bool.eq_iff_iff,Bool.and_eq_true,decide_eq_true_eq,decide_eq_true_eq]
 refine ⟨λz=>z.2,λz=>⟨?_,z⟩⟩
 have:=congrArg List.length z
 rw [List.length_take,List.length_drop,getL (i:=0),getL (i:=0)] at this
 lia
theorem Mx (T:Txt K mg t):bC P w K mg base c6 1 t.lW t.tF ["self","row","at"] (nI t.b8 (λz=>[("wanted",.str z)]) "word"):=by
 refine T.yo.ok La ?_ ?_
 walk_at "i"
 ·obtain ⟨p,dx,sg,row,i,rfl,hp,hs,hw,hi,q⟩:=h
  refine @av _ _ _ _ _ _ (aJ (cX (i9 (cH F.plainAttrs_str F.slot_str_startswith F.type_str_startswith zK (pv 1) (aa (aT (pv 0) rfl) (aa (pv 2) af)))) (aO bD (by rfl) T.bK (by decide +kernel) (aa (aT (pv 0) rfl) af)) bN)) ?_
  rw [eY,if_neg (by decide),if_pos rfl] at q
  refine ⟨_,rfl,rfl,_,rfl,p,_,dx,_,_,rfl,hp,T.oF,T.fK,rfl,_,rfl,_,_,_,rfl,rfl,_,rfl,?_⟩
  rw [Cy hi]
  refine dJ (λh=>?_) (λh=>?_)
  ·rw [if_pos h] at q
   exact ⟨_,rfl,p,_,dx,_,_,rfl,hp,T.oF,T.fK,rfl,_,rfl,b7 (by lia),q⟩
  ·rw [if_neg h] at q
   exact q
theorem fR {sort sg row:Str} {i c:Nat} (h1:sort ≠ "end") (h2:sort ≠ "word") (e:row.cps.toList[i]? = some c):eY sort sg row i = if sort = "any" ∨ sort = "still" then .int (if sort = "any" then 1 else 0)
   else if sort = "none" then (if c ∈ sg.cps.toList then .cQ else .int 1)
   else if c ∈ sg.cps.toList then .int (if sort = "many" then 1 + iB sg.cps.toList (row.cps.toList.drop (i + 1)) else 1) else .cQ:=by
 rw [eY,if_neg h1,if_neg h2,e]
theorem gQ {sort sg row:Str} {i:Nat} (h1:sort ≠ "end") (h2:sort ≠ "word") (h:row.length <= i):eY sort sg row i = .cQ:=by
 rw [eY,if_neg h1,if_neg h2,List.getElem?_eq_none (by rw [getL (i:=0)];exact h)]
theorem Nc (T:Txt K mg t):bC P w K mg base c6 1 t.l9 t.sU ["self","row","at"] (nI t.cT (λz=>[("signs",.str z)]) "one"):=by
 refine T.yq.ok Kp ?_ ?_
 walk_at "i"
 ·obtain ⟨p,dx,sg,row,i,rfl,hp,hs,hw,hi,q⟩:=h
  refine @av _ _ _ _ _ _ (aJ (cX (PW.pt (dH (aA ff (pv 2) (aO bD (by rfl) T.bK (by decide +kernel) (aa (pv 1) af)) (aI _)) (di (aA jg (aL k6 (pv 1) (pv 2) (λ_ _=>rfl)) (aT (pv 0) rfl) rfl)))) ak bN)) ?_
  walk_at "rd"
  refine ⟨b7 (by lia),dJ (λh=>?_) (λh=>?_)⟩
  ·obtain ⟨c,e1,e2⟩:=strAt (row:=row) (i:=(i:Int)) (by lia) h
   rw [Int.toNat_natCast] at e1
   refine ⟨b7 (by lia),c,e2,⟨_,rfl,_,_,_,_,_,rfl,hp,T.zM,T.iW,rfl,⟨sg,rfl,?_⟩⟩⟩
   rw [PySem.StrLaws.found_one]
   rw [fR (by decide) (by decide) e1,if_neg (by decide),if_neg (by decide)] at q
   refine dJ (λh=>?_) (λh=>?_)
   ·rw [if_pos h,if_neg (by decide)] at q
    exact q
   ·rw [if_neg h] at q
    exact q
  ·rw [gQ (by decide) (by decide) (by lia)] at q
   exact q
theorem Ku (T:Txt K mg t):bC P w K mg base c6 1 t.k9 t.uC ["self","row","at"] (nI t.br (λz=>[("signs",.str z)]) "none"):=by
 refine T.vI.ok Kl ?_ ?_
 walk_at "i"
 ·obtain ⟨p,dx,sg,row,i,rfl,hp,hs,hw,hi,q⟩:=h
  refine @av _ _ _ _ _ _ (aJ (cX (PW.pt (dH (aA ff (pv 2) (aO bD (by rfl) T.bK (by decide +kernel) (aa (pv 1) af)) (aI _)) (di (aA uQ (aL k6 (pv 1) (pv 2) (λ_ _=>rfl)) (aT (pv 0) rfl) rfl)))) ak bN)) ?_
  walk_at "rd"
  refine ⟨b7 (by lia),dJ (λh=>?_) (λh=>?_)⟩
  ·obtain ⟨c,e1,e2⟩:=strAt (row:=row) (i:=(i:Int)) (by lia) h
   rw [Int.toNat_natCast] at e1
   refine ⟨b7 (by lia),c,e2,⟨_,rfl,_,_,_,_,_,rfl,hp,T.kM,T.fS,rfl,⟨sg,rfl,?_⟩⟩⟩
   rw [PySem.StrLaws.found_one]
   rw [fR (by decide) (by decide) e1,if_neg (by decide),if_pos rfl] at q
   refine g7 (λh=>?_) (λh=>?_)
   ·rw [if_neg h] at q
    exact q
   ·rw [if_pos h] at q
    exact q
  ·rw [gQ (by decide) (by decide) (by lia)] at q
   exact q
theorem Of (T:Txt K mg t):bC P w K mg base c6 1 t.vh t.Cb ["self","row","at"] (nI t.dz (λz=>[]) "any"):=by
 refine T.DS.ok Nu ?_ ?_
 walk_at "i"
 ·obtain ⟨p,dx,sg,row,i,rfl,hp,hs,hw,hi,q⟩:=h
  refine @av _ _ _ _ _ _ (aJ (cX (aA ff (pv 2) (aO bD (by rfl) T.bK (by decide +kernel) (aa (pv 1) af)) (aI _)) ak bN)) ?_
  walk_at "rd"
  refine ⟨b7 (by lia),dJ (λh=>?_) (λh=>?_)⟩
  ·obtain ⟨c,e1,e2⟩:=strAt (row:=row) (i:=(i:Int)) (by lia) h
   rw [Int.toNat_natCast] at e1
   rw [fR (by decide) (by decide) e1,if_pos (by decide),if_pos rfl] at q
   exact q
  ·rw [gQ (by decide) (by decide) (by lia)] at q
   exact q
theorem J4 (T:Txt K mg t):bC P w K mg base c6 1 t.lY t.tH ["self","row","at"] (nI t.bO (λz=>[]) "still"):=by
 refine T.zc.ok Ks ?_ ?_
 walk_at "i"
 ·obtain ⟨p,dx,sg,row,i,rfl,hp,hs,hw,hi,q⟩:=h
  refine @av _ _ _ _ _ _ (aJ (cX (aA ff (pv 2) (aO bD (by rfl) T.bK (by decide +kernel) (aa (pv 1) af)) (aI _)) ak bN)) ?_
  walk_at "rd"
  refine ⟨b7 (by lia),dJ (λh=>?_) (λh=>?_)⟩
  ·obtain ⟨c,e1,e2⟩:=strAt (row:=row) (i:=(i:Int)) (by lia) h
   rw [Int.toNat_natCast] at e1
   rw [fR (by decide) (by decide) e1,if_pos (by decide),if_neg (by decide)] at q
   exact q
  ·rw [gQ (by decide) (by decide) (by lia)] at q
   exact q
theorem Kh (T:Txt K mg t):bC P w K mg base c6 1 t.lU t.uv ["self","row","at"] (nI t.dG (λz=>[]) "end"):=by
 refine T.xo.ok Ls ?_ ?_
 walk_at "i"
 ·obtain ⟨p,dx,sg,row,i,rfl,hp,hs,hw,hi,q⟩:=h
  refine @av _ _ _ _ _ _ (aJ (cX (aA cI (pv 2) (aO bD (by rfl) T.bK (by decide +kernel) (aa (pv 1) af)) (aI _)) ak bN)) ?_
  walk_at "rd"
  rw [eY,if_pos rfl] at q
  refine ⟨b7 (by lia),rfl,dJ (λh=>?_) (λh=>?_)⟩
  ·rw [if_pos (by lia)] at q
   exact q
  ·rw [if_neg (by lia)] at q
   exact q
theorem jU {sg l:List Nat} {j c:Nat} (e:l[j]? = some c):iB sg (l.drop j) = if c ∈ sg then 1 + iB sg (l.drop (j + 1)) else 0:=by
 have hdrop:l.drop j = c :: l.drop (j + 1):=by
  rw [List.drop_eq_getElem?_toList_append,e];rfl
 rw [hdrop,iB]
theorem KC (T:Txt K mg t):bC P w K mg base c6 1 t.lV t.uq ["self","row","at"] (nI t.b9 (λz=>[("signs",.str z)]) "many"):=by
 refine T.vU.ok AV ?_ ?_
 walk_at "i"
 ·obtain ⟨p,dx,sg,row,i,rfl,hp,hs,hw,hi,q⟩:=h
  have q':Q (if 0 < iB sg.cps.toList (row.cps.toList.drop i) then .int (iB sg.cps.toList (row.cps.toList.drop i)) else .cQ) H:=by
   by_cases h:i < row.length
   ·obtain ⟨c,e1,e2⟩:=strAt (row:=row) (i:=(i:Int)) (by lia) (by lia)
    rw [Int.toNat_natCast] at e1
    rw [fR (by decide) (by decide) e1,if_neg (by decide),if_neg (by decide),if_pos rfl] at q
    rw [jU e1]
    by_cases h2:c ∈ sg.cps.toList
    ·rw [if_pos h2] at q ⊢
     rw [if_pos (by lia)]
     exact q
    ·rw [if_neg h2] at q ⊢
     exact q
   ·rw [gQ (by decide) (by decide) (by lia)] at q
    have:row.cps.toList.drop i = []:=List.drop_eq_nil_of_le (by rw [getL (i:=0)];lia)
    rw [this]
    exact q
  refine @ao _ _ _ _ _ _ _ (aB (i:=3) AV.nd rfl (Or.inl rfl) (pv 2)) ?_
  walk_at "rd"
  refine aG (λZ' H'=>H' = H /\ Z' = [some (.ref p),some (.str row),some (.int i),some (.int ((i:Int) + iB sg.cps.toList (row.cps.toList.drop i)))]) (gu PassesOwn.never (PW.pt (dH (aA ff (pv 3) (aO bD (by rfl) T.bK (by decide +kernel) (aa (pv 1) af)) (aI _)) (di (aA jg (aL k6 (pv 1) (pv 3) (λ_ _=>rfl)) (aT (pv 0) rfl) rfl)))) ay) ?_ ?_
  ·refine ⟨λm Z' H'=>∃ j:Nat,Z' = [some (.ref p),some (.str row),some (.int i),some (.int (j:Int))] /\ H' = H /\ j <= row.length /\ m = row.length - j /\ i + iB sg.cps.toList (row.cps.toList.drop i) = j + iB sg.cps.toList (row.cps.toList.drop j),⟨_,i,rfl,rfl,hi,rfl,rfl⟩,?_⟩
   rintro m Z' H' ⟨j,rfl,e,hj,rfl,hr⟩
   rw [e]
   clear e H'
   walk_at "rd"
   refine ⟨b7 (by lia),dJ (λh=>?_) (λh=>?_)⟩
   ·obtain ⟨c,e1,e2⟩:=strAt (row:=row) (i:=(j:Int)) (by lia) h
    rw [Int.toNat_natCast] at e1
    rw [jU (j:=j) e1] at hr
    refine ⟨b7 (by lia),c,e2,⟨_,rfl,_,_,_,_,_,rfl,hp,T.vc,T.iz,rfl,⟨sg,rfl,?_⟩⟩⟩
    rw [PySem.StrLaws.found_one]
    refine dJ (λh2=>?_) (λh2=>?_)
    ·rw [if_pos h2] at hr
     refine ⟨_,λZ' H' z=>z,@av _ _ _ _ _ _ (AK (i:=3) AV.nd rfl (Or.inl rfl) ak Ax) ?_⟩
     walk_at "rd"
     exact ⟨row.length - (j + 1),by lia,j + 1,by simp,by lia,rfl,by lia⟩
    ·rw [if_neg h2] at hr
     refine ⟨rfl,?_⟩
     rw [show (i:Int) + (iB sg.cps.toList (row.cps.toList.drop i):Nat) = (j:Int) by lia]
   ·have:row.cps.toList.drop j = []:=List.drop_eq_nil_of_le (by rw [getL (i:=0)];lia)
    rw [this,iB] at hr
    lia
  rintro Z' H' ⟨e,rfl⟩
  rw [e]
  clear e H'
  refine @av _ _ _ _ _ _ (aJ (cX (aA i6 (pv 3) (pv 2) (aI _)) (aK dR (pv 3) (pv 2)) bN)) ?_
  walk_at "rd"
  refine dJ (λh=>?_) (λh=>?_)
  ·rw [if_pos (by lia)] at q'
   rw [show (i:Int) + (iB sg.cps.toList (row.cps.toList.drop i):Nat) - i = iB sg.cps.toList (row.cps.toList.drop i) by lia]
   exact q'
  ·rw [if_neg (by lia)] at q'
   exact q'
theorem kQ (sort sg row:Str) (i:Nat):(∃ n:Int,eY sort sg row i = .int n) ∨ eY sort sg row i = .cQ:=by
 unfold eY
 repeat' split
 all_goals first | exact .inl ⟨_,rfl⟩ | exact .inr rfl
def bX (sort:Str):Bool:=!decide (sort = "still" ∨ sort = "end")
structure wm (P:Program) (w:World) (K:PySem.W.Frag) (mg:Str -> Option Value) (base:Heap) (C fe fs:Addr) (de ds:FuncData) (sort:Str) (fl:Str -> List (Str × V)):Prop where
 cl:nB K C
 me:Meth K C "eaten" fe
 ms:Meth K C "eats" fs
 ne:∀ z,(fl z).lookup ("eaten" : Str) = none
 ns:∀ z,(fl z).lookup ("eats" : Str) = none
 ge:bC P w K mg base c6 1 fe de ["self","row","at"] (nI C fl sort)
 be:Binds K de ["self","row","at"] []
 gs:bC P w K mg base c6 1 fs ds ["self"] (kO (bX sort))
 bs:Binds K ds ["self"] []
 ty:PySem.W.findIn K (.ref C) "__class__" = some (some (.builtin "object.__class__"))
 mr:PySem.W.mroIn K C (.type "object") = some true
theorem Ig (T:Txt K mg t):wm P w K mg base t.b8 t.lW t.mw t.tF t.uh "word" (λz=>[("wanted",.str z)]) :=
 ⟨T.oF,T.NW,T.ND,λ_=>by rfl,λ_=>by rfl,Mx T,T.yo.binds (by walk_at "3"),by rw [show bX "word" = true by decide +kernel];exact KA T,T.xx.binds (by walk_at "1"),T.uD,T.uP⟩
theorem Ka (T:Txt K mg t):wm P w K mg base t.cT t.l9 t.lC t.sU t.uy "one" (λz=>[("signs",.str z)]) :=
 ⟨T.zM,T.Om,T.NR,λ_=>by rfl,λ_=>by rfl,Nc T,T.yq.binds (by walk_at "3"),by rw [show bX "one" = true by decide +kernel];exact Ma T,T.wJ.binds (by walk_at "1"),T.AR,T.zV⟩
theorem Ai (T:Txt K mg t):wm P w K mg base t.br t.k9 t.lZ t.uC t.tV "none" (λz=>[("signs",.str z)]) :=
 ⟨T.kM,T.Ny,T.ON,λ_=>by rfl,λ_=>by rfl,Ku T,T.vI.binds (by walk_at "3"),by rw [show bX "none" = true by decide +kernel];exact Mj T,T.wD.binds (by walk_at "1"),T.kL,T.kN⟩
theorem Hy (T:Txt K mg t):wm P w K mg base t.b9 t.lV t.lJ t.uq t.tQ "many" (λz=>[("signs",.str z)]) :=
 ⟨T.vc,T.NB,T.OH,λ_=>by rfl,λ_=>by rfl,KC T,T.vU.binds (by walk_at "3"),by rw [show bX "many" = true by decide +kernel];exact Kn T,T.zG.binds (by walk_at "1"),T.uT,T.uK⟩
theorem Kr (T:Txt K mg t):wm P w K mg base t.dz t.vh t.uF t.Cb t.CU "any" (λz=>[]) :=
 ⟨T.L4,T.Q9,T.Po,λ_=>by rfl,λ_=>by rfl,Of T,T.DS.binds (by walk_at "3"),by rw [show bX "any" = true by decide +kernel];exact O6 T,T.Ff.binds (by walk_at "1"),T.Ao,T.AH⟩
theorem GK (T:Txt K mg t):wm P w K mg base t.bO t.lY t.jf t.tH t.pN "still" (λz=>[]) :=
 ⟨T.Ep,T.O3,T.uH,λ_=>by rfl,λ_=>by rfl,J4 T,T.zc.binds (by walk_at "3"),by rw [show bX "still" = false by decide +kernel];exact Fo T,T.rG.binds (by walk_at "1"),T.pO,T.rR⟩
theorem Lu (T:Txt K mg t):wm P w K mg base t.dG t.lU t.jf t.uv t.pN "end" (λz=>[]) :=
 ⟨T.MD,T.OR,T.AX,λ_=>by rfl,λ_=>by rfl,Kh T,T.xo.binds (by walk_at "3"),by rw [show bX "end" = false by decide +kernel];exact Fo T,T.rG.binds (by walk_at "1"),T.zX,T.Aj⟩
structure bB where
 sort:Str
 signs:Str
 aU:Str
 bh:Str
 goal:Option Nat
 fold:Str
structure aC where
 name:Str
 aU:Str
 rules:List bB
abbrev sorts:List Str:=["word","one","none","many","any","still","end"]
abbrev bare (s:Str):Prop:=s = "any" ∨ s = "still" ∨ s = "end"
def iw (t:gp) (s:Str):Addr:=if s = "any" then t.dz else if s = "still" then t.bO else if s = "end" then t.dG else if s = "word" then t.b8 else if s = "one" then t.cT else if s = "none" then t.br else t.b9
def ku (s z:Str):List (Str × V):=if bare s then [] else if s = "word" then [("wanted",.str z)] else [("signs",.str z)]
theorem BR:iw t "any" = t.dz:=by rw [iw,if_pos rfl]
theorem t8:iw t "still" = t.bO:=by rw [iw,if_neg (by decide),if_pos rfl]
theorem BQ:iw t "end" = t.dG:=by rw [iw,if_neg (by decide),if_neg (by decide),if_pos rfl]
theorem wB:iw t "word" = t.b8:=by rw [iw,if_neg (by decide),if_neg (by decide),if_neg (by decide),if_pos rfl]
theorem Bw:iw t "one" = t.cT:=by rw [iw,if_neg (by decide),if_neg (by decide),if_neg (by decide),if_neg (by decide),if_pos rfl]
theorem wR:iw t "none" = t.br:=by rw [iw,if_neg (by decide),if_neg (by decide),if_neg (by decide),if_neg (by decide),if_neg (by decide),if_pos rfl]
theorem zj:iw t "many" = t.b9:=by rw [iw,if_neg (by decide),if_neg (by decide),if_neg (by decide),if_neg (by decide),if_neg (by decide),if_neg (by decide)]
theorem FJ:ku "any" = λ_=>[]:=by funext z;rw [ku,if_pos (by decide)]
theorem yx:ku "still" = λ_=>[]:=by funext z;rw [ku,if_pos (by decide)]
theorem Fc:ku "end" = λ_=>[]:=by funext z;rw [ku,if_pos (by decide)]
theorem Bt:ku "word" = λz=>([("wanted",.str z)]:List (Str × V)):=by funext z;rw [ku,if_neg (by decide),if_pos rfl]
theorem t9 {s:Str} (h:¬ bare s) (h2:s ≠ "word"):ku s = λz=>([("signs",.str z)]:List (Str × V)):=by funext z;rw [ku,if_neg h,if_neg h2]
theorem eu {s:Str} (h:s ∈ sorts):s = "word" ∨ s = "one" ∨ s = "none" ∨ s = "many" ∨ s = "any" ∨ s = "still" ∨ s = "end" := by simpa using h
theorem HW (T:Txt K mg t) {s:Str} (h:s ∈ sorts):∃ fe fs de ds,wm P w K mg base (iw t s) fe fs de ds s (ku s):=by
 rcases eu h with rfl | rfl | rfl | rfl | rfl | rfl | rfl
 ·rw [wB,Bt];exact ⟨_,_,_,_,Ig T⟩
 ·rw [Bw,t9 (by decide) (by decide)];exact ⟨_,_,_,_,Ka T⟩
 ·rw [wR,t9 (by decide) (by decide)];exact ⟨_,_,_,_,Ai T⟩
 ·rw [zj,t9 (by decide) (by decide)];exact ⟨_,_,_,_,Hy T⟩
 ·rw [BR,FJ];exact ⟨_,_,_,_,Kr T⟩
 ·rw [t8,yx];exact ⟨_,_,_,_,GK T⟩
 ·rw [BQ,Fc];exact ⟨_,_,_,_,Lu T⟩
def jx (t:gp) (H:Hp) (p:Addr) (s z:Str):Prop:=∃ dx,H p = some (.ins (iw t s) dx (ku s z))
def iZ:Option Nat -> V
 | none=>.cQ
 | some g=>.int g
def rf (p:Addr) (R:bB):List (Str × V):=[("pattern",.ref p),("colour",.str R.aU),("deed",.str R.bh),("goal",iZ R.goal),("fold",.str R.fold)]
def mf (M:aC) (l:Addr):List (Str × V):=[("name",.str M.name),("colour",.str M.aU),("rules",.ref l)]
def dc (t:gp) (H:Hp) (r:Addr) (R:bB):Prop:=∃ dx p,H r = some (.ins t.cM dx (rf p R)) /\ jx t H p R.sort R.signs
theorem jx.same {H H':Hp} {p:Addr} {s z:Str} (h:jx t H p s z) (e:aq H H'):jx t H' p s z:=by
 obtain ⟨dx,x⟩:=h
 exact ⟨dx,e _ _ x⟩
theorem dc.same {H H':Hp} {r:Addr} {R:bB} (h:dc t H r R) (e:aq H H'):dc t H' r R:=by
 obtain ⟨dx,p,x,y⟩:=h
 exact ⟨dx,p,e _ _ x,y.same e⟩
def bU {α β:Type} (R:α -> β -> Prop) (as:List α) (bs:List β):Prop:=as.length = bs.length /\ ∀ (i:Nat) a b,as[i]? = some a -> bs[i]? = some b -> R a b
theorem bU.nil {α β:Type} {R:α -> β -> Prop}:bU R [] []:=⟨rfl,λi a b h=>by simp at h⟩
theorem bU.mono {α β:Type} {R S:α -> β -> Prop} {as:List α} {bs:List β} (h:bU R as bs) (f:∀ a b,R a b -> S a b):bU S as bs:=⟨h.1,λi a b x y=>f a b (h.2 i a b x y)⟩
theorem cP {α:Type} {as:List α} {a x:α} {i:Nat} (h:(as ++ [a])[i]? = some x):as[i]? = some x ∨ (i = as.length /\ x = a):=by
 by_cases hi:i < as.length
 ·rw [List.getElem?_append_left hi] at h;exact .inl h
 ·rw [List.getElem?_append_right (by lia)] at h
  have:i - as.length = 0:=by
   cases e:i - as.length with
   | zero=>rfl
   | succ n=>rw [e] at h;simp at h
  rw [this] at h
  simp at h
  exact .inr ⟨by lia,h.symm⟩
theorem bU.snoc {α β:Type} {R:α -> β -> Prop} {as:List α} {bs:List β} {a:α} {b:β} (h:bU R as bs) (r:R a b):bU R (as ++ [a]) (bs ++ [b]):=by
 refine ⟨by simp [h.1],λi x y hx hy=>?_⟩
 have hl:=h.1
 rcases cP hx with h1 | ⟨e1,rfl⟩
 ·rcases cP hy with h2 | ⟨e2,rfl⟩
  ·exact h.2 i x y h1 h2
  ·have:=(List.getElem?_eq_some_iff.mp h1).1;lia
 ·rcases cP hy with h2 | ⟨e2,rfl⟩
  ·have:=(List.getElem?_eq_some_iff.mp h2).1;lia
  ·exact r
theorem bU.at {α β:Type} {R:α -> β -> Prop} {as:List α} {bs:List β} (h:bU R as bs) {i:Nat} {b:β} (e:bs[i]? = some b):∃ a,as[i]? = some a /\ R a b:=by
 have hi:=(List.getElem?_eq_some_iff.mp e).1
 have hi2:i < as.length:=by rw [h.1];exact hi
 exact ⟨as[i],List.getElem?_eq_getElem hi2,h.2 i _ _ (List.getElem?_eq_getElem hi2) e⟩
structure cF (t:gp) (H:Hp) (as ls:List Addr) (ms:List aC):Prop where
 la:as.length = ms.length
 ll:ls.length = ms.length
 nd:ls.Nodup
 ob:∀ (i:Nat) a l m,as[i]? = some a -> ls[i]? = some l -> ms[i]? = some m -> ∃ dx rs,H a = some (.ins t.bZ dx (mf m l)) /\ H l = some (.lst (rs.map V.ref)) /\ bU (dc t H) rs m.rules
theorem cF.same {H H':Hp} {as ls:List Addr} {ms:List aC} (h:cF t H as ls ms) (e:aq H H'):cF t H' as ls ms :=
 ⟨h.la,h.ll,h.nd,λi a l m h1 h2 h3=>let ⟨dx,rs,x,y,z⟩:=h.ob i a l m h1 h2 h3;⟨dx,rs,e _ _ x,e _ _ y,z.mono λ_ _ r=>r.same e⟩⟩
def IsRules (t:gp) (H:Hp) (a:Addr) (ms:List aC):Prop:=∃ dx lm as ls,H a = some (.ins t.cR dx [("modes",.ref lm)]) /\ H lm = some (.lst (as.map V.ref)) /\ cF t H as ls ms
theorem IsRules.same {H H':Hp} {a:Addr} {ms:List aC} (h:IsRules t H a ms) (e:aq H H'):IsRules t H' a ms:=by
 obtain ⟨dx,lm,as,ls,x,y,z⟩:=h
 exact ⟨dx,lm,as,ls,e _ _ x,e _ _ y,z.same e⟩
theorem fQ {H:Hp} {x dx:Addr} {o1 o2 o3:HO} (h1:H x = none) (h2:H dx = none):aq H (upd (upd (upd H dx o1) x o2) x o3):=λb o e=>by
 rw [au (aj e h1),au (aj e h1),au (aj e h2)];exact e
theorem bP {H:Hp} {x dx:Addr} {o1 o2:HO} (h1:H x = none) (h2:H dx = none):aq H (upd (upd H dx o1) x o2):=λb o e=>by
 rw [au (aj e h1),au (aj e h2)];exact e
noncomputable def HG (t:gp):Sp:=λvs H Q _=>∃ (x dx p:Addr) (R:bB),vs = [.ref x,.ref p,.str R.aU,.str R.bh,iZ R.goal,.str R.fold] /\ H x = some (.ins t.cM dx []) /\ Q .cQ (upd H x (.ins t.cM dx (rf p R)))
theorem Gn (T:Txt K mg t):bC P w K mg base c6 1 t.om t.yX ["self","pattern","colour","deed","goal","fold"] (HG t):=by
 refine T.wj.ok Lo ?_ ?_
 walk_at "i"
 ·obtain ⟨x,dx,p,R,rfl,hx,q⟩:=h
  refine @ao _ _ _ _ _ _ _ (cS (pv 0) (pv 1) rfl) ⟨_,rfl,_,rfl,x,_,dx,[],rfl,hx,T.cE,T.cW,by decide,?_⟩
  refine @ao _ _ _ _ _ _ _ (cS (pv 0) (pv 2) rfl) ⟨_,rfl,_,rfl,x,_,dx,[("pattern",.ref p)],rfl,ai,T.cE,T.fH,by show 1 < 1000;decide,?_⟩
  refine @ao _ _ _ _ _ _ _ (cS (pv 0) (pv 3) rfl) ⟨_,rfl,_,rfl,x,_,dx,[("pattern",.ref p),("colour",.str R.aU)],rfl,ai,T.cE,T.d9,by show 2 < 1000;decide,?_⟩
  refine @ao _ _ _ _ _ _ _ (cS (pv 0) (pv 4) rfl) ⟨_,rfl,_,rfl,x,_,dx,[("pattern",.ref p),("colour",.str R.aU),("deed",.str R.bh)],rfl,ai,T.cE,T.gh,by show 3 < 1000;decide,?_⟩
  refine @av _ _ _ _ _ _ (cS (pv 0) (pv 5) rfl) ⟨_,rfl,_,rfl,x,_,dx,[("pattern",.ref p),("colour",.str R.aU),("deed",.str R.bh),("goal",iZ R.goal)],rfl,ai,T.cE,T.fZ,by show 4 < 1000;decide,?_⟩
  rw [iy,iy,iy,iy]
  exact q
noncomputable def HQ (t:gp):Sp:=λvs H Q _=>∃ (x dx l:Addr) (n c:Str) (rs:List V),vs = [.ref x,.str n,.str c,.ref l] /\ H x = some (.ins t.bZ dx []) /\ H l = some (.lst rs) /\
 ∀ l2 H',H l2 = none -> H' x = some (.ins t.bZ dx (mf ⟨n,c,[]⟩ l2)) -> H' l2 = some (.lst rs) -> iS H H' x -> Q .cQ H'
theorem ET (T:Txt K mg t):bC P w K mg base c6 1 t.nh t.yK ["self","name","colour","rules"] (HQ t):=by
 refine T.wQ.ok ML ?_ ?_
 walk_at "i"
 ·obtain ⟨x,dx,l,n,c,rs,rfl,hx,hl,q⟩:=h
  have nlx:l ≠ x:=cA hl hx (by intro z;cases z)
  refine @ao _ _ _ _ _ _ _ (cS (pv 0) (pv 1) rfl) ⟨_,rfl,_,rfl,x,_,dx,[],rfl,hx,T.fB,T.gg,by decide,?_⟩
  refine @ao _ _ _ _ _ _ _ (cS (pv 0) (pv 2) rfl) ⟨_,rfl,_,rfl,x,_,dx,[("name",.str n)],rfl,ai,T.fB,T.fN,by show 1 < 1000;decide,?_⟩
  refine @av _ _ _ _ _ _ (cS (pv 0) (dU fC (by rfl) T.iO (by decide +kernel) (aa (pv 3) af)) rfl) ⟨_,rfl,l,rs,rfl,.inl (bf.of (by rw [au nlx,au nlx];exact hl)),λl2 hl2=>?_⟩
  have n2:x ≠ l2:=aj ai hl2
  have hl0:H l2 = none:=by rw [au (Ne.symm n2),au (Ne.symm n2)] at hl2;exact hl2
  refine ⟨_,rfl,x,_,dx,[("name",.str n),("colour",.str c)],rfl,by rw [au n2];exact ai,T.fB,T.dF,by show 2 < 1000;decide,?_⟩
  refine q l2 _ hl0 ai (by rw [au (Ne.symm n2)];exact ai) λb o hb nb=>?_
  rw [au nb,au (aj hb hl0),au nb,au nb];exact hb
noncomputable def DU (t:gp):Sp:=λvs H Q _=>∃ (x dx l:Addr) (rs:List V),vs = [.ref x,.ref l] /\ H x = some (.ins t.cR dx []) /\ H l = some (.lst rs) /\
 ∀ l2 H',H l2 = none -> H' x = some (.ins t.cR dx [("modes",.ref l2)]) -> H' l2 = some (.lst rs) -> iS H H' x -> Q .cQ H'
theorem Fl (T:Txt K mg t):bC P w K mg base c6 1 t.ny t.xX ["self","modes"] (DU t):=by
 refine T.yr.ok K7 ?_ ?_
 walk_at "i"
 ·obtain ⟨x,dx,l,rs,rfl,hx,hl,q⟩:=h
  refine @av _ _ _ _ _ _ (cS (pv 0) (dU fC (by rfl) T.iO (by decide +kernel) (aa (pv 1) af)) rfl) ⟨_,rfl,l,rs,rfl,.inl (bf.of hl),λl2 hl2=>?_⟩
  have n2:x ≠ l2:=aj hx hl2
  refine ⟨_,rfl,x,_,dx,[],rfl,by rw [au n2];exact hx,T.g6,T.cB,by decide,?_⟩
  refine q l2 _ hl2 ai (by rw [au (Ne.symm n2)];exact ai) λb o hb nb=>?_
  rw [au nb,au (aj hb hl2)];exact hb
abbrev cD (s z:Str):List Str:=if bare s then [s] else [s,iG z]
structure vz (s z:Str):Prop where
 sort:s ∈ sorts
 nosg:bare s -> z = ""
 sg:¬ bare s -> 1 <= z.length /\ z.length <= 200 /\ 95 ∉ z.cps.toList /\ 10 ∉ z.cps.toList
theorem drop_cons {α:Type} {ws:List α} {i:Nat} {x:α} {r:List α} (h:ws.drop i = x :: r):ws[i]? = some x /\ ws.drop (i + 1) = r:=by
 constructor
 ·have:=congrArg (λl=>l[0]?) h
  simpa [List.getElem?_drop] using this
 ·rw [← List.drop_drop,h];rfl
theorem gI {ws:List Str} {i:Nat} {x:Str} {r:List Str} (h:ws.drop i = x :: r):pk ws i = x:=by
 unfold pk
 rw [List.getD_eq_getElem?_getD,(drop_cons h).1]
 rfl
theorem IB {ws:List Str} {i:Nat} {x:Str} {r:List Str} (h:ws.drop i = x :: r):i < ws.length:=(List.getElem?_eq_some_iff.mp (drop_cons h).1).1
theorem yC {ws:List Str} {i:Nat} (h:ws.drop i = []):ws.length <= i:=List.drop_eq_nil_iff.mp h
noncomputable def HM (t:gp):Sp:=λvs H Q _=>∃ (p dx lw:Addr) (row:Int) (ws:List Str) (i:Nat) (s z:Str) (rest:List Str),vs = [.ref p] /\ k8 t H p dx lw row ws i /\ ws.drop i = cD s z ++ rest /\ vz s z /\
 ∀ a H' j,jx t H' a s z -> k8 t H' p dx lw row ws j -> ws.drop j = rest -> iS H H' p -> Q (.ref a) H'
theorem LH (T:Txt K mg t):bC P w K mg base c6 5 t.rX t.yW ["cursor"] (HM t):=by
 refine T.yZ.ok zO ?_ ?_
 walk_at "i"
 ·obtain ⟨p,dx,lw,row,ws,i,s,z,rest,rfl,C,hd,G,q⟩:=h
  have hk:pk ws i = s:=by
   by_cases hb:bare s
   ·rw [cD,if_pos hb] at hd;exact gI hd
   ·rw [cD,if_neg hb] at hd;exact gI hd
  refine @ao _ _ _ _ _ _ _ (aB (i:=1) zO.nd rfl (Or.inl rfl) (bA (pv 0) T.aW T.IJ (Br T) (hr.mono (by decide)) (T.zz.binds (by walk_at "2")) .nil aF (aa (lQ rfl T.uN (v:=V.ref t.fk) rfl) af))) ⟨_,rfl,p,dx,_,rfl,C.ob,rfl,p,dx,lw,t.fk,sorts,row,ws,i,rfl,C,T.yu _,by rw [hk];exact G.sort,λH1 C1 a1=>?_⟩
  rw [hk]
  refine @ao _ _ _ _ _ _ _ (bx (aA cI (pv 1) aX (aI _)) ay ay) ⟨_,rfl,rfl,_,rfl,dJ (λh=>?_) (λh1=>aZ ?_)⟩
  ·have h:=V.str.inj h
   subst h
   refine @av _ _ _ _ _ _ (aJ (qW T.zR rfl T.HV)) λx dx' nx ndx ne=>?_
   rw [cD,if_pos (by decide)] at hd
   exact q x _ (i + 1) ⟨dx',by rw [BR,FJ];exact ai⟩ (C1.same (bP nx ndx)) (drop_cons hd).2 (a1.same (bP nx ndx))
  refine @ao _ _ _ _ _ _ _ (bx (aA cI (pv 1) aX (aI _)) ay ay) ⟨_,rfl,rfl,_,rfl,dJ (λh=>?_) (λh2=>aZ ?_)⟩
  ·have h:=V.str.inj h
   subst h
   refine @av _ _ _ _ _ _ (aJ (qW T.qg rfl T.B7)) λx dx' nx ndx ne=>?_
   rw [cD,if_pos (by decide)] at hd
   exact q x _ (i + 1) ⟨dx',by rw [t8,yx];exact ai⟩ (C1.same (bP nx ndx)) (drop_cons hd).2 (a1.same (bP nx ndx))
  refine @ao _ _ _ _ _ _ _ (bx (aA cI (pv 1) aX (aI _)) ay ay) ⟨_,rfl,rfl,_,rfl,dJ (λh=>?_) (λh3=>aZ ?_)⟩
  ·have h:=V.str.inj h
   subst h
   refine @av _ _ _ _ _ _ (aJ (qW T.Ad rfl T.Ji)) λx dx' nx ndx ne=>?_
   rw [cD,if_pos (by decide)] at hd
   exact q x _ (i + 1) ⟨dx',by rw [BQ,Fc];exact ai⟩ (C1.same (bP nx ndx)) (drop_cons hd).2 (a1.same (bP nx ndx))
  have nb:¬ bare s:=by
   rintro (e | e | e)
   ·exact h1 (by rw [e])
   ·exact h2 (by rw [e])
   ·exact h3 (by rw [e])
  rw [cD,if_neg nb] at hd
  have hd2:=(drop_cons hd).2
  obtain ⟨z1,z2,z3,z4⟩:=G.sg nb
  refine @ao _ _ _ _ _ _ _ (aB (i:=2) zO.nd rfl (Or.inl rfl) (b6 (pv 0) T.aW T.Qq (NK T) (hr.mono (by decide)) (T.Hg.binds (by walk_at "1")) .nil aF)) ⟨_,rfl,p,dx,_,rfl,C1.ob,rfl,p,dx,lw,row,ws,i + 1,z,rfl,C1,gI hd2,z1,by lia,z3,λH2 C2 a2=>?_⟩
  have hd3:=(drop_cons hd2).2
  have a3:=a1.trans a2
  refine @ao _ _ _ _ _ _ _ (bx (aA cI (pv 1) aX (aI _)) ay ay) ⟨_,rfl,rfl,_,rfl,dJ (λh=>?_) (λh4=>aZ ?_)⟩
  ·have h:=V.str.inj h
   subst h
   refine @av _ _ _ _ _ _ (aJ (eV T.vd (JW T) (hr.mono (by decide)) rfl T.Eg (T.BP.binds (by walk_at "2")) .nil aF (aa (pv 2) af))) ⟨_,rfl,λx dx' nx ndx ne=>⟨x,dx',z,rfl,ai,rfl,?_⟩⟩
   exact q x _ (i + 1 + 1) ⟨dx',by rw [wB,Bt];exact ai⟩ (C2.same (fQ nx ndx)) hd3 (a3.same (fQ nx ndx))
  refine @ao _ _ _ _ _ _ _ (bx (aA cI (pv 1) aX (aI _)) ay ay) ⟨_,rfl,rfl,_,rfl,dJ (λh=>?_) (λh5=>aZ ?_)⟩
  ·have h:=V.str.inj h
   subst h
   refine @av _ _ _ _ _ _ (aJ (eV T.Ab (K6 T) (hr.mono (by decide)) rfl T.Ik (T.BI.binds (by walk_at "2")) .nil aF (aa (pv 2) af))) ⟨_,rfl,λx dx' nx ndx ne=>⟨x,dx',z,rfl,ai,rfl,?_⟩⟩
   exact q x _ (i + 1 + 1) ⟨dx',by rw [Bw,t9 nb (by decide)];exact ai⟩ (C2.same (fQ nx ndx)) hd3 (a3.same (fQ nx ndx))
  refine @ao _ _ _ _ _ _ _ (bx (aA cI (pv 1) aX (aI _)) ay ay) ⟨_,rfl,rfl,_,rfl,dJ (λh=>?_) (λh6=>aZ ?_)⟩
  ·have h:=V.str.inj h
   subst h
   refine @av _ _ _ _ _ _ (aJ (eV T.kY (Lz T) (hr.mono (by decide)) rfl T.xY (T.Bv.binds (by walk_at "2")) .nil aF (aa (pv 2) af))) ⟨_,rfl,λx dx' nx ndx ne=>⟨x,dx',z,rfl,ai,rfl,?_⟩⟩
   exact q x _ (i + 1 + 1) ⟨dx',by rw [wR,t9 nb (by decide)];exact ai⟩ (C2.same (fQ nx ndx)) hd3 (a3.same (fQ nx ndx))
  have h:s = "many" := by
   rcases eu G.sort with e | e | e | e | e | e | e
   ·exact absurd (by rw [e]) h4
   ·exact absurd (by rw [e]) h5
   ·exact absurd (by rw [e]) h6
   ·exact e
   ·exact absurd (by rw [e]) h1
   ·exact absurd (by rw [e]) h2
   ·exact absurd (by rw [e]) h3
  subst h
  refine @av _ _ _ _ _ _ (aJ (eV T.uR (LC T) (hr.mono (by decide)) rfl T.FT (T.A1.binds (by walk_at "2")) .nil aF (aa (pv 2) af))) ⟨_,rfl,λx dx' nx ndx ne=>⟨x,dx',z,rfl,ai,rfl,?_⟩⟩
  exact q x _ (i + 1 + 1) ⟨dx',by rw [zj,t9 nb (by decide)];exact ai⟩ (C2.same (fQ nx ndx)) hd3 (a3.same (fQ nx ndx))
noncomputable def D0 (t:gp):Sp:=λvs H Q _=>∃ (p dx lw d:Addr) (nw:V) (row:Int) (ws:List Str) (i g:Nat) (kvs:List (Key × V)),vs = [.ref p,.ref d,nw] /\ k8 t H p dx lw row ws i /\ H d = some (.dK kvs) /\ isName (pk ws i) = true /\ iM kvs (.inr (pk ws i)) = some (.int g) /\
 ∀ H',k8 t H' p dx lw row ws (i + 1) -> iS H H' p -> Q (.int g) H'
theorem Nh (T:Txt K mg t):bC P w K mg base c6 5 t.ql t.vL ["cursor","numbers","nowhere"] (D0 t):=by
 refine T.xy.ok z9 ?_ ?_
 walk_at "i"
 ·obtain ⟨p,dx,lw,d,nw,row,ws,i,g,kvs,rfl,C,hd,hn,hv,q⟩:=h
  refine @ao _ _ _ _ _ _ _ (aB (i:=3) z9.nd rfl (Or.inl rfl) (ez (aa (aT (pv 0) rfl) (aa (aT (pv 0) rfl) af)))) ?_
  refine ⟨_,rfl,_,_,_,_,_,rfl,C.ob,T.aW,T.iA,rfl,?_⟩
  refine ⟨_,rfl,_,_,_,_,_,rfl,C.ob,T.aW,T.fj,rfl,?_⟩
  refine ⟨by show 2 <= sizeLine;decide,λpt hpt=>?_⟩
  have s1:aq H (upd H pt (.tup [.int row,.int i])):=aq.upd hpt
  have C1:=C.same s1
  refine @ao _ _ _ _ _ _ _ (aB (i:=4) z9.nd rfl (Or.inl rfl) (b6 (pv 0) T.aW T.IL (Bj T) (hr.mono (by decide)) (T.za.binds (by walk_at "1")) .nil aF)) ⟨_,rfl,p,dx,_,rfl,C1.ob,rfl,p,dx,lw,row,ws,i,rfl,C1,hn,λH2 C2 a2=>?_⟩
  have npd:d ≠ p:=cA hd C.ob (by intro z;cases z)
  have hd2:H2 d = some (.dK kvs):=a2 _ _ (s1 _ _ hd) npd
  refine @ao _ _ _ _ _ _ _ (bx (Kf (CO (lG hr) (pv 4) (pv 1))) ay ay) ⟨_,rfl,_,rfl,d,_,rfl,xj.k (k:=.inr (pk ws i)) hd2,_,rfl,?_⟩
  rw [hv]
  refine uE (aZ ?_)
  refine @av _ _ _ _ _ _ (aJ (C6 (lG hr) (pv 1) (pv 4) ⟨rfl,rfl,rfl,rfl⟩)) ⟨_,rfl,d,rfl,.inl ⟨kvs,.inl hd2⟩,_,rfl,_,xj.k (k:=.inr (pk ws i)) hd2,?_⟩
  rw [hv]
  exact q H2 C2 (s1.HL a2)
abbrev jN:List Str:=["stay","push","pop","into"]
abbrev gv (d:Str):Prop:=d = "push" ∨ d = "into"
def pq (names:List Str):Option Nat -> List Str
 | some g=>[names.getD g ""]
 | none=>[]
theorem tZ {names:List Str} {g:Option Nat}:(pq names g).length <= 1:=by cases g <;> simp [pq]
def cK (names:List Str) (R:bB):List Str:=cD R.sort R.signs ++ ((if bX R.sort = true then [R.aU] else []) ++ ([R.bh] ++ (pq names R.goal ++ if R.fold = "" then [] else [R.fold])))
structure gU (names:List Str) (R:bB):Prop where
 pat:vz R.sort R.signs
 col:bX R.sort = true -> isName R.aU = true
 HR:bX R.sort = false -> R.aU = ""
 bh:R.bh ∈ jN
 goal:gv R.bh -> ∃ g,R.goal = some g /\ g < names.length
 wW:¬ gv R.bh -> R.goal = none
 fold:R.fold = "" ∨ R.fold = "open" ∨ R.fold = "close"
def numsOf (names:List Str) (kvs:List (Key × V)):Prop:=∀ (g:Nat) n,names[g]? = some n -> iM kvs (.inr n) = some (.int g)
noncomputable def DZ (t:gp):Sp:=λvs H Q _=>∃ (p dx lw d:Addr) (nw:V) (row:Int) (ws:List Str) (kvs:List (Key × V)) (names:List Str) (R:bB),vs = [.ref p,.ref d,nw] /\ k8 t H p dx lw row ws 0 /\ ws = cK names R /\ H d = some (.dK kvs) /\ numsOf names kvs /\
 (∀ n ∈ names,isName n = true) /\ gU names R /\ ∀ r H',dc t H' r R -> iS H H' p -> Q (.ref r) H'
theorem jx.HL {H H':Hp} {p a dx lw:Addr} {row:Int} {ws:List Str} {i:Nat} {s z:Str} (h:jx t H a s z) (C:k8 t H p dx lw row ws i) (e:iS H H' p):jx t H' a s z:=by
 obtain ⟨d,x⟩:=h
 refine ⟨d,e _ _ x (cA x C.ob λq=>?_)⟩
 injection q with _ _ q
 unfold ku cf at q
 split at q
 ·cases q
 ·split at q <;> simp at q
theorem M3 (T:Txt K mg t):bC P w K mg base c6 6 t.qT t.vV ["cursor","numbers","nowhere"] (DZ t):=by
 refine T.yT.ok mV ?_ ?_
 walk_at "i"
 ·obtain ⟨p,dx,lw,d,nw,row,ws,kvs,names,R,rfl,C,hws,hd,hnum,hnm,G,q⟩:=h
  have npd:d ≠ p:=cA hd C.ob (by intro z;cases z)
  obtain ⟨fe,fs,de,ds,PK⟩:=HW (P:=P) (w:=w) (base:=base) T G.pat.sort
  refine @ao _ _ _ _ _ _ _ (aB (i:=3) mV.nd rfl (Or.inl rfl) (aM (LH T) (hr.mono (by decide)) rfl T.LG T.yZ.kp (T.yZ.binds (by walk_at "1")) .nil aF (aa (pv 0) af))) ⟨_,rfl,p,dx,lw,row,ws,0,R.sort,R.signs,_,rfl,C,by rw [List.drop_zero,hws,cK],G.pat,λpa H1 j1 hp1 C1 hd1 a1=>?_⟩
  refine aG (λZ' H'=>∃ j,Z' = [some (.ref p),some (.ref d),some nw,some (.ref pa),some (.str R.aU),none,none,none] /\ k8 t H' p dx lw row ws j /\ jx t H' pa R.sort R.signs /\ iS H H' p /\
   ws.drop j = R.bh :: (pq names R.goal ++ if R.fold = "" then [] else [R.fold])) (aB (i:=4) mV.nd rfl (Or.inl rfl) (cX (i9 (b6 (pv 3) PK.cl PK.ms PK.gs (hr.mono (by decide)) PK.bs .nil aF)) (b6 (pv 0) T.aW T.IL (Bj T) (hr.mono (by decide)) (T.za.binds (by walk_at "1")) .nil aF) aX)) ?_ ?_
  ·obtain ⟨dpa,hpa⟩:=hp1
   refine ⟨_,rfl,pa,dpa,_,rfl,hpa,PK.ns _,_,rfl,_,rfl,OG (λh=>?_) (λh=>?_)⟩
   ·rw [if_pos h] at hd1
    refine ⟨_,rfl,p,dx,_,rfl,C1.ob,rfl,p,dx,lw,row,ws,j1,rfl,C1,by rw [gI hd1];exact G.col h,λH2 C2 a2=>?_⟩
    rw [gI hd1]
    exact ⟨j1 + 1,rfl,C2,jx.HL ⟨dpa,hpa⟩ C1 a2,a1.trans a2,(drop_cons hd1).2⟩
   ·rw [h,if_neg (by decide)] at hd1
    rw [G.HR h]
    exact ⟨j1,rfl,C1,⟨dpa,hpa⟩,a1,hd1⟩
  rintro Z' H2 ⟨j2,rfl,C2,hp2,a2,hd2⟩
  refine @ao _ _ _ _ _ _ _ (aB (i:=5) mV.nd rfl (Or.inl rfl) (bA (pv 0) T.aW T.IJ (Br T) (hr.mono (by decide)) (T.zz.binds (by walk_at "2")) .nil aF (aa (lQ rfl T.Cd (v:=V.ref t.iY) rfl) af))) ⟨_,rfl,p,dx,_,rfl,C2.ob,rfl,p,dx,lw,t.iY,jN,row,ws,j2,rfl,C2,T.DQ _,by rw [gI hd2];exact G.bh,λH3 C3 a3=>?_⟩
  rw [gI hd2]
  have hp3:=hp2.HL C2 a3
  have a3:=a2.trans a3
  have hd3:=(drop_cons hd2).2
  refine aG (λZ' H'=>∃ j,Z' = [some (.ref p),some (.ref d),some nw,some (.ref pa),some (.str R.aU),some (.str R.bh),some (iZ R.goal),none] /\ k8 t H' p dx lw row ws j /\ jx t H' pa R.sort R.signs /\ iS H H' p /\
   ws.drop j = if R.fold = "" then [] else [R.fold]) (aB (i:=6) mV.nd rfl (Or.inl rfl) (cX (aA fY (pv 5) (lQ rfl T.Cn (v:=V.ref t.jr) rfl) rfl) (aM (Nh T) (hr.mono (by decide)) rfl T.KR T.xy.kp (T.xy.binds (by walk_at "3")) .nil aF (aa (pv 0) (aa (pv 1) (aa (pv 2) af)))) bN)) ?_ ?_
  ·refine ⟨_,rfl,_,_,rfl,.inr (T.Fq _),rfl,rfl,_,rfl,?_⟩
   rw [show ([.str "push",.str "into"]:List V) = (["push","into"]:List Str).map V.str from rfl,iL]
   refine dJ (λh=>?_) (λh=>?_)
   ·have h:gv R.bh:=by simpa using h
    obtain ⟨g,eg,hg⟩:=G.goal h
    rw [eg] at hd3 ⊢
    have e:=gI hd3
    have hgn:names[g]? = some (names.getD g ""):=by simp [hg]
    have hv:=hnum g _ hgn
    have hin:isName (names.getD g "") = true:=hnm _ (List.mem_of_getElem? hgn)
    refine ⟨_,rfl,_,rfl,_,rfl,p,dx,lw,d,nw,row,ws,j2 + 1,g,kvs,rfl,C3,a3 _ _ hd npd,by rw [e];exact hin,by rw [e];exact hv,λH4 C4 a4=>?_⟩
    exact ⟨_,rfl,C4,hp3.HL C3 a4,a3.trans a4,(drop_cons hd3).2⟩
   ·have h:¬ gv R.bh:=by simpa using h
    rw [G.wW h] at hd3 ⊢
    exact ⟨_,rfl,C3,hp3,a3,hd3⟩
  rintro Z' H4 ⟨j4,rfl,C4,hp4,a4,hd4⟩
  refine aG (λZ' H'=>∃ j,Z' = [some (.ref p),some (.ref d),some nw,some (.ref pa),some (.str R.aU),some (.str R.bh),some (iZ R.goal),some (.str R.fold)] /\ k8 t H' p dx lw row ws j /\ jx t H' pa R.sort R.signs /\ iS H H' p /\
   ws.drop j = []) (aB (i:=7) mV.nd rfl (Or.inl rfl) (cX (i9 (b6 (pv 0) T.aW T.Ib (A5 T) (hr.mono (by decide)) (T.zu.binds (by walk_at "1")) .nil aF)) (bA (pv 0) T.aW T.IJ (Br T) (hr.mono (by decide)) (T.zz.binds (by walk_at "2")) .nil aF (aa (lQ rfl T.Cf (v:=V.ref t.i7) rfl) af)) aX)) ?_ ?_
  ·refine ⟨_,rfl,p,dx,_,rfl,C4.ob,rfl,p,dx,lw,row,ws,j4,rfl,C4,_,rfl,dJ (λh=>?_) (λh=>?_)⟩
   ·have hf:R.fold ≠ "" := λz=>by rw [if_pos z] at hd4;have:=yC hd4;lia
    rw [if_neg hf] at hd4
    refine ⟨_,rfl,p,dx,_,rfl,C4.ob,rfl,p,dx,lw,t.i7,["open","close"],row,ws,j4,rfl,C4,T.GN _,?_,λH5 C5 a5=>?_⟩
    ·rw [gI hd4]
     rcases G.fold with z | z | z
     ·exact absurd z hf
     ·rw [z];decide
     ·rw [z];decide
    ·rw [gI hd4]
     exact ⟨_,rfl,C5,hp4.HL C4 a5,a4.trans a5,(drop_cons hd4).2⟩
   ·have hf:R.fold = "" := by
     by_cases z:R.fold = ""
     ·exact z
     ·rw [if_neg z] at hd4;exact absurd (IB hd4) h
    rw [if_pos hf] at hd4
    rw [hf]
    exact ⟨_,rfl,C4,hp4,a4,hd4⟩
  rintro Z' H5 ⟨j5,rfl,C5,hp5,a5,hd5⟩
  have hj5:=yC hd5
  refine @ao _ _ _ _ _ _ _ (bz (bA (pv 0) T.aW T.CL (tY T) (hr.mono (by decide)) (T.sP.binds (by walk_at "2")) .nil aF (aa (Dc (b6 (pv 0) T.aW T.Ib (A5 T) (hr.mono (by decide)) (T.zu.binds (by walk_at "1")) .nil aF)) af))) ⟨_,rfl,p,dx,_,rfl,C5.ob,rfl,⟨_,rfl,p,dx,_,rfl,C5.ob,rfl,p,dx,lw,row,ws,j5,rfl,C5,_,rfl,?_⟩⟩
  rw [decide_eq_false (by lia)]
  refine ⟨_,rfl,?_⟩
  refine @av _ _ _ _ _ _ (aJ (eV T.oB (Gn T) (hr.mono (by decide)) rfl T.v5 (T.wj.binds (by walk_at "6")) .nil aF (aa (pv 3) (aa (pv 4) (aa (pv 5) (aa (pv 6) (aa (pv 7) af))))))) ⟨_,rfl,_,rfl,_,rfl,_,rfl,_,rfl,λx dx' nx ndx ne=>⟨x,dx',pa,R,rfl,ai,rfl,?_⟩⟩
  exact q x _ ⟨dx',pa,ai,hp5.same (fQ nx ndx)⟩ (a5.same (fQ nx ndx))
inductive Item where
 | mode (n c:Str)
 | rule (R:bB)
def Item.words (names:List Str):Item -> List Str
 | .mode n c=>["mode",n,c]
 | .rule R=>cK names R
def rowOf (names:List Str) (it:Item):Str:=Str.join ⟨#[32]⟩ (it.words names)
def iT (R:bB):List aC -> List aC
 | []=>[]
 | [m]=>[{ m with rules:=m.rules ++ [R] }]
 | m :: n :: r=>m :: iT R (n :: r)
def stepI (ms:List aC):Item -> List aC
 | .mode n c=>ms ++ [⟨n,c,[]⟩]
 | .rule R=>iT R ms
def foldI (its:List Item):List aC:=its.foldl stepI []
def zb:Item -> List Str
 | .mode n _=>[n]
 | .rule _=>[]
def namesOf (its:List Item):List Str:=its.flatMap zb
structure gc (its:List Item):Prop where
 ne:its ≠ []
 mode:∀ (i:Nat) n c,its[i]? = some (.mode n c) -> isName n = true /\ isName c = true /\ (namesOf (its.take i)).length < 12 /\ n ∉ namesOf (its.take i)
 rule:∀ (i:Nat) R,its[i]? = some (.rule R) -> gU (namesOf its) R /\ ∃ ms m,foldI (its.take i) = ms ++ [m] /\ m.rules.length < 12
theorem jq (R:bB) (m:aC):∀ ms:List aC,iT R (ms ++ [m]) = ms ++ [{ m with rules:=m.rules ++ [R] }]
 | []=>rfl
 | [x]=>rfl
 | x :: y :: r=>by
  show x :: iT R (y :: r ++ [m]) = _
  rw [jq R m (y :: r)]
  rfl
theorem kG (R:bB):∀ ms:List aC,(iT R ms).map (·.name) = ms.map (·.name)
 | []=>rfl
 | [x]=>rfl
 | x :: y :: r=>by
  show x.name :: (iT R (y :: r)).map (·.name) = _
  rw [kG R (y :: r)]
  rfl
theorem take_snoc {α:Type} {l:List α} {i:Nat} {x:α} (h:l[i]? = some x):l.take (i + 1) = l.take i ++ [x]:=by rw [List.take_succ,h];rfl
theorem pJ (its:List Item) (it:Item):foldI (its ++ [it]) = stepI (foldI its) it:=by unfold foldI;rw [List.foldl_append];rfl
theorem jF (a b:List Item):namesOf (a ++ b) = namesOf a ++ namesOf b:=by unfold namesOf;rw [List.flatMap_append]
theorem iP:∀ (its:List Item) (ms:List aC),(its.foldl stepI ms).map (·.name) = ms.map (·.name) ++ namesOf its
 | [],ms=>by simp [namesOf]
 | .mode n c :: r,ms=>by
  rw [List.foldl_cons,iP r]
  simp [stepI,namesOf,zb]
 | .rule R :: r,ms=>by
  rw [List.foldl_cons,iP r]
  simp [stepI,namesOf,zb,kG]
theorem qz (its:List Item):(foldI its).map (·.name) = namesOf its:=by
 unfold foldI;rw [iP];rfl
structure jc (x:Str):Prop where
 b:32 ∉ x.cps.toList
 n:10 ∉ x.cps.toList
 l:x.length <= 202
theorem bq (x:Str):x.cps.toList.length = x.length:=by simp [Str.length]
theorem ki {x:Str} (h:isName x = true):jc x:=by
 unfold isName at h
 simp only [Bool.and_eq_true,decide_eq_true_eq,List.all_eq_true] at h
 obtain ⟨⟨h1,h2⟩,h3⟩:=h
 refine ⟨λz=>?_,λz=>?_,by lia⟩
 ·exact absurd (h3 _ z) (by decide +kernel)
 ·exact absurd (h3 _ z) (by decide +kernel)
theorem wC {z:Str} (h:z.length <= 200) (h2:10 ∉ z.cps.toList):jc (iG z):=by
 refine ⟨λy=>?_,λy=>?_,?_⟩
 ·rw [gA] at y
  rcases List.mem_cons.mp y with y | y
  ·exact absurd y (by decide)
  ·unfold jM at y
   obtain ⟨c,_,e⟩:=List.mem_map.mp y
   split at e <;> lia
 ·rw [gA] at y
  rcases List.mem_cons.mp y with y | y
  ·exact absurd y (by decide)
  ·unfold jM at y
   obtain ⟨c,hc,e⟩:=List.mem_map.mp y
   split at e
   ·lia
   ·exact h2 (e ▸ hc)
 ·have:=congrArg List.length (gA z)
  rw [bq,List.length_cons,jM,List.length_map,bq] at this
  lia
theorem kc {s:Str} (h:s ∈ sorts):jc s /\ s ≠ "mode" := by
 rcases eu h with rfl | rfl | rfl | rfl | rfl | rfl | rfl <;> exact ⟨⟨by decide +kernel,by decide +kernel,by decide +kernel⟩,by decide +kernel⟩
theorem Cv {s z:Str} (G:vz s z):∀ x ∈ cD s z,jc x:=by
 intro x hx
 unfold cD at hx
 split at hx
 ·rw [List.mem_singleton.mp hx];exact (kc G.sort).1
 ·rename_i hb
  obtain ⟨z1,z2,z3,z4⟩:=G.sg hb
  rcases List.mem_cons.mp hx with e | e
  ·rw [e];exact (kc G.sort).1
  ·rw [List.mem_singleton.mp e];exact wC z2 z4
theorem rQ {names:List Str} {R:bB} (hn:∀ n ∈ names,isName n = true) (G:gU names R):∀ x ∈ cK names R,jc x:=by
 intro x hx
 unfold cK at hx
 simp only [List.mem_append] at hx
 rcases hx with hx | hx | hx | hx | hx
 ·exact Cv G.pat x hx
 ·split at hx
  ·rename_i h;rw [List.mem_singleton.mp hx];exact ki (G.col h)
  ·cases hx
 ·rw [List.mem_singleton.mp hx]
  have:=G.bh
  simp only [List.mem_cons,List.not_mem_nil,or_false] at this
  rcases this with e | e | e | e <;> rw [e] <;> exact ⟨by decide +kernel,by decide +kernel,by decide +kernel⟩
 ·cases e:R.goal with
  | some g =>
   rw [e] at hx
   rw [List.mem_singleton.mp hx]
   have hg:g < names.length:=by
    by_cases h:gv R.bh
    ·obtain ⟨g',e',h'⟩:=G.goal h
     rw [e] at e';cases e';exact h'
    ·rw [G.wW h] at e;cases e
   refine ki (hn _ ?_)
   have:names.getD g "" = names[g]:=by simp [hg]
   rw [this];exact List.getElem_mem hg
  | none=>rw [e] at hx;cases hx
 ·split at hx
  ·cases hx
  ·rw [List.mem_singleton.mp hx]
   rcases G.fold with e | e | e <;> rw [e] <;> exact ⟨by decide +kernel,by decide +kernel,by decide +kernel⟩
theorem Bd {s z:Str}:1 <= (cD s z).length /\ (cD s z).length <= 2:=by
 unfold cD
 split
 ·exact ⟨by show 1 <= 1;decide,by show 1 <= 2;decide⟩
 ·exact ⟨by show 1 <= 2;decide,by show 2 <= 2;decide⟩
theorem xK {names:List Str} {R:bB}:1 <= (cK names R).length /\ (cK names R).length <= 7:=by
 have h1:=Bd (s:=R.sort) (z:=R.signs)
 have h2:(if bX R.sort = true then [R.aU] else []).length <= 1:=by split <;> simp
 have h3:=tZ (names:=names) (g:=R.goal)
 have h4:(if R.fold = "" then [] else [R.fold]).length <= 1:=by split <;> simp
 unfold cK
 simp only [List.length_append,List.length_cons,List.length_nil]
 lia
theorem rT {its:List Item} (G:gc its):∀ n ∈ namesOf its,isName n = true:=by
 intro n hn
 unfold namesOf at hn
 obtain ⟨it,h1,h2⟩:=List.mem_flatMap.mp hn
 obtain ⟨i,h3⟩:=List.mem_iff_getElem?.mp h1
 cases it with
 | mode a c =>
  have e:n = a:=List.mem_singleton.mp h2
  rw [e]
  exact (G.mode i a c h3).1
 | rule R=>cases h2
theorem qf {its:List Item} (G:gc its) {i:Nat} {it:Item} (h:its[i]? = some it):(∀ x ∈ it.words (namesOf its),jc x) /\ it.words (namesOf its) ≠ [] /\ (it.words (namesOf its)).length <= 7:=by
 cases it with
 | mode n c =>
  obtain ⟨h1,h2,_⟩:=G.mode i n c h
  refine ⟨λx hx=>?_,by simp [Item.words],by simp [Item.words]⟩
  simp only [Item.words,List.mem_cons,List.not_mem_nil,or_false] at hx
  rcases hx with e | e | e
  ·rw [e];exact ⟨by decide +kernel,by decide +kernel,by decide +kernel⟩
  ·rw [e];exact ki h1
  ·rw [e];exact ki h2
 | rule R =>
  obtain ⟨h1,_⟩:=G.rule i R h
  have hl:=xK (names:=namesOf its) (R:=R)
  exact ⟨rQ (rT G) h1,λz=>by simp only [Item.words] at z;rw [z] at hl;simp at hl,hl.2⟩
theorem uu {c d:Nat} (hcd:d ≠ c):∀ {ps:List (List Nat)},(∀ p ∈ ps,d ∉ p) -> d ∉ bI c ps
 | [],_,z=>by cases z
 | [x],h,z=>h x (by simp) z
 | x :: y :: r,h,z=>by
  unfold bI at z
  rcases List.mem_append.mp z with z | z
  ·exact h x (by simp) z
  ·rcases List.mem_cons.mp z with z | z
   ·exact hcd z
   ·exact uu hcd (λp hp=>h p (List.mem_cons_of_mem _ hp)) z
theorem mR {c m:Nat}:∀ {ps:List (List Nat)},(∀ p ∈ ps,p.length <= m) -> (bI c ps).length <= ps.length * (m + 1)
 | [],_=>by simp [bI]
 | [x],h=>by have:=h x (by simp);simp [bI];lia
 | x :: y :: r,h=>by
  have h1:=h x (by simp)
  have h2:=mR (c:=c) (ps:=y :: r) (λp hp=>h p (List.mem_cons_of_mem _ hp))
  unfold bI
  rw [List.length_append,List.length_cons,List.length_cons,Nat.succ_mul]
  lia
theorem jO {its:List Item} (G:gc its) {i:Nat} {it:Item} (h:its[i]? = some it):10 ∉ (rowOf (namesOf its) it).cps.toList /\ (rowOf (namesOf its) it).length <= 1421 /\ PySem.Txt.split (rowOf (namesOf its) it) ⟨#[32]⟩ = it.words (namesOf its):=by
 obtain ⟨h1,h2,h3⟩:=qf G h
 refine ⟨?_,?_,kT h2 λp hp=>(h1 p hp).b⟩
 ·unfold rowOf
  rw [dD]
  refine uu (by decide) λp hp=>?_
  obtain ⟨x,hx,rfl⟩:=List.mem_map.mp hp
  exact (h1 x hx).n
 ·have h4:=mR (c:=32) (m:=202) (ps:=(it.words (namesOf its)).map λp=>p.cps.toList) (λp hp=>by
   obtain ⟨x,hx,rfl⟩:=List.mem_map.mp hp
   rw [bq];exact (h1 x hx).l)
  rw [← dD,bq,List.length_map] at h4
  unfold rowOf
  lia
def rowsOf (its:List Item):List Str:=its.map (rowOf (namesOf its))
theorem oQ {its:List Item} {i:Nat} {x:Str} (h:(rowsOf its)[i]? = some x):∃ it,its[i]? = some it /\ x = rowOf (namesOf its) it:=by
 unfold rowsOf at h
 rw [List.getElem?_map] at h
 obtain ⟨it,h1,h2⟩:=Option.map_eq_some_iff.mp h
 exact ⟨it,h1,h2.symm⟩
theorem AI {its:List Item} (G:gc its):PySem.Txt.split (Str.join ⟨#[10]⟩ (rowsOf its)) ⟨#[10]⟩ = rowsOf its:=by
 refine kT (by unfold rowsOf;simpa using G.ne) λp hp=>?_
 obtain ⟨i,h⟩:=List.mem_iff_getElem?.mp hp
 obtain ⟨it,h1,rfl⟩:=oQ h
 exact (jO G h1).1
theorem text_len {its:List Item} (G:gc its) (hl:its.length <= 200):(Str.join ⟨#[10]⟩ (rowsOf its)).length <= 300000:=by
 have h4:=mR (c:=10) (m:=1421) (ps:=(rowsOf its).map λp=>p.cps.toList) (λp hp=>by
  obtain ⟨x,hx,rfl⟩:=List.mem_map.mp hp
  obtain ⟨i,h⟩:=List.mem_iff_getElem?.mp hx
  obtain ⟨it,h1,rfl⟩:=oQ h
  rw [bq];exact (jO G h1).2.1)
 rw [← dD,bq,List.length_map,rowsOf,List.length_map] at h4
 unfold rowsOf
 lia
structure Nums (names:List Str) (kvs:List (Key × V)):Prop where
 has:numsOf names kvs
 not:∀ n,n ∉ names -> iM kvs (.inr n) = none
 len:kvs.length = names.length
theorem Nums.nil:Nums [] []:=⟨λg n h=>by simp at h,λ_ _=>rfl,rfl⟩
theorem Nums.put {names:List Str} {kvs:List (Key × V)} {n:Str} (N:Nums names kvs) (h:n ∉ names):Nums (names ++ [n]) (putK kvs (.inr n) (.int names.length)):=by
 refine ⟨λg m e=>?_,λm hm=>?_,?_⟩
 ·rw [xA]
  rcases cP e with e | ⟨e1,e2⟩
  ·have:m ≠ n:=λz=>h (z ▸ List.mem_of_getElem? e)
   rw [if_neg (λz=>this (Sum.inr.inj z))]
   exact N.has g m e
  ·rw [e2,if_pos rfl,e1]
 ·rw [xA,if_neg (λz=>hm (by rw [Sum.inr.inj z];simp))]
  exact N.not m λz=>hm (List.mem_append_left _ z)
 ·unfold putK
  rw [jQ,N.not n h,if_neg (by decide),List.length_append,List.length_append,N.len]
  rfl
noncomputable def LS:Sp:=λvs H Q _=>∃ (a:Addr) (its:List Item),vs = [.ref a] /\ H a = some (.lst ((rowsOf its).map V.str)) /\ gc its /\ its.length <= 200 /\
 ∀ d kvs H',H' d = some (.dK kvs) -> Nums (namesOf its) kvs -> aq H H' -> Q (.ref d) H'
theorem sd {names:List Str} {R:bB} (G:gU names R):∃ x r,cK names R = x :: r /\ x ≠ "mode" := by
 unfold cK cD
 split
 ·exact ⟨R.sort,_,rfl,(kc G.pat.sort).2⟩
 ·exact ⟨R.sort,_,rfl,(kc G.pat.sort).2⟩
theorem Ly (T:Txt K mg t):bC P w K mg base c6 1 t.pB t.xW ["rows"] LS:=by
 refine T.zp.ok vq ?_ ?_
 walk_at "i"
 ·obtain ⟨a,its,rfl,ha,G,hlen,q⟩:=h
  have sp1:(" " : Str) = ⟨#[32]⟩:=by decide +kernel
  refine @ao _ _ _ _ _ _ _ (aB (i:=1) vq.nd rfl (Or.inl rfl) GD) λd hd=>?_
  refine @aG _ _ _ _ _ _ _ (λZ' H'=>∃ x y kvs,Z' = [some (.ref a),some (.ref d),x,y] /\ H' d = some (.dK kvs) /\ Nums (namesOf its) kvs /\ aq H H') (dj PassesOwn.never rfl (eS (pv 0)) (bJ (i:=2) vq.nd rfl (Or.inl rfl)) ay) ?_ ?_
  ·refine ⟨_,rfl,a,rfl,⟨_,bf.of (by rw [au (aj ha hd)];exact ha)⟩,gE (xs:=(rowsOf its).map V.str) (λi Z' H'=>∃ x y kvs,Z' = [some (.ref a),some (.ref d),x,y] /\ H' d = some (.dK kvs) /\ Nums (namesOf (its.take i)) kvs /\ aq H H') ⟨_,_,[],rfl,ai,Nums.nil,aq.upd hd⟩ ?_ ?_ ?_⟩
   ·rintro i Z' H' _ ⟨x,y,kvs,rfl,h1,h2,h3⟩
    exact bf.of (h3 _ _ ha)
   ·rintro i xv Z' H1 hx ⟨x,y,kvs,rfl,h1,h2,s1⟩
    rw [List.getElem?_map] at hx
    obtain ⟨row,hrow,rfl⟩:=Option.map_eq_some_iff.mp hx
    obtain ⟨it,hit,rfl⟩:=oQ hrow
    obtain ⟨g1,g2,g3⟩:=jO G hit
    refine @ao _ _ _ _ _ _ _ (aB (i:=3) vq.nd rfl (Or.inl rfl) (cH F.plainAttrs_str F.slot_str_split F.type_str_split jJ (pv 2) (aa aX af))) ⟨_,rfl,rfl,_,_,rfl,rfl,by decide,b7 (by lia),λlw hlw=>?_⟩
    rw [sp1,g3]
    have s2:aq H1 (upd H1 lw (.lst ((it.words (namesOf its)).map V.str))):=aq.upd hlw
    have hw:upd H1 lw (.lst ((it.words (namesOf its)).map V.str)) lw = some (.lst ((it.words (namesOf its)).map V.str)):=ai
    have hd2:=s2 _ _ h1
    generalize upd H1 lw (.lst ((it.words (namesOf its)).map V.str)) = H2 at s2 hw hd2
    cases it with
    | mode n c =>
     obtain ⟨m1,m2,m3,m4⟩:=G.mode i n c hit
     refine @av _ _ _ _ _ _ (bx (PW.pt (dH (aA cI (aL aS (pv 3) ak (λ_ _=>rfl)) aX (aI _)) (di (aA i6 (aO aR (by rfl) T.bK (by decide +kernel) (aa (pv 3) af)) ak (aI _))))) ay ay) ⟨_,rfl,_,_,_,_,rfl,rfl,bf.of hw,aQ (j:=0) rfl,rfl,_,rfl,dJ (λ_=>?_) (λh=>absurd rfl h)⟩
     refine ⟨_,rfl,_,_,rfl,.inl (bf.of hw),_,_,rfl,rfl,_,rfl,dJ (λ_=>?_) (λh=>absurd (by simp [Item.words]) h)⟩
     refine @av _ _ _ _ _ _ (Jf (lG hr) (pv 1) (aL aS (pv 3) ak (λ_ _=>rfl)) (aO CT (by rfl) T.bK (by decide +kernel) (aa (pv 1) af)) rfl) ⟨_,rfl,d,kvs,rfl,hd2,_,rfl,_,rfl,_,_,_,_,rfl,rfl,bf.of hw,aQ (j:=1) rfl,d,_,rfl,EJ.k (k:=.inr n) hd2 ?_,?_⟩
     ·rw [h2.len];exact cZ (by lia)
     ·refine ⟨_,_,_,rfl,ai,?_,λb o hb=>?_⟩
      ·rw [take_snoc hit,jF,h2.len]
       exact h2.put m4
      ·rw [au (aj hb hd)];exact s2 _ _ (s1 _ _ hb)
    | rule R =>
     obtain ⟨r1,_⟩:=G.rule i R hit
     obtain ⟨fw,fr,e1,e2⟩:=sd r1
     have hw':H2 lw = some (.lst (V.str fw :: fr.map V.str)):=by rw [hw];simp only [Item.words];rw [e1];rfl
     refine @av _ _ _ _ _ _ (bx (PW.pt (dH (aA cI (aL aS (pv 3) ak (λ_ _=>rfl)) aX (aI _)) (di (aA i6 (aO aR (by rfl) T.bK (by decide +kernel) (aa (pv 3) af)) ak (aI _))))) ay ay) ⟨_,rfl,_,_,_,_,rfl,rfl,bf.of hw',aQ (j:=0) rfl,rfl,_,rfl,dJ (λh=>absurd (V.str.inj h) e2) (λ_=>aZ ?_)⟩
     refine ⟨_,_,kvs,rfl,hd2,?_,s1.trans s2⟩
     rw [take_snoc hit,jF]
     show Nums (namesOf (its.take i) ++ []) kvs
     rw [List.append_nil]
     exact h2
   ·rintro Z' H' ⟨x,y,kvs,rfl,h1,h2,h3⟩
    refine ⟨x,y,kvs,rfl,h1,?_,h3⟩
    rw [List.length_map,rowsOf,List.length_map,List.take_length] at h2
    exact h2
  rintro Z' H' ⟨x,y,kvs,rfl,h1,h2,h3⟩
  exact @av _ _ _ _ _ _ (aJ (pv 1)) ⟨_,rfl,q d kvs H' h1 h2 h3⟩
noncomputable def F0 (t:gp):Sp:=λvs H Q _=>∃ (p dx lw lm:Addr) (row:Int) (n c:Str) (as ls:List Addr) (ms:List aC),vs = [.ref p,.ref lm] /\ k8 t H p dx lw row ["mode",n,c] 0 /\ isName n = true /\ isName c = true /\ H lm = some (.lst (as.map V.ref)) /\ cF t H as ls ms /\ ms.length < 12 /\ n ∉ ms.map (·.name) /\
 ∀ m l2 dm H',H' m = some (.ins t.bZ dm (mf ⟨n,c,[]⟩ l2)) -> H' l2 = some (.lst []) -> H l2 = none -> iS H H' p -> Q (.ref m) H'
theorem Jd {H:Hp} {m dm l p dx lw:Addr} {M:aC} {row:Int} {ws:List Str} {i:Nat} (h:H m = some (.ins t.bZ dm (mf M l))) (C:k8 t H p dx lw row ws i):m ≠ p:=cA h C.ob λq=>by
 injection q with _ _ q
 unfold mf cf at q
 simp at q
theorem J3 (T:Txt K mg t):bC P w K mg base c6 5 t.qC t.yY ["cursor","modes"] (F0 t):=by
 refine T.xh.ok Az ?_ ?_
 walk_at "i"
 ·obtain ⟨p,dx,lw,lm,row,n,c,as,ls,ms,rfl,C,hn,hc,hlm,hM,hl12,hnn,q⟩:=h
  have nlp:lm ≠ p:=cA hlm C.ob (by intro z;cases z)
  refine @ao _ _ _ _ _ _ _ (bz (bA (pv 0) T.aW T.CL (tY T) (hr.mono (by decide)) (T.sP.binds (by walk_at "2")) .nil aF (aa (gH ff (aO aR (by rfl) T.bK (by decide +kernel) (aa (pv 1) af)) (gn rfl T.qS) (aI _)) af))) ⟨_,rfl,p,dx,_,rfl,C.ob,rfl,_,rfl,_,_,rfl,.inl (bf.of hlm),_,_,rfl,rfl,?_⟩
  dsimp only
  rw [decide_eq_true (by rw [List.length_map,hM.la];lia)]
  refine ⟨_,rfl,?_⟩
  refine @ao _ _ _ _ _ _ _ (bz (bA (pv 0) T.aW T.IJ (Br T) (hr.mono (by decide)) (T.zz.binds (by walk_at "2")) .nil aF (aa (ez (aa aX af)) af))) ⟨_,rfl,p,dx,_,rfl,C.ob,rfl,by show 1 <= sizeLine;decide,λpt hpt=>?_⟩
  have s1:aq H (upd H pt (.tup [.str "mode"])):=aq.upd hpt
  have C1:=C.same s1
  refine ⟨p,dx,lw,pt,["mode"],row,_,0,rfl,C1,d8.of ai,List.mem_singleton.mpr rfl,λH2 C2 a2=>?_⟩
  have a2:=s1.HL a2
  have hlm2:H2 lm = some (.lst (as.map V.ref)):=a2 _ _ hlm nlp
  refine @ao _ _ _ _ _ _ _ (@bz _ _ _ _ (@bA _ _ _ _ _ _ _ _ _ _ _ _ _ _ _ _ _ _ _ _ (pv 0) T.aW T.CL (tY T) (hr.mono (by decide)) (T.sP.binds (by walk_at "2")) .nil aF (@aa _ _ _ _ _ (@gH _ _ _ _ _ _ _ _ uM (@b6 _ _ _ _ _ _ _ _ _ _ _ _ _ _ _ _ _ (pv 0) T.aW T.Ae (qj T) (hr.mono (by decide)) (T.qb.binds (by walk_at "1")) .nil aF (by left)) (@gK _ (az AY) _ ["cursor","modes","name","colour"] _ _ ("mode") _ _ [] _ _ (by walk_at "ck") (@eS _ _ _ _ (pv 1)) (λ_ _ _ _=>by exact (@oG _ K _ _ _ _ (pv 0) rfl (by left))) (by left) (by left) (by left) (by left)) rfl) af (by left)) (by left) (by left) (by left)) (by left)) ?_
  refine ⟨_,rfl,p,dx,_,rfl,C2.ob,rfl,⟨_,rfl,p,dx,_,rfl,C2.ob,rfl,p,dx,lw,row,_,0 + 1,rfl,C2,?_⟩⟩
  refine ⟨_,rfl,lm,rfl,⟨_,bf.of hlm2⟩,gx (xs:=as.map V.ref) (λi ys H'=>H' = H2 /\ ys = ((ms.map (·.name)).take i).map V.str) ⟨rfl,rfl⟩ (cZ (by rw [List.length_map,hM.la];lia)) ?_ ?_ ?_⟩
  ·rintro i ys H' _ ⟨rfl,_⟩
   exact bf.of hlm2
  ·rintro i xv ys H' hx hyl ⟨rfl,rfl⟩
   rw [List.getElem?_map] at hx
   obtain ⟨a,ha,rfl⟩:=Option.map_eq_some_iff.mp hx
   have hi:i < as.length:=(List.getElem?_eq_some_iff.mp ha).1
   obtain ⟨m,hm⟩:∃ m,ms[i]? = some m:=⟨ms[i]'(by rw [← hM.la];exact hi),List.getElem?_eq_getElem _⟩
   obtain ⟨l,hll⟩:∃ l,ls[i]? = some l:=⟨ls[i]'(by rw [hM.ll,← hM.la];exact hi),List.getElem?_eq_getElem _⟩
   obtain ⟨dm,rs,o1,o2,o3⟩:=hM.ob i a l m ha hll hm
   refine ⟨_,rfl,a,t.bZ,dm,_,_,rfl,a2 _ _ o1 (Jd o1 C),T.fB,T.gg,rfl,?_⟩
   refine dh (by rw [List.length_map];exact hi) hyl ⟨rfl,?_⟩
   rw [take_snoc (l:=ms.map (·.name)) (x:=m.name) (by rw [List.getElem?_map,hm];rfl),List.map_append]
   rfl
  ·rintro ys H' hyl ⟨rfl,rfl⟩ D hD
   have hall:(ms.map (·.name)).take (as.map V.ref).length = ms.map (·.name):=List.take_of_length_le (by rw [List.length_map,List.length_map,hM.la];lia)
   rw [hall]
   have s3:aq H' (upd H' D (.lst ((ms.map (·.name)).map V.str))):=aq.upd hD
   have C3:=C2.same s3
   refine ⟨D,_,rfl,.inl (bf.of ai),rfl,ua,?_⟩
   rw [if_pos rfl,iL,decide_eq_false (p:=pk ["mode",n,c] (0 + 1) ∈ ms.map (·.name)) hnn]
   refine ⟨_,rfl,?_⟩
   refine @ao _ _ _ _ _ _ _ (aB (i:=2) Az.nd rfl (Or.inl rfl) (b6 (pv 0) T.aW T.IL (Bj T) (hr.mono (by decide)) (T.za.binds (by walk_at "1")) .nil aF)) ⟨_,rfl,p,dx,_,rfl,C3.ob,rfl,p,dx,lw,row,_,0 + 1,rfl,C3,hn,λH4 C4 a4=>?_⟩
   refine @ao _ _ _ _ _ _ _ (aB (i:=3) Az.nd rfl (Or.inl rfl) (b6 (pv 0) T.aW T.IL (Bj T) (hr.mono (by decide)) (T.za.binds (by walk_at "1")) .nil aF)) ⟨_,rfl,p,dx,_,rfl,C4.ob,rfl,p,dx,lw,row,_,0 + 1 + 1,rfl,C4,hc,λH5 C5 a5=>?_⟩
   have a5:=(a2.same s3).trans (a4.trans a5)
   refine @ao _ _ _ _ _ _ _ (bz (bA (pv 0) T.aW T.CL (tY T) (hr.mono (by decide)) (T.sP.binds (by walk_at "2")) .nil aF (aa (Dc (b6 (pv 0) T.aW T.Ib (A5 T) (hr.mono (by decide)) (T.zu.binds (by walk_at "1")) .nil aF)) af))) ⟨_,rfl,p,dx,_,rfl,C5.ob,rfl,⟨_,rfl,p,dx,_,rfl,C5.ob,rfl,p,dx,lw,row,_,0 + 1 + 1 + 1,rfl,C5,_,rfl,?_⟩⟩
   refine ⟨_,rfl,?_⟩
   refine @av _ _ _ _ _ _ (aJ (eV T.oE (ET T) (hr.mono (by decide)) rfl T.yO (T.wQ.binds (by walk_at "4")) .nil aF (aa (pv 2) (aa (pv 3) (aa (bH af) af))))) ⟨_,rfl,_,rfl,by show 0 <= sizeLine;decide,λl1 hl1=>?_⟩
   intro x dm nx ndm ne
   have nl1:l1 ≠ x:=aj ai nx
   have nl2:l1 ≠ dm:=aj ai ndm
   refine ⟨x,dm,l1,n,c,[],rfl,ai,by rw [au nl1,au nl2];exact ai,λl2 H6 h1 h2 h3 h4=>⟨rfl,?_⟩⟩
   have key:∀ b o,H5 b = some o -> b ≠ x /\ b ≠ dm /\ b ≠ l1:=λb o hb=>by
    have e1:b ≠ l1:=aj hb hl1
    have hb':upd H5 l1 (.lst []) b = some o:=by rw [au e1];exact hb
    exact ⟨aj hb' nx,aj hb' ndm,e1⟩
   have hadv:∀ b o,H5 b = some o -> H6 b = some o:=λb o hb=>by
    obtain ⟨k1,k2,k3⟩:=key b o hb
    refine h4 b o ?_ k1
    rw [au k1,au k2,au k3];exact hb
   refine q x l2 dm H6 h2 h3 ?_ λb o hb nb=>hadv b o (a5 b o hb nb)
   cases e:H l2 with
   | none=>rfl
   | some o =>
    by_cases z:l2 = p
    ·have h5:=hadv p _ C5.ob
     rw [z,h5] at h3
     cases h3
    ·have h5:=a5 _ _ e z
     obtain ⟨k1,k2,k3⟩:=key _ _ h5
     rw [au k1,au k2,au k3,h5] at h1
     cases h1
noncomputable def MC (t:gp):Sp:=λvs H Q _=>∃ (its:List Item),vs = [.str (Str.join ⟨#[10]⟩ (rowsOf its))] /\ gc its /\ its.length <= 200 /\ ∀ a H',IsRules t H' a (foldI its) -> aq H H' -> Q (.ref a) H'
theorem sV (its:List Item):(foldI its).length = (namesOf its).length:=by rw [← qz,List.length_map]
theorem iS.fresh {H H1 H2:Hp} {p:Addr} (s:aq H H1) (h:H p = none) (a:iS H1 H2 p):aq H H2:=λb o hb=>a b o (s b o hb) (aj hb h)
theorem dc.kJ {H:Hp} {r l:Addr} {R:bB} {xs:List V} {o:HO} (h:dc t H r R) (hl:H l = some (.lst xs)):dc t (upd H l o) r R:=by
 obtain ⟨dx,p,x,⟨dp,y⟩⟩:=h
 exact ⟨dx,p,by rw [au (cA x hl (by intro z;cases z))];exact x,dp,by rw [au (cA y hl (by intro z;cases z))];exact y⟩
theorem cF.kJ {H:Hp} {as ls:List Addr} {ms:List aC} {l:Addr} {xs:List V} {o:HO} (h:cF t H as ls ms) (hl:H l = some (.lst xs)) (hn:l ∉ ls):cF t (upd H l o) as ls ms :=
 ⟨h.la,h.ll,h.nd,λi a l' m h1 h2 h3=>by
  obtain ⟨dx,rs,x,y,z⟩:=h.ob i a l' m h1 h2 h3
  exact ⟨dx,rs,by rw [au (cA x hl (by intro z;cases z))];exact x,by rw [au (show l' ≠ l from λe=>hn (e ▸ List.mem_of_getElem? h2))];exact y,z.mono λ_ _ r=>r.kJ hl⟩⟩
theorem cF.alive {H:Hp} {as ls:List Addr} {ms:List aC} (h:cF t H as ls ms) {l:Addr} (hl:l ∈ ls):∃ xs,H l = some (.lst xs):=by
 obtain ⟨i,e⟩:=List.mem_iff_getElem?.mp hl
 have hi:=(List.getElem?_eq_some_iff.mp e).1
 obtain ⟨dx,rs,x,y,z⟩:=h.ob i _ l _ (List.getElem?_eq_getElem (by rw [h.la,← h.ll];exact hi)) e (List.getElem?_eq_getElem (by rw [← h.ll];exact hi))
 exact ⟨_,y⟩
theorem cF.PM {H:Hp} {as ls:List Addr} {ms:List aC} {m l dm:Addr} {n c:Str} (h:cF t H as ls ms) (hm:H m = some (.ins t.bZ dm (mf ⟨n,c,[]⟩ l))) (hl:H l = some (.lst [])) (hn:l ∉ ls):cF t H (as ++ [m]) (ls ++ [l]) (ms ++ [⟨n,c,[]⟩]):=by
 refine ⟨by simp [h.la],by simp [h.ll],?_,λi a l' m' h1 h2 h3=>?_⟩
 ·refine List.nodup_append.mpr ⟨h.nd,by simp,λa ha b hb=>?_⟩
  rw [List.mem_singleton.mp hb]
  exact λe=>hn (e ▸ ha)
 ·have e1:=h.la
  have e2:=h.ll
  rcases cP h1 with h1 | ⟨i1,rfl⟩
  ·have:=(List.getElem?_eq_some_iff.mp h1).1
   rcases cP h2 with h2 | ⟨i2,rfl⟩
   ·rcases cP h3 with h3 | ⟨i3,rfl⟩
    ·exact h.ob i a l' m' h1 h2 h3
    ·lia
   ·lia
  ·rcases cP h2 with h2 | ⟨i2,rfl⟩
   ·have:=(List.getElem?_eq_some_iff.mp h2).1;lia
   ·rcases cP h3 with h3 | ⟨i3,rfl⟩
    ·have:=(List.getElem?_eq_some_iff.mp h3).1;lia
    ·exact ⟨dm,[],hm,hl,bU.nil⟩
theorem GZ {l:List Addr} (h:l.Nodup) {i j:Nat} {a:Addr} (h1:l[i]? = some a) (h2:l[j]? = some a):i = j:=by
 obtain ⟨i1,e1⟩:=List.getElem?_eq_some_iff.mp h1
 obtain ⟨j1,e2⟩:=List.getElem?_eq_some_iff.mp h2
 exact (List.getElem_inj h).mp (e1.trans e2.symm)
theorem cF.QZ {H:Hp} {as ls:List Addr} {ms:List aC} {m:aC} {l r:Addr} {rs:List Addr} {R:bB} (h:cF t H as ls (ms ++ [m])) (hl:ls[ms.length]? = some l) (hH:H l = some (.lst (rs.map V.ref))) (hA:bU (dc t H) rs m.rules) (hr:dc t H r R) :
  cF t (upd H l (.lst (rs.map V.ref ++ [.ref r]))) as ls (ms ++ [{ m with rules:=m.rules ++ [R] }]):=by
 refine ⟨by rw [h.la];simp,by rw [h.ll];simp,h.nd,λi a l' m' h1 h2 h3=>?_⟩
 rcases cP h3 with h3 | ⟨i3,rfl⟩
 ·have hi:=(List.getElem?_eq_some_iff.mp h3).1
  obtain ⟨dx,rs',x,y,z⟩:=h.ob i a l' m' h1 h2 (by rw [List.getElem?_append_left hi];exact h3)
  refine ⟨dx,rs',by rw [au (cA x hH (by intro z;cases z))];exact x,?_,z.mono λ_ _ r=>r.kJ hH⟩
  rw [au (λe=>?_)]
  ·exact y
  ·subst e
   have:=GZ h.nd h2 hl
   lia
 ·subst i3
  rw [hl] at h2
  cases h2
  obtain ⟨dx,rs',x,y,z⟩:=h.ob _ a l m h1 hl (by simp)
  refine ⟨dx,rs ++ [r],by rw [au (cA x hH (by intro z;cases z))];exact x,by rw [ai,List.map_append];rfl,?_⟩
  exact bU.snoc (hA.mono λ_ _ r=>r.kJ hH) (hr.kJ hH)
theorem mO {α β:Type} {f:α -> β} {as:List α} {k:Nat} {a:α} (hl:as.length = k + 1) (h:as[k]? = some a):rA (as.map f) (-1) = some (f a):=by
 unfold rA Bo
 rw [List.length_map,hl]
 have e:((-1:Int) + ((k + 1:Nat):Int)).toNat = k:=by lia
 first
  | (rw [if_neg (by lia),if_pos (by lia)];simp only [Option.bind_some];rw [show (((k + 1:Nat):Int) + (-1:Int)).toNat = k by lia,List.getElem?_map,h];rfl)
  | (rw [if_neg (by lia),if_pos (by lia)];simp only [Option.bind_some];rw [e,List.getElem?_map,h];rfl)
theorem GQ (T:Txt K mg t):bC P w K mg base c6 7 t.qO t.vP ["text"] (MC t):=by
 refine T.pe.ok jl ?_ ?_
 walk_at "i"
 ·obtain ⟨its,rfl,G,hlen,q⟩:=h
  have nl1:("\n" : Str) = ⟨#[10]⟩:=by decide +kernel
  refine @ao _ _ _ _ _ _ _ (aB (i:=1) jl.nd rfl (Or.inl rfl) (cH F.plainAttrs_str F.slot_str_split F.type_str_split jJ (pv 0) (aa aX af))) ⟨_,rfl,rfl,_,_,rfl,rfl,by decide,b7 (by have:=text_len G hlen;lia),λlr hlr=>?_⟩
  rw [nl1,AI G]
  have s1:aq H (upd H lr (.lst ((rowsOf its).map V.str))):=aq.upd hlr
  have hr1:upd H lr (.lst ((rowsOf its).map V.str)) lr = some (.lst ((rowsOf its).map V.str)):=ai
  generalize upd H lr (.lst ((rowsOf its).map V.str)) = H1 at s1 hr1
  refine @ao _ _ _ _ _ _ _ (aB (i:=2) jl.nd rfl (Or.inl rfl) (aM (Ly T) (hr.mono (by decide)) rfl T.M7 T.zp.kp (T.zp.binds (by walk_at "1")) .nil aF (aa (pv 1) af))) ⟨_,rfl,lr,its,rfl,hr1,G,hlen,λd kvs H2 hd2 hN s2=>?_⟩
  have hr2:=s2 _ _ hr1
  have s2:=s1.trans s2
  refine @ao _ _ _ _ _ _ _ (aB (i:=3) jl.nd rfl (Or.inl rfl) (bH af)) ⟨by show 0 <= sizeLine;decide,λlm hlm=>?_⟩
  have s3:aq H2 (upd H2 lm (.lst [])):=aq.upd hlm
  have hm3:upd H2 lm (.lst []) lm = some (.lst []):=ai
  generalize upd H2 lm (.lst []) = H3 at s3 hm3
  have hlm0:H lm = none:=s2.free hlm
  have hr3:=s3 _ _ hr2
  have hd3:=s3 _ _ hd2
  have s3:=s2.trans s3
  refine @ao _ _ _ _ _ _ _ (aB (i:=4) jl.nd rfl (Or.inl rfl) (bH af)) ⟨by show 0 <= sizeLine;decide,λnw hnw=>?_⟩
  have s4:aq H3 (upd H3 nw (.lst [])):=aq.upd hnw
  have hw4:upd H3 nw (.lst []) nw = some (.lst []):=ai
  generalize upd H3 nw (.lst []) = H4 at s4 hw4
  have hr4:=s4 _ _ hr3
  have hd4:=s4 _ _ hd3
  have hm4:=s4 _ _ hm3
  have nmw:lm ≠ nw:=aj hm3 hnw
  have s4:=s3.trans s4
  have nlr:lr ≠ lm:=aj hr2 hlm
  have nlrw:lr ≠ nw:=aj hr3 hnw
  refine @aG _ _ _ _ _ _ _ (λZ' H'=>∃ x5 x6 x7 x8 as ls,Z' = [some (.str (Str.join ⟨#[10]⟩ (rowsOf its))),some (.ref lr),some (.ref d),some (.ref lm),some (.ref nw),x5,x6,x7,x8] /\ H' lm = some (.lst (as.map V.ref)) /\ H' nw = some (.lst []) /\ cF t H' as ls (foldI its) /\ aq H H') (dj PassesOwn.never rfl (BE rfl T.iX (aa (pv 1) af)) (qJ rfl (cL (bJ (i:=5) jl.nd rfl (Or.inl rfl)) (cL (bJ (i:=6) jl.nd rfl (Or.inl rfl)) j7))) ay) ?_ ?_
  ·refine ⟨_,rfl,lr,_,rfl,bf.of hr4,sR (xs:=(rowsOf its).map V.str) (λi Z' H'=>∃ x5 x6 x7 x8 as ls,Z' = [some (.str (Str.join ⟨#[10]⟩ (rowsOf its))),some (.ref lr),some (.ref d),some (.ref lm),some (.ref nw),x5,x6,x7,x8] /\ H' lm = some (.lst (as.map V.ref)) /\ H' nw = some (.lst []) /\ H' lr = some (.lst ((rowsOf its).map V.str)) /\ H' d = some (.dK kvs) /\ cF t H' as ls (foldI (its.take i)) /\ lm ∉ ls /\ nw ∉ ls /\ lr ∉ ls /\ (∀ l ∈ ls,H l = none) /\ aq H H') ?_ ?_ ?_ ?_⟩
   ·exact ⟨_,_,_,_,[],[],rfl,hm4,hw4,hr4,hd4,⟨rfl,rfl,List.nodup_nil,λi a l m h=>by simp at h⟩,by simp,by simp,by simp,by simp,s4⟩
   ·rintro i Z' H' _ ⟨x5,x6,x7,x8,as,ls,rfl,h1,h2,h3,_⟩
    exact bf.of h3
   ·rintro i xv pt Z' H5 hx hpt ⟨x5,x6,x7,x8,as,ls,rfl,hm5,hw5,hr5,hd5,hM,nl1',nl2',nl3',hfr,s5⟩
    rw [List.getElem?_map] at hx
    obtain ⟨row,hrow,rfl⟩:=Option.map_eq_some_iff.mp hx
    obtain ⟨it,hit,rfl⟩:=oQ hrow
    obtain ⟨g1,g2,g3⟩:=jO G hit
    obtain ⟨w1,w2,w3⟩:=qf G hit
    have s6:aq H5 (upd H5 pt (.tup [.int i,.str (rowOf (namesOf its) it)])):=aq.upd hpt
    refine ⟨pt,[.int i,.str (rowOf (namesOf its) it)],rfl,d8.of ai,rfl,_,_,rfl,_,_,rfl,rfl,?_⟩
    generalize upd H5 pt (.tup [.int i,.str (rowOf (namesOf its) it)]) = H6 at s6
    refine @ao _ _ _ _ _ _ _ (aB (i:=7) jl.nd rfl (Or.inl rfl) (eV T.mH (Ow T) (hr.mono (by decide)) rfl T.zW (T.HY.binds (by walk_at "3")) .nil aF (aa (pv 5) (aa (pv 6) af)))) ⟨_,rfl,_,rfl,λp dx np ndx ne=>⟨p,dx,i,_,rfl,ai,by lia,by rw [g3];lia,λlw H7 hlw C7 a7=>⟨rfl,?_⟩⟩⟩
    rw [g3] at C7
    have s7:aq H5 H7:=λb o hb=>a7 b o (by rw [au (aj (s6 _ _ hb) np),au (aj (s6 _ _ hb) ndx)];exact s6 _ _ hb) (aj (s6 _ _ hb) np)
    have hp5:H5 p = none:=s6.free np
    have hm7:=s7 _ _ hm5
    have hM7:=hM.same s7
    have hml:as.length = (foldI (its.take i)).length:=hM.la
    cases it with
    | mode n c =>
     obtain ⟨m1,m2,m3,m4⟩:=G.mode i n c hit
     refine @av _ _ _ _ _ _ (bx (PW.pt (jy (mX (je (pv 3) (λ_=>rfl))) (i8 (aA cI (b6 (pv 7) T.aW T.Ae (qj T) (hr.mono (by decide)) (T.qb.binds (by walk_at "1")) .nil aF) aX (aI _))))) ay ay) ⟨_,rfl,_,.inl ⟨_,bf.of hm7,rfl⟩,?_⟩
     refine (λhb=>OG (λ_=>Jg hb) (λ_=>⟨_,rfl,p,dx,_,rfl,C7.ob,rfl,p,dx,lw,i,_,0,rfl,C7,rfl,_,rfl,dJ (λ_=>hb) (λh=>absurd rfl h)⟩)) ?_
     refine @av _ _ _ _ _ _ (bz (cH F.plainAttrs_list F.slot_list_append F.type_list_append bQ (pv 3) (aa (aM (J3 T) (hr.mono (by decide)) rfl T.KU T.xh.kp (T.xh.binds (by walk_at "2")) .nil aF (aa (pv 7) (aa (pv 3) af))) af))) ⟨_,rfl,.inl ⟨rfl,_,bf.of hm7⟩,_,rfl,_,rfl,p,dx,lw,lm,i,n,c,as,ls,_,rfl,C7,m1,m2,hm7,hM7,by rw [sV];exact m3,by rw [qz];exact m4,λm l2 dm H8 e1 e2 e3 a8=>?_⟩
     have s8:aq H5 H8:=iS.fresh s7 hp5 a8
     have hm8:=s8 _ _ hm5
     have n1:lm ≠ l2:=aj hm7 e3
     have hn2:l2 ∉ ls:=λz=>by
      obtain ⟨xs,hx⟩:=hM7.alive z
      rw [hx] at e3;cases e3
     refine ⟨lm,_,_,rfl,rfl,hm8,cZ (by rw [List.length_map,hml,sV];lia),?_⟩
     refine ⟨_,_,_,_,as ++ [m],ls ++ [l2],rfl,by rw [ai,List.map_append];rfl,?_,?_,?_,?_,?_,?_,?_,?_,?_⟩
     ·rw [au (Ne.symm nmw)];exact s8 _ _ hw5
     ·rw [au nlr];exact s8 _ _ hr5
     ·rw [au (cA hd5 hm5 (by intro z;cases z))];exact s8 _ _ hd5
     ·rw [take_snoc hit,pJ]
      exact cF.PM ((hM.same s8).kJ hm8 nl1') (by rw [au (cA e1 hm8 (by intro z;cases z))];exact e1) (by rw [au (Ne.symm n1)];exact e2) hn2
     ·intro z
      rcases List.mem_append.mp z with z | z
      ·exact nl1' z
      ·exact n1 (List.mem_singleton.mp z)
     ·intro z
      rcases List.mem_append.mp z with z | z
      ·exact nl2' z
      ·exact aj (s7 _ _ hw5) e3 (List.mem_singleton.mp z)
     ·intro z
      rcases List.mem_append.mp z with z | z
      ·exact nl3' z
      ·exact aj (s7 _ _ hr5) e3 (List.mem_singleton.mp z)
     ·intro l hl
      rcases List.mem_append.mp hl with z | z
      ·exact hfr l z
      ·rw [List.mem_singleton.mp z];exact (s5.trans s7).free e3
     ·intro b o hb
      rw [au (aj hb hlm0)]
      exact s8 _ _ (s5 _ _ hb)
    | rule R =>
     obtain ⟨r1,ms,m,hms,hm12⟩:=G.rule i R hit
     obtain ⟨fw,fr,f1,f2⟩:=sd r1
     rw [hms] at hM hM7 hml
     have hk:as.length = ms.length + 1:=by rw [hml];simp
     obtain ⟨a,ha⟩:∃ a,as[ms.length]? = some a:=⟨as[ms.length]'(by lia),List.getElem?_eq_getElem _⟩
     obtain ⟨l,hl⟩:∃ l,ls[ms.length]? = some l:=⟨ls[ms.length]'(by rw [hM.ll];simp),List.getElem?_eq_getElem _⟩
     obtain ⟨dm,rs,o1,o2,o3⟩:=hM.ob ms.length a l m ha hl (by simp)
     have o1':=s7 _ _ o1
     have o2':=s7 _ _ o2
     have hrl:rs.length < 12:=by rw [o3.1];exact hm12
     have hl0:H l = none:=hfr l (List.mem_of_getElem? hl)
     have hnl:l ∈ ls:=List.mem_of_getElem? hl
     refine @av _ _ _ _ _ _ (bx (PW.pt (jy (mX (je (pv 3) (λ_=>rfl))) (i8 (aA cI (b6 (pv 7) T.aW T.Ae (qj T) (hr.mono (by decide)) (T.qb.binds (by walk_at "1")) .nil aF) aX (aI _))))) ay ay) ⟨_,rfl,_,.inl ⟨_,bf.of hm7,rfl⟩,OG (λh=>?_) (λ_=>?_)⟩
     ·exfalso
      have:as ≠ []:=λz=>by rw [z] at hk;simp at hk
      cases as with
      | nil=>exact this rfl
      | cons _ _=>simp at h
     refine ⟨_,rfl,p,dx,_,rfl,C7.ob,rfl,p,dx,lw,i,_,0,rfl,C7,rfl,_,rfl,dJ (λh=>?_) (λ_=>?_)⟩
     ·exfalso
      refine f2 ?_
      have h:=V.str.inj h
      simp only [Item.words,f1] at h
      exact h
     refine @ao _ _ _ _ _ _ _ (aB (i:=8) jl.nd rfl (Or.inl rfl) (aT (aL aS (pv 3) (iu fG ak) (λ_ _=>rfl)) rfl)) ⟨_,rfl,_,rfl,_,_,_,_,rfl,rfl,bf.of hm7,mO hk ha,a,t.bZ,dm,_,_,rfl,o1',T.fB,T.dF,rfl,?_⟩
     refine @ao _ _ _ _ _ _ _ (bz (bA (pv 7) T.aW T.CL (tY T) (hr.mono (by decide)) (T.sP.binds (by walk_at "2")) .nil aF (aa (gH ff (aO aR (by rfl) T.bK (by decide +kernel) (aa (pv 8) af)) (gn rfl T.sr) (aI _)) af))) ⟨_,rfl,p,dx,_,rfl,C7.ob,rfl,_,rfl,_,_,rfl,.inl (bf.of o2'),_,_,rfl,rfl,?_⟩
     dsimp only
     rw [decide_eq_true (by rw [List.length_map];lia)]
     refine ⟨_,rfl,?_⟩
     refine @av _ _ _ _ _ _ (bz (cH F.plainAttrs_list F.slot_list_append F.type_list_append bQ (pv 8) (aa (aM (M3 T) (hr.mono (by decide)) rfl T.LO T.yT.kp (T.yT.binds (by walk_at "3")) .nil aF (aa (pv 7) (aa (pv 2) (aa (pv 4) af)))) af))) ⟨_,rfl,.inl ⟨rfl,_,bf.of o2'⟩,_,rfl,_,rfl,_,rfl,p,dx,lw,d,_,i,_,kvs,namesOf its,R,rfl,C7,rfl,s7 _ _ hd5,hN.has,rT G,r1,λr H8 hr8 a8=>?_⟩
     have s8:aq H5 H8:=iS.fresh s7 hp5 a8
     have o2'':=s8 _ _ o2
     refine ⟨l,_,_,rfl,rfl,o2'',cZ (by rw [List.length_map];lia),?_⟩
     refine ⟨_,_,_,_,as,ls,rfl,?_,?_,?_,?_,?_,nl1',nl2',nl3',hfr,?_⟩
     ·rw [au (show lm ≠ l from λz=>nl1' (z ▸ hnl))];exact s8 _ _ hm5
     ·rw [au (show nw ≠ l from λz=>nl2' (z ▸ hnl))];exact s8 _ _ hw5
     ·rw [au (show lr ≠ l from λz=>nl3' (z ▸ hnl))];exact s8 _ _ hr5
     ·rw [au (cA hd5 o2 (by intro z;cases z))];exact s8 _ _ hd5
     ·rw [take_snoc hit,pJ,hms]
      show cF _ _ _ _ (iT R (ms ++ [m]))
      rw [jq]
      exact (hM.same s8).QZ hl o2'' (o3.mono λ_ _ r=>r.same s8) hr8
     ·intro b o hb
      rw [au (aj hb hl0)]
      exact s8 _ _ (s5 _ _ hb)
   ·rintro Z' H' ⟨x5,x6,x7,x8,as,ls,rfl,h1,h2,h3,h4,h5,_,_,_,_,h6⟩
    rw [List.length_map,rowsOf,List.length_map,List.take_length] at h5
    exact ⟨_,_,_,_,as,ls,rfl,h1,h2,h5,h6⟩
  rintro Z' H' ⟨x5,x6,x7,x8,as,ls,rfl,h1,h2,h5,h6⟩
  refine @ao _ _ _ _ _ _ _ (bx (je (pv 4) (λ_=>rfl)) ay ay) ⟨_,rfl,_,.inl ⟨_,bf.of h2,rfl⟩,uE (aZ ?_)⟩
  refine @av _ _ _ _ _ _ (aJ (eV T.lS (Fl T) (hr.mono (by decide)) rfl T.tG (T.yr.binds (by walk_at "2")) .nil aF (aa (pv 3) af))) ⟨_,rfl,λx dx nx ndx ne=>⟨x,dx,lm,_,rfl,ai,by rw [au (aj h1 nx),au (aj h1 ndx)];exact h1,λl2 H8 e1 e2 e3 e4=>⟨rfl,?_⟩⟩⟩
  have s8:aq H' H8:=λb o hb=>e4 b o (by rw [au (aj hb nx),au (aj hb ndx)];exact hb) (aj hb nx)
  exact q x H8 ⟨dx,l2,as,ls,e2,e3,h5.same s8⟩ (h6.trans s8)
def eT (R:bB) (row:Str) (i:Nat):Bool:=decide (eY R.sort R.signs row i ≠ .cQ)
def iI (row:Str) (i:Nat):Nat -> List bB -> Option Nat
 | _,[]=>none
 | k,R :: r=>if eT R row i = true then some k else iI row i (k + 1) r
def firstM (rs:List bB) (row:Str) (i:Nat):Option Nat:=iI row i 0 rs
def GoodR (R:bB):Prop:=R.sort ∈ sorts /\ R.signs.length <= 200
def vA (rs:List bB):Prop:=rs.length <= 200 /\ ∀ R ∈ rs,GoodR R
theorem dO {α:Type} {l:List α} {i:Nat} {x:α} (h:l[i]? = some x):l.drop i = x :: l.drop (i + 1):=by
 rw [List.drop_eq_getElem?_toList_append,h];rfl
theorem tT {row:Str} {i k:Nat} {rs:List bB} {R:bB} {n:Nat} (h:rs[n]? = some R):iI row i k (rs.drop n) = if eT R row i = true then some k else iI row i (k + 1) (rs.drop (n + 1)):=by
 rw [dO h];rfl
theorem IsRules.mode {H:Hp} {a:Addr} {ms:List aC} (h:IsRules t H a ms) {k:Nat} {m:aC} (hm:ms[k]? = some m) :
  ∃ (dx lm:Addr) (as:List Addr) (b lr dm:Addr) (rs:List Addr),H a = some (.ins t.cR dx [("modes",.ref lm)]) /\ H lm = some (.lst (as.map V.ref)) /\ as.length = ms.length /\ as[k]? = some b /\ H b = some (.ins t.bZ dm (mf m lr)) /\ H lr = some (.lst (rs.map V.ref)) /\ bU (dc t H) rs m.rules:=by
 obtain ⟨dx,lm,as,ls,ha,hlm,hM⟩:=h
 have hk:=(List.getElem?_eq_some_iff.mp hm).1
 obtain ⟨b,hb⟩:∃ b,as[k]? = some b:=⟨as[k]'(by rw [hM.la];exact hk),List.getElem?_eq_getElem _⟩
 obtain ⟨lr,hlr⟩:∃ b,ls[k]? = some b:=⟨ls[k]'(by rw [hM.ll];exact hk),List.getElem?_eq_getElem _⟩
 obtain ⟨dm,rs,o1,o2,o3⟩:=hM.ob k b lr m hb hlr hm
 exact ⟨dx,lm,as,b,lr,dm,rs,ha,hlm,hM.la,hb,o1,o2,o3⟩
theorem c9 {as:List Addr} {k:Nat} {b:Addr} (h:as[k]? = some b):rA (as.map V.ref) ((k:Nat):Int) = some (.ref b):=aQ (by rw [List.getElem?_map,h];rfl)
noncomputable def IW (t:gp):Sp:=λvs H Q _=>∃ (a:Addr) (ms:List aC) (m:aC) (k i:Nat) (row:Str),vs = [.ref a,.int k,.str row,.int i] /\ IsRules t H a ms /\ ms[k]? = some m /\ vA m.rules /\ row.length <= 1000 /\ i <= row.length /\
 ∀ H',aq H H' -> Q (iZ (firstM m.rules row i)) H'
theorem GL (T:Txt K mg t):bC P w K mg base c6 2 t.rF t.v9 ["rules","mode","row","at"] (IW t):=by
 refine T.qL.ok AN ?_ ?_
 walk_at "i"
 ·obtain ⟨a,ms,m,k,i,row,rfl,hR,hm,hok,hrow,hi,q⟩:=h
  obtain ⟨dx,lm,as,b,lr,dm,rs,ha,hlm,hal,hb,hmo,hlr,hA⟩:=hR.mode hm
  refine @aG _ _ _ _ _ _ _ (λZ' H'=>(∃ x y,Z' = [some (.ref a),some (.int k),some (.str row),some (.int i),x,y]) /\ aq H H' /\ firstM m.rules row i = none) (dj PassesOwn.never rfl (BE rfl T.iX (aa (aT (aL aS (aT (pv 0) rfl) (pv 1) (λ_ _=>rfl)) rfl) af)) (qJ rfl (cL (bJ (i:=4) AN.nd rfl (Or.inl rfl)) (cL (bJ (i:=5) AN.nd rfl (Or.inl rfl)) j7))) ay) ?_ ?_
  ·refine ⟨_,rfl,_,_,_,_,_,rfl,ha,T.g6,T.cB,rfl,⟨_,rfl,_,_,_,_,rfl,rfl,bf.of hlm,c9 hb,b,t.bZ,dm,_,_,rfl,hmo,T.fB,T.dF,rfl,lr,_,rfl,bf.of hlr,sR (xs:=rs.map V.ref) (λn Z' H'=>(∃ x y,Z' = [some (.ref a),some (.int k),some (.str row),some (.int i),x,y]) /\ aq H H' /\ firstM m.rules row i = iI row i n (m.rules.drop n)) ⟨⟨_,_,rfl⟩,aq.refl H,rfl⟩ ?_ ?_ ?_⟩⟩
   ·rintro n Z' H' _ ⟨_,s1,_⟩
    exact bf.of (s1 _ _ hlr)
   ·rintro n xv pt Z' H1 hx hpt ⟨⟨x,y,rfl⟩,s1,hf⟩
    rw [List.getElem?_map] at hx
    obtain ⟨r,hr0,rfl⟩:=Option.map_eq_some_iff.mp hx
    obtain ⟨R,hR1⟩:∃ R,m.rules[n]? = some R:=⟨m.rules[n]'(by rw [← hA.1];exact (List.getElem?_eq_some_iff.mp hr0).1),List.getElem?_eq_getElem _⟩
    obtain ⟨dr,pa,hr1,dp,hp1⟩:=hA.2 n r R hr0 hR1
    obtain ⟨g1,g2⟩:=hok.2 R (List.mem_of_getElem? hR1)
    obtain ⟨fe,fs,de,ds,PK⟩:=HW (P:=P) (w:=w) (base:=base) T g1
    have s2:aq H (upd H1 pt (.tup [.int n,.ref r])):=s1.trans (aq.upd hpt)
    refine ⟨pt,[.int n,.ref r],rfl,d8.of ai,rfl,_,_,rfl,_,_,rfl,rfl,?_⟩
    rw [tT hR1] at hf
    generalize upd H1 pt (.tup [.int n,.ref r]) = H2 at s2
    refine @av _ _ _ _ _ _ (bx (aA gJ (bA (aT (pv 5) rfl) PK.cl PK.me PK.ge (hr.mono (by decide)) PK.be .nil aF (aa (pv 2) (aa (pv 3) af))) bN (aI _)) ay ay) (⟨_,rfl,_,_,_,_,_,rfl,(s2 _ _ hr1),T.cE,T.cW,rfl,⟨pa,dp,_,rfl,s2 _ _ hp1,PK.ne _,_,rfl,_,rfl,pa,dp,R.signs,row,i,rfl,s2 _ _ hp1,by lia,hrow,hi,rfl,_,rfl,g7 (λh=>?_) (λh=>aZ ⟨⟨_,_,rfl⟩,s2,?_⟩)⟩⟩)
    ·refine @av _ _ _ _ _ _ (aJ (pv 4)) ⟨_,rfl,?_⟩
     rw [if_pos (show eT R row i = true from decide_eq_true h)] at hf
     have:=q H2 s2
     rw [hf] at this
     exact this
    ·rw [if_neg (by rw [eT,decide_eq_false (λz=>z h)];decide)] at hf
     exact hf
   ·rintro Z' H' ⟨h1,h2,h3⟩
    rw [List.length_map,hA.1,List.drop_length] at h3
    exact ⟨h1,h2,h3⟩
  rintro Z' H' ⟨⟨x,y,rfl⟩,s1,hn⟩
  refine @av _ _ _ _ _ _ (aJ bN) ?_
  have:=q H' s1
  rw [hn] at this
  exact this
def bS (n:Nat):V:=.int (n:Int)
def bE (on:List Nat) (d:Str) (g:Option Nat):List Nat :=
 if d = "push" then on ++ [g.getD 0] else if d = "into" then on.dropLast ++ [g.getD 0] else if d = "pop" then (if on.length = 1 then [0] else on.dropLast) else on
def Bl (R:bB):Prop:=gv R.bh -> ∃ g,R.goal = some g
theorem zE {α:Type}:∀ (l:List α) (x:α),l ≠ [] -> l.set (l.length - 1) x = l.dropLast ++ [x]
 | [],_,h=>absurd rfl h
 | [a],x,_=>rfl
 | a :: b :: r,x,_=>by
  have:=zE (b :: r) x (by simp)
  show a :: (b :: r).set ((b :: r).length - 1) x = a :: ((b :: r).dropLast ++ [x])
  rw [this]
theorem BG {n:Nat} (h:0 < n):Bo n (-1) = some (n - 1):=by
 unfold Bo
 first
  | (rw [if_neg (by lia),if_pos (by lia)];congr 1;lia)
  | (rw [if_pos (by lia)];congr 1;lia)
noncomputable def KZ (t:gp):Sp:=λvs H Q _=>∃ (lo r:Addr) (on:List Nat) (R:bB),vs = [.ref lo,.ref r] /\ H lo = some (.lst (on.map bS)) /\ dc t H r R /\ on ≠ [] /\ on.length <= 100000 /\ Bl R /\ Q .cQ (upd H lo (.lst ((bE on R.bh R.goal).map bS)))
theorem Kc {H:Hp} {a:Addr} {o:HO} (h:H a = some o):upd H a o = H:=by
 funext b
 by_cases e:b = a
 ·rw [e,ai,h]
 ·rw [au e]
theorem Gw (T:Txt K mg t):bC P w K mg base c6 1 t.pQ t.zC ["modes","rule"] (KZ t):=by
 refine T.su.ok M6 ?_ ?_
 walk_at "i"
 ·obtain ⟨lo,r,on,R,rfl,hlo,⟨dr,pa,hr1,hp1⟩,hne,hlen,hg,q⟩:=h
  have nlr:r ≠ lo:=cA hr1 hlo (by intro z;cases z)
  have hpos:0 < on.length:=by cases on with | nil=>exact absurd rfl hne | cons _ _=>simp
  refine @av _ _ _ _ _ _ (bx (aA cI (aT (pv 1) rfl) aX (aI _)) ay ay) (⟨_,rfl,_,_,_,_,_,rfl,hr1,T.cE,T.d9,rfl,⟨rfl,_,rfl,dJ (λh=>?_) (λh1=>?_)⟩⟩)
  ·have h:=V.str.inj h
   obtain ⟨g,eg⟩:=hg (.inl h)
   refine @av _ _ _ _ _ _ (bz (cH F.plainAttrs_list F.slot_list_append F.type_list_append bQ (pv 0) (aa (aT (pv 1) rfl) af))) ⟨_,rfl,.inl ⟨rfl,_,bf.of hlo⟩,⟨_,rfl,_,_,_,_,_,rfl,hr1,T.cE,T.gh,rfl,⟨lo,_,_,rfl,rfl,hlo,cZ (by rw [List.length_map];lia),?_⟩⟩⟩
   rw [bE,if_pos h,eg,List.map_append] at q
   rw [eg]
   exact q
  ·have h1:R.bh ≠ "push" := λz=>h1 (by rw [z])
   refine @av _ _ _ _ _ _ (bx (aA cI (aT (pv 1) rfl) aX (aI _)) ay ay) (⟨_,rfl,_,_,_,_,_,rfl,hr1,T.cE,T.d9,rfl,⟨rfl,_,rfl,dJ (λh=>?_) (λh2=>?_)⟩⟩)
   ·have h:=V.str.inj h
    obtain ⟨g,eg⟩:=hg (.inr h)
    refine @av _ _ _ _ _ _ (o9 (aT (pv 1) rfl) (uV (pv 0) (iu fG ak) set_list)) (⟨_,rfl,_,_,_,_,_,rfl,hr1,T.cE,T.gh,rfl,⟨_,rfl,_,rfl,lo,_,_,_,rfl,rfl,hlo,BG (by rw [List.length_map];exact hpos),?_⟩⟩)
    rw [bE,if_neg h1,if_pos h,eg,List.map_append] at q
    rw [zE _ _ (by simpa using hne),eg,← List.map_dropLast]
    exact q
   ·have h2:R.bh ≠ "into" := λz=>h2 (by rw [z])
    refine @av _ _ _ _ _ _ (bx (aA cI (aT (pv 1) rfl) aX (aI _)) ay ay) (⟨_,rfl,_,_,_,_,_,rfl,hr1,T.cE,T.d9,rfl,⟨rfl,_,rfl,dJ (λh=>?_) (λh3=>aZ ?_)⟩⟩)
    ·have h:=V.str.inj h
     rw [bE,if_neg h1,if_neg h2,if_pos h] at q
     obtain ⟨y,hy⟩:∃ y,(on.map bS)[(on.map bS).length - 1]? = some y:=⟨_,List.getElem?_eq_getElem (by rw [List.length_map];lia)⟩
     refine @ao _ _ _ _ _ _ _ (bz (LL F.plainAttrs_list F.slot_list_pop F.type_list_pop KH (pv 0))) ⟨_,rfl,.inl ⟨rfl,_,bf.of hlo⟩,lo,_,y,rfl,rfl,hlo,hy,?_⟩
     refine @av _ _ _ _ _ _ (bx (mX (je (pv 0) (λ_=>rfl))) ay ay) ⟨_,rfl,_,.inl ⟨_,bf.of ai,rfl⟩,?_⟩
     rw [← List.map_dropLast]
     by_cases h1l:on.length = 1
     ·rw [if_pos h1l] at q
      have e:on.dropLast = []:=List.eq_nil_of_length_eq_zero (by rw [List.length_dropLast,h1l])
      rw [e]
      refine Jg (@av _ _ _ _ _ _ (bz (cH F.plainAttrs_list F.slot_list_append F.type_list_append bQ (pv 0) (aa (gn rfl T.j8) af))) ⟨_,rfl,.inl ⟨rfl,_,bf.of ai⟩,lo,_,_,rfl,rfl,ai,by decide,?_⟩)
      rw [iy]
      exact q
     ·rw [if_neg h1l] at q
      have e:on.dropLast ≠ []:=λz=>by
       have:=congrArg List.length z
       rw [List.length_dropLast] at this
       simp at this
       lia
      cases hd:on.dropLast with
      | nil=>exact absurd hd e
      | cons x r =>
       rw [hd] at q
       exact uE (aZ q)
    ·have h3:R.bh ≠ "pop" := λz=>h3 (by rw [z])
     rw [bE,if_neg h1,if_neg h2,if_neg h3,Kc hlo] at q
     exact q
theorem HP {on:List Nat} {d:Str} {g:Option Nat} (h:on ≠ []):bE on d g ≠ []:=by
 unfold bE
 split
 ·simp
 ·split
  ·simp
  ·split
   ·split
    ·simp
    ·intro z
     have:=congrArg List.length z
     rw [List.length_dropLast] at this
     cases on with
     | nil=>exact h rfl
     | cons x r =>
      cases r with
      | nil=>rename_i h1 _ ;simp at *
      | cons y r=>simp at this
   ·exact h
theorem eE {on:List Nat} {k:Nat} (h:on.getLast? = some k):rA (on.map bS) (-1) = some (bS k):=by
 obtain ⟨pre,rfl⟩:∃ pre,on = pre ++ [k]:=by
  rcases List.eq_nil_or_concat on with rfl | ⟨p,x,rfl⟩
  ·simp at h
  ·simp at h
   exact ⟨p,by rw [h,List.concat_eq_append]⟩
 exact mO (k:=pre.length) (by simp) (by simp)
structure dZ (ms:List aC):Prop where
 pos:0 < ms.length
 len:ms.length <= 200
 ok:∀ m ∈ ms,vA m.rules
 bh:∀ m ∈ ms,∀ R ∈ m.rules,R.bh ∈ jN
 goal:∀ m ∈ ms,∀ R ∈ m.rules,gv R.bh -> ∃ g,R.goal = some g /\ g < ms.length
theorem dZ.gd {ms:List aC} (G:dZ ms) {m:aC} {R:bB} (h:m ∈ ms) (h2:R ∈ m.rules):Bl R:=λz=>let ⟨g,e,_⟩:=G.goal m h R h2 z;⟨g,e⟩
def ia (ms:List aC) (on:List Nat):Prop:=on ≠ [] /\ ∀ x ∈ on,x < ms.length
theorem ia.bh {ms:List aC} (G:dZ ms) {on:List Nat} (h:ia ms on) {m:aC} {R:bB} (h1:m ∈ ms) (h2:R ∈ m.rules):ia ms (bE on R.bh R.goal):=by
 refine ⟨HP h.1,λx hx=>?_⟩
 unfold bE at hx
 split at hx
 ·rename_i e
  obtain ⟨g,eg,hg⟩:=G.goal m h1 R h2 (.inl e)
  rcases List.mem_append.mp hx with hx | hx
  ·exact h.2 x hx
  ·rw [List.mem_singleton.mp hx,eg];exact hg
 ·split at hx
  ·rename_i e
   obtain ⟨g,eg,hg⟩:=G.goal m h1 R h2 (.inr e)
   rcases List.mem_append.mp hx with hx | hx
   ·exact h.2 x (List.dropLast_subset _ hx)
   ·rw [List.mem_singleton.mp hx,eg];exact hg
  ·split at hx
   ·split at hx
    ·rw [List.mem_singleton.mp hx];exact G.pos
    ·exact h.2 x (List.dropLast_subset _ hx)
   ·exact h.2 x hx
def bM (on:List Nat):Nat:=on.getLastD 0
theorem fJ {on:List Nat} (h:on ≠ []):on.getLast? = some (bM on):=by
 unfold bM
 rw [List.getLastD_eq_getLast?,List.getLast?_eq_some_getLast h]
 rfl
theorem ly {on:List Nat} (h:on ≠ []):bM on ∈ on:=List.mem_of_getLast? (fJ h)
theorem ia.mode {ms:List aC} {on:List Nat} (h:ia ms on):∃ m,ms[bM on]? = some m:=⟨ms[bM on]'(h.2 _ (ly h.1)),List.getElem?_eq_getElem _⟩
def c8 (rs:List bB) (row:Str) (i:Nat):Option bB:=(firstM rs row i).bind (rs[·]?)
def gX (rs:List bB) (row:Str):Option bB:=(c8 rs row 0).bind λR=>if bX R.sort = true then none else some R
theorem gY {row:Str} {i:Nat}:∀ {rs:List bB} {k n:Nat},iI row i k rs = some n -> k <= n /\ ∃ R,rs[n - k]? = some R /\ eT R row i = true /\ ∀ j,j < n - k -> ∀ R',rs[j]? = some R' -> eT R' row i = false
 | [],k,n,h=>by cases h
 | R :: r,k,n,h=>by
  rw [iI] at h
  split at h
  ·rename_i hf
   cases h
   refine ⟨Nat.le_refl _,R,by rw [Nat.sub_self];rfl,hf,λj hj=>?_⟩
   lia
  ·rename_i hf
   obtain ⟨h1,R',h2,h3,h4⟩:=gY h
   have e:n - k = (n - (k + 1)) + 1:=by lia
   refine ⟨by lia,R',by rw [e,List.getElem?_cons_succ];exact h2,h3,λj hj R'' hR=>?_⟩
   cases j with
   | zero =>
    rw [List.getElem?_cons_zero] at hR
    cases hR
    simpa using hf
   | succ j=>exact h4 j (by lia) R'' (by rw [List.getElem?_cons_succ] at hR;exact hR)
theorem wL {rs:List bB} {row:Str} {i n:Nat} (h:firstM rs row i = some n):∃ R,rs[n]? = some R /\ c8 rs row i = some R /\ eT R row i = true:=by
 obtain ⟨_,R,h2,h3,_⟩:=gY h
 rw [Nat.sub_zero] at h2
 exact ⟨R,h2,by rw [c8,h];exact h2,h3⟩
noncomputable def MB (t:gp):Sp:=λvs H Q _=>∃ (a:Addr) (ms:List aC) (m:aC) (k:Nat) (row:Str),vs = [.ref a,.int k,.str row] /\ IsRules t H a ms /\ ms[k]? = some m /\ vA m.rules /\ row.length <= 1000 /\
 ∀ H',aq H H' -> (gX m.rules row = none -> Q .cQ H') /\ ∀ R r,gX m.rules row = some R -> dc t H r R -> Q (.ref r) H'
theorem G5 (T:Txt K mg t):bC P w K mg base c6 3 t.rL t.wO ["rules","mode","row"] (MB t):=by
 refine T.oW.ok An ?_ ?_
 walk_at "i"
 ·obtain ⟨a,ms,m,k,row,rfl,hR,hm,hok,hrow,q⟩:=h
  refine @ao _ _ _ _ _ _ _ (aB (i:=3) An.nd rfl (Or.inl rfl) (aM (GL T) (hr.mono (by decide)) rfl T.DO T.qL.kp (T.qL.binds (by walk_at "4")) .nil aF (aa (pv 0) (aa (pv 1) (aa (pv 2) (aa ak af)))))) ⟨_,rfl,_,rfl,_,rfl,a,ms,m,k,0,row,rfl,hR,hm,hok,hrow,by lia,λH1 s1=>?_⟩
  obtain ⟨dx,lm,as,b,lr,dm,rs,ha,hlm,hal,hb,hmo,hlr,hA⟩:=hR.mode hm
  cases hf:firstM m.rules row 0 with
  | none =>
   have e:gX m.rules row = none:=by rw [gX,c8,hf];rfl
   exact @ao _ _ _ _ _ _ _ (bx (aA qI (pv 3) bN (aI _)) ay ay) ⟨_,rfl,rfl,_,rfl,dJ (λ_=>@av _ _ _ _ _ _ (aJ bN) ((q H1 s1).1 e)) (λh=>absurd rfl h)⟩
  | some n =>
   obtain ⟨R,hn,hru,_⟩:=wL hf
   obtain ⟨r,hr0,hr1⟩:=hA.at hn
   obtain ⟨g1,g2⟩:=hok.2 R (List.mem_of_getElem? hn)
   obtain ⟨fe,fs,de,ds,PK⟩:=HW (P:=P) (w:=w) (base:=base) T g1
   refine @ao _ _ _ _ _ _ _ (bx (aA qI (pv 3) bN (aI _)) ay ay) ⟨_,rfl,rfl,_,rfl,dJ (λh=>by cases h) (λ_=>aZ ?_)⟩
   refine @ao _ _ _ _ _ _ _ (aB (i:=4) An.nd rfl (Or.inl rfl) (aL aS (aT (aL aS (aT (pv 0) rfl) (pv 1) (λ_ _=>rfl)) rfl) (pv 3) (λ_ _=>rfl))) (⟨_,rfl,_,_,_,_,_,rfl,(s1 _ _ ha),T.g6,T.cB,rfl,⟨_,rfl,_,_,_,_,rfl,rfl,bf.of (s1 _ _ hlm),c9 hb,b,t.bZ,dm,_,_,rfl,s1 _ _ hmo,T.fB,T.dF,rfl,_,rfl,_,_,_,_,rfl,rfl,bf.of (s1 _ _ hlr),c9 hr0,?_⟩⟩)
   obtain ⟨dr,pa,o1,dp,o2⟩:=id hr1
   have e:gX m.rules row = if bX R.sort = true then none else some R:=by rw [gX,hru];rfl
   refine @av _ _ _ _ _ _ (aJ (cX (i9 (b6 (aT (pv 4) rfl) PK.cl PK.ms PK.gs (hr.mono (by decide)) PK.bs .nil aF)) bN (pv 4))) (⟨_,rfl,_,_,_,_,_,rfl,(s1 _ _ o1),T.cE,T.cW,rfl,⟨pa,dp,_,rfl,s1 _ _ o2,PK.ns _,_,rfl,_,rfl,OG (λh=>?_) (λh=>⟨_,rfl,?_⟩)⟩⟩)
   ·rw [if_pos h] at e
    exact (q H1 s1).1 e
   ·rw [if_neg (by rw [h];decide)] at e
    exact (q H1 s1).2 R r e hr1
def eF (ms:List aC) (k:Nat) (row:Str):Option bB:=(ms[k]?).bind λm=>gX m.rules row
def gr (ms:List aC) (row:Str) (first:Nat):Nat -> List Nat -> List Nat -> Option (List Nat)
 | 0,_,_=>none
 | f + 1,on,ring=>match eF ms (bM on) row with
  | none=>none
  | some R=>if R.bh = "pop" /\ on.length = 1 /\ first ≠ 0 then none else if bM (bE on R.bh R.goal) = first then some (ring ++ [bM on]) else gr ms row first f (bE on R.bh R.goal) (ring ++ [bM on])
def dQ (ms:List aC) (first:Nat) (row:Str):Option (List Nat):=gr ms row first ms.length [first] []
theorem qR {on:List Nat} {d:Str} {g:Option Nat}:(bE on d g).length <= on.length + 1:=by
 unfold bE
 split
 ·simp
 ·split
  ·simp
  ·split
   ·split
    ·simp
    ·simp;lia
   ·lia
theorem qp {rs:List bB} {row:Str} {R:bB} (h:gX rs row = some R):R ∈ rs:=by
 unfold gX at h
 cases e:c8 rs row 0 with
 | none=>rw [e] at h;cases h
 | some R' =>
  rw [e] at h
  have:(if bX R'.sort = true then none else some R') = some R:=h
  split at this
  ·cases this
  ·cases this
   unfold c8 at e
   cases e2:firstM rs row 0 with
   | none=>rw [e2] at e;cases e
   | some n=>rw [e2] at e;exact List.mem_of_getElem? e
noncomputable def zL (t:gp):Sp:=λvs H Q _=>∃ (a:Addr) (ms:List aC) (first:Nat) (row:Str),vs = [.ref a,.int first,.str row] /\ IsRules t H a ms /\ dZ ms /\ first < ms.length /\ row.length <= 1000 /\
 ∀ H',aq H H' -> (dQ ms first row = none -> Q .cQ H') /\ ∀ ring l,dQ ms first row = some ring -> H' l = some (.lst (ring.map bS)) -> H l = none -> Q (.ref l) H'
theorem Fi (T:Txt K mg t):bC P w K mg base c6 4 t.rP t.vJ ["rules","first","row"] (zL t):=by
 refine T.sj.ok rN ?_ ?_
 walk_at "i"
 ·obtain ⟨a,ms,first,row,rfl,hR,G,hfirst,hrow,q⟩:=h
  refine @ao _ _ _ _ _ _ _ (aB (i:=3) rN.nd rfl (Or.inl rfl) (bH af)) ⟨by show 0 <= sizeLine;decide,λlg hlg=>?_⟩
  have s1:aq H (upd H lg (.lst [])):=aq.upd hlg
  have hg1:upd H lg (.lst []) lg = some (.lst []):=ai
  generalize upd H lg (.lst []) = H1 at s1 hg1
  refine @ao _ _ _ _ _ _ _ (aB (i:=4) rN.nd rfl (Or.inl rfl) (bH (aa (pv 1) af))) ⟨_,rfl,by show 1 <= sizeLine;decide,λlo hlo=>?_⟩
  have s2:aq H1 (upd H1 lo (.lst [.int first])):=aq.upd hlo
  have ho2:upd H1 lo (.lst [.int first]) lo = some (.lst ([first].map bS)):=ai
  have hg2:=s2 _ _ hg1
  have ngo:lg ≠ lo:=aj hg1 hlo
  have hlo0:H lo = none:=s1.free hlo
  generalize upd H1 lo (.lst [.int first]) = H2 at s2 ho2 hg2
  have s2:=s1.trans s2
  show At _ _ _ [some (.ref a),some (.int first),some (.str row),some (.ref lg),some (.ref lo),none] H2
  obtain ⟨dx,lm,as,ls,ha,hlm,hM⟩:=id hR
  refine @aG _ _ _ _ _ _ _ (λZ' H'=>(∃ x,Z' = [some (.ref a),some (.int first),some (.str row),some (.ref lg),some (.ref lo),x]) /\ aq H H' /\ dQ ms first row = none) (gu PassesOwn.never (aA ff (aO aR (by rfl) T.bK (by decide +kernel) (aa (pv 3) af)) (aO aR (by rfl) T.bK (by decide +kernel) (aa (aT (pv 0) rfl) af)) (aI _)) ay) ?_ ?_
  ·refine ⟨λf Z' H'=>∃ (on ring:List Nat),(∃ x,Z' = [some (.ref a),some (.int first),some (.str row),some (.ref lg),some (.ref lo),x]) /\ H' lg = some (.lst (ring.map bS)) /\ H' lo = some (.lst (on.map bS)) /\ aq H H' /\ f + ring.length = ms.length /\ ia ms on /\ on.length <= ring.length + 1 /\ dQ ms first row = gr ms row first f on ring,⟨ms.length,[first],[],⟨_,rfl⟩,hg2,ho2,s2,by simp,⟨by simp,by simpa using hfirst⟩,by simp,rfl⟩,?_⟩
   rintro f Z' H3 ⟨on,ring,⟨x,rfl⟩,hg3,ho3,s3,hfl,hon,honl,hrec⟩
   have hlen:=G.len
   refine ⟨_,rfl,_,_,rfl,.inl (bf.of hg3),⟨_,rfl,_,_,_,_,_,rfl,(s3 _ _ ha),T.g6,T.cB,rfl,⟨_,_,rfl,.inl (bf.of (s3 _ _ hlm)),_,_,rfl,rfl,_,rfl,dJ (λh=>?_) (λh=>?_)⟩⟩⟩
   ·rw [List.length_map,List.length_map,hM.la] at h
    obtain ⟨f',rfl⟩:∃ f',f = f' + 1:=⟨f - 1,by lia⟩
    obtain ⟨m,hm⟩:=hon.mode
    have hmm:=List.mem_of_getElem? hm
    have hid:eF ms (bM on) row = gX m.rules row:=by rw [eF,hm];rfl
    rw [gr,hid] at hrec
    refine ⟨_,λZ' H' z=>z,?_⟩
    obtain ⟨dx',lm',as',b,lr,dm,rs,ha',hlm',hal',hb,hmo,hlr,hA⟩:=(hR.same s3).mode hm
    cases hi0:gX m.rules row with
    | none =>
     rw [hi0] at hrec
     refine @ao _ _ _ _ _ _ _ (aB (i:=5) rN.nd rfl (Or.inl rfl) (aM (G5 T) (hr.mono (by decide)) rfl T.FA T.oW.kp (T.oW.binds (by walk_at "3")) .nil aF (aa (pv 0) (aa (aL aS (pv 4) (iu fG ak) (λ_ _=>rfl)) (aa (pv 2) af))))) ⟨_,rfl,_,rfl,_,rfl,_,_,_,_,rfl,rfl,bf.of ho3,eE (fJ hon.1),_,rfl,a,ms,m,bM on,row,rfl,hR.same s3,hm,G.ok m hmm,hrow,λH4 s4=>⟨λ_=>?_,(λR r e=>by rw [hi0] at e;cases e)⟩⟩
     exact @ao _ _ _ _ _ _ _ (bx (aA qI (pv 5) bN (aI _)) ay ay) ⟨_,rfl,rfl,_,rfl,dJ (λ_=>@av _ _ _ _ _ _ (aJ bN) ((q H4 (s3.trans s4)).1 hrec)) (λh=>absurd rfl h)⟩
    | some R =>
     rw [hi0] at hrec
     have hRm:=qp hi0
     refine @ao _ _ _ _ _ _ _ (aB (i:=5) rN.nd rfl (Or.inl rfl) (aM (G5 T) (hr.mono (by decide)) rfl T.FA T.oW.kp (T.oW.binds (by walk_at "3")) .nil aF (aa (pv 0) (aa (aL aS (pv 4) (iu fG ak) (λ_ _=>rfl)) (aa (pv 2) af))))) ⟨_,rfl,_,rfl,_,rfl,_,_,_,_,rfl,rfl,bf.of ho3,eE (fJ hon.1),_,rfl,a,ms,m,bM on,row,rfl,hR.same s3,hm,G.ok m hmm,hrow,λH4 s4=>⟨(λe=>by rw [hi0] at e;cases e),λR' r e hr1=>?_⟩⟩
     rw [hi0] at e
     cases e
     refine @ao _ _ _ _ _ _ _ (bx (aA qI (pv 5) bN (aI _)) ay ay) ⟨_,rfl,rfl,_,rfl,dJ (λh=>by cases h) (λ_=>aZ ?_)⟩
     have hr4:=hr1.same s4
     have hg4:=s4 _ _ hg3
     have ho4:=s4 _ _ ho3
     obtain ⟨dr,pa,o1,hpat⟩:=id hr4
     refine @aG _ _ _ _ _ _ _ (λZ' H'=>Z' = [some (.ref a),some (.int first),some (.str row),some (.ref lg),some (.ref lo),some (.ref r)] /\ H' = H4 /\ ¬ (R.bh = "pop" /\ on.length = 1 /\ first ≠ 0)) (bx (PW.pt (dH (aA cI (aT (pv 5) rfl) aX (aI _)) (dH (aA cI (aO aR (by rfl) T.bK (by decide +kernel) (aa (pv 4) af)) ak (aI _)) (di (aA lE (pv 1) (gn rfl T.j8) (aI _)))))) ay ay) ?_ ?_
     ·refine ⟨_,rfl,_,_,_,_,_,rfl,o1,T.cE,T.d9,rfl,⟨rfl,_,rfl,dJ (λh1=>?_) (λh1=>aZ ⟨rfl,rfl,λz=>h1 (by rw [z.1])⟩)⟩⟩
      refine ⟨_,rfl,_,_,rfl,.inl (bf.of ho4),rfl,_,rfl,dJ (λh2=>?_) (λh2=>aZ ⟨rfl,rfl,λz=>h2 (by rw [List.length_map,z.2.1];rfl)⟩)⟩
      refine ⟨_,rfl,rfl,_,rfl,g7 (λh3=>?_) (λh3=>aZ ⟨rfl,rfl,λz=>z.2.2 (by have:=V.int.inj h3;lia)⟩)⟩
      have h2:=V.int.inj h2
      rw [List.length_map] at h2
      have hc:R.bh = "pop" /\ on.length = 1 /\ first ≠ 0:=⟨V.str.inj h1,by lia,λz=>h3 (by rw [z];rfl)⟩
      simp only [if_pos hc] at hrec
      exact @av _ _ _ _ _ _ (aJ bN) ((q H4 (s3.trans s4)).1 hrec)
     rintro Z' H' ⟨rfl,e,hnc⟩
     rw [e]
     clear e H'
     simp only [if_neg hnc] at hrec
     refine @ao _ _ _ _ _ _ _ (bz (cH F.plainAttrs_list F.slot_list_append F.type_list_append bQ (pv 3) (aa (aL aS (pv 4) (iu fG ak) (λ_ _=>rfl)) af))) ⟨_,rfl,.inl ⟨rfl,_,bf.of hg4⟩,_,rfl,_,rfl,_,_,_,_,rfl,rfl,bf.of ho4,eE (fJ hon.1),lg,_,_,rfl,rfl,hg4,cZ (by rw [List.length_map];lia),?_⟩
     have hg5:upd H4 lg (.lst (ring.map bS ++ [bS (bM on)])) lg = some (.lst ((ring ++ [bM on]).map bS)):=by rw [ai,List.map_append];rfl
     have ho5:upd H4 lg (.lst (ring.map bS ++ [bS (bM on)])) lo = some (.lst (on.map bS)):=by rw [au (Ne.symm ngo)];exact ho4
     have hr5:dc t (upd H4 lg (.lst (ring.map bS ++ [bS (bM on)]))) r R:=hr4.kJ hg4
     have s5:aq H (upd H4 lg (.lst (ring.map bS ++ [bS (bM on)]))):=λb o hb=>by rw [au (aj hb hlg)];exact s4 _ _ (s3 _ _ hb)
     generalize upd H4 lg (.lst (ring.map bS ++ [bS (bM on)])) = H5 at hg5 ho5 hr5 s5
     refine @ao _ _ _ _ _ _ _ (bz (aM (Gw T) (hr.mono (by decide)) rfl T.D8 T.su.kp (T.su.binds (by walk_at "2")) .nil aF (aa (pv 4) (aa (pv 5) af)))) ⟨_,rfl,_,rfl,lo,r,on,R,rfl,ho5,hr5,hon.1,by lia,G.gd hmm hRm,?_⟩
     have hon6:=hon.bh G hmm hRm
     have hol6:(bE on R.bh R.goal).length <= on.length + 1:=qR
     have hg6:upd H5 lo (.lst ((bE on R.bh R.goal).map bS)) lg = some (.lst ((ring ++ [bM on]).map bS)):=by rw [au ngo];exact hg5
     have s6:aq H (upd H5 lo (.lst ((bE on R.bh R.goal).map bS))):=λb o hb=>by rw [au (aj hb hlo0)];exact s5 _ _ hb
     refine @av _ _ _ _ _ _ (bx (aA cI (aL aS (pv 4) (iu fG ak) (λ_ _=>rfl)) (pv 1) (aI _)) ay ay) ⟨_,rfl,_,rfl,_,_,_,_,rfl,rfl,bf.of ai,eE (fJ hon6.1),_,rfl,rfl,_,rfl,dJ (λh=>?_) (λh=>aZ ?_)⟩
     ·have h:bM (bE on R.bh R.goal) = first:=by have:=V.int.inj h;lia
      rw [if_pos h] at hrec
      exact @av _ _ _ _ _ _ (aJ (pv 3)) ⟨_,rfl,(q _ s6).2 _ lg hrec hg6 hlg⟩
     ·have h:¬ bM (bE on R.bh R.goal) = first:=λz=>h (by rw [← z];rfl)
      rw [if_neg h] at hrec
      refine ⟨f',by lia,_,_,⟨_,rfl⟩,hg6,ai,s6,?_,hon6,?_,hrec⟩
      ·simp only [List.length_append,List.length_cons,List.length_nil];lia
      ·simp only [List.length_append,List.length_cons,List.length_nil];lia
   ·rw [List.length_map,List.length_map,hM.la] at h
    have:f = 0:=by lia
    subst this
    exact ⟨⟨_,rfl⟩,s3,hrec⟩
  rintro Z' H' ⟨⟨x,rfl⟩,s3,hn⟩
  exact @av _ _ _ _ _ _ (aJ bN) ((q H' s3).1 hn)
abbrev uJ:Str:=" !\"#$&'()*+,-./0123456789:;<=>?@ABCDEFGHIJKLMNOPQRSTUVWXYZ[\\]^_`abcdefghijklmnopqrstuvwxyz{|}~"
def cU:List Str:="" :: uJ.cps.toList.map λc=>(⟨#[c]⟩:Str)
noncomputable def Hu:Sp:=λvs H Q _=>vs = [] /\ ∀ l H',H' l = some (.lst (cU.map V.str)) -> H l = none -> aq H H' -> Q (.ref l) H'
theorem Lm (T:Txt K mg t):bC P w K mg base c6 1 t.r8 t.yj [] Hu:=by
 refine T.wN.ok J5 (λvs H Q E h=>?_) (λcdv A outer s H vs Q E hr h=>BU ?_)
 ·obtain ⟨rfl,_⟩:=h
  rfl
 ·obtain ⟨rfl,q⟩:=h
  refine @av _ _ _ _ _ _ (aJ (aK m8 (bH (aa aX af)) (dU (Ah rfl) (by rfl) T.iO (by decide +kernel) (aa (gn rfl T.Cq) af)))) ⟨by show 1 <= sizeLine;decide,λl1 hl1=>⟨_,rfl,by decide +kernel,λl2 hl2=>?_⟩⟩
  refine ⟨l1,l2,_,_,rfl,rfl,aq.upd hl2 _ _ ai,ai,b7 (by simp only [qe,List.length_map,List.length_cons,List.length_nil];decide +kernel),λl hl=>?_⟩
  refine q l _ ?_ (((aq.upd hl1).to hl2).free hl) (((aq.upd hl1).to hl2).to hl)
  rw [ai,cU,List.map_cons,List.map_map]
  rfl
theorem Cw:∀ r ∈ cU,r.length <= 1:=by
 intro r hr
 rcases List.mem_cons.mp hr with e | e
 ·rw [e];decide
 ·obtain ⟨c,_,rfl⟩:=List.mem_map.mp e
  exact Nat.le_refl 1
def gG (ms:List aC) (row:Str):Nat -> Nat -> Option (List Nat)
 | 0,_=>none
 | n + 1,k=>match dQ ms k row with
  | some r=>some r
  | none=>gG ms row n (k + 1)
def gS (ms:List aC):List Str -> Option (List Nat × Str)
 | []=>none
 | row :: r=>match gG ms row ms.length 0 with
  | some ring=>some (ring,row)
  | none=>gS ms r
def jE (ms:List aC):Option (List Nat × Str):=gS ms cU
theorem mz {ms:List aC} {row:Str}:∀ {n k:Nat},gG ms row n k = none -> ∀ j,k <= j -> j < k + n -> dQ ms j row = none
 | 0,k,_,j,h1,h2=>by lia
 | n + 1,k,h,j,h1,h2=>by
  rw [gG] at h
  cases e:dQ ms k row with
  | some r=>rw [e] at h;cases h
  | none =>
   rw [e] at h
   by_cases z:j = k
   ·rw [z];exact e
   ·exact mz h j (by lia) (by lia)
theorem kC {ms:List aC}:∀ {rows:List Str},gS ms rows = none -> ∀ row ∈ rows,∀ j,j < ms.length -> dQ ms j row = none
 | [],_,row,h,_,_=>by cases h
 | r :: rs,h,row,hr,j,hj=>by
  rw [gS] at h
  cases e:gG ms r ms.length 0 with
  | some r=>rw [e] at h;cases h
  | none =>
   rw [e] at h
   rcases List.mem_cons.mp hr with z | z
   ·rw [z];exact mz e j (Nat.zero_le _) (by lia)
   ·exact kC h row z j hj
theorem AJ {ms:List aC} (h:jE ms = none):∀ row ∈ cU,∀ j,j < ms.length -> dQ ms j row = none:=kC h
def nameAt (ms:List aC) (k:Nat):Str:=match ms[k]? with
 | some m=>m.name
 | none=>""
def Mw (row:Str):V:=if row = "" then .cQ else .str row
noncomputable def Ml (t:gp):Sp:=λvs H Q _=>∃ (a:Addr) (ms:List aC),vs = [.ref a] /\ IsRules t H a ms /\ dZ ms /\
 ∀ H',aq H H' -> (jE ms = none -> Q .cQ H') /\ ∀ ring row p l,jE ms = some (ring,row) -> H' p = some (.tup [.ref l,Mw row]) -> H' l = some (.lst ((ring.map (nameAt ms)).map V.str)) -> Q (.ref p) H'
theorem ya {ms:List aC} (G:dZ ms) {row:Str} {first:Nat}:∀ {f:Nat} {on ring r:List Nat},ia ms on -> (∀ x ∈ ring,x < ms.length) -> gr ms row first f on ring = some r -> ∀ x ∈ r,x < ms.length
 | 0,on,ring,r,_,_,h=>by cases h
 | f + 1,on,ring,r,ho,hr,h=>by
  rw [gr] at h
  obtain ⟨m,hm⟩:=ho.mode
  have hid:eF ms (bM on) row = gX m.rules row:=by rw [eF,hm];rfl
  rw [hid] at h
  have h2:∀ x ∈ ring ++ [bM on],x < ms.length:=λx hx=>by
   rcases List.mem_append.mp hx with hx | hx
   ·exact hr x hx
   ·rw [List.mem_singleton.mp hx];exact ho.2 _ (ly ho.1)
  cases e:gX m.rules row with
  | none=>rw [e] at h;cases h
  | some R =>
   rw [e] at h
   have h:(if R.bh = "pop" /\ on.length = 1 /\ first ≠ 0 then none else if bM (bE on R.bh R.goal) = first then some (ring ++ [bM on]) else gr ms row first f (bE on R.bh R.goal) (ring ++ [bM on])) = some r:=h
   split at h
   ·cases h
   ·split at h
    ·cases h;exact h2
    ·exact ya G (ho.bh G (List.mem_of_getElem? hm) (qp e)) h2 h
theorem tu {ms:List aC} {row:Str} {first:Nat}:∀ {f:Nat} {on ring r:List Nat},gr ms row first f on ring = some r -> r.length <= ring.length + f
 | 0,on,ring,r,h=>by cases h
 | f + 1,on,ring,r,h=>by
  rw [gr] at h
  cases e:eF ms (bM on) row with
  | none=>rw [e] at h;cases h
  | some R =>
   rw [e] at h
   have h:(if R.bh = "pop" /\ on.length = 1 /\ first ≠ 0 then none else if bM (bE on R.bh R.goal) = first then some (ring ++ [bM on]) else gr ms row first f (bE on R.bh R.goal) (ring ++ [bM on])) = some r:=h
   split at h
   ·cases h
   ·split at h
    ·cases h;simp
    ·have:=tu h
     rw [List.length_append,List.length_cons,List.length_nil] at this
     lia
theorem EV (T:Txt K mg t):bC P w K mg base c6 5 t.qc t.yD ["rules"] (Ml t):=by
 refine T.p9.ok pU ?_ ?_
 walk_at "i"
 ·obtain ⟨a,ms,rfl,hR,G,q⟩:=h
  have hlen:=G.len
  refine @aG _ _ _ _ _ _ _ (λZ' H'=>(∃ x y z,Z' = [some (.ref a),x,y,z]) /\ aq H H' /\ jE ms = none) (dj PassesOwn.never rfl (eS (Dg (Lm T) (hr.mono (by decide)) rfl T.JT T.wN.kp (T.wN.binds (by walk_at "0")) .nil aF)) (bJ (i:=1) pU.nd rfl (Or.inl rfl)) ay) ?_ ?_
  ·refine ⟨rfl,λl H1 hl1 hl0 s1=>⟨l,rfl,⟨_,bf.of hl1⟩,gE (xs:=cU.map V.str) (λi Z' H'=>(∃ x y z,Z' = [some (.ref a),x,y,z]) /\ H' l = some (.lst (cU.map V.str)) /\ aq H H' /\ jE ms = gS ms (cU.drop i)) ⟨⟨_,_,_,rfl⟩,hl1,s1,rfl⟩ ?_ ?_ ?_⟩⟩
   ·rintro i Z' H' _ ⟨_,h,_⟩
    exact bf.of h
   ·rintro i xv Z' H2 hx ⟨⟨x,y,z,rfl⟩,hl2,s2,hrec⟩
    rw [List.getElem?_map] at hx
    obtain ⟨row,hrow,rfl⟩:=Option.map_eq_some_iff.mp hx
    have hrl:=Cw row (List.mem_of_getElem? hrow)
    rw [dO hrow,gS] at hrec
    obtain ⟨dx,lm,as,ls,ha,hlm,hM⟩:=id hR
    refine @av _ _ _ _ _ _ (dj PassesOwn.never rfl (dS rfl T.fE (aa (aO aR (by rfl) T.bK (by decide +kernel) (aa (aT (pv 0) rfl) af)) af)) (bJ (i:=2) pU.nd rfl (Or.inl rfl)) ay) (⟨_,rfl,_,_,_,_,_,rfl,(s2 _ _ ha),T.g6,T.cB,rfl,⟨_,_,rfl,.inl (bf.of (s2 _ _ hlm)),(ms.length:Int),by rw [List.length_map,hM.la],by lia,by lia,fX (n:=((ms.length:Nat):Int).toNat) (λk Z' H'=>(∃ y z,Z' = [some (.ref a),some (.str row),y,z]) /\ H' l = some (.lst (cU.map V.str)) /\ aq H H' /\ gG ms row ms.length 0 = gG ms row (ms.length - k) k) ⟨⟨_,_,rfl⟩,hl2,s2,rfl⟩ ?_ ?_⟩⟩)
    ·rintro k Z' H3 hk ⟨⟨y,z,rfl⟩,hl3,s3,hrow3⟩
     have hk':k < ms.length:=by lia
     rw [show ms.length - k = (ms.length - (k + 1)) + 1 by lia,gG] at hrow3
     cases hf:dQ ms k row with
     | none =>
      rw [hf] at hrow3
      refine @ao _ _ _ _ _ _ _ (aB (i:=3) pU.nd rfl (Or.inl rfl) (aM (Fi T) (hr.mono (by decide)) rfl T.DH T.sj.kp (T.sj.binds (by walk_at "3")) .nil aF (aa (pv 0) (aa (pv 2) (aa (pv 1) af))))) ⟨_,rfl,_,rfl,_,rfl,a,ms,k,row,(by rw [Int.zero_add];rfl),hR.same s3,G,hk',by lia,λH4 s4=>⟨λ_=>?_,(λring lg e=>by rw [hf] at e;cases e)⟩⟩
      exact @av _ _ _ _ _ _ (bx (aA gJ (pv 3) bN (aI _)) ay ay) ⟨_,rfl,rfl,_,rfl,g7 (λh=>absurd rfl h) (λ_=>aZ ⟨⟨_,_,rfl⟩,s4 _ _ hl3,s3.trans s4,hrow3⟩)⟩
     | some ring =>
      rw [hf] at hrow3
      have hrec:jE ms = some (ring,row):=by rw [hrec,hrow3]
      refine @ao _ _ _ _ _ _ _ (aB (i:=3) pU.nd rfl (Or.inl rfl) (aM (Fi T) (hr.mono (by decide)) rfl T.DH T.sj.kp (T.sj.binds (by walk_at "3")) .nil aF (aa (pv 0) (aa (pv 2) (aa (pv 1) af))))) ⟨_,rfl,_,rfl,_,rfl,a,ms,k,row,(by rw [Int.zero_add];rfl),hR.same s3,G,hk',by lia,λH4 s4=>⟨(λe=>by rw [hf] at e;cases e),λring' lg e hlg hlg0=>?_⟩⟩
      rw [hf] at e
      cases e
      have s4':=s3.trans s4
      have hlt:∀ x ∈ ring,x < ms.length:=ya G ⟨by simp,by simpa using hk'⟩ (by simp) hf
      have hrl2:ring.length < 1000000:=by
       have:=tu hf
       simp only [List.length_nil] at this
       lia
      refine @av _ _ _ _ _ _ (bx (aA gJ (pv 3) bN (aI _)) ay ay) ⟨_,rfl,rfl,_,rfl,g7 (λ_=>?_) (λh=>by cases h)⟩
      refine @av _ _ _ _ _ _ (@aJ _ _ _ _ (@ez _ _ _ _ _ (@aa _ _ _ _ _ (@gK _ (az Bp) _ ["rules","row","first","ring"] _ _ ("mode") _ _ [("rules",0)] _ _ (by walk_at "ck") (@eS _ _ _ _ (pv 3)) (λ_ _ _ _=>by exact (@oG _ K _ _ _ _ (@aL _ _ _ _ _ _ _ (xO (K:=K) rfl) (@oG _ K _ _ _ _ (pv 0) rfl (by left)) (pv 1) (λ_ _=>rfl)) rfl (by left))) (by left) (by left) (by left) (by left)) (@aa _ _ _ _ _ (@cX _ _ _ _ _ _ _ _ (@je _ _ _ (pv 1) (λ_=>rfl)) (pv 1) bN) af (by left)) (by left)))) ⟨_,rfl,lg,rfl,⟨_,bf.of hlg⟩,gx (xs:=ring.map bS) (λi ys H5=>ys = ((ring.take i).map (nameAt ms)).map V.str /\ aq H4 H5) ⟨rfl,aq.refl H4⟩ (by rw [List.length_map];exact Nat.lt_trans hrl2 (by decide)) ?_ ?_ ?_⟩
      ·rintro i ys H5 _ ⟨_,s5⟩
       exact bf.of (s5 _ _ hlg)
      ·rintro i xv ys H5 hx hyl ⟨rfl,s5⟩
       rw [List.getElem?_map] at hx
       obtain ⟨n,hn,rfl⟩:=Option.map_eq_some_iff.mp hx
       obtain ⟨m,hm⟩:∃ m,ms[n]? = some m:=⟨ms[n]'(hlt n (List.mem_of_getElem? hn)),List.getElem?_eq_getElem _⟩
       obtain ⟨dx,lm,as,b,lr,dm,rs,ha,hlm,hal,hb,hmo,hlr,hA⟩:=(hR.same (s4'.trans s5)).mode hm
       refine ⟨_,rfl,_,_,_,_,_,rfl,ha,T.g6,T.cB,rfl,⟨_,rfl,_,_,_,_,rfl,rfl,bf.of hlm,c9 hb,b,t.bZ,dm,_,_,rfl,hmo,T.fB,T.gg,rfl,?_⟩⟩
       have hi:=(List.getElem?_eq_some_iff.mp hn).1
       refine dh (by rw [List.length_map];exact hi) hyl ⟨?_,s5⟩
       rw [take_snoc hn,List.map_append,List.map_append]
       show _ = _ ++ [V.str (nameAt ms n)]
       rw [nameAt,hm]
      ·rintro ys H5 hyl ⟨rfl,s5⟩ D hD
       have e5:ring.take (ring.map bS).length = ring:=by rw [List.length_map,List.take_length]
       rw [e5]
       have s6:aq H (upd H5 D (.lst ((ring.map (nameAt ms)).map V.str))):=(s4'.trans s5).to hD
       have hD6:upd H5 D (.lst ((ring.map (nameAt ms)).map V.str)) D = some (.lst ((ring.map (nameAt ms)).map V.str)):=ai
       generalize upd H5 D (.lst ((ring.map (nameAt ms)).map V.str)) = H6 at s6 hD6
       by_cases h0:row = ""
       ·refine ⟨_,rfl,false,⟨b7 (by lia),(by rw [h0];rfl)⟩,uE ⟨by show 2 <= sizeLine;decide,λtp htp=>?_⟩⟩
        exact (q _ (s6.to htp)).2 ring row tp D hrec (by rw [ai,Mw,if_pos h0]) (aq.upd htp _ _ hD6)
       ·have hrl1:row.length ≠ 0:=λz=>h0 (jo (by rw [show (Str.ofString "").cps.toList = [] from by decide +kernel];exact List.eq_nil_of_length_eq_zero (by rw [bq];exact z)))
        refine ⟨_,rfl,true,⟨b7 (by lia),?_⟩,Jg ⟨_,rfl,by show 2 <= sizeLine;decide,λtp htp=>?_⟩⟩
        ·have:(row.length:Int) ≠ 0:=by lia
         simpa using this
        ·exact (q _ (s6.to htp)).2 ring row tp D hrec (by rw [ai,Mw,if_neg h0]) (aq.upd htp _ _ hD6)
    ·rintro Z' H3 ⟨⟨y,z,rfl⟩,hl3,s3,hrow3⟩
     rw [Int.toNat_natCast,Nat.sub_self] at hrow3
     refine ⟨⟨_,_,_,rfl⟩,hl3,s3,?_⟩
     rw [hrec,hrow3]
     rfl
   ·rintro Z' H' ⟨h1,_,h2,h3⟩
    rw [List.length_map,List.drop_length] at h3
    exact ⟨h1,h2,h3⟩
  rintro Z' H' ⟨⟨x,y,z,rfl⟩,s1,hn⟩
  exact @av _ _ _ _ _ _ (aJ bN) ((q H' s1).1 hn)
def fF (R:bB) (row:Str) (i:Nat):Nat:=match eY R.sort R.signs row i with
 | .int n=>n.toNat
 | _=>0
structure Cfg where
 on:List Nat
 aD:List Str
 marks:List (Nat × Str)
def cC (ms:List aC) (k:Nat):Str:=match ms[k]? with
 | some m=>m.aU
 | none=>""
def dB (ms:List aC) (k:Nat):List bB:=match ms[k]? with
 | some m=>m.rules
 | none=>[]
def fq (c:Cfg) (R:bB) (row:Str):Cfg:=⟨bE c.on R.bh R.goal,c.aD ++ List.replicate (fF R row c.aD.length) R.aU,if R.fold = "" then c.marks else c.marks ++ [(c.aD.length,R.fold)]⟩
def eW (ms:List aC) (row:Str) (c:Cfg):Option Cfg:=match c8 (dB ms (bM c.on)) row c.aD.length with
 | some R=>some (fq c R row)
 | none=>if c.aD.length < row.length then some ⟨c.on,c.aD ++ [cC ms (bM c.on)],c.marks⟩ else none
def goN (ms:List aC) (row:Str):Nat -> Cfg -> Option Cfg
 | 0,c=>match eW ms row c with
  | none=>some c
  | some _=>none
 | n + 1,c=>match eW ms row c with
  | none=>some c
  | some c'=>goN ms row n c'
theorem pI {ms:List aC} {row:Str} {n:Nat} {c c' d:Cfg} (h:eW ms row c = some c') (g:goN ms row n c' = some d):goN ms row (n + 1) c = some d:=by
 rw [goN,h];exact g
theorem oK {ms:List aC} {row:Str} {n:Nat} {c:Cfg} (h:eW ms row c = none):goN ms row n c = some c:=by
 cases n with
 | zero=>rw [goN,h]
 | succ n=>rw [goN,h]
theorem qw {ms:List aC} {row:Str}:∀ {n m:Nat} {c d:Cfg},n <= m -> goN ms row n c = some d -> goN ms row m c = some d
 | 0,m,c,d,_,h=>by
  rw [goN] at h
  cases e:eW ms row c with
  | none=>rw [e] at h;cases h;exact oK e
  | some c'=>rw [e] at h;cases h
 | n + 1,0,c,d,h0,_=>by lia
 | n + 1,m + 1,c,d,h0,h=>by
  rw [goN] at h ⊢
  cases e:eW ms row c with
  | none=>rw [e] at h;exact h
  | some c'=>rw [e] at h;exact qw (by lia) h
def cO (row:Str) (i:Nat):Str:=match row.cps.toList[i]? with
 | some c=>⟨#[c]⟩
 | none=>""
theorem A6 {s sg row:Str} {i c:Nat} (h1:s ≠ "end") (h2:s ≠ "word") (e:row.cps.toList[i]? = some c):eY s sg row i ≠ .cQ ↔ ((s = "any" ∨ s = "still") ∨ (s = "none" /\ c ∉ sg.cps.toList) ∨ (s ≠ "none" /\ c ∈ sg.cps.toList)):=by
 rw [fR h1 h2 e]
 by_cases h3:s = "any" ∨ s = "still"
 ·rw [if_pos h3]
  exact ⟨λ_=>.inl h3,λ_ z=>by cases z⟩
 ·rw [if_neg h3]
  by_cases h4:s = "none"
  ·rw [if_pos h4]
   by_cases h5:c ∈ sg.cps.toList
   ·rw [if_pos h5]
    exact ⟨λz=>absurd rfl z,λz=>by rcases z with z | z | z;(exact absurd z h3);(exact absurd h5 z.2);(exact absurd h4 z.1)⟩
   ·rw [if_neg h5]
    exact ⟨λ_=>.inr (.inl ⟨h4,h5⟩),λ_ z=>by cases z⟩
  ·rw [if_neg h4]
   by_cases h5:c ∈ sg.cps.toList
   ·rw [if_pos h5]
    exact ⟨λ_=>.inr (.inr ⟨h4,h5⟩),λ_ z=>by cases z⟩
   ·rw [if_neg h5]
    exact ⟨λz=>absurd rfl z,λz=>by rcases z with z | z | z;(exact absurd z h3);(exact absurd z.1 h4);(exact absurd z.2 h5)⟩
theorem AM {R:bB} {row:Str} {i:Nat} (hi:i <= row.length) (h:eT R (cO row i) 0 = true) (hs:R.sort ∈ sorts):eT R row i = true:=by
 unfold eT at h ⊢
 rw [decide_eq_true_eq] at h ⊢
 have hl:=bq row
 cases e:row.cps.toList[i]? with
 | none =>
  have hi2:i = row.length:=by
   have:=List.getElem?_eq_none_iff.mp e
   lia
  have es:cO row i = "" := by unfold cO;rw [e]
  rw [es] at h
  have ee:(Str.ofString "").cps.toList = []:=by decide +kernel
  rcases eu hs with hs | hs | hs | hs | hs | hs | hs <;> rw [hs] at h ⊢
  ·rw [eY,if_neg (by decide),if_pos rfl] at h ⊢
   rw [show (("" : Str)).cps.toList = [] from ee] at h
   have:row.cps.toList.drop i = []:=List.drop_eq_nil_of_le (by lia)
   rw [this]
   exact h
  all_goals first
   | (exfalso;exact h (gQ (by decide) (by decide) (by decide)))
   | (rw [eY,if_pos rfl,if_pos hi2];intro z;cases z)
 | some c =>
  have hi2:i < row.length:=by
   have:=(List.getElem?_eq_some_iff.mp e).1
   lia
  have es:cO row i = ⟨#[c]⟩:=by unfold cO;rw [e]
  rw [es] at h
  have e0:(⟨#[c]⟩:Str).cps.toList[0]? = some c:=rfl
  rcases eu hs with hs | hs | hs | hs | hs | hs | hs <;> rw [hs] at h ⊢
  ·rw [eY,if_neg (by decide),if_pos rfl] at h ⊢
   have hd:=dO e
   rw [hd]
   intro z
   apply h
   by_cases y:((⟨#[c]⟩:Str).cps.toList.drop 0).take R.signs.length = R.signs.cps.toList
   ·exfalso
    have y':[c].take R.signs.length = R.signs.cps.toList:=y
    have yl:=congrArg List.length y'
    rw [bq,List.length_take] at yl
    have:(c :: row.cps.toList.drop (i + 1)).take R.signs.length = R.signs.cps.toList:=by
     rw [← y']
     cases hsl:R.signs.length with
     | zero=>rfl
     | succ n =>
      rw [hsl] at yl
      have:n = 0:=by simp at yl;lia
      subst this
      rfl
    rw [if_pos this] at z
    cases z
   ·rw [if_neg y]
  all_goals first
   | (rw [eY,if_pos rfl,if_neg (by show ¬ 0 = 1;decide)] at h;exact absurd rfl h)
   | exact (A6 (by decide) (by decide) e).mpr ((A6 (by decide) (by decide) e0).mp h)
theorem kK {s:Str} (h:s ∈ sorts) (h2:bX s = false):s = "still" ∨ s = "end" := by
 rcases eu h with rfl | rfl | rfl | rfl | rfl | rfl | rfl
 all_goals first
  | exact .inl rfl
  | exact .inr rfl
  | (exfalso;revert h2;decide +kernel)
theorem zQ {R:bB} {row:Str} {i:Nat} (hi:i <= row.length) (h:eT R row i = true) (hs:R.sort ∈ sorts) (h2:bX R.sort = false):eT R (cO row i) 0 = true:=by
 unfold eT at h ⊢
 rw [decide_eq_true_eq] at h ⊢
 have hl:=bq row
 cases e:row.cps.toList[i]? with
 | none =>
  have hi2:i = row.length:=by
   have:=List.getElem?_eq_none_iff.mp e
   lia
  have es:cO row i = "" := by unfold cO;rw [e]
  rw [es]
  rcases kK hs h2 with hs | hs <;> rw [hs] at h ⊢
  ·exact absurd (gQ (by decide) (by decide) (by lia)) h
  ·rw [eY,if_pos rfl,if_pos (by decide +kernel)];intro z;cases z
 | some c =>
  have hi2:i < row.length:=by
   have:=(List.getElem?_eq_some_iff.mp e).1
   lia
  have es:cO row i = ⟨#[c]⟩:=by unfold cO;rw [e]
  have e0:(⟨#[c]⟩:Str).cps.toList[0]? = some c:=rfl
  rw [es]
  rcases kK hs h2 with hs | hs <;> rw [hs] at h ⊢
  ·rw [fR (by decide) (by decide) e0,if_pos (by decide)];intro z;cases z
  ·rw [eY,if_pos rfl,if_neg (by lia)] at h;exact absurd rfl h
theorem tO {row:Str} {i:Nat}:∀ {rs:List bB} {k n:Nat} {R:bB},rs[n]? = some R -> eT R row i = true -> (∀ j,j < n -> ∀ R',rs[j]? = some R' -> eT R' row i = false) -> iI row i k rs = some (k + n)
 | [],k,n,R,h,_,_=>by simp at h
 | R0 :: r,k,0,R,h,hf,_=>by
  rw [List.getElem?_cons_zero] at h
  cases h
  rw [iI,if_pos hf]
  rfl
 | R0 :: r,k,n + 1,R,h,hf,hn=>by
  have h0:=hn 0 (by lia) R0 rfl
  rw [iI,if_neg (by rw [h0];decide),tO (rs:=r) (n:=n) h hf (λj hj R' hR=>hn (j + 1) (by lia) R' hR)]
  congr 1
  lia
theorem Ci {rs:List bB} {row:Str} {i:Nat} {R:bB} (hok:∀ R ∈ rs,R.sort ∈ sorts) (hi:i <= row.length) (h:c8 rs row i = some R) (h2:bX R.sort = false):gX rs (cO row i) = some R:=by
 unfold c8 at h
 cases e:firstM rs row i with
 | none=>rw [e] at h;cases h
 | some n =>
  rw [e] at h
  obtain ⟨_,R',g1,g2,g3⟩:=gY e
  rw [Nat.sub_zero] at g1 g3
  have:R' = R:=Option.some.inj (g1.symm.trans h)
  subst this
  have hm:=List.mem_of_getElem? g1
  have hf:firstM rs (cO row i) 0 = some n:=by
   have:=tO (row:=cO row i) (i:=0) (k:=0) g1 (zQ hi g2 (hok _ hm) h2) (λj hj R' hR=>by
    cases z:eT R' (cO row i) 0 with
    | false=>rfl
    | true =>
     have:=AM hi z (hok _ (List.mem_of_getElem? hR))
     rw [g3 j hj R' hR] at this
     cases this)
   rw [Nat.zero_add] at this
   exact this
  rw [gX,c8,hf]
  show (rs[n]?).bind _ = _
  rw [g1]
  show (if bX R'.sort = true then none else some R') = some R'
  rw [if_neg (by rw [h2];decide)]
theorem E7 (sg:List Nat):∀ l:List Nat,iB sg l <= l.length
 | []=>Nat.le_refl _
 | c :: r=>by
  rw [iB]
  split
  ·have:=E7 sg r;rw [List.length_cons];lia
  ·exact Nat.zero_le _
theorem Mz {s sg row:Str} {i:Nat} {n:Int} (hi:i <= row.length) (h:eY s sg row i = .int n):i + n.toNat <= row.length:=by
 have hl:=bq row
 by_cases h1:s = "end"
 ·rw [eY,if_pos h1] at h
  split at h
  ·have:=V.int.inj h
   lia
  ·cases h
 ·by_cases h2:s = "word"
  ·rw [eY,if_neg h1,if_pos h2] at h
   split at h
   ·rename_i hw
    have:=congrArg List.length hw
    rw [List.length_take,List.length_drop,bq,bq] at this
    have:=V.int.inj h
    lia
   ·cases h
  ·cases e:row.cps.toList[i]? with
   | none=>rw [eY,if_neg h1,if_neg h2,e] at h;cases h
   | some c =>
    have hi2:i < row.length:=by
     have:=(List.getElem?_eq_some_iff.mp e).1
     lia
    have hr:=E7 sg.cps.toList (row.cps.toList.drop (i + 1))
    rw [List.length_drop] at hr
    rw [fR h1 h2 e] at h
    split at h
    ·have:=V.int.inj h
     split at this <;> lia
    ·split at h
     ·split at h
      ·cases h
      ·have:=V.int.inj h;lia
     ·split at h
      ·have:=V.int.inj h
       split at this <;> lia
      ·cases h
theorem AS {R:bB} {row:Str} {i:Nat} (hs:R.sort ∈ sorts) (hi:i <= row.length):i + fF R row i <= row.length:=by
 unfold fF
 rcases kQ R.sort R.signs row i with ⟨n,e⟩ | e
 ·rw [e];exact Mz hi e
 ·rw [e];exact hi
theorem IM {s sg row:Str} {i:Nat} {n:Int} (he:bX s = true) (hg:s = "word" -> 1 <= sg.length) (h:eY s sg row i = .int n):1 <= n:=by
 have h1:s ≠ "end" := λz=>by rw [z] at he;revert he;decide +kernel
 have h1':s ≠ "still" := λz=>by rw [z] at he;revert he;decide +kernel
 by_cases h2:s = "word"
 ·rw [eY,if_neg h1,if_pos h2] at h
  split at h
  ·have:=V.int.inj h
   have:=hg h2
   lia
  ·cases h
 ·cases e:row.cps.toList[i]? with
  | none=>rw [eY,if_neg h1,if_neg h2,e] at h;cases h
  | some c =>
   rw [fR h1 h2 e] at h
   split at h
   ·rename_i h3
    have:=V.int.inj h
    rcases h3 with h3 | h3
    ·rw [if_pos h3] at this;lia
    ·exact absurd h3 h1'
   ·split at h
    ·split at h
     ·cases h
     ·have:=V.int.inj h;lia
    ·split at h
     ·have:=V.int.inj h
      split at this <;> lia
     ·cases h
theorem IK {R:bB} {row:Str} {i:Nat} (hs:R.sort ∈ sorts) (he:bX R.sort = true) (hg:¬ bare R.sort -> 1 <= R.signs.length) (hf:eT R row i = true):1 <= fF R row i:=by
 unfold eT at hf
 rw [decide_eq_true_eq] at hf
 unfold fF
 rcases kQ R.sort R.signs row i with ⟨n,e⟩ | e
 ·have:=IM he (λz=>hg (by rw [z];decide)) e
  rw [e]
  show 1 <= n.toNat
  lia
 ·exact absurd e hf
theorem DX {R:bB} {row:Str} {i:Nat} (hs:R.sort ∈ sorts) (he:bX R.sort = false):fF R row i = 0:=by
 unfold fF
 rcases kK hs he with h | h <;> rw [h]
 ·cases e:row.cps.toList[i]? with
  | none=>rw [eY,if_neg (by decide),if_neg (by decide),e]
  | some c=>rw [fR (by decide) (by decide) e,if_pos (by decide),if_neg (by decide)];rfl
 ·rw [eY,if_pos rfl]
  split
  ·rename_i e;split at e <;> cases e;rfl
  ·rfl
def fM (ms:List aC) (row:Str):Nat -> Nat -> Bool
 | 0,_=>false
 | f + 1,k=>match eF ms k row with
  | none=>false
  | some R=>if R.bh = "pop" then true else if R.bh = "into" then fM ms row f (R.goal.getD 0) else false
theorem tL {ms:List aC} {row:Str}:∀ {f g k:Nat},f <= g -> fM ms row f k = true -> fM ms row g k = true
 | 0,g,k,_,h=>by cases h
 | f + 1,0,k,h0,_=>by lia
 | f + 1,g + 1,k,h0,h=>by
  rw [fM] at h ⊢
  cases e:eF ms k row with
  | none=>rw [e] at h;cases h
  | some R =>
   rw [e] at h
   have h:(if R.bh = "pop" then true else if R.bh = "into" then fM ms row f (R.goal.getD 0) else false) = true:=h
   show (if R.bh = "pop" then true else if R.bh = "into" then fM ms row g (R.goal.getD 0) else false) = true
   split
   ·rfl
   ·rename_i h1
    rw [if_neg h1] at h
    split
    ·rename_i h2
     rw [if_pos h2] at h
     exact tL (by lia) h
    ·rename_i h2
     rw [if_neg h2] at h
     cases h
theorem mq (k:Nat):bM [k] = k:=rfl
theorem xU (r:List Nat) (k:Nat):bM (r ++ [k]) = k:=by unfold bM;simp
theorem sC {ms:List aC} {row:Str}:∀ {f fuel k:Nat} {ring:List Nat},f <= fuel -> fM ms row f k = true -> gr ms row 0 fuel [k] ring ≠ none
 | 0,fuel,k,ring,_,h=>by cases h
 | f + 1,0,k,ring,h0,_=>by lia
 | f + 1,fuel + 1,k,ring,h0,h=>by
  rw [fM] at h
  rw [gr,mq]
  cases e:eF ms k row with
  | none=>rw [e] at h;cases h
  | some R =>
   rw [e] at h
   have h:(if R.bh = "pop" then true else if R.bh = "into" then fM ms row f (R.goal.getD 0) else false) = true:=h
   show (if R.bh = "pop" /\ [k].length = 1 /\ (0:Nat) ≠ 0 then none else if bM (bE [k] R.bh R.goal) = 0 then some (ring ++ [k]) else gr ms row 0 fuel (bE [k] R.bh R.goal) (ring ++ [k])) ≠ none
   rw [if_neg (λz=>z.2.2 rfl)]
   by_cases hp:R.bh = "pop"
   ·have:bE [k] R.bh R.goal = [0]:=by rw [bE,hp,if_neg (by decide),if_neg (by decide),if_pos rfl];rfl
    rw [this,if_pos (mq 0)]
    intro z;cases z
   ·rw [if_neg hp] at h
    by_cases hi:R.bh = "into"
    ·rw [if_pos hi] at h
     have:bE [k] R.bh R.goal = [R.goal.getD 0]:=by rw [bE,hi,if_neg (by decide),if_pos rfl];rfl
     rw [this,mq]
     split
     ·intro z;cases z
     ·exact sC (by lia) h
    ·rw [if_neg hi] at h;cases h
theorem tP {ms:List aC} {row:Str} {y:Nat}:∀ {f fuel k:Nat} {ring:List Nat},f <= fuel -> fM ms row f k = true -> gr ms row y fuel [y,k] ring ≠ none
 | 0,fuel,k,ring,_,h=>by cases h
 | f + 1,0,k,ring,h0,_=>by lia
 | f + 1,fuel + 1,k,ring,h0,h=>by
  rw [fM] at h
  rw [gr,show bM [y,k] = k from rfl]
  cases e:eF ms k row with
  | none=>rw [e] at h;cases h
  | some R =>
   rw [e] at h
   have h:(if R.bh = "pop" then true else if R.bh = "into" then fM ms row f (R.goal.getD 0) else false) = true:=h
   show (if R.bh = "pop" /\ [y,k].length = 1 /\ y ≠ 0 then none else if bM (bE [y,k] R.bh R.goal) = y then some (ring ++ [k]) else gr ms row y fuel (bE [y,k] R.bh R.goal) (ring ++ [k])) ≠ none
   rw [if_neg (λz=>absurd z.2.1 (by show ¬ 2 = 1;decide))]
   by_cases hp:R.bh = "pop"
   ·have:bE [y,k] R.bh R.goal = [y]:=by rw [bE,hp,if_neg (by decide),if_neg (by decide),if_pos rfl,if_neg (by show ¬ 2 = 1;decide)];rfl
    rw [this,if_pos (mq y)]
    intro z;cases z
   ·rw [if_neg hp] at h
    by_cases hi:R.bh = "into"
    ·rw [if_pos hi] at h
     have:bE [y,k] R.bh R.goal = [y,R.goal.getD 0]:=by rw [bE,hi,if_neg (by decide),if_pos rfl];rfl
     rw [this,show bM [y,R.goal.getD 0] = R.goal.getD 0 from rfl]
     split
     ·intro z;cases z
     ·exact tP (by lia) h
    ·rw [if_neg hi] at h;cases h
def AD (ms:List aC):Prop:=∀ (k:Nat) m,ms[k]? = some m -> ∀ R ∈ m.rules,bX R.sort = false -> R.bh = "pop" ∨ (gv R.bh /\ ∃ g,R.goal = some g /\ k < g /\ g < ms.length)
structure uO (ms:List aC) (row:Str):Prop where
 start:fM ms row ms.length 0 = false
 push:∀ y R,y < ms.length -> eF ms y row = some R -> R.bh = "push" -> fM ms row (ms.length - R.goal.getD 0) (R.goal.getD 0) = false
theorem kU {ms:List aC} {k:Nat} {row:Str} {R:bB} (h:eF ms k row = some R):∃ m,ms[k]? = some m /\ R ∈ m.rules /\ bX R.sort = false:=by
 unfold eF at h
 cases e:ms[k]? with
 | none=>rw [e] at h;cases h
 | some m =>
  rw [e] at h
  have h:gX m.rules row = some R:=h
  refine ⟨m,rfl,qp h,?_⟩
  unfold gX at h
  cases e2:c8 m.rules row 0 with
  | none=>rw [e2] at h;cases h
  | some R' =>
   rw [e2] at h
   have h:(if bX R'.sort = true then none else some R') = some R:=h
   split at h
   ·cases h
   ·rename_i hn;cases h;simpa using hn
theorem MA {ms:List aC} (U:AD ms) (G:0 < ms.length) (h:jE ms = none):∀ row ∈ cU,uO ms row:=by
 intro row hr
 have hf:=AJ h row hr
 refine ⟨?_,λy R hy hi hp=>?_⟩
 ·cases e:fM ms row ms.length 0 with
  | false=>rfl
  | true=>exact absurd (hf 0 G) (sC (Nat.le_refl _) e)
 ·cases e:fM ms row (ms.length - R.goal.getD 0) (R.goal.getD 0) with
  | false=>rfl
  | true =>
   exfalso
   have h0:=hf y hy
   obtain ⟨m,hm,hR,he⟩:=kU hi
   obtain ⟨g,eg,hg1,hg2⟩:∃ g,R.goal = some g /\ y < g /\ g < ms.length:=by
    rcases U y m hm R hR he with z | ⟨_,z⟩
    ·rw [hp] at z;cases z
    ·exact z
   unfold dQ at h0
   obtain ⟨n,hn⟩:∃ n,ms.length = n + 1:=⟨ms.length - 1,by lia⟩
   rw [hn,gr,mq,hi] at h0
   have h0:(if R.bh = "pop" /\ [y].length = 1 /\ y ≠ 0 then none else if bM (bE [y] R.bh R.goal) = y then some ([] ++ [y]) else gr ms row y n (bE [y] R.bh R.goal) ([] ++ [y])) = none:=h0
   rw [if_neg (λz=>by rw [hp] at z;exact absurd z.1 (by decide))] at h0
   have ed:bE [y] R.bh R.goal = [y,R.goal.getD 0]:=by rw [bE,if_pos hp];rfl
   rw [ed] at h0
   split at h0
   ·cases h0
   ·exact tP (by rw [eg];show ms.length - g <= n;lia) e h0
def wsum (N:Nat) (on:List Nat):Nat:=(on.map λk=>N - k).sum
theorem gR (N:Nat) (a b:List Nat):wsum N (a ++ b) = wsum N a + wsum N b:=by unfold wsum;rw [List.map_append,List.sum_append]
theorem gj (N k:Nat):wsum N [k] = N - k:=by simp [wsum]
theorem oR {on:List Nat} (h:on ≠ []):∃ r,on = r ++ [bM on]:=by
 rcases List.eq_nil_or_concat on with rfl | ⟨p,x,rfl⟩
 ·exact absurd rfl h
 ·exact ⟨p,by rw [List.concat_eq_append,xU]⟩
theorem uz {on:List Nat} {d:Str} {g:Nat} (h:d = "push"):bE on d (some g) = on ++ [g]:=by rw [bE,if_pos h];rfl
theorem tK {r:List Nat} {k:Nat} {d:Str} {g:Nat} (h:d = "into"):bE (r ++ [k]) d (some g) = r ++ [g]:=by
 rw [bE,h,if_neg (by decide),if_pos rfl,List.dropLast_concat];rfl
theorem Em {r:List Nat} {k:Nat} {d:Str} {g:Option Nat} (h:d = "pop") (hr:r ≠ []):bE (r ++ [k]) d g = r:=by
 have:(r ++ [k]).length ≠ 1:=by
  cases r with
  | nil=>exact absurd rfl hr
  | cons x y=>simp
 rw [bE,h,if_neg (by decide),if_neg (by decide),if_pos rfl,if_neg this,List.dropLast_concat]
theorem CB {k:Nat} {d:Str} {g:Option Nat} (h:d = "pop"):bE [k] d g = [0]:=by
 rw [bE,h,if_neg (by decide),if_neg (by decide),if_pos rfl]
 rfl
def Bc (ms:List aC) (row:Str) (c:Cfg):Prop:=∃ R,c8 (dB ms (bM c.on)) row c.aD.length = some R /\ bX R.sort = false
def Still (ms:List aC) (row:Str):Nat -> Cfg -> Cfg -> Prop
 | 0,c,d=>c = d
 | n + 1,c,d=>∃ R,c8 (dB ms (bM c.on)) row c.aD.length = some R /\ bX R.sort = false /\ Still ms row n (fq c R row) d
theorem Still.go {ms:List aC} {row:Str}:∀ {n m:Nat} {c d e:Cfg},Still ms row n c d -> goN ms row m d = some e -> goN ms row (n + m) c = some e
 | 0,m,c,d,e,h,g=>by rw [Nat.zero_add,show c = d from h];exact g
 | n + 1,m,c,d,e,⟨R,h1,_,h3⟩,g=>by
  rw [show n + 1 + m = (n + m) + 1 by lia]
  exact pI (by rw [eW,h1]) (h3.go g)
structure Good (ms:List aC) (row:Str):Prop where
 g:dZ ms
 up:AD ms
 four:ms.length <= 4
 sg:∀ m ∈ ms,∀ R ∈ m.rules,¬ bare R.sort -> 1 <= R.signs.length
 np:∀ r ∈ cU,uO ms r
 row:∀ c ∈ row.cps.toList,c ∈ uJ.cps.toList
theorem Good.short {ms:List aC} {row:Str} (G:Good ms row) (i:Nat):cO row i ∈ cU:=by
 unfold cO
 cases e:row.cps.toList[i]? with
 | none=>exact List.mem_cons_self ..
 | some c=>exact List.mem_cons_of_mem _ (List.mem_map.mpr ⟨c,G.row c (List.mem_of_getElem? e),rfl⟩)
theorem Good.rule {ms:List aC} {row:Str} (G:Good ms row) {k i:Nat} {R:bB} (hk:k < ms.length) (h:c8 (dB ms k) row i = some R):∃ m,ms[k]? = some m /\ R ∈ m.rules /\ R.sort ∈ sorts /\ eT R row i = true:=by
 have hm:ms[k]? = some ms[k]:=List.getElem?_eq_getElem hk
 rw [dB,hm] at h
 have h:c8 ms[k].rules row i = some R:=h
 unfold c8 at h
 cases e:firstM ms[k].rules row i with
 | none=>rw [e] at h;cases h
 | some n =>
  rw [e] at h
  obtain ⟨_,R',g1,g2,_⟩:=gY e
  rw [Nat.sub_zero] at g1
  have:R' = R:=Option.some.inj (g1.symm.trans h)
  subst this
  have hR:=List.mem_of_getElem? g1
  exact ⟨_,hm,hR,((G.g.ok _ (List.getElem_mem hk)).2 R' hR).1,g2⟩
theorem Good.idle {ms:List aC} {row:Str} (G:Good ms row) {k i:Nat} {R:bB} (hk:k < ms.length) (hi:i <= row.length) (h:c8 (dB ms k) row i = some R) (he:bX R.sort = false):eF ms k (cO row i) = some R:=by
 have hm:ms[k]? = some ms[k]:=List.getElem?_eq_getElem hk
 rw [dB,hm] at h
 rw [eF,hm]
 exact Ci (λR hR=>((G.g.ok _ (List.getElem_mem hk)).2 R hR).1) hi h he
def HF:Nat -> Nat
 | 0=>0
 | n + 1=>HF n + (n + 1)
theorem jI:∀ {a b:Nat},a <= b -> HF a <= HF b
 | a,0,h=>by
  have:a = 0:=by lia
  rw [this];exact Nat.le_refl _
 | a,b + 1,h=>by
  by_cases e:a = b + 1
  ·rw [e];exact Nat.le_refl _
  ·have:=jI (a:=a) (b:=b) (by lia)
   rw [HF];lia
theorem pS {c:Cfg} {R:bB} {row:Str} (hs:R.sort ∈ sorts) (he:bX R.sort = false):(fq c R row).aD = c.aD:=by
 show c.aD ++ List.replicate (fF R row c.aD.length) R.aU = c.aD
 rw [DX hs he]
 exact List.append_nil _
theorem vj {ms:List aC} {row:Str} (G:Good ms row):∀ (w k:Nat) (r:List Nat) (c:Cfg),w = ms.length - k -> k < ms.length -> c.on = r ++ [k] -> c.aD.length <= row.length -> (∀ x ∈ r,x < ms.length) -> fM ms (cO row c.aD.length) (ms.length - k) k = false ->
  ∃ n d,Still ms row n c d /\ ¬ Bc ms row d /\ d.aD = c.aD /\ ia ms d.on /\ n <= w /\ wsum ms.length d.on <= wsum ms.length r + HF w:=by
 intro W
 induction W using Nat.strongRecOn with
 | _ W ih=>
  intro k r c hw hk hon hi hr hp
  cases W with
  | zero=>lia
  | succ w=>
    have htop:bM c.on = k:=by rw [hon,xU]
    have hok:ia ms c.on:=by
     rw [hon]
     refine ⟨by simp,λx hx=>?_⟩
     rcases List.mem_append.mp hx with hx | hx
     ·exact hr x hx
     ·rw [List.mem_singleton.mp hx];exact hk
    by_cases hid:Bc ms row c
    ·obtain ⟨R,h1,h2⟩:=id hid
     rw [htop] at h1
     obtain ⟨m,hm,hR,hs,hf⟩:=G.rule hk h1
     have hia:=G.idle hk hi h1 h2
     have htt:=pS (c:=c) (row:=row) hs h2
     rw [show ms.length - k = (ms.length - (k + 1)) + 1 by lia,fM,hia] at hp
     have hp:(if R.bh = "pop" then true else if R.bh = "into" then fM ms (cO row c.aD.length) (ms.length - (k + 1)) (R.goal.getD 0) else false) = false:=hp
     by_cases hpop:R.bh = "pop"
     ·rw [if_pos hpop] at hp;cases hp
     ·rw [if_neg hpop] at hp
      obtain ⟨hgo,g,eg,hg1,hg2⟩:gv R.bh /\ ∃ g,R.goal = some g /\ k < g /\ g < ms.length:=by
       rcases G.up k m hm R hR h2 with z | z
       ·exact absurd z hpop
       ·exact z
      by_cases hin:R.bh = "into"
      ·rw [if_pos hin,eg] at hp
       have hon2:(fq c R row).on = r ++ [g]:=by show bE c.on R.bh R.goal = _;rw [hon,eg,tK hin]
       obtain ⟨n,d,a1,a2,a3,a4,a5,a6⟩:=ih (ms.length - g) (by lia) g r (fq c R row) rfl hg2 hon2 (by rw [htt];exact hi) hr (by
        rw [htt]
        cases e:fM ms (cO row c.aD.length) (ms.length - g) g with
        | false=>rfl
        | true =>
         have:=tL (g:=ms.length - (k + 1)) (by lia) e
         rw [show (some g).getD 0 = g from rfl] at hp
         rw [this] at hp;cases hp)
       have:=jI (a:=ms.length - g) (b:=w + 1) (by lia)
       exact ⟨n + 1,d,⟨R,by rw [htop];exact h1,h2,a1⟩,a2,by rw [a3,htt],a4,by lia,by lia⟩
      ·have hpu:R.bh = "push" := by
        rcases hgo with z | z
        ·exact z
        ·exact absurd z hin
       have hon2:(fq c R row).on = (r ++ [k]) ++ [g]:=by show bE c.on R.bh R.goal = _;rw [hon,eg,uz hpu]
       have hnp:=(G.np _ (G.short c.aD.length)).push k R hk hia hpu
       rw [eg] at hnp
       obtain ⟨n,d,a1,a2,a3,a4,a5,a6⟩:=ih (ms.length - g) (by lia) g (r ++ [k]) (fq c R row) rfl hg2 hon2 (by rw [htt];exact hi) (λx hx=>by
        rcases List.mem_append.mp hx with hx | hx
        ·exact hr x hx
        ·rw [List.mem_singleton.mp hx];exact hk) (by rw [htt];exact hnp)
       have h3:=jI (a:=ms.length - g) (b:=w) (by lia)
       rw [gR,gj] at a6
       refine ⟨n + 1,d,⟨R,by rw [htop];exact h1,h2,a1⟩,a2,by rw [a3,htt],a4,by lia,?_⟩
       rw [HF]
       lia
    ·refine ⟨0,c,rfl,hid,rfl,hok,by lia,?_⟩
     rw [hon,gR,gj,← hw,HF]
     lia
theorem ME {ms:List aC} {row:Str} (G:Good ms row):∀ (W:Nat) (c:Cfg),wsum ms.length c.on = W -> ia ms c.on -> c.aD.length <= row.length ->
  ∃ n d,Still ms row n c d /\ ¬ Bc ms row d /\ d.aD = c.aD /\ ia ms d.on /\ n + wsum ms.length d.on <= W + 14 /\ wsum ms.length d.on <= max W 4 + 6:=by
 intro W
 induction W using Nat.strongRecOn with
 | ind W ih =>
  intro c hW hok hi
  by_cases hid:Bc ms row c
  ·obtain ⟨R,h1,h2⟩:=id hid
   obtain ⟨r,hon⟩:=oR hok.1
   have hk:bM c.on < ms.length:=hok.2 _ (ly hok.1)
   obtain ⟨m,hm,hR,hs,hf⟩:=G.rule hk h1
   have hia:=G.idle hk hi h1 h2
   have htt:=pS (c:=c) (row:=row) hs h2
   have hmm:=List.mem_of_getElem? hm
   have hok2:ia ms (fq c R row).on:=hok.bh G.g hmm hR
   have h4:=G.four
   generalize hkk:bM c.on = k at h1 hk hm hia hon
   have hWs:wsum ms.length r + (ms.length - k) = W:=by rw [← hW,hon,gR,gj]
   have hrr:∀ x ∈ r,x < ms.length:=λx hx=>hok.2 x (by rw [hon];exact List.mem_append_left _ hx)
   have t3:HF 3 = 6:=rfl
   have t4:HF 4 = 10:=rfl
   by_cases hpop:R.bh = "pop"
   ·by_cases hr:r = []
    ·have hon2:(fq c R row).on = [] ++ [0]:=by show bE c.on R.bh R.goal = _;rw [hon,hr];exact CB hpop
     obtain ⟨n,d,a1,a2,a3,a4,a5,a6⟩:=vj G (ms.length - 0) 0 [] (fq c R row) rfl G.g.pos hon2 (by rw [htt];exact hi) (by simp) (by rw [htt];exact (G.np _ (G.short _)).start)
     have:=jI (a:=ms.length - 0) (b:=4) (by lia)
     have e0:wsum ms.length ([]:List Nat) = 0:=rfl
     refine ⟨n + 1,d,⟨R,by rw [hkk];exact h1,h2,a1⟩,a2,by rw [a3,htt],a4,by lia,by lia⟩
    ·have hon2:(fq c R row).on = r:=by show bE c.on R.bh R.goal = _;rw [hon];exact Em hpop hr
     obtain ⟨n,d,a1,a2,a3,a4,a5,a6⟩:=ih (wsum ms.length r) (by lia) (fq c R row) (by rw [hon2]) hok2 (by rw [htt];exact hi)
     refine ⟨n + 1,d,⟨R,by rw [hkk];exact h1,h2,a1⟩,a2,by rw [a3,htt],a4,by lia,by lia⟩
   ·obtain ⟨hgo,g,eg,hg1,hg2⟩:gv R.bh /\ ∃ g,R.goal = some g /\ k < g /\ g < ms.length:=by
     rcases G.up k m hm R hR h2 with z | z
     ·exact absurd z hpop
     ·exact z
    by_cases hin:R.bh = "into"
    ·have hon2:(fq c R row).on = r ++ [g]:=by show bE c.on R.bh R.goal = _;rw [hon,eg,tK hin]
     have hW2:wsum ms.length (fq c R row).on = wsum ms.length r + (ms.length - g):=by rw [hon2,gR,gj]
     obtain ⟨n,d,a1,a2,a3,a4,a5,a6⟩:=ih _ (by lia) (fq c R row) hW2 hok2 (by rw [htt];exact hi)
     refine ⟨n + 1,d,⟨R,by rw [hkk];exact h1,h2,a1⟩,a2,by rw [a3,htt],a4,by lia,by lia⟩
    ·have hpu:R.bh = "push" := by
      rcases hgo with z | z
      ·exact z
      ·exact absurd z hin
     have hon2:(fq c R row).on = c.on ++ [g]:=by show bE c.on R.bh R.goal = _;rw [eg,uz hpu]
     have hnp:=(G.np _ (G.short c.aD.length)).push k R hk hia hpu
     rw [eg] at hnp
     obtain ⟨n,d,a1,a2,a3,a4,a5,a6⟩:=vj G (ms.length - g) g c.on (fq c R row) rfl hg2 hon2 (by rw [htt];exact hi) hok.2 (by rw [htt];exact hnp)
     have:=jI (a:=ms.length - g) (b:=3) (by lia)
     refine ⟨n + 1,d,⟨R,by rw [hkk];exact h1,h2,a1⟩,a2,by rw [a3,htt],a4,by lia,by lia⟩
  ·exact ⟨0,c,rfl,hid,rfl,hok,by lia,by lia⟩
theorem Ce {ms:List aC} (G:dZ ms) {on:List Nat} (h:ia ms on) {d:Str} {g:Option Nat}:wsum ms.length (bE on d g) <= wsum ms.length on + ms.length:=by
 obtain ⟨r,hr⟩:=oR h.1
 have hk:bM on < ms.length:=h.2 _ (ly h.1)
 generalize bM on = k at hr hk
 subst hr
 unfold bE
 split
 ·rw [gR,gj];lia
 ·split
  ·rw [List.dropLast_concat,gR,gR,gj,gj];lia
  ·split
   ·split
    ·rw [gj];lia
    ·rw [List.dropLast_concat,gR];lia
   ·lia
theorem runs {ms:List aC} {row:Str} (G:Good ms row):∀ (D:Nat) (c:Cfg),row.length - c.aD.length = D -> ia ms c.on -> c.aD.length <= row.length ->
  ∃ n d,goN ms row n c = some d /\ d.aD.length = row.length /\ ia ms d.on /\ n + wsum ms.length d.on <= wsum ms.length c.on + 19 * D + 14 /\ wsum ms.length d.on <= max (wsum ms.length c.on) 4 + 10 * D + 6:=by
 intro D
 induction D using Nat.strongRecOn with
 | ind D ih =>
  intro c hD hok hi
  obtain ⟨n1,c1,a1,a2,a3,a4,a5,a6⟩:=ME G _ c rfl hok hi
  have hi1:c1.aD.length <= row.length:=by rw [a3];exact hi
  have h4:=G.four
  have hk:bM c1.on < ms.length:=a4.2 _ (ly a4.1)
  cases hr:c8 (dB ms (bM c1.on)) row c1.aD.length with
  | none =>
   by_cases hlt:c1.aD.length < row.length
   ·have hst:eW ms row c1 = some ⟨c1.on,c1.aD ++ [cC ms (bM c1.on)],c1.marks⟩:=by
     rw [eW,hr]
     show (if c1.aD.length < row.length then _ else _) = _
     rw [if_pos hlt]
    have hl2:(c1.aD ++ [cC ms (bM c1.on)]).length = c1.aD.length + 1:=by simp
    obtain ⟨n2,d,b1,b2,b3,b4,b5⟩:=ih (row.length - (c1.aD.length + 1)) (by rw [a3] at hlt ⊢;lia) ⟨c1.on,c1.aD ++ [cC ms (bM c1.on)],c1.marks⟩ (by show row.length - (c1.aD ++ [cC ms (bM c1.on)]).length = _;rw [hl2]) a4 (by show (c1.aD ++ [cC ms (bM c1.on)]).length <= _;rw [hl2];lia)
    have b4:n2 + wsum ms.length d.on <= wsum ms.length c1.on + 19 * (row.length - (c1.aD.length + 1)) + 14:=b4
    have b5:wsum ms.length d.on <= max (wsum ms.length c1.on) 4 + 10 * (row.length - (c1.aD.length + 1)) + 6:=b5
    rw [a3] at hlt b4 b5
    exact ⟨n1 + (n2 + 1),d,a1.go (pI hst b1),b2,b3,by lia,by lia⟩
   ·have hst:eW ms row c1 = none:=by
     rw [eW,hr]
     show (if c1.aD.length < row.length then _ else _) = _
     rw [if_neg hlt]
    exact ⟨n1 + 0,c1,a1.go (oK hst),by lia,a4,by lia,by lia⟩
  | some R =>
   obtain ⟨m,hm,hR,hs,hf⟩:=G.rule hk hr
   have hmm:=List.mem_of_getElem? hm
   have he:bX R.sort = true:=by
    cases e:bX R.sort with
    | true=>rfl
    | false=>exact absurd ⟨R,hr,e⟩ a2
   have hst:eW ms row c1 = some (fq c1 R row):=by rw [eW,hr]
   have e1:=IK (i:=c1.aD.length) hs he (G.sg m hmm R hR) hf
   have e2:=AS (R:=R) (row:=row) (i:=c1.aD.length) hs hi1
   have hl2:(fq c1 R row).aD.length = c1.aD.length + fF R row c1.aD.length:=by
    show (c1.aD ++ List.replicate _ _).length = _
    rw [List.length_append,List.length_replicate]
   have hw:wsum ms.length (fq c1 R row).on <= wsum ms.length c1.on + ms.length:=Ce G.g a4
   obtain ⟨n2,d,b1,b2,b3,b4,b5⟩:=ih (row.length - (fq c1 R row).aD.length) (by rw [hl2];rw [a3] at e1 e2 ⊢;lia) (fq c1 R row) rfl (a4.bh G.g hmm hR) (by rw [hl2];exact e2)
   rw [hl2] at b4 b5
   rw [a3] at e1 e2 b4 b5
   exact ⟨n1 + (n2 + 1),d,a1.go (pI hst b1),b2,b3,by lia,by lia⟩
def GM (H:Hp) (lk:Addr) (mk:List (Nat × Str)):Prop:=∃ ps,H lk = some (.lst (ps.map V.ref)) /\ bU (λp m=>H p = some (.tup [bS m.1,.str m.2])) ps mk
theorem GM.same {H H':Hp} {lk:Addr} {mk:List (Nat × Str)} (h:GM H lk mk) (s:aq H H'):GM H' lk mk:=by
 obtain ⟨ps,a,b⟩:=h
 exact ⟨ps,s _ _ a,b.mono λ_ _ e=>s _ _ e⟩
theorem GM.kJ {H:Hp} {lk l:Addr} {mk:List (Nat × Str)} {xs:List V} {o:HO} (h:GM H lk mk) (hl:H l = some (.lst xs)) (hn:lk ≠ l):GM (upd H l o) lk mk:=by
 obtain ⟨ps,a,b⟩:=h
 exact ⟨ps,by rw [au hn];exact a,b.mono λp m e=>by rw [au (cA e hl (by intro z;cases z))];exact e⟩
def GF (H0 H:Hp) (lk:Addr) (mk:List (Nat × Str)):Prop:=∃ ps:List Addr,H lk = some (.lst (ps.map V.ref)) /\ bU (λp m=>H p = some (.tup [bS m.1,.str m.2])) ps mk /\ ∀ p ∈ ps,H0 p = none
theorem GF.gm {H0 H:Hp} {lk:Addr} {mk:List (Nat × Str)} (h:GF H0 H lk mk):GM H lk mk:=by
 obtain ⟨ps,a,b,_⟩:=h
 exact ⟨ps,a,b⟩
theorem GF.same {H0 H H':Hp} {lk:Addr} {mk:List (Nat × Str)} (h:GF H0 H lk mk) (s:aq H H'):GF H0 H' lk mk:=by
 obtain ⟨ps,a,b,c⟩:=h
 exact ⟨ps,s _ _ a,b.mono λ_ _ e=>s _ _ e,c⟩
theorem GF.kJ {H0 H:Hp} {lk l:Addr} {mk:List (Nat × Str)} {xs:List V} {o:HO} (h:GF H0 H lk mk) (hl:H l = some (.lst xs)) (hn:lk ≠ l):GF H0 (upd H l o) lk mk:=by
 obtain ⟨ps,a,b,c⟩:=h
 exact ⟨ps,by rw [au hn];exact a,b.mono λp m e=>by rw [au (cA e hl (by intro z;cases z))];exact e,c⟩
structure Told (H:Hp) (tp lt lo lk:Addr) (d:Cfg):Prop where
 tp:H tp = some (.tup [.ref lt,.ref lo,.ref lk])
 lt:H lt = some (.lst (d.aD.map V.str))
 lo:H lo = some (.lst (d.on.map bS))
 lk:GM H lk d.marks
theorem Told.same {H H':Hp} {tp lt lo lk:Addr} {d:Cfg} (h:Told H tp lt lo lk d) (s:aq H H'):Told H' tp lt lo lk d:=⟨s _ _ h.tp,s _ _ h.lt,s _ _ h.lo,h.lk.same s⟩
noncomputable def Me (t:gp):Sp:=λvs H Q _=>∃ (a lo:Addr) (ms:List aC) (on:List Nat) (row:Str) (n:Nat) (d:Cfg),vs = [.ref a,.ref lo,.str row] /\ IsRules t H a ms /\ dZ ms /\ H lo = some (.lst (on.map bS)) /\ ia ms on /\ row.length <= 1000 /\ on.length <= 50000 /\ n <= 40000 /\ goN ms row n ⟨on,[],[]⟩ = some d /\
 ∀ tp lt lo' lk H',Told H' tp lt lo' lk d -> GF H H' lk d.marks -> H lt = none -> H lo' = none -> H lk = none -> lt ≠ lo' -> lt ≠ lk -> lo' ≠ lk -> aq H H' -> Q (.ref tp) H'
theorem pF {α:Type} (x:α):∀ n:Nat,(List.replicate n [x]).flatten = List.replicate n x
 | 0=>rfl
 | n + 1=>by rw [List.replicate_succ,List.flatten_cons,pF x n,List.replicate_succ];rfl
theorem Bq {R:bB} {row:Str} {i:Nat} (h:eT R row i = true):eY R.sort R.signs row i = bS (fF R row i):=by
 unfold eT at h
 rw [decide_eq_true_eq] at h
 unfold fF
 have hn:∀ n:Int,eY R.sort R.signs row i = .int n -> 0 <= n:=by
  intro n
  unfold eY
  intro e
  repeat' split at e
  all_goals first
   | (have:=V.int.inj e;lia)
   | cases e
 rcases kQ R.sort R.signs row i with ⟨n,e⟩ | e
 ·rw [e]
  have:=hn n e
  show V.int n = V.int ((n.toNat:Nat):Int)
  rw [show ((n.toNat:Nat):Int) = n by lia]
 ·exact absurd e h
theorem K0 (T:Txt K mg t):bC P w K mg base c6 3 t.q8 t.yb ["rules","modes","row"] (Me t):=by
 refine T.zF.ok jW ?_ ?_
 walk_at "i"
 ·obtain ⟨a,lh,ms,on,row,n,d,rfl,hR,G,hlh,hok,hrow,honl,hn,hgo,q⟩:=h
  refine @ao _ _ _ _ _ _ _ (aB (i:=3) jW.nd rfl (Or.inl rfl) (dU fC (by rfl) T.iO (by decide +kernel) (aa (pv 1) af))) ⟨_,rfl,lh,_,rfl,.inl (bf.of hlh),λlo hlo=>?_⟩
  have s1:aq H (upd H lo (.lst (on.map bS))):=aq.upd hlo
  have ho1:upd H lo (.lst (on.map bS)) lo = some (.lst (on.map bS)):=ai
  generalize upd H lo (.lst (on.map bS)) = H1 at s1 ho1
  refine @ao _ _ _ _ _ _ _ (aB (i:=4) jW.nd rfl (Or.inl rfl) (bH af)) ⟨by show 0 <= sizeLine;decide,λlt hlt=>?_⟩
  have s2:aq H1 (upd H1 lt (.lst [])):=aq.upd hlt
  have ht2:upd H1 lt (.lst []) lt = some (.lst []):=ai
  have ho2:=s2 _ _ ho1
  have not_:lo ≠ lt:=aj ho1 hlt
  have hlt0:H lt = none:=s1.free hlt
  generalize upd H1 lt (.lst []) = H2 at s2 ht2 ho2
  have s2:=s1.trans s2
  refine @ao _ _ _ _ _ _ _ (aB (i:=5) jW.nd rfl (Or.inl rfl) (bH af)) ⟨by show 0 <= sizeLine;decide,λlk hlk=>?_⟩
  have s3:aq H2 (upd H2 lk (.lst [])):=aq.upd hlk
  have hk3:upd H2 lk (.lst []) lk = some (.lst []):=ai
  have ho3:=s3 _ _ ho2
  have ht3:=s3 _ _ ht2
  have nok:lo ≠ lk:=aj ho2 hlk
  have ntk:lt ≠ lk:=aj ht2 hlk
  have hlk0:H lk = none:=s2.free hlk
  generalize upd H2 lk (.lst []) = H3 at s3 hk3 ho3 ht3
  have s3:=s2.trans s3
  show At _ _ _ [some (.ref a),some (.ref lh),some (.str row),some (.ref lo),some (.ref lt),some (.ref lk),none,none,none,none] H3
  refine @av _ _ _ _ _ _ (gu PassesOwn.never (i9 jh) ay) ⟨λm Z' H'=>∃ c:Cfg,(∃ x6 x7 x8 x9,Z' = [some (.ref a),some (.ref lh),some (.str row),some (.ref lo),some (.ref lt),some (.ref lk),x6,x7,x8,x9]) /\ H' lo = some (.lst (c.on.map bS)) /\ H' lt = some (.lst (c.aD.map V.str)) /\ GF H H' lk c.marks /\ ia ms c.on /\ c.aD.length <= row.length /\ c.on.length + m <= on.length + n /\ c.marks.length + m <= n /\ goN ms row m c = some d /\ aq H H',⟨n,⟨on,[],[]⟩,⟨_,_,_,_,rfl⟩,ho3,ht3,⟨[],hk3,bU.nil,by simp⟩,hok,Nat.zero_le _,Nat.le_refl _,by simp,hgo,s3⟩,?_⟩
  rintro m Z' H4 ⟨c,⟨x6,x7,x8,x9,rfl⟩,ho4,ht4,hk4,hok4,htl4,hol4,hml4,hgo4,s4⟩
  refine ⟨true,rfl,Jg ⟨_,λZ' H' z=>z,?_⟩⟩
  refine @ao _ _ _ _ _ _ _ (aB (i:=6) jW.nd rfl (Or.inl rfl) (aO aR (by rfl) T.bK (by decide +kernel) (aa (pv 4) af))) ⟨_,rfl,_,_,rfl,.inl (bf.of ht4),?_⟩
  rw [List.length_map]
  show At _ _ _ [some (.ref a),some (.ref lh),some (.str row),some (.ref lo),some (.ref lt),some (.ref lk),some (.int c.aD.length),x7,x8,x9] H4
  obtain ⟨md,hm⟩:=hok4.mode
  have hmm:=List.mem_of_getElem? hm
  obtain ⟨dx,lm,as,b,lr,dm,rs,ha,hlm,hal,hb,hmo,hlr,hA⟩:=(hR.same s4).mode hm
  have hru:dB ms (bM c.on) = md.rules:=by rw [dB,hm]
  refine @ao _ _ _ _ _ _ _ (aB (i:=7) jW.nd rfl (Or.inl rfl) (aL aS (aT (pv 0) rfl) (aL aS (pv 3) (iu fG ak) (λ_ _=>rfl)) (λ_ _=>rfl))) (⟨_,rfl,_,_,_,_,_,rfl,ha,T.g6,T.cB,rfl,⟨_,rfl,_,rfl,_,_,_,_,rfl,rfl,bf.of ho4,eE (fJ hok4.1),_,_,_,_,rfl,rfl,bf.of hlm,c9 hb,?_⟩⟩)
  refine @ao _ _ _ _ _ _ _ (aB (i:=8) jW.nd rfl (Or.inl rfl) (aM (GL T) (hr.mono (by decide)) rfl T.DO T.qL.kp (T.qL.binds (by walk_at "4")) .nil aF (aa (pv 0) (aa (aL aS (pv 3) (iu fG ak) (λ_ _=>rfl)) (aa (pv 2) (aa (pv 6) af)))))) ⟨_,rfl,_,rfl,_,rfl,_,_,_,_,rfl,rfl,bf.of ho4,eE (fJ hok4.1),_,rfl,_,rfl,a,ms,md,bM c.on,c.aD.length,row,rfl,hR.same s4,hm,G.ok md hmm,hrow,htl4,λH5 s5=>?_⟩
  have ho5:=s5 _ _ ho4
  have ht5:=s5 _ _ ht4
  have hk5:=hk4.same s5
  have s5':=s4.trans s5
  cases hf:firstM md.rules row c.aD.length with
  | none =>
   have hrn:c8 (dB ms (bM c.on)) row c.aD.length = none:=by rw [hru,c8,hf];rfl
   refine @av _ _ _ _ _ _ (bx (aA gJ (pv 8) bN (aI _)) ay ay) ⟨_,rfl,rfl,_,rfl,g7 (λh=>absurd rfl h) (λ_=>?_)⟩
   refine @av _ _ _ _ _ _ (bx (aA ff (pv 6) (aO bD (by rfl) T.bK (by decide +kernel) (aa (pv 2) af)) (aI _)) ay ay) ⟨_,rfl,_,rfl,_,rfl,b7 (by lia),_,_,rfl,rfl,_,rfl,dJ (λh=>?_) (λh=>?_)⟩
   ·have hlt':c.aD.length < row.length:=by lia
    have hst:eW ms row c = some ⟨c.on,c.aD ++ [cC ms (bM c.on)],c.marks⟩:=by
     rw [eW,hrn]
     show (if c.aD.length < row.length then _ else _) = _
     rw [if_pos hlt']
    have ecol:cC ms (bM c.on) = md.aU:=by rw [cC,hm]
    refine @av _ _ _ _ _ _ (bz (cH F.plainAttrs_list F.slot_list_append F.type_list_append bQ (pv 4) (aa (aT (pv 7) rfl) af))) ⟨_,rfl,.inl ⟨rfl,_,bf.of ht5⟩,⟨_,rfl,_,_,_,_,_,rfl,(s5 _ _ hmo),T.fB,T.fN,rfl,⟨lt,_,_,rfl,rfl,ht5,cZ (by rw [List.length_map];lia),?_⟩⟩⟩
    obtain ⟨m',rfl⟩:∃ m',m = m' + 1:=by
     cases m with
     | zero=>rw [goN,hst] at hgo4;cases hgo4
     | succ m'=>exact ⟨m',rfl⟩
    rw [goN,hst] at hgo4
    refine ⟨m',by lia,⟨c.on,c.aD ++ [cC ms (bM c.on)],c.marks⟩,⟨_,_,_,_,rfl⟩,?_,?_,hk5.kJ ht5 (Ne.symm ntk),hok4,?_,?_,?_,hgo4,?_⟩
    ·rw [au not_];exact ho5
    ·rw [ai]
     show _ = some (HO.lst ((c.aD ++ [cC ms (bM c.on)]).map V.str))
     rw [List.map_append,ecol]
     rfl
    ·show (c.aD ++ [cC ms (bM c.on)]).length <= _
     rw [List.length_append,List.length_cons,List.length_nil]
     lia
    ·show c.on.length + m' <= _;lia
    ·show c.marks.length + m' <= _;lia
    ·intro b o hb
     rw [au (aj hb hlt0)]
     exact s5' _ _ hb
   ·have hst:eW ms row c = none:=by
     rw [eW,hrn]
     show (if c.aD.length < row.length then _ else _) = _
     rw [if_neg (by lia)]
    have hd:d = c:=by
     rw [oK hst] at hgo4
     exact (Option.some.inj hgo4).symm
    subst hd
    refine @av _ _ _ _ _ _ (aJ (ez (aa (pv 4) (aa (pv 3) (aa (pv 5) af))))) ⟨_,rfl,_,rfl,_,rfl,by show 3 <= sizeLine;decide,λtp htp=>?_⟩
    refine q tp lt lo lk _ ⟨ai,?_,?_,(hk5.same (aq.upd htp)).gm⟩ (hk5.same (aq.upd htp)) hlt0 hlo hlk0 (Ne.symm not_) ntk nok (s5'.to htp)
    ·exact aq.upd htp _ _ ht5
    ·exact aq.upd htp _ _ ho5
  | some j =>
   obtain ⟨R,hj,hruR,hfit⟩:=wL hf
   have hRm:=List.mem_of_getElem? hj
   obtain ⟨g1,g2⟩:=(G.ok md hmm).2 R hRm
   obtain ⟨r,hr0,hr1⟩:=hA.at hj
   obtain ⟨fe,fs,de,ds,PK⟩:=HW (P:=P) (w:=w) (base:=base) T g1
   have hst:eW ms row c = some (fq c R row):=by rw [eW,hru,hruR]
   obtain ⟨m',rfl⟩:∃ m',m = m' + 1:=by
    cases m with
    | zero=>rw [goN,hst] at hgo4;cases hgo4
    | succ m'=>exact ⟨m',rfl⟩
   rw [goN,hst] at hgo4
   have hr5:=hr1.same s5
   have hel:=AS (R:=R) (row:=row) g1 htl4
   refine @av _ _ _ _ _ _ (bx (aA gJ (pv 8) bN (aI _)) ay ay) ⟨_,rfl,rfl,_,rfl,g7 (λ_=>?_) (λh=>by cases h)⟩
   refine @ao _ _ _ _ _ _ _ (aB (i:=9) jW.nd rfl (Or.inl rfl) (aL aS (aT (pv 7) rfl) (pv 8) (λ_ _=>rfl))) (⟨_,rfl,_,_,_,_,_,rfl,(s5 _ _ hmo),T.fB,T.dF,rfl,⟨_,rfl,_,_,_,_,rfl,rfl,bf.of (s5 _ _ hlr),c9 hr0,?_⟩⟩)
   obtain ⟨dr,pa,o1,dp,o2⟩:=id hr5
   refine @ao _ _ _ _ _ _ _ (bz (cH F.plainAttrs_list F.slot_list_extend F.type_list_extend CF (pv 4) (aa (aK E8 (bH (aa (aT (pv 9) rfl) af)) (bA (aT (pv 9) rfl) PK.cl PK.me PK.ge (hr.mono (by decide)) PK.be .nil aF (aa (pv 2) (aa (pv 6) af)))) af))) ⟨_,rfl,.inl ⟨rfl,_,bf.of ht5⟩,⟨_,rfl,_,_,_,_,_,rfl,o1,T.cE,T.fH,rfl,⟨by show 1 <= sizeLine;decide,λl1 hl1=>?_⟩⟩⟩
   have s6:aq H5 (upd H5 l1 (.lst [.str R.aU])):=aq.upd hl1
   have hl6:upd H5 l1 (.lst [.str R.aU]) l1 = some (.lst [.str R.aU]):=ai
   generalize upd H5 l1 (.lst [.str R.aU]) = H6 at s6 hl6
   refine ⟨_,rfl,_,_,_,_,_,rfl,(s6 _ _ o1),T.cE,T.cW,rfl,⟨pa,dp,_,rfl,s6 _ _ o2,PK.ne _,_,rfl,_,rfl,pa,dp,R.signs,row,c.aD.length,rfl,s6 _ _ o2,by lia,hrow,htl4,?_⟩⟩
   rw [Bq hfit]
   refine ⟨l1,_,_,rfl,rfl,hl6,by lia,by lia,by rw [Int.toNat_natCast];exact b7 (by simp only [List.length_cons,List.length_nil];lia),λl2 hl2=>?_⟩
   rw [Int.toNat_natCast,pF]
   have s7:aq H5 (upd H6 l2 (.lst (List.replicate (fF R row c.aD.length) (V.str R.aU)))):=s6.to hl2
   have hl7:upd H6 l2 (.lst (List.replicate (fF R row c.aD.length) (V.str R.aU))) l2 = some (.lst (List.replicate (fF R row c.aD.length) (V.str R.aU))):=ai
   generalize upd H6 l2 (.lst (List.replicate (fF R row c.aD.length) (V.str R.aU))) = H7 at s7 hl7
   have ht7:=s7 _ _ ht5
   have ho7:=s7 _ _ ho5
   have hk7:=hk5.same s7
   refine ⟨lt,l2,_,_,rfl,rfl,ht7,hl7,b7 (by rw [List.length_map,List.length_replicate];lia),?_⟩
   have ht8:upd H7 lt (.lst (c.aD.map V.str ++ List.replicate (fF R row c.aD.length) (V.str R.aU))) lt = some (.lst ((fq c R row).aD.map V.str)):=by
    rw [ai]
    show _ = some (HO.lst ((c.aD ++ List.replicate (fF R row c.aD.length) R.aU).map V.str))
    rw [List.map_append,List.map_replicate]
   have ho8:upd H7 lt (.lst (c.aD.map V.str ++ List.replicate (fF R row c.aD.length) (V.str R.aU))) lo = some (.lst (c.on.map bS)):=by rw [au not_];exact ho7
   have hk8:GF H (upd H7 lt (.lst (c.aD.map V.str ++ List.replicate (fF R row c.aD.length) (V.str R.aU)))) lk c.marks:=hk7.kJ ht7 (Ne.symm ntk)
   have hr8:dc t (upd H7 lt (.lst (c.aD.map V.str ++ List.replicate (fF R row c.aD.length) (V.str R.aU)))) r R:=(hr5.same s7).kJ ht7
   have s8:aq H (upd H7 lt (.lst (c.aD.map V.str ++ List.replicate (fF R row c.aD.length) (V.str R.aU)))):=λb o hb=>by rw [au (aj hb hlt0)];exact s7 _ _ (s5' _ _ hb)
   generalize upd H7 lt (.lst (c.aD.map V.str ++ List.replicate (fF R row c.aD.length) (V.str R.aU))) = H8 at ht8 ho8 hk8 hr8 s8
   refine @aG _ _ _ _ _ _ _ (λZ' H'=>(∃ x7 x8,Z' = [some (.ref a),some (.ref lh),some (.str row),some (.ref lo),some (.ref lt),some (.ref lk),some (.int c.aD.length),x7,x8,some (.ref r)]) /\ H' lo = some (.lst (c.on.map bS)) /\ H' lt = some (.lst ((fq c R row).aD.map V.str)) /\ GF H H' lk (fq c R row).marks /\ dc t H' r R /\ aq H H') (bx (aA lE (aT (pv 9) rfl) aX (aI _)) ay ay) ?_ ?_
   ·obtain ⟨dr8,pa8,o8,p8⟩:=id hr8
    refine ⟨_,rfl,_,_,_,_,_,rfl,o8,T.cE,T.fZ,rfl,⟨rfl,_,rfl,g7 (λh=>?_) (λh=>aZ ⟨⟨_,_,rfl⟩,ho8,ht8,?_,hr8,s8⟩)⟩⟩
    ·have h:R.fold ≠ "" := λz=>h (by rw [z])
     obtain ⟨ps,hps,hAp,hfr⟩:=hk8
     refine @av _ _ _ _ _ _ (bz (cH F.plainAttrs_list F.slot_list_append F.type_list_append bQ (pv 5) (aa (ez (aa (pv 6) (aa (aT (pv 9) rfl) af))) af))) ⟨_,rfl,.inl ⟨rfl,_,bf.of hps⟩,_,rfl,⟨_,rfl,_,_,_,_,_,rfl,o8,T.cE,T.fZ,rfl,⟨by show 2 <= sizeLine;decide,λtp htp=>?_⟩⟩⟩
     have s9:aq H8 (upd H8 tp (.tup [.int c.aD.length,.str R.fold])):=aq.upd htp
     have hp9:upd H8 tp (.tup [.int c.aD.length,.str R.fold]) tp = some (.tup [.int c.aD.length,.str R.fold]):=ai
     generalize upd H8 tp (.tup [.int c.aD.length,.str R.fold]) = H9 at s9 hp9
     have hps9:=s9 _ _ hps
     have hpl:ps.length <= 100000:=by rw [hAp.1];lia
     refine ⟨lk,_,_,rfl,rfl,hps9,cZ (by rw [List.length_map];lia),⟨_,_,rfl⟩,?_,?_,?_,?_,?_⟩
     ·rw [au nok];exact s9 _ _ ho8
     ·rw [au ntk];exact s9 _ _ ht8
     ·have em:(fq c R row).marks = c.marks ++ [(c.aD.length,R.fold)]:=if_neg h
      rw [em]
      refine ⟨ps ++ [tp],by rw [ai,List.map_append];rfl,bU.snoc (hAp.mono λp m e=>?_) ?_,λp hp=>?_⟩
      ·rw [au (cA (s9 _ _ e) hps9 (by intro z;cases z))];exact s9 _ _ e
      ·rw [au (cA hp9 hps9 (by intro z;cases z))];exact hp9
      ·rcases List.mem_append.mp hp with hp | hp
       ·exact hfr p hp
       ·rw [List.mem_singleton.mp hp];exact s8.free htp
     ·exact (hr8.same s9).kJ hps9
     ·intro b o hb
      rw [au (aj hb hlk0)]
      exact s9 _ _ (s8 _ _ hb)
    ·have h:R.fold = "" := V.str.inj h
     have em:(fq c R row).marks = c.marks:=if_pos h
     rw [em]
     exact hk8
   rintro Z' H9 ⟨⟨y7,y8,rfl⟩,ho9,ht9,hk9,hr9,s9⟩
   refine @av _ _ _ _ _ _ (bz (aM (Gw T) (hr.mono (by decide)) rfl T.D8 T.su.kp (T.su.binds (by walk_at "2")) .nil aF (aa (pv 3) (aa (pv 9) af)))) ⟨_,rfl,_,rfl,lo,r,c.on,R,rfl,ho9,hr9,hok4.1,by lia,G.gd hmm hRm,?_⟩
   have hdl:=qR (on:=c.on) (d:=R.bh) (g:=R.goal)
   refine ⟨m',by lia,fq c R row,⟨_,_,_,_,rfl⟩,ai,?_,hk9.kJ ho9 (Ne.symm nok),hok4.bh G hmm hRm,?_,?_,?_,hgo4,?_⟩
   ·rw [au (Ne.symm not_)];exact ht9
   ·show (c.aD ++ List.replicate _ _).length <= _
    rw [List.length_append,List.length_replicate]
    exact hel
   ·show (bE c.on R.bh R.goal).length + m' <= _
    lia
   ·show (if R.fold = "" then c.marks else c.marks ++ [(c.aD.length,R.fold)]).length + m' <= _
    split
    ·lia
    ·rw [List.length_append,List.length_cons,List.length_nil];lia
   ·intro b o hb
    rw [au (aj hb hlo)]
    exact s9 _ _ hb
theorem join_eq (sep:Str) (ys:List Str):PySem.Txt.join sep ys = Str.join sep ys:=eq_of_beq (PyProof.Rows.join_plain_closes sep ys)
theorem pick {xs:List Str} {d:Int} (h0:0 <= d) (h1:d < xs.length):∃ x ∈ xs,rA (xs.map V.str) d = some (.str x):=by
 obtain ⟨v,e1,e2⟩:=kP (xs.map V.str) h0 (by rw [List.length_map];exact h1)
 rw [List.getElem?_map] at e1
 obtain ⟨x,e3,rfl⟩:=Option.map_eq_some_iff.mp e1
 exact ⟨x,List.mem_of_getElem? e3,e2⟩
theorem vv {b c:Bool} {A B:Prop} (h:b = c) (k:if c = true then A else B):if b = true then A else B:=by rw [h];exact k
theorem jt:∀ (cs:List Nat),(Str.join "" (cs.map λc=>(⟨#[c]⟩:Str))).cps.toList = cs
 | []=>by decide +kernel
 | [c]=>rfl
 | c :: d :: r=>by
  have ih:=jt (d :: r)
  show ((⟨#[c]⟩:Str) ++ "" ++ Str.join "" ((d :: r).map λc=>(⟨#[c]⟩:Str))).cps.toList = _
  rw [eU,eU,ih,show (Str.ofString "").cps.toList = [] from by decide +kernel]
  rfl
theorem kq:∀ (cs:List Nat),((cs.map λc=>(⟨#[c]⟩:Str)).map (·.length)).sum = cs.length
 | []=>rfl
 | c :: r=>by
  rw [List.map_cons,List.map_cons,List.sum_cons,kq r,List.length_cons]
  show 1 + _ = _
  lia
noncomputable def MU (K:PySem.W.Frag):Sp:=λvs H Q _=>∃ (a:Addr) (ns:List Int) (k m:Int),vs = [.ref a,.int k,.int m] /\ bf K H a (ns.map V.int) /\ 0 <= k /\ k <= 100000 /\ 0 < m /\ ns.length <= 63 /\
 ∀ d H',0 <= d -> d < m -> aq H H' -> Q (.int d) H'
theorem dI (T:Txt K mg t):bC P w K mg base c6 1 t.pK t.xH ["_law_script","_law_k","_law_many"] (MU K):=by
 refine T.bY.ok mU ?_ ?_
 walk_at "i"
 ·obtain ⟨a,ns,k,m,rfl,hS,hk0,hk1,hm,hl,q⟩:=h
  refine @aG _ _ _ _ _ _ _ (λZ' H'=>∃ c:Int,Z' = [some (.ref a),some (.int k),some (.int m),some (.int c),none,none,none] /\ H' = H) (aB (i:=3) mU.nd rfl (Or.inl rfl) (cX (aA i6 (aO aR (by rfl) T.bK (by decide +kernel) (aa (pv 0) af)) ak (aI _)) (aL aS (pv 0) (aK jb (pv 1) (aO aR (by rfl) T.bK (by decide +kernel) (aa (pv 0) af))) (λ_ _=>rfl)) ak)) ?_ ?_
  ·refine ⟨_,rfl,_,_,rfl,.inl hS,_,_,rfl,rfl,_,rfl,dJ (λh=>?_) (λh=>⟨0,rfl,rfl⟩)⟩
   refine ⟨_,rfl,_,rfl,_,rfl,_,_,rfl,.inl hS,_,_,rfl,rfl,h,?_⟩
   obtain ⟨h1,h2⟩:=jL k h
   obtain ⟨v,e1,e2⟩:=kP (ns.map V.int) h1 h2
   rw [List.getElem?_map] at e1
   obtain ⟨c,e3,rfl⟩:=Option.map_eq_some_iff.mp e1
   exact ⟨_,_,_,_,rfl,rfl,hS,e2,c,rfl,rfl⟩
  rintro Z' H' ⟨c,rfl,e⟩
  rw [e]
  clear e H'
  refine @ao _ _ _ _ _ _ _ (aB (i:=4) mU.nd rfl (Or.inl rfl) (pv 3)) ⟨_,rfl,?_⟩
  refine @aG _ _ _ _ _ _ _ (λZ' H'=>(∃ x y,Z' = [some (.ref a),some (.int k),some (.int m),some (.int c),x,y,none]) /\ H' = H) (bx (PW.pt (dH (aA i6 (aO aR (by rfl) T.bK (by decide +kernel) (aa (pv 0) af)) ak (aI _)) (di (aA cI (aK jb (aL aS (pv 0) ak (λ_ _=>rfl)) ak) ak (aI _))))) ay ay) ?_ ?_
  ·refine ⟨_,rfl,_,_,rfl,.inl hS,_,_,rfl,rfl,_,rfl,dJ (λh=>?_) (λh=>aZ ⟨⟨_,_,rfl⟩,rfl⟩)⟩
   obtain ⟨n0,r0,rfl⟩:∃ n0 r0,ns = n0 :: r0:=by
    cases ns with
    | nil=>simp at h
    | cons x r=>exact ⟨x,r,rfl⟩
   refine ⟨_,rfl,_,_,_,_,rfl,rfl,hS,aQ (j:=0) rfl,_,_,rfl,rfl,(by show (0:Int) < 2;decide),rfl,_,rfl,dJ (λh2=>?_) (λh2=>aZ ⟨⟨_,_,rfl⟩,rfl⟩)⟩
   refine @aG _ _ _ _ _ _ _ (λZ' H'=>(∃ (x:Int) (y:Option V),Z' = [some (.ref a),some (.int k),some (.int m),some (.int c),some (.int x),y,none]) /\ H' = H) (dj PassesOwn.never rfl (dS rfl T.fE (aa (aK jb (aK uU (pv 1) (aO aR (by rfl) T.bK (by decide +kernel) (aa (pv 0) af))) ak) af)) (bJ (i:=5) mU.nd rfl (Or.inl rfl)) ay) ?_ ?_
   ·have hd:=jL (k / (((n0 :: r0).map V.int).length:Int)) (m:=60) (by decide)
    refine ⟨_,rfl,_,rfl,_,_,rfl,.inl hS,_,_,rfl,rfl,⟨h,(by rw [List.length_map] at h ⊢;lia)⟩,_,_,rfl,rfl,(by show (0:Int) < 60;decide),_,rfl,by lia,by lia,fX (λj Z' H'=>(∃ (x:Int) (y:Option V),Z' = [some (.ref a),some (.int k),some (.int m),some (.int c),some (.int x),y,none]) /\ H' = H) ⟨⟨_,_,rfl⟩,rfl⟩ ?_ (λZ' H' z=>z)⟩
    rintro j Z' H1 hj ⟨⟨x,y,rfl⟩,e⟩
    rw [e]
    exact @av _ _ _ _ _ _ (aB (i:=4) mU.nd rfl (Or.inl rfl) (aK uU (pv 4) ak)) ⟨_,rfl,_,_,rfl,rfl,⟨by decide,by decide⟩,⟨_,_,rfl⟩,rfl⟩
   rintro Z' H' ⟨⟨x,y,rfl⟩,e⟩
   rw [e]
   clear e H'
   refine @av _ _ _ _ _ _ (bx (aA i6 (pv 4) ak (aI _)) ay ay) ⟨_,rfl,_,_,rfl,rfl,_,rfl,dJ (λh3=>?_) (λh3=>aZ ⟨⟨_,_,rfl⟩,rfl⟩)⟩
   have hd:=jL (x / 2 % 500009) hm
   exact @av _ _ _ _ _ _ (aJ (aK jb (aK jb (aK uU (pv 4) ak) ak) (pv 2))) ⟨_,rfl,_,_,rfl,rfl,⟨by decide,by decide⟩,_,_,rfl,rfl,(by show (0:Int) < 500009;decide),_,rfl,_,_,rfl,rfl,hm,q _ H hd.1 hd.2 (aq.refl H)⟩
  rintro Z' H' ⟨⟨x,y,rfl⟩,e⟩
  rw [e]
  clear e H'
  refine @ao _ _ _ _ _ _ _ (aB (i:=6) mU.nd rfl (Or.inl rfl) (aK aY (aK aY (aK jb (pv 3) ak) (aK jY (aK jY ak (pv 1)) (pv 1))) ak)) ?_
  walk_at "rd"
  refine ⟨by decide,.inl ⟨by decide,by decide⟩,.inr ⟨by lia,by lia⟩,?_⟩
  refine @av _ _ _ _ _ _ (aJ (aK jb (aK jb (aK jY (aK jb (aK jY (pv 6) ak) ak) ak) ak) (pv 2))) ?_
  walk_at "rd"
  have hd:=jL ((c % 1000003 + 31 * k * k + 1) * 48271 % 999983 * 7919 % 524287) hm
  exact ⟨.inr ⟨by decide,by decide⟩,by decide,.inr ⟨by decide,by decide⟩,by decide,hm,q _ H hd.1 hd.2 (aq.refl H)⟩
abbrev uW:List Nat:=(Str.ofString "ab()# ").cps.toList
theorem EI:∀ c ∈ uW,c ≠ 95 /\ c ≠ 10:=by decide +kernel
noncomputable def NI (K:PySem.W.Frag):Sp:=λvs H Q _=>∃ (a:Addr) (ns:List Int) (b:Int),vs = [.ref a,.int b] /\ bf K H a (ns.map V.int) /\ ns.length <= 63 /\ 0 <= b /\ b <= 50000 /\
 ∀ (z:Str) H',1 <= z.length -> z.length <= 3 -> (∀ c ∈ z.cps.toList,c ∈ uW) -> aq H H' -> Q (.str z) H'
theorem JY (T:Txt K mg t):bC P w K mg base c6 2 t.qD t.yM ["_law_script","_law_base"] (NI K):=by
 refine T.vY.ok D9 ?_ ?_
 walk_at "i"
 ·obtain ⟨a,ns,b,rfl,hS,hl,hb0,hb1,q⟩:=h
  refine @aG _ _ _ _ _ _ _ (λZ' H'=>∃ z:Nat,0 < z /\ z <= 3 /\ Z' = [some (.ref a),some (.int b),some (.int z)] /\ aq H H') (aB (i:=2) D9.nd rfl (Or.inl rfl) (aK aY ak (aM (dI T) (hr.mono (by decide)) rfl T.dM T.bY.kp (T.bY.binds (by walk_at "3")) .nil aF (aa (pv 0) (aa (pv 1) (aa ak af)))))) ?_ ?_
  ·refine ⟨_,rfl,_,rfl,a,ns,_,_,rfl,hS,(by lia),(by lia),(by decide),hl,λd H1 h0 h1 s1=>⟨_,_,rfl,rfl,?_⟩⟩
   refine ⟨(1 + d).toNat,by lia,by lia,?_,s1⟩
   rw [show (((1 + d).toNat:Nat):Int) = 1 + d by lia]
   rfl
  rintro Z' H1 ⟨sz,hz0,hz1,rfl,s1⟩
  refine @av _ _ _ _ _ _ (@aJ _ _ _ _ (@cH _ _ _ _ _ _ _ _ _ _ _ _ F.plainAttrs_str F.slot_str_join F.type_str_join jw aX (@aa _ _ _ _ _ (@gK _ (az BL) _ ["_law_script","_law_base","_law_size"] _ _ ("_law_k") _ _ [("_law_script",0),("_law_base",1)] _ _ (by walk_at "ck") (@dS _ _ _ _ _ _ rfl T.fE (@aa _ _ _ _ _ (pv 2) af (by left)) (by left)) (λ_ _ _ _=>by exact (@aL _ _ _ _ _ _ _ k6 aX (@aM _ _ _ _ _ _ _ _ _ _ _ _ _ _ _ _ (dI T) (hr.mono (by decide)) rfl T.dM T.bY.kp (T.bY.binds (by walk_at "3")) .nil aF (@aa _ _ _ _ _ (pv 0) (@aa _ _ _ _ _ (@aK _ _ _ _ _ _ _ _ aY (@aK _ _ _ _ _ _ _ _ aY (pv 1) ak) (pv 2)) (@aa _ _ _ _ _ ak af (by left)) (by left)) (by left)) (by left) (by left) (by left)) (λ_ _=>rfl))) (by left) (by left) (by left) (by left)) af (by left)) (by left) (by left) (by left) (by left) (by left))) ⟨rfl,_,rfl,_,rfl,by lia,by lia,jk (n:=((sz:Nat):Int).toNat) (λj ys H2=>∃ cs:List Nat,ys = (cs.map λc=>(⟨#[c]⟩:Str)).map V.str /\ (∀ c ∈ cs,c ∈ uW) /\ aq H H2) ⟨[],rfl,by simp,s1⟩ (cZ (by lia)) ?_ ?_⟩
  ·rintro j ys H2 hj hyl ⟨cs,rfl,hz,s2⟩
   refine ⟨_,rfl,_,rfl,_,_,rfl,rfl,_,rfl,_,_,rfl,rfl,a,ns,_,_,rfl,hS.same s2,(by lia),(by lia),(by decide),hl,λd H3 h0 h1 s3=>?_⟩
   have l6:uW.length = 6:=by decide +kernel
   obtain ⟨c,e1,e2⟩:=kP uW h0 (by rw [l6];exact h1)
   refine ⟨_,_,c,rfl,rfl,by decide +kernel,e2,dh hj hyl ⟨cs ++ [c],by simp,?_,s2.trans s3⟩⟩
   intro x hx
   rcases List.mem_append.mp hx with hx | hx
   ·exact hz x hx
   ·rw [List.mem_singleton.mp hx];exact List.mem_of_getElem? e1
  ·rintro ys H2 hyl ⟨cs,rfl,hz,s2⟩ D hD
   rw [List.length_map,List.length_map] at hyl
   refine ⟨_,D,_,rfl,rfl,bf.of ai,?_,?_⟩
   ·rw [kq,show ("" : Str).length = 0 from by decide]
    lia
   ·rw [join_eq]
    have e:(Str.join (Str.ofString "") (cs.map λc=>(⟨#[c]⟩:Str))).cps.toList = cs:=jt cs
    have el:(Str.join (Str.ofString "") (cs.map λc=>(⟨#[c]⟩:Str))).length = cs.length:=by rw [← bq,e]
    refine q _ _ (by show 1 <= (Str.join (Str.ofString "") _).length;rw [el];lia) (by show (Str.join (Str.ofString "") _).length <= 3;rw [el];lia) (λc hc=>?_) (s2.to hD)
    rw [show (("" : Str)) = Str.ofString "" from rfl,e] at hc
    exact hz c hc
noncomputable def Ov (K:PySem.W.Frag):Sp:=λvs H Q _=>∃ (a:Addr) (ns:List Int) (b:Int) (m:Nat),vs = [.ref a,.int b,.int m] /\ bf K H a (ns.map V.int) /\ ns.length <= 63 /\ 0 <= b /\ b <= 50000 /\ 0 < m /\ m <= 100 /\
 ∀ (z:Str) H',z.length < m -> (∀ c ∈ z.cps.toList,c ∈ uW) -> aq H H' -> Q (.str z) H'
abbrev Qt:List Nat:=(Str.ofString "ab()# ab").cps.toList
theorem NO:∀ c ∈ Qt,c ∈ uW:=by decide +kernel
theorem M8 (T:Txt K mg t):bC P w K mg base c6 2 t.sA t.yp ["_law_script","_law_base","_law_most"] (Ov K):=by
 refine T.yg.ok Gy ?_ ?_
 walk_at "i"
 ·obtain ⟨a,ns,b,m,rfl,hS,hl,hb0,hb1,hm0,hm1,q⟩:=h
  refine @aG _ _ _ _ _ _ _ (λZ' H'=>∃ z:Nat,z < m /\ Z' = [some (.ref a),some (.int b),some (.int m),some (.int z)] /\ aq H H') (aB (i:=3) Gy.nd rfl (Or.inl rfl) (aM (dI T) (hr.mono (by decide)) rfl T.dM T.bY.kp (T.bY.binds (by walk_at "3")) .nil aF (aa (pv 0) (aa (pv 1) (aa (pv 2) af))))) ?_ ?_
  ·refine ⟨_,rfl,_,rfl,_,rfl,a,ns,_,_,rfl,hS,(by lia),(by lia),(by lia),hl,λd H1 h0 h1 s1=>?_⟩
   refine ⟨d.toNat,by lia,?_,s1⟩
   rw [show ((d.toNat:Nat):Int) = d by lia]
   rfl
  rintro Z' H1 ⟨sz,hz1,rfl,s1⟩
  refine @av _ _ _ _ _ _ (@aJ _ _ _ _ (@cH _ _ _ _ _ _ _ _ _ _ _ _ F.plainAttrs_str F.slot_str_join F.type_str_join jw aX (@aa _ _ _ _ _ (@gK _ (az Be) _ ["_law_script","_law_base","_law_most","_law_size"] _ _ ("_law_k") _ _ [("_law_script",0),("_law_base",1)] _ _ (by walk_at "ck") (@dS _ _ _ _ _ _ rfl T.fE (@aa _ _ _ _ _ (pv 3) af (by left)) (by left)) (λ_ _ _ _=>by exact (@aL _ _ _ _ _ _ _ k6 aX (@aM _ _ _ _ _ _ _ _ _ _ _ _ _ _ _ _ (dI T) (hr.mono (by decide)) rfl T.dM T.bY.kp (T.bY.binds (by walk_at "3")) .nil aF (@aa _ _ _ _ _ (pv 0) (@aa _ _ _ _ _ (@aK _ _ _ _ _ _ _ _ aY (@aK _ _ _ _ _ _ _ _ aY (pv 1) ak) (pv 2)) (@aa _ _ _ _ _ ak af (by left)) (by left)) (by left)) (by left) (by left) (by left)) (λ_ _=>rfl))) (by left) (by left) (by left) (by left)) af (by left)) (by left) (by left) (by left) (by left) (by left))) ⟨rfl,_,rfl,_,rfl,by lia,by lia,jk (n:=((sz:Nat):Int).toNat) (λj ys H2=>∃ cs:List Nat,ys = (cs.map λc=>(⟨#[c]⟩:Str)).map V.str /\ (∀ c ∈ cs,c ∈ uW) /\ aq H H2) ⟨[],rfl,by simp,s1⟩ (cZ (by lia)) ?_ ?_⟩
  ·rintro j ys H2 hj hyl ⟨cs,rfl,hz,s2⟩
   refine ⟨_,rfl,_,rfl,_,_,rfl,rfl,_,rfl,_,_,rfl,rfl,a,ns,_,_,rfl,hS.same s2,(by lia),(by lia),(by decide),hl,λd H3 h0 h1 s3=>?_⟩
   have l8:Qt.length = 8:=by decide +kernel
   obtain ⟨c,e1,e2⟩:=kP Qt h0 (by rw [l8];exact h1)
   refine ⟨_,_,c,rfl,rfl,by decide +kernel,e2,dh hj hyl ⟨cs ++ [c],by simp,?_,s2.trans s3⟩⟩
   intro x hx
   rcases List.mem_append.mp hx with hx | hx
   ·exact hz x hx
   ·rw [List.mem_singleton.mp hx];exact NO _ (List.mem_of_getElem? e1)
  ·rintro ys H2 hyl ⟨cs,rfl,hz,s2⟩ D hD
   rw [List.length_map,List.length_map] at hyl
   refine ⟨_,D,_,rfl,rfl,bf.of ai,?_,?_⟩
   ·rw [kq,show ("" : Str).length = 0 from by decide]
    lia
   ·rw [join_eq]
    have e:(Str.join (Str.ofString "") (cs.map λc=>(⟨#[c]⟩:Str))).cps.toList = cs:=jt cs
    have el:(Str.join (Str.ofString "") (cs.map λc=>(⟨#[c]⟩:Str))).length = cs.length:=by rw [← bq,e]
    refine q _ _ (by show (Str.join (Str.ofString "") _).length < m;rw [el];lia) (λc hc=>?_) (s2.to hD)
    rw [show (("" : Str)) = Str.ofString "" from rfl,e] at hc
    exact hz c hc
structure nV (N k:Nat) (calm:Bool) (R:bB) (z:Str):Prop where
 sort:R.sort ∈ sorts
 z1:1 <= z.length
 z3:z.length <= 3
 zs:∀ c ∈ z.cps.toList,c ∈ uW
 sg:R.signs = if bare R.sort then ("" : Str) else z
 col:bX R.sort = true -> isName R.aU = true
 HR:bX R.sort = false -> R.aU = ""
 bh:R.bh ∈ jN
 goal:gv R.bh -> ∃ g,R.goal = some g /\ g < N
 wW:¬ gv R.bh -> R.goal = none
 fold:R.fold = "" ∨ R.fold = "open" ∨ R.fold = "close"
 idle:bX R.sort = false -> calm = false /\ (R.bh = "pop" ∨ (gv R.bh /\ ∃ g,R.goal = some g /\ k < g))
def JU (R:bB) (z:Str):List V:=[.str R.sort,.str z,.str R.aU,.str R.bh,iZ R.goal,.str R.fold]
noncomputable def HX (K:PySem.W.Frag):Sp:=λvs H Q _=>∃ (a:Addr) (ns:List Int) (b:Int) (k N:Nat) (calm:Bool),vs = [.ref a,.int b,.int k,.int N,.bl calm] /\ bf K H a (ns.map V.int) /\ ns.length <= 63 /\ 0 <= b /\ b <= 40000 /\ k < N /\ N <= 4 /\
 ∀ R z tq H',nV N k calm R z -> H' tq = some (.tup (JU R z)) -> aq H H' -> Q (.ref tq) H'
theorem B0 {s:Str} (hs:s ∈ sorts):Jm (.str s) [.str "still",.str "end"] = !bX s:=by
 rw [show ([.str "still",.str "end"]:List V) = (["still","end"]:List Str).map V.str from rfl,iL]
 rcases eu hs with rfl | rfl | rfl | rfl | rfl | rfl | rfl <;> decide +kernel
theorem in2 {x a b:Str}:Jm (.str x) [.str a,.str b] = decide (x = a ∨ x = b):=by
 rw [show ([.str a,.str b]:List V) = ([a,b]:List Str).map V.str from rfl,iL]
 simp only [List.mem_cons,List.not_mem_nil,or_false]
theorem in3 {x a b c:Str}:Jm (.str x) [.str a,.str b,.str c] = decide (x = a ∨ x = b ∨ x = c):=by
 rw [show ([.str a,.str b,.str c]:List V) = ([a,b,c]:List Str).map V.str from rfl,iL]
 simp only [List.mem_cons,List.not_mem_nil,or_false]
theorem jV {d:Str} (h:d ∈ jN):d = "stay" ∨ d = "push" ∨ d = "pop" ∨ d = "into" := by simpa using h
theorem LM (T:Txt K mg t):bC P w K mg base c6 3 t.qh t.wM ["_law_script","_law_base","_law_number","_law_many","_law_calm"] (HX K):=by
 refine T.yU.ok ic ?_ ?_
 walk_at "i"
 ·obtain ⟨a,ns,b,k,N,calm,rfl,hS,hl,hb0,hb1,hk,hN,q⟩:=h
  refine @aG _ _ _ _ _ _ _ (λZ' H'=>∃ st,st ∈ sorts /\ Z' = [some (.ref a),some (.int b),some (.int k),some (.int N),some (.bl calm),some (.str st),none,none,none,none] /\ aq H H') (@aB _ _ 5 _ _ _ _ ic.nd rfl (Or.inl rfl) (@aL _ _ _ _ _ _ _ aS (@bH _ _ _ _ (@fP _ _ ["word","word","one","none","many","any","still","end"] rfl)) (@aM _ _ _ _ _ _ _ _ _ _ _ _ _ _ _ _ (dI T) (hr.mono (by decide)) rfl T.dM T.bY.kp (T.bY.binds (by walk_at "3")) .nil aF (@aa _ _ _ _ _ (pv 0) (@aa _ _ _ _ _ (pv 1) (@aa _ _ _ _ _ ak af (by left)) (by left)) (by left)) (by left) (by left) (by left)) (λ_ _=>rfl)) (by left) (by left)) ?_ ?_
  ·refine ⟨by show 8 <= sizeLine;decide,λl0 hl0=>⟨_,rfl,_,rfl,a,ns,_,_,rfl,(hS.same (aq.upd hl0)),hb0,(by lia),(by decide),hl,λd H1 h0 h1 s1=>?_⟩⟩
   obtain ⟨x,hx,e⟩:=pick (xs:=["word","word","one","none","many","any","still","end"]) h0 h1
   have:∀ y ∈ (["word","word","one","none","many","any","still","end"]:List Str),y ∈ sorts:=by decide +kernel
   exact ⟨l0,_,_,_,rfl,rfl,bf.of (s1 _ _ ai),e,x,this x hx,rfl,(aq.upd hl0).trans s1⟩
  rintro Z' H1 ⟨st0,hst0,rfl,s1⟩
  refine @aG _ _ _ _ _ _ _ (λZ' H'=>∃ st,st ∈ sorts /\ (bX st = false -> calm = false) /\ Z' = [some (.ref a),some (.int b),some (.int k),some (.int N),some (.bl calm),some (.str st),none,none,none,none] /\ aq H H') (bx (PW.pt (dH (i9 (pv 4)) (di (aA fY (pv 5) (ez (aa aX (aa aX af))) rfl)))) ay ay) ?_ ?_
  ·refine ⟨_,rfl,calm,rfl,OG (λh=>?_) (λh=>aZ ⟨st0,hst0,λ_=>h,rfl,s1⟩)⟩
   refine ⟨_,rfl,by show 2 <= sizeLine;decide,λpt hpt=>⟨pt,_,rfl,.inr (d8.of ai),rfl,rfl,_,rfl,vv (B0 hst0) (OO (λh2=>?_) (λh2=>aZ ⟨st0,hst0,(λz=>by rw [h2] at z;cases z),rfl,s1.to hpt⟩))⟩⟩
   exact @av _ _ _ _ _ _ (aB (i:=5) ic.nd rfl (Or.inl rfl) aX) ⟨"word",by decide +kernel,(λz=>absurd z (by decide +kernel)),rfl,s1.to hpt⟩
  rintro Z' H2 ⟨st,hst,hcalm,rfl,s2⟩
  refine @aG _ _ _ _ _ _ _ (λZ' H'=>∃ dd,dd ∈ jN /\ Z' = [some (.ref a),some (.int b),some (.int k),some (.int N),some (.bl calm),some (.str st),some (.str dd),none,none,none] /\ aq H H') (@aB _ _ 6 _ _ _ _ ic.nd rfl (Or.inl rfl) (@aL _ _ _ _ _ _ _ aS (@bH _ _ _ _ (@fP _ _ ["stay","push","pop","into"] rfl)) (@aM _ _ _ _ _ _ _ _ _ _ _ _ _ _ _ _ (dI T) (hr.mono (by decide)) rfl T.dM T.bY.kp (T.bY.binds (by walk_at "3")) .nil aF (@aa _ _ _ _ _ (pv 0) (@aa _ _ _ _ _ (@aK _ _ _ _ _ _ _ _ aY (pv 1) ak) (@aa _ _ _ _ _ ak af (by left)) (by left)) (by left)) (by left) (by left) (by left)) (λ_ _=>rfl)) (by left) (by left)) ?_ ?_
  ·refine ⟨by show 4 <= sizeLine;decide,λl0 hl0=>⟨_,rfl,_,rfl,_,_,rfl,rfl,a,ns,_,_,rfl,(hS.same (s2.to hl0)),(by lia),(by lia),(by decide),hl,λd H3 h0 h1 s3=>?_⟩⟩
   obtain ⟨x,hx,e⟩:=pick (xs:=jN) h0 h1
   exact ⟨l0,_,_,_,rfl,rfl,bf.of (s3 _ _ ai),e,x,hx,rfl,(s2.to hl0).trans s3⟩
  rintro Z' H3 ⟨dd,hdd,rfl,s3⟩
  refine @aG _ _ _ _ _ _ _ (λZ' H'=>∃ g:Int,0 <= g /\ g < N /\ Z' = [some (.ref a),some (.int b),some (.int k),some (.int N),some (.bl calm),some (.str st),some (.str dd),some (.int g),none,none] /\ aq H H') (aB (i:=7) ic.nd rfl (Or.inl rfl) (aM (dI T) (hr.mono (by decide)) rfl T.dM T.bY.kp (T.bY.binds (by walk_at "3")) .nil aF (aa (pv 0) (aa (aK aY (pv 1) ak) (aa (pv 3) af))))) ?_ ?_
  ·exact ⟨_,rfl,_,rfl,_,_,rfl,rfl,_,rfl,a,ns,_,_,rfl,(hS.same s3),(by lia),(by lia),(by lia),hl,λd H4 h0 h1 s4=>⟨d,h0,h1,rfl,s3.trans s4⟩⟩
  rintro Z' H4 ⟨g,hg0,hg1,rfl,s4⟩
  refine @aG _ _ _ _ _ _ _ (λZ' H'=>∃ c,isName c = true /\ Z' = [some (.ref a),some (.int b),some (.int k),some (.int N),some (.bl calm),some (.str st),some (.str dd),some (.int g),some (.str c),none] /\ aq H H') (@aB _ _ 8 _ _ _ _ ic.nd rfl (Or.inl rfl) (@aL _ _ _ _ _ _ _ aS (@bH _ _ _ _ (@fP _ _ ["red","blue","green","r"] rfl)) (@aM _ _ _ _ _ _ _ _ _ _ _ _ _ _ _ _ (dI T) (hr.mono (by decide)) rfl T.dM T.bY.kp (T.bY.binds (by walk_at "3")) .nil aF (@aa _ _ _ _ _ (pv 0) (@aa _ _ _ _ _ (@aK _ _ _ _ _ _ _ _ aY (pv 1) ak) (@aa _ _ _ _ _ ak af (by left)) (by left)) (by left)) (by left) (by left) (by left)) (λ_ _=>rfl)) (by left) (by left)) ?_ ?_
  ·refine ⟨by show 4 <= sizeLine;decide,λl0 hl0=>⟨_,rfl,_,rfl,_,_,rfl,rfl,a,ns,_,_,rfl,(hS.same (s4.to hl0)),(by lia),(by lia),(by decide),hl,λd H5 h0 h1 s5=>?_⟩⟩
   obtain ⟨x,hx,e⟩:=pick (xs:=["red","blue","green","r"]) h0 h1
   have:∀ y ∈ (["red","blue","green","r"]:List Str),isName y = true:=by decide +kernel
   exact ⟨l0,_,_,_,rfl,rfl,bf.of (s5 _ _ ai),e,x,this x hx,rfl,(s4.to hl0).trans s5⟩
  rintro Z' H5 ⟨c,hc,rfl,s5⟩
  refine @aG _ _ _ _ _ _ _ (λZ' H'=>∃ f:Str,(f = "" ∨ f = "open" ∨ f = "close") /\ Z' = [some (.ref a),some (.int b),some (.int k),some (.int N),some (.bl calm),some (.str st),some (.str dd),some (.int g),some (.str c),some (.str f)] /\ aq H H') (@aB _ _ 9 _ _ _ _ ic.nd rfl (Or.inl rfl) (@aL _ _ _ _ _ _ _ aS (@bH _ _ _ _ (@fP _ _ ["","","open","close"] rfl)) (@aM _ _ _ _ _ _ _ _ _ _ _ _ _ _ _ _ (dI T) (hr.mono (by decide)) rfl T.dM T.bY.kp (T.bY.binds (by walk_at "3")) .nil aF (@aa _ _ _ _ _ (pv 0) (@aa _ _ _ _ _ (@aK _ _ _ _ _ _ _ _ aY (pv 1) ak) (@aa _ _ _ _ _ ak af (by left)) (by left)) (by left)) (by left) (by left) (by left)) (λ_ _=>rfl)) (by left) (by left)) ?_ ?_
  ·refine ⟨by show 4 <= sizeLine;decide,λl0 hl0=>⟨_,rfl,_,rfl,_,_,rfl,rfl,a,ns,_,_,rfl,(hS.same (s5.to hl0)),(by lia),(by lia),(by decide),hl,λd H6 h0 h1 s6=>?_⟩⟩
   obtain ⟨x,hx,e⟩:=pick (xs:=["","","open","close"]) h0 h1
   exact ⟨l0,_,_,_,rfl,rfl,bf.of (s6 _ _ ai),e,x,by simpa using hx,rfl,(s5.to hl0).trans s6⟩
  rintro Z' H6 ⟨f,hf,rfl,s6⟩
  refine @aG _ _ _ _ _ _ _ (λZ' H'=>∃ (dd:Str) (g:Int) (c:Str),dd ∈ jN /\ 0 <= g /\ g < N /\ (bX st = true -> isName c = true) /\ (bX st = false -> c = "") /\ (bX st = false -> dd = "pop" ∨ (gv dd /\ (k:Int) < g)) /\ Z' = [some (.ref a),some (.int b),some (.int k),some (.int N),some (.bl calm),some (.str st),some (.str dd),some (.int g),some (.str c),some (.str f)] /\ aq H H') (bx (aA fY (pv 5) (ez (aa aX (aa aX af))) rfl) ay ay) ?_ ?_
  ·refine ⟨_,rfl,by show 2 <= sizeLine;decide,λpt hpt=>⟨pt,_,rfl,.inr (d8.of ai),rfl,rfl,_,rfl,vv (B0 hst) (OO (λh=>?_) (λh=>aZ ⟨dd,g,c,hdd,hg0,hg1,λ_=>hc,(λz=>by rw [h] at z;cases z),(λz=>by rw [h] at z;cases z),rfl,s6.to hpt⟩))⟩⟩
   have s7:aq H (upd H6 pt (.tup [.str "still",.str "end"])):=s6.to hpt
   generalize upd H6 pt (.tup [.str "still",.str "end"]) = H7 at s7
   refine @ao _ _ _ _ _ _ _ (aB (i:=8) ic.nd rfl (Or.inl rfl) aX) ?_
   refine @aG _ _ _ _ _ _ _ (λZ' H'=>∃ dd,dd ∈ jN /\ (dd = "pop" ∨ k + 1 < N) /\ Z' = [some (.ref a),some (.int b),some (.int k),some (.int N),some (.bl calm),some (.str st),some (.str dd),some (.int g),some (.str ""),some (.str f)] /\ aq H H') (@bx _ _ _ _ _ _ _ _ (@PW.pt _ _ _ (@dH _ _ _ _ _ _ _ (@aA _ _ _ _ _ _ _ _ fY (pv 6) (@ez _ _ _ _ _ (@fP _ _ ["stay","push","into"] rfl)) rfl) (@di _ _ _ _ (@aA _ _ _ _ _ _ _ _ cI (@aK _ _ _ _ _ _ _ _ aY (pv 2) ak) (pv 3) (aI _))))) ay ay) ?_ ?_
   ·refine ⟨_,rfl,by show 3 <= sizeLine;decide,λpt hpt=>⟨pt,_,rfl,.inr (d8.of ai),rfl,rfl,_,rfl,vv in3 (dJ (λh2=>?_) (λh2=>aZ ⟨dd,hdd,?_,rfl,s7.to hpt⟩))⟩⟩
    ·refine ⟨_,rfl,_,_,rfl,rfl,_,rfl,rfl,_,rfl,dJ (λh3=>?_) (λh3=>aZ ⟨dd,hdd,.inr ?_,rfl,s7.to hpt⟩)⟩
     ·exact @av _ _ _ _ _ _ (aB (i:=6) ic.nd rfl (Or.inl rfl) aX) ⟨"pop",by decide +kernel,.inl rfl,rfl,s7.to hpt⟩
     ·have:¬ (k:Int) + 1 = N:=λz=>h3 (by show V.int ((k:Int) + 1) = _;rw [z])
      lia
    ·rcases jV hdd with e | e | e | e
     ·exact absurd (.inl e) h2
     ·exact absurd (.inr (.inl e)) h2
     ·exact .inl e
     ·exact absurd (.inr (.inr e)) h2
   rintro Z' H8 ⟨dd1,hdd1,hp1,rfl,s8⟩
   refine @aG _ _ _ _ _ _ _ (λZ' H'=>∃ dd,dd ∈ jN /\ (dd = "pop" ∨ (gv dd /\ k + 1 < N)) /\ Z' = [some (.ref a),some (.int b),some (.int k),some (.int N),some (.bl calm),some (.str st),some (.str dd),some (.int g),some (.str ""),some (.str f)] /\ aq H H') (bx (aA cI (pv 6) aX (aI _)) ay ay) ?_ ?_
   ·refine ⟨_,rfl,rfl,_,rfl,dJ (λh2=>?_) (λh2=>aZ ⟨dd1,hdd1,?_,rfl,s8⟩)⟩
    ·have h2:=V.str.inj h2
     refine @av _ _ _ _ _ _ (aB (i:=6) ic.nd rfl (Or.inl rfl) aX) ⟨"push",by decide +kernel,.inr ⟨.inl rfl,?_⟩,rfl,s8⟩
     rcases hp1 with z | z
     ·rw [z] at h2;exact absurd h2 (by decide)
     ·exact z
    ·rcases jV hdd1 with e | e | e | e
     ·exact absurd (by rw [e]) h2
     ·exact .inr ⟨.inl e,by rcases hp1 with z | z;(rw [z] at e;exact absurd e (by decide));exact z⟩
     ·exact .inl e
     ·exact .inr ⟨.inr e,by rcases hp1 with z | z;(rw [z] at e;exact absurd e (by decide));exact z⟩
   rintro Z' H9 ⟨dd2,hdd2,hp2,rfl,s9⟩
   refine @av _ _ _ _ _ _ (bx (aA fY (pv 6) (ez (aa aX (aa aX af))) rfl) ay ay) ⟨_,rfl,by show 2 <= sizeLine;decide,λpt hpt=>⟨pt,_,rfl,.inr (d8.of ai),rfl,rfl,_,rfl,vv in2 (dJ (λh2=>?_) (λh2=>aZ ⟨dd2,g,"",hdd2,hg0,hg1,(λz=>by rw [h] at z;cases z),λ_=>rfl,λ_=>.inl ?_,rfl,s9.to hpt⟩))⟩⟩
   ·have hkN:k + 1 < N:=by
     rcases hp2 with z | z
     ·rw [z] at h2;exact absurd h2 (by decide)
     ·exact z.2
    have hd:=jL g (m:=(N:Int) - k - 1) (by lia)
    exact @av _ _ _ _ _ _ (aB (i:=7) ic.nd rfl (Or.inl rfl) (aK aY (aK aY (pv 2) ak) (aK jb (pv 7) (aK dR (aK dR (pv 3) (pv 2)) ak)))) ⟨_,rfl,_,_,rfl,rfl,_,rfl,_,rfl,_,rfl,_,_,rfl,rfl,_,_,rfl,rfl,_,_,rfl,rfl,(by show (0:Int) < (N:Int) - k - 1;lia),_,_,rfl,rfl,dd2,(k:Int) + 1 + g % ((N:Int) - k - 1),"",hdd2,by lia,by lia,(λz=>by rw [h] at z;cases z),λ_=>rfl,λ_=>.inr ⟨h2,by lia⟩,rfl,s9.to hpt⟩
   ·rcases hp2 with z | z
    ·exact z
    ·exact absurd z.1 h2
  rintro Z' H7 ⟨dd,g,c,hdd,hg0,hg1,hc1,hc2,hid,rfl,s7⟩
  refine @aG _ _ _ _ _ _ _ (λZ' H'=>∃ go:Option Nat,(gv dd -> go = some g.toNat) /\ (¬ gv dd -> go = none) /\ Z' = [some (.ref a),some (.int b),some (.int k),some (.int N),some (.bl calm),some (.str st),some (.str dd),some (iZ go),some (.str c),some (.str f)] /\ aq H H') (bx (aA fY (pv 6) (ez (aa aX (aa aX af))) rfl) ay ay) ?_ ?_
  ·refine ⟨_,rfl,by show 2 <= sizeLine;decide,λpt hpt=>⟨pt,_,rfl,.inr (d8.of ai),rfl,rfl,_,rfl,vv in2 (dJ (λh2=>?_) (λh2=>aZ ⟨some g.toNat,λ_=>rfl,λz=>?_,?_,s7.to hpt⟩))⟩⟩
   ·refine @av _ _ _ _ _ _ (aB (i:=7) ic.nd rfl (Or.inl rfl) bN) ⟨none,λz=>?_,λ_=>rfl,rfl,s7.to hpt⟩
    rcases h2 with e | e <;> rw [e] at z <;> exact absurd z (by decide)
   ·exfalso
    rcases jV hdd with e | e | e | e
    ·exact h2 (.inl e)
    ·exact z (.inl e)
    ·exact h2 (.inr e)
    ·exact z (.inr e)
   ·show _ = [_,_,_,_,_,_,_,some (V.int ((g.toNat:Nat):Int)),_,_]
    rw [show ((g.toNat:Nat):Int) = g by lia]
  rintro Z' H8 ⟨go,hgo1,hgo2,rfl,s8⟩
  refine @av _ _ _ _ _ _ (aJ (ez (aa (pv 5) (aa (aM (JY T) (hr.mono (by decide)) rfl T.MI T.vY.kp (T.vY.binds (by walk_at "2")) .nil aF (aa (pv 0) (aa (aK aY (pv 1) ak) af))) (aa (pv 8) (aa (pv 6) (aa (pv 7) (aa (pv 9) af)))))))) ⟨_,rfl,_,rfl,_,rfl,_,_,rfl,rfl,a,ns,_,rfl,(hS.same s8),hl,(by lia),(by lia),λz H9 hz1 hz3 hzs s9=>⟨_,rfl,_,rfl,_,rfl,_,rfl,by show 6 <= sizeLine;decide,λtq htq=>?_⟩⟩
  refine q ⟨st,if bare st then ("" : Str) else z,c,dd,go,f⟩ z tq _ ⟨hst,hz1,hz3,hzs,rfl,hc1,hc2,hdd,λh=>⟨_,hgo1 h,by lia⟩,hgo2,hf,λh=>⟨hcalm h,?_⟩⟩ ai ((s8.trans s9).to htq)
  rcases hid h with z | ⟨z1,z2⟩
  ·exact .inl z
  ·exact .inr ⟨z1,g.toNat,hgo1 z1,by lia⟩
def LR (H:Hp) (tr:Addr) (R:bB):Prop:=∃ z,H tr = some (.tup (JU R z)) /\ z.length <= 200 /\ (¬ bare R.sort -> z = R.signs)
def ym (H:Hp) (tm:Addr) (m:aC):Prop:=∃ lr rs,H tm = some (.tup [.str m.name,.str m.aU,.ref lr]) /\ H lr = some (.lst (rs.map V.ref)) /\ bU (LR H) rs m.rules
def CW (H:Hp) (lm:Addr) (ms:List aC):Prop:=∃ ts,H lm = some (.lst (ts.map V.ref)) /\ bU (ym H) ts ms
theorem LR.same {H H':Hp} {tr:Addr} {R:bB} (h:LR H tr R) (s:aq H H'):LR H' tr R:=by
 obtain ⟨z,a,b⟩:=h
 exact ⟨z,s _ _ a,b⟩
theorem ym.same {H H':Hp} {tm:Addr} {m:aC} (h:ym H tm m) (s:aq H H'):ym H' tm m:=by
 obtain ⟨lr,rs,x,y,z⟩:=h
 exact ⟨lr,rs,s _ _ x,s _ _ y,z.mono λ_ _ r=>r.same s⟩
theorem CW.same {H H':Hp} {lm:Addr} {ms:List aC} (h:CW H lm ms) (s:aq H H'):CW H' lm ms:=by
 obtain ⟨ts,x,z⟩:=h
 exact ⟨ts,s _ _ x,z.mono λ_ _ r=>r.same s⟩
structure Built (calm:Bool) (ms:List aC):Prop where
 pos:0 < ms.length
 four:ms.length <= 4
 nd:(ms.map (·.name)).Nodup
 nm:∀ m ∈ ms,isName m.name = true /\ isName m.aU = true
 rules:∀ (k:Nat) m,ms[k]? = some m -> m.rules.length <= 6 /\ ∀ R ∈ m.rules,∃ z,nV ms.length k calm R z
def hide (H:Hp) (x:Addr):Hp:=λb=>if b = x then none else H b
theorem ug {H:Hp} {x:Addr}:aq (hide H x) H:=λb o h=>by
 unfold hide at h
 split at h
 ·cases h
 ·exact h
theorem vf {H:Hp} {x b:Addr} {o:HO} (h:H b = some o) (h1:b ≠ x):hide H x b = some o:=by
 unfold hide
 rw [if_neg h1]
 exact h
theorem Hl {H:Hp} {x:Addr}:hide H x x = none:=by unfold hide;rw [if_pos rfl]
theorem aq.hid {G H:Hp} {x:Addr} (s:aq G H) (h1:G x = none):aq G (hide H x):=λb o h=>vf (s b o h) (aj h h1)
theorem aq.up {G H:Hp} {x:Addr} {o:HO} (s:aq G H) (h:G x = none):aq G (L2.upd H x o):=λb u e=>by rw [au (aj e h)];exact s b u e
noncomputable def Iw (K:PySem.W.Frag):Sp:=λvs H Q _=>∃ (a:Addr) (ns:List Int) (b:Int) (calm:Bool),vs = [.ref a,.int b,.bl calm] /\ bf K H a (ns.map V.int) /\ ns.length <= 63 /\ 0 <= b /\ b <= 30000 /\
 ∀ ms lm H',Built calm ms -> CW H' lm ms -> aq H H' -> Q (.ref lm) H'
def tE:List (List Str):=[["a","b","c","d"],["a","ab","abc","abcdefgh"],["word","mode","end","stay"]]
theorem uZ:∀ l ∈ tE,l.length = 4 /\ l.Nodup /\ ∀ x ∈ l,isName x = true:=by decide +kernel
theorem DV (T:Txt K mg t):bC P w K mg base c6 4 t.sE t.yi ["_law_script","_law_base","_law_calm"] (Iw K):=by
 refine T.pR.ok jP ?_ ?_
 walk_at "i"
 ·obtain ⟨a,ns,b,calm,rfl,hS,hl,hb0,hb1,q⟩:=h
  refine @aG _ _ _ _ _ _ _ (λZ' H'=>∃ l l1 l2 l3,Z' = [some (.ref a),some (.int b),some (.bl calm),some (.ref l),none,none,none,none,none] /\ H' l = some (.lst [.ref l1,.ref l2,.ref l3]) /\ H' l1 = some (.lst ((["a","b","c","d"]:List Str).map V.str)) /\ H' l2 = some (.lst ((["a","ab","abc","abcdefgh"]:List Str).map V.str)) /\ H' l3 = some (.lst ((["word","mode","end","stay"]:List Str).map V.str)) /\ aq H H') (@aB _ _ 3 _ _ _ _ jP.nd rfl (Or.inl rfl) (@bH _ _ _ _ (@aa _ _ _ _ _ (@bH _ _ _ _ (@fP _ _ ["a","b","c","d"] rfl)) (@aa _ _ _ _ _ (@bH _ _ _ _ (@fP _ _ ["a","ab","abc","abcdefgh"] rfl)) (@aa _ _ _ _ _ (@bH _ _ _ _ (@fP _ _ ["word","mode","end","stay"] rfl)) af (by left)) (by left)) (by left))) (by left) (by left)) ?_ ?_
  ·refine ⟨by show 4 <= sizeLine;decide,λl1 h1=>⟨by show 4 <= sizeLine;decide,λl2 h2=>⟨by show 4 <= sizeLine;decide,λl3 h3=>⟨by show 3 <= sizeLine;decide,λl hl0=>⟨l,l1,l2,l3,rfl,ai,?_,?_,?_,(((aq.upd h1).to h2).to h3).to hl0⟩⟩⟩⟩⟩
   ·exact aq.upd hl0 _ _ (aq.upd h3 _ _ (aq.upd h2 _ _ ai))
   ·exact aq.upd hl0 _ _ (aq.upd h3 _ _ ai)
   ·exact aq.upd hl0 _ _ ai
  rintro Z' H1 ⟨l,l1,l2,l3,rfl,e0,e1,e2,e3,s1⟩
  refine @aG _ _ _ _ _ _ _ (λZ' H'=>∃ ln nms,nms ∈ tE /\ Z' = [some (.ref a),some (.int b),some (.bl calm),some (.ref ln),none,none,none,none,none] /\ H' ln = some (.lst (nms.map V.str)) /\ aq H H') (aB (i:=3) jP.nd rfl (Or.inl rfl) (aL aS (pv 3) (aM (dI T) (hr.mono (by decide)) rfl T.dM T.bY.kp (T.bY.binds (by walk_at "3")) .nil aF (aa (pv 0) (aa (pv 1) (aa ak af)))) (λ_ _=>rfl))) ?_ ?_
  ·refine ⟨_,rfl,_,rfl,_,rfl,a,ns,_,_,rfl,(hS.same s1),hb0,(by lia),(by decide),hl,λd H2 h0 h1 s2=>?_⟩
   obtain ⟨v,g1,g2⟩:=kP [V.ref l1,V.ref l2,V.ref l3] h0 h1
   have hv:=List.mem_of_getElem? g1
   simp only [List.mem_cons,List.not_mem_nil,or_false] at hv
   refine ⟨_,_,_,_,rfl,rfl,bf.of (s2 _ _ e0),g2,?_⟩
   rcases hv with rfl | rfl | rfl
   ·exact ⟨l1,_,by decide +kernel,rfl,s2 _ _ e1,s1.trans s2⟩
   ·exact ⟨l2,_,by decide +kernel,rfl,s2 _ _ e2,s1.trans s2⟩
   ·exact ⟨l3,_,by decide +kernel,rfl,s2 _ _ e3,s1.trans s2⟩
  rintro Z' H2 ⟨ln,nms,hnms,rfl,hln,s2⟩
  obtain ⟨n4,nnd,nnm⟩:=uZ nms hnms
  refine @aG _ _ _ _ _ _ _ (λZ' H'=>∃ N:Nat,0 < N /\ N <= 4 /\ Z' = [some (.ref a),some (.int b),some (.bl calm),some (.ref ln),some (.int N),none,none,none,none] /\ aq H2 H') (aB (i:=4) jP.nd rfl (Or.inl rfl) (aK aY ak (aM (dI T) (hr.mono (by decide)) rfl T.dM T.bY.kp (T.bY.binds (by walk_at "3")) .nil aF (aa (pv 0) (aa (aK aY (pv 1) ak) (aa ak af)))))) ?_ ?_
  ·refine ⟨_,rfl,_,rfl,_,_,rfl,rfl,a,ns,_,_,rfl,(hS.same s2),(by lia),(by lia),(by decide),hl,λd H3 h0 h1 s3=>⟨_,_,rfl,rfl,?_⟩⟩
   refine ⟨(1 + d).toNat,by lia,by lia,?_,s3⟩
   rw [show (((1 + d).toNat:Nat):Int) = 1 + d by lia]
   rfl
  rintro Z' H3 ⟨N,hN0,hN1,rfl,s3⟩
  have hln3:=s3 _ _ hln
  have s3:=s2.trans s3
  refine @ao _ _ _ _ _ _ _ (aB (i:=5) jP.nd rfl (Or.inl rfl) (bH af)) ⟨by show 0 <= sizeLine;decide,λlm hlm=>?_⟩
  have s4:aq H3 (upd H3 lm (.lst [])):=aq.upd hlm
  have hm4:upd H3 lm (.lst []) lm = some (.lst []):=ai
  have hln4:=s4 _ _ hln3
  have nlm:ln ≠ lm:=aj hln3 hlm
  have hlm0:H lm = none:=s3.free hlm
  show At _ _ _ [some (.ref a),some (.int b),some (.bl calm),some (.ref ln),some (.int N),some (.ref lm),none,none,none] _
  generalize upd H3 lm (.lst []) = H4 at s4 hm4 hln4
  have s4:=s3.trans s4
  refine @aG _ _ _ _ _ _ _ (λZ' H'=>(∃ x6 x7 x8,Z' = [some (.ref a),some (.int b),some (.bl calm),some (.ref ln),some (.int N),some (.ref lm),x6,x7,x8]) /\ ∃ ms,Built calm ms /\ CW H' lm ms /\ aq H H') (dj PassesOwn.never rfl (dS rfl T.fE (aa (pv 4) af)) (bJ (i:=6) jP.nd rfl (Or.inl rfl)) ay) ?_ ?_
  ·refine ⟨_,rfl,_,rfl,by lia,by lia,fX (n:=((N:Nat):Int).toNat) (λk Z' H'=>(∃ x6 x7 x8,Z' = [some (.ref a),some (.int b),some (.bl calm),some (.ref ln),some (.int N),some (.ref lm),x6,x7,x8]) /\ ∃ ms ts G,H' lm = some (.lst (ts.map V.ref)) /\ H' ln = some (.lst (nms.map V.str)) /\ aq G H' /\ G lm = none /\ bU (ym G) ts ms /\ ms.map (·.name) = nms.take k /\ ms.length = k /\ (∀ m ∈ ms,isName m.name = true /\ isName m.aU = true) /\ (∀ (k:Nat) m,ms[k]? = some m -> m.rules.length <= 6 /\ ∀ R ∈ m.rules,∃ z,nV N k calm R z) /\ aq H H') ?_ ?_ ?_⟩
   ·exact ⟨⟨_,_,_,rfl⟩,[],[],hide H4 lm,hm4,hln4,ug,Hl,bU.nil,rfl,rfl,by simp,λk m h=>by simp at h,s4⟩
   ·rintro k Z' H5 hk ⟨⟨x6,x7,x8,rfl⟩,ms,ts,G,hm5,hln5,sG,G1,hA,hnames,hml,hnm,hru,s5⟩
    have hkN:k < N:=by lia
    obtain ⟨nm,hnk⟩:∃ x,nms[k]? = some x:=⟨nms[k]'(by lia),List.getElem?_eq_getElem _⟩
    have hnmk:isName nm = true:=nnm nm (List.mem_of_getElem? hnk)
    have hat:rA (nms.map V.str) ((0:Int) + (k:Int)) = some (.str nm):=by
     rw [Int.zero_add]
     refine aQ ?_
     rw [List.getElem?_map,hnk]
     rfl
    refine @ao _ _ _ _ _ _ _ (aB (i:=7) jP.nd rfl (Or.inl rfl) (bH af)) ⟨by show 0 <= sizeLine;decide,λlu hlu=>?_⟩
    have hu6:upd H5 lu (.lst []) lu = some (.lst []):=ai
    have s6':aq H5 (upd H5 lu (.lst [])):=aq.upd hlu
    have u2:lm ≠ lu:=aj hm5 hlu
    have u4:G lu = none:=sG.free hlu
    have u5:H lu = none:=s5.free hlu
    have u6:ln ≠ lu:=aj hln5 hlu
    show At _ _ _ [some (.ref a),some (.int b),some (.bl calm),some (.ref ln),some (.int N),some (.ref lm),some (.int (0 + k)),some (.ref lu),x8] _
    generalize upd H5 lu (.lst []) = H6 at hu6 s6'
    have hm6:=s6' _ _ hm5
    have hln6:=s6' _ _ hln5
    have sG6:=sG.trans s6'
    have s6:=s5.trans s6'
    refine @aG _ _ _ _ _ _ _ (λZ' H'=>(∃ x8,Z' = [some (.ref a),some (.int b),some (.bl calm),some (.ref ln),some (.int N),some (.ref lm),some (.int (0 + k)),some (.ref lu),x8]) /\ ∃ Rs rs,H' lu = some (.lst (rs.map V.ref)) /\ bU (LR H') rs Rs /\ Rs.length <= 6 /\ (∀ R ∈ Rs,∃ z,nV N k calm R z) /\ H' lm = some (.lst (ts.map V.ref)) /\ H' ln = some (.lst (nms.map V.str)) /\ aq G H' /\ aq H H') (dj PassesOwn.never rfl (dS rfl T.fE (aa (aM (dI T) (hr.mono (by decide)) rfl T.dM T.bY.kp (T.bY.binds (by walk_at "3")) .nil aF (aa (pv 0) (aa (aK aY (aK aY (pv 1) ak) (pv 6)) (aa ak af)))) af)) (bJ (i:=8) jP.nd rfl (Or.inl rfl)) ay) ?_ ?_
    ·refine ⟨_,rfl,_,rfl,_,_,rfl,rfl,_,rfl,_,_,rfl,rfl,a,ns,_,_,rfl,hS.same s6,(by lia),(by lia),(by decide),hl,λd H7 h0 h1 s7=>?_⟩
     refine ⟨d,rfl,by lia,by lia,fX (n:=d.toNat) (λj Z' H'=>(∃ x8,Z' = [some (.ref a),some (.int b),some (.bl calm),some (.ref ln),some (.int N),some (.ref lm),some (.int (0 + k)),some (.ref lu),x8]) /\ ∃ Rs rs,H' lu = some (.lst (rs.map V.ref)) /\ bU (LR H') rs Rs /\ Rs.length = j /\ (∀ R ∈ Rs,∃ z,nV N k calm R z) /\ H' lm = some (.lst (ts.map V.ref)) /\ H' ln = some (.lst (nms.map V.str)) /\ aq G H' /\ aq H H') ?_ ?_ ?_⟩
     ·exact ⟨⟨_,rfl⟩,[],[],s7 _ _ hu6,bU.nil,rfl,by simp,s7 _ _ hm6,s7 _ _ hln6,sG6.trans s7,s6.trans s7⟩
     ·rintro j Z' H8 hj ⟨⟨y8,rfl⟩,Rs,rs,hu8,hA8,hRl,hB8,hm8,hln8,sG8,s8⟩
      refine @av _ _ _ _ _ _ (bz (cH F.plainAttrs_list F.slot_list_append F.type_list_append bQ (pv 7) (aa (aM (LM T) (hr.mono (by decide)) rfl T.Mq T.yU.kp (T.yU.binds (by walk_at "5")) .nil aF (aa (pv 0) (aa (aK aY (aK aY (aK aY (pv 1) ak) (aK jY ak (pv 6))) (aK jY ak (pv 8))) (aa (pv 6) (aa (pv 4) (aa (pv 2) af)))))) af))) ⟨_,rfl,.inl ⟨rfl,_,bf.of hu8⟩,_,rfl,_,rfl,_,_,rfl,rfl,_,rfl,_,_,rfl,rfl,.inl ⟨by decide,by decide⟩,_,_,rfl,rfl,_,rfl,_,_,rfl,rfl,.inl ⟨by decide,by decide⟩,_,_,rfl,rfl,_,rfl,_,rfl,_,rfl,a,ns,_,k,N,calm,(by rw [Int.zero_add];rfl),hS.same s8,hl,(by lia),(by lia),hkN,hN1,λR z tq H9 hBR htq s9=>?_⟩
      have hu9:=s9 _ _ hu8
      have rl:rs.length = j:=by rw [hA8.1,hRl]
      refine ⟨lu,_,_,rfl,rfl,hu9,cZ (by rw [List.length_map];lia),⟨_,rfl⟩,Rs ++ [R],rs ++ [tq],by rw [ai,List.map_append];rfl,?_,by simp [hRl],?_,?_,?_,?_,?_⟩
      ·have keep:∀ tr R',LR H9 tr R' -> LR (upd H9 lu (.lst (rs.map V.ref ++ [.ref tq]))) tr R':=λtr R' h=>by
        obtain ⟨z',a1,a2⟩:=h
        exact ⟨z',by rw [au (cA a1 hu9 (by intro z;cases z))];exact a1,a2⟩
       refine bU.snoc (hA8.mono λtr R' h=>keep tr R' (h.same s9)) (keep tq R ⟨z,htq,by have:=hBR.z3;lia,λh=>?_⟩)
       rw [hBR.sg,if_neg h]
      ·intro R' h
       rcases List.mem_append.mp h with h | h
       ·exact hB8 R' h
       ·rw [List.mem_singleton.mp h];exact ⟨z,hBR⟩
      ·rw [au u2];exact s9 _ _ hm8
      ·rw [au u6];exact s9 _ _ hln8
      ·exact aq.up (sG8.trans s9) u4
      ·exact aq.up (s8.trans s9) u5
     ·rintro Z' H8 ⟨hZ,Rs,rs,h1',h2',h3',r⟩
      exact ⟨hZ,Rs,rs,h1',h2',by lia,r⟩
    rintro Z' H7 ⟨⟨y8,rfl⟩,Rs,rs,hu7,hA7,hRl,hB7,hm7,hln7,sG7,s7⟩
    refine @av _ _ _ _ _ _ (@bz _ _ _ _ (@cH _ _ _ _ _ _ _ _ _ _ _ _ F.plainAttrs_list F.slot_list_append F.type_list_append bQ (pv 5) (@aa _ _ _ _ _ (@ez _ _ _ _ _ (@aa _ _ _ _ _ (@aL _ _ _ _ _ _ _ aS (pv 3) (pv 6) (λ_ _=>rfl)) (@aa _ _ _ _ _ (@aL _ _ _ _ _ _ _ aS (@bH _ _ _ _ (@fP _ _ ["plain","red","mode","z"] rfl)) (@aM _ _ _ _ _ _ _ _ _ _ _ _ _ _ _ _ (dI T) (hr.mono (by decide)) rfl T.dM T.bY.kp (T.bY.binds (by walk_at "3")) .nil aF (@aa _ _ _ _ _ (pv 0) (@aa _ _ _ _ _ (@aK _ _ _ _ _ _ _ _ aY (@aK _ _ _ _ _ _ _ _ aY (pv 1) ak) (pv 6)) (@aa _ _ _ _ _ ak af (by left)) (by left)) (by left)) (by left) (by left) (by left)) (λ_ _=>rfl)) (@aa _ _ _ _ _ (pv 7) af (by left)) (by left)) (by left))) af (by left)) (by left) (by left) (by left) (by left) (by left)) (by left)) ⟨_,rfl,.inl ⟨rfl,_,bf.of hm7⟩,_,rfl,_,rfl,_,_,_,_,rfl,rfl,bf.of hln7,hat,by show 4 <= sizeLine;decide,λl0 hl0=>⟨_,rfl,_,rfl,_,_,rfl,rfl,_,rfl,_,_,rfl,rfl,a,ns,_,_,rfl,hS.same (s7.to hl0),(by lia),(by lia),(by decide),hl,λd H8 h0 h1 s8=>?_⟩⟩
    obtain ⟨c,hcx,e⟩:=pick (xs:=["plain","red","mode","z"]) h0 h1
    have hcn:isName c = true:=by
     have:∀ y ∈ (["plain","red","mode","z"]:List Str),isName y = true:=by decide +kernel
     exact this c hcx
    have s78:=(aq.upd hl0).trans s8
    refine ⟨l0,_,_,_,rfl,rfl,bf.of (s8 _ _ ai),e,_,rfl,by show 3 <= sizeLine;decide,λtm htm=>?_⟩
    have s9:aq H7 (upd H8 tm (.tup [.str nm,.str c,.ref lu])):=s78.to htm
    have htm9:upd H8 tm (.tup [.str nm,.str c,.ref lu]) tm = some (.tup [.str nm,.str c,.ref lu]):=ai
    generalize upd H8 tm (.tup [.str nm,.str c,.ref lu]) = H9 at s9 htm9
    have hm9:=s9 _ _ hm7
    have hh:∀ {b o},H9 b = some o -> b ≠ lm -> upd H9 lm (.lst (ts.map V.ref ++ [.ref tm])) b = some o:=λ{b o} e ne=>by rw [au ne];exact e
    refine ⟨lm,_,_,rfl,rfl,hm9,cZ (by rw [List.length_map,hA.1];lia),⟨_,_,_,rfl⟩,ms ++ [⟨nm,c,Rs⟩],ts ++ [tm],hide (upd H9 lm (.lst (ts.map V.ref ++ [.ref tm]))) lm,by rw [ai,List.map_append];rfl,hh (s9 _ _ hln7) nlm,ug,Hl,?_,?_,by simp [hml],?_,?_,?_⟩
    ·refine bU.snoc (hA.mono λ_ _ r=>r.same (aq.hid (aq.up (sG7.trans s9) G1) G1)) ?_
     have nt:∀ {b xs},H9 b = some (.tup xs) -> hide (upd H9 lm (.lst (ts.map V.ref ++ [.ref tm]))) lm b = some (.tup xs):=λ{b xs} e=>by
      have b1:b ≠ lm:=cA e hm9 (by intro z;cases z)
      exact vf (hh e b1) b1
     refine ⟨lu,rs,nt htm9,vf (hh (s9 _ _ hu7) (Ne.symm u2)) (Ne.symm u2),hA7.mono λ_ _ e=>?_⟩
     obtain ⟨z',a1,a2⟩:=e
     exact ⟨z',nt (s9 _ _ a1),a2⟩
    ·rw [List.map_append,hnames,take_snoc hnk];rfl
    ·intro m hm
     rcases List.mem_append.mp hm with hm | hm
     ·exact hnm m hm
     ·rw [List.mem_singleton.mp hm];exact ⟨hnmk,hcn⟩
    ·intro k' m hm
     rcases cP hm with hm | ⟨e1,e2⟩
     ·exact hru k' m hm
     ·rw [e2,e1,hml]
      exact ⟨hRl,hB7⟩
    ·exact aq.up (s7.trans s9) hlm0
   ·rintro Z' H5 ⟨hZ,ms,ts,G,hm5,hln5,sG,G1,hA,hnames,hml,hnm,hru,s5⟩
    rw [Int.toNat_natCast] at hml hnames
    refine ⟨hZ,ms,⟨by lia,by lia,?_,hnm,?_⟩,⟨ts,hm5,hA.mono λ_ _ r=>r.same sG⟩,s5⟩
    ·rw [hnames];exact nnd.sublist (List.take_sublist _ _)
    ·rw [hml];exact hru
  rintro Z' H5 ⟨⟨x6,x7,x8,rfl⟩,ms,hB,hL,s5⟩
  exact @av _ _ _ _ _ _ (aJ (pv 5)) ⟨_,rfl,q ms lm H5 hB hL s5⟩
structure zH (H0 H:Hp) (l:Addr) (ws:List Str):Prop where
 at_:H l = some (.lst (ws.map V.str))
 new:H0 l = none
 same:aq H0 H
theorem zH.add {H0 H:Hp} {l:Addr} {ws:List Str} {x:Str} (W:zH H0 H l ws):zH H0 (upd H l (.lst (ws.map V.str ++ [.str x]))) l (ws ++ [x]) :=
 ⟨by rw [ai,List.map_append];rfl,W.new,λb o hb=>by rw [au (aj hb W.new)];exact W.same _ _ hb⟩
theorem zH.to {H0 H H':Hp} {l:Addr} {ws:List Str} (W:zH H0 H l ws) (s:aq H H'):zH H0 H' l ws:=⟨s _ _ W.at_,W.new,W.same.trans s⟩
theorem z0 {m:Nat}:∀ (ys:List Str),(∀ y ∈ ys,y.length <= m) -> (ys.map (·.length)).sum <= ys.length * m
 | [],_=>by simp
 | x :: r,h=>by
  have h1:=h x (by simp)
  have h2:=z0 r (λz hz=>h z (List.mem_cons_of_mem _ hz))
  rw [List.map_cons,List.sum_cons,List.length_cons,Nat.succ_mul]
  lia
theorem FZ (z:Str):(PySem.Txt.replace z " " "_").length = z.length:=by
 have:=congrArg List.length (jK z 32 95)
 rw [bq,jM,List.length_map,bq] at this
 rw [show ((" " : Str)) = ⟨#[32]⟩ from by decide +kernel,show (("_" : Str)) = ⟨#[95]⟩ from by decide +kernel]
 exact this
theorem DN {names:List Str} {n c:Str}:(Str.ofString "mode " ++ n ++ Str.ofString " " ++ c:Str) = rowOf names (.mode n c):=by
 refine jo ?_
 unfold rowOf
 rw [dD,eU,eU,eU]
 show _ = (Str.ofString "mode").cps.toList ++ 32 :: (n.cps.toList ++ 32 :: c.cps.toList)
 have e1:(Str.ofString "mode ").cps.toList = (Str.ofString "mode").cps.toList ++ [32]:=by decide +kernel
 have e2:(Str.ofString " ").cps.toList = [32]:=by decide +kernel
 rw [e1,e2]
 simp
def gk (m:aC):List Item:=.mode m.name m.aU :: m.rules.map .rule
def itemsOf (ms:List aC):List Item:=ms.flatMap gk
theorem gW (a b:List aC):itemsOf (a ++ b) = itemsOf a ++ itemsOf b:=by unfold itemsOf;rw [List.flatMap_append]
theorem gZ (m:aC):itemsOf [m] = gk m:=by unfold itemsOf;simp
theorem yz (rs:List bB):namesOf (rs.map Item.rule) = []:=by
 induction rs with
 | nil=>rfl
 | cons r t ih=>show zb (.rule r) ++ namesOf (t.map Item.rule) = [];rw [ih];rfl
theorem ID (m:aC):namesOf (gk m) = [m.name]:=by
 show zb (.mode m.name m.aU) ++ namesOf (m.rules.map Item.rule) = _
 rw [yz];rfl
theorem gP (ms:List aC):namesOf (itemsOf ms) = ms.map (·.name):=by
 induction ms with
 | nil=>rfl
 | cons m r ih =>
  rw [show m :: r = [m] ++ r from rfl,gW,jF,gZ,ID,ih]
  rfl
theorem oz (rs:List bB):∀ (ms:List aC) (m:aC),(rs.map Item.rule).foldl stepI (ms ++ [m]) = ms ++ [{ m with rules:=m.rules ++ rs }]:=by
 induction rs with
 | nil=>intro ms m;simp
 | cons r t ih =>
  intro ms m
  rw [List.map_cons,List.foldl_cons,show stepI (ms ++ [m]) (Item.rule r) = iT r (ms ++ [m]) from rfl,jq,ih]
  simp
theorem GX (ms:List aC) (m:aC):(gk m).foldl stepI ms = ms ++ [m]:=by
 rw [gk,List.foldl_cons]
 show (m.rules.map Item.rule).foldl stepI (ms ++ [⟨m.name,m.aU,[]⟩]) = _
 rw [oz]
 simp
theorem lK (ms:List aC):∀ acc:List aC,(itemsOf ms).foldl stepI acc = acc ++ ms:=by
 induction ms with
 | nil=>intro acc;simp [itemsOf]
 | cons m r ih =>
  intro acc
  rw [show m :: r = [m] ++ r from rfl,gW,List.foldl_append,gZ,GX,ih]
  simp
theorem qH (ms:List aC):foldI (itemsOf ms) = ms:=by
 have:=lK ms []
 simpa [foldI] using this
theorem nV.good {names:List Str} {k:Nat} {calm:Bool} {R:bB} {z:Str} (h:nV names.length k calm R z):gU names R:=by
 refine ⟨⟨h.sort,λhb=>?_,λhb=>?_⟩,h.col,h.HR,h.bh,h.goal,h.wW,h.fold⟩
 ·rw [h.sg,if_pos hb]
 ·rw [h.sg,if_neg hb]
  have:=h.z3
  exact ⟨h.z1,by lia,λy=>(EI _ (h.zs _ y)).1 rfl,λy=>(EI _ (h.zs _ y)).2 rfl⟩
theorem Built.rule {calm:Bool} {ms:List aC} (B:Built calm ms) {k:Nat} {m:aC} (hm:ms[k]? = some m) {R:bB} (hR:R ∈ m.rules):gU (ms.map (·.name)) R:=by
 obtain ⟨z,hz⟩:=(B.rules k m hm).2 R hR
 exact nV.good (names:=ms.map (·.name)) (k:=k) (calm:=calm) (z:=z) (by rw [List.length_map];exact hz)
theorem ux {calm:Bool} {ms:List aC} (B:Built calm ms):∀ n,n <= ms.length -> ∀ (i:Nat) it,(itemsOf (ms.take n))[i]? = some it ->
  (∀ nm c,it = .mode nm c -> isName nm = true /\ isName c = true /\ (namesOf ((itemsOf (ms.take n)).take i)).length < 12 /\ nm ∉ namesOf ((itemsOf (ms.take n)).take i)) /\
  (∀ R,it = .rule R -> gU (ms.map (·.name)) R /\ ∃ ms' m,foldI ((itemsOf (ms.take n)).take i) = ms' ++ [m] /\ m.rules.length < 12)
 | 0,_,i,it,h=>by simp [itemsOf] at h
 | n + 1,hn,i,it,h=>by
  have hm:ms[n]? = some ms[n]:=List.getElem?_eq_getElem hn
  have e:itemsOf (ms.take (n + 1)) = itemsOf (ms.take n) ++ gk ms[n]:=by rw [take_snoc hm,gW,gZ]
  rw [e] at h ⊢
  have hmm:=List.getElem_mem hn
  obtain ⟨r6,rB⟩:=B.rules n _ hm
  have h4:=B.four
  by_cases hi:i < (itemsOf (ms.take n)).length
  ·rw [List.getElem?_append_left hi] at h
   rw [List.take_append_of_le_length (by lia)]
   exact ux B n (by lia) i it h
  ·rw [List.getElem?_append_right (by lia)] at h
   rw [show (itemsOf (ms.take n) ++ gk ms[n]).take i = itemsOf (ms.take n) ++ (gk ms[n]).take (i - (itemsOf (ms.take n)).length) by
    rw [List.take_append,List.take_of_length_le (by lia)]]
   generalize i - (itemsOf (ms.take n)).length = j at h
   cases j with
   | zero =>
    have h:Item.mode ms[n].name ms[n].aU = it:=by simpa [gk] using h
    subst h
    refine ⟨λnm c e=>?_,(λR e=>by cases e)⟩
    cases e
    obtain ⟨n1,n2⟩:=B.nm _ hmm
    rw [List.take_zero,List.append_nil,gP]
    refine ⟨n1,n2,by rw [List.length_map,List.length_take];lia,λhmem=>?_⟩
    rw [List.map_take] at hmem
    have hnd:=B.nd
    obtain ⟨j,hj⟩:=List.mem_iff_getElem?.mp hmem
    have hjn:j < n:=by
     have:=(List.getElem?_eq_some_iff.mp hj).1
     rw [List.length_take] at this
     lia
    rw [List.getElem?_take_of_lt hjn] at hj
    have hk:(ms.map (·.name))[n]? = some ms[n].name:=by rw [List.getElem?_map,hm];rfl
    obtain ⟨j1,e1⟩:=List.getElem?_eq_some_iff.mp hj
    obtain ⟨k1,e2⟩:=List.getElem?_eq_some_iff.mp hk
    have:=(List.getElem_inj hnd).mp (e1.trans e2.symm)
    lia
   | succ j =>
    have h:(ms[n].rules.map Item.rule)[j]? = some it:=by simpa [gk] using h
    rw [List.getElem?_map] at h
    obtain ⟨R0,hR0,rfl⟩:=Option.map_eq_some_iff.mp h
    refine ⟨(λnm c e=>by cases e),λR e=>?_⟩
    cases e
    refine ⟨B.rule hm (List.mem_of_getElem? hR0),ms.take n,⟨ms[n].name,ms[n].aU,ms[n].rules.take j⟩,?_,?_⟩
    ·unfold foldI
     rw [List.foldl_append,lK,List.nil_append]
     have:=GX (ms.take n) ⟨ms[n].name,ms[n].aU,ms[n].rules.take j⟩
     rw [← this]
     congr 1
     rw [gk,gk,List.take_succ_cons,List.map_take]
    ·show (ms[n].rules.take j).length < 12
     rw [List.length_take]
     lia
theorem Built.items {calm:Bool} {ms:List aC} (B:Built calm ms):gc (itemsOf ms):=by
 have h:=ux B ms.length (Nat.le_refl _)
 rw [List.take_length] at h
 refine ⟨?_,λi n c e=>(h i _ e).1 n c rfl,λi R e=>?_⟩
 ·intro z
  have:=gP ms
  rw [z] at this
  have hl:=congrArg List.length this
  rw [List.length_map] at hl
  have:=B.pos
  simp [namesOf] at hl
  lia
 ·rw [gP]
  exact (h i _ e).2 R rfl
theorem Built.len {calm:Bool} {ms:List aC} (B:Built calm ms):∀ n,n <= ms.length -> (itemsOf (ms.take n)).length <= n * 7
 | 0,_=>by simp [itemsOf]
 | n + 1,hn=>by
  have hm:ms[n]? = some ms[n]:=List.getElem?_eq_getElem hn
  have ih:=B.len n (by lia)
  have h6:=(B.rules n _ hm).1
  rw [take_snoc hm,gW,gZ,List.length_append,gk,List.length_cons,List.length_map]
  lia
theorem Built.DG {calm:Bool} {ms:List aC} (B:Built calm ms):(itemsOf ms).length <= 28:=by
 have:=B.len ms.length (Nat.le_refl _)
 rw [List.take_length] at this
 have:=B.four
 lia
theorem Built.mK {calm:Bool} {ms:List aC} (B:Built calm ms):dZ ms:=by
 have at_:∀ m ∈ ms,∃ k:Nat,ms[k]? = some m:=λm h=>List.mem_iff_getElem?.mp h
 have h4:=B.four
 refine ⟨B.pos,by lia,λm hm=>?_,λm hm R hR=>?_,λm hm R hR hg=>?_⟩
 ·obtain ⟨k,e⟩:=at_ m hm
  obtain ⟨h6,hB⟩:=B.rules k m e
  refine ⟨by lia,λR hR=>?_⟩
  obtain ⟨z,hz⟩:=hB R hR
  refine ⟨hz.sort,?_⟩
  rw [hz.sg]
  split
  ·decide
  ·have:=hz.z3;lia
 ·obtain ⟨k,e⟩:=at_ m hm
  obtain ⟨z,hz⟩:=(B.rules k m e).2 R hR
  exact hz.bh
 ·obtain ⟨k,e⟩:=at_ m hm
  obtain ⟨z,hz⟩:=(B.rules k m e).2 R hR
  exact hz.goal hg
theorem Built.up {calm:Bool} {ms:List aC} (B:Built calm ms):AD ms:=λk m hm R hR he=>by
 obtain ⟨z,hz⟩:=(B.rules k m hm).2 R hR
 rcases (hz.idle he).2 with h | ⟨h1,g,h2,h3⟩
 ·exact .inl h
 ·obtain ⟨g',e1,e2⟩:=hz.goal h1
  rw [h2] at e1
  cases e1
  exact .inr ⟨h1,g,h2,h3,e2⟩
theorem Built.G3 {ms:List aC} (B:Built true ms) (row:Str):uO ms row:=by
 have hn:∀ k,eF ms k row = none:=λk=>by
  cases e:eF ms k row with
  | none=>rfl
  | some R =>
   obtain ⟨m,hm,hR,he⟩:=kU e
   obtain ⟨z,hz⟩:=(B.rules k m hm).2 R hR
   cases (hz.idle he).1
 refine ⟨?_,λy R hy hi=>by rw [hn] at hi;cases hi⟩
 cases hN:ms.length with
 | zero=>rfl
 | succ n=>rw [fM,hn]
theorem Built.Gv {ms:List aC} (B:Built true ms) (row:Str) (k:Nat):eF ms k row = none:=by
 cases e:eF ms k row with
 | none=>rfl
 | some R =>
  obtain ⟨m,hm,hR,he⟩:=kU e
  obtain ⟨z,hz⟩:=(B.rules k m hm).2 R hR
  cases (hz.idle he).1
theorem Built.BY {ms:List aC} (B:Built true ms) (row:Str):∀ n k,gG ms row n k = none
 | 0,_=>rfl
 | n + 1,k=>by
  have:dQ ms k row = none:=by
   unfold dQ
   cases ms.length with
   | zero=>rfl
   | succ f=>rw [gr,B.Gv]
  rw [gG,this]
  exact B.BY row n (k + 1)
theorem Built.D6 {ms:List aC} (B:Built true ms):jE ms = none:=by
 have:∀ rows:List Str,gS ms rows = none:=by
  intro rows
  induction rows with
  | nil=>rfl
  | cons r rs ih=>rw [gS,B.BY];exact ih
 exact this _
structure qM (ms:List aC):Prop where
 b:∃ calm,Built calm ms
 np:∀ r ∈ cU,uO ms r
 ring:jE ms = none
theorem qM.good {ms:List aC} (L:qM ms) {row:Str} (h:∀ c ∈ row.cps.toList,c ∈ uW):Good ms row:=by
 obtain ⟨calm,B⟩:=L.b
 have h94:∀ c ∈ uW,c ∈ uJ.cps.toList:=by decide +kernel
 refine ⟨B.mK,B.up,B.four,λm hm R hR hb=>?_,L.np,λc hc=>h94 c (h c hc)⟩
 obtain ⟨k,e⟩:=List.mem_iff_getElem?.mp hm
 obtain ⟨z,hz⟩:=(B.rules k m e).2 R hR
 rw [hz.sg,if_neg hb]
 exact hz.z1
noncomputable def JS:Sp:=λvs H Q _=>∃ (lm:Addr) (ms:List aC) (calm:Bool),vs = [.ref lm] /\ CW H lm ms /\ Built calm ms /\ ∀ H',aq H H' -> Q (.str (Str.join ⟨#[10]⟩ (rowsOf (itemsOf ms)))) H'
theorem sy {x:Str} (h:isName x = true):x.length <= 8 /\ x ≠ "" := by
 unfold isName at h
 simp only [Bool.and_eq_true,decide_eq_true_eq] at h
 refine ⟨h.1.2,λz=>?_⟩
 rw [z] at h
 exact absurd h.1.1 (by decide)
theorem FO (T:Txt K mg t):bC P w K mg base c6 1 t.q9 t.yL ["_law_modes_here"] JS:=by
 refine T.qk.ok ig ?_ ?_
 walk_at "i"
 ·obtain ⟨lm,ms,calm,rfl,⟨ts,hlm,hA⟩,B,q⟩:=h
  obtain ⟨names,hnames⟩:∃ names,names = ms.map (·.name):=⟨_,rfl⟩
  have hnl:names.length = ms.length:=by rw [hnames,List.length_map]
  have hnm:∀ x ∈ names,isName x = true:=λx hx=>by
   rw [hnames] at hx
   obtain ⟨m,hm,rfl⟩:=List.mem_map.mp hx
   exact (B.nm m hm).1
  have hitems:=B.DG
  have h4:=B.four
  refine @ao _ _ _ _ _ _ _ (aB (i:=1) ig.nd rfl (Or.inl rfl) (bH af)) ⟨by show 0 <= sizeLine;decide,λlr hlr=>?_⟩
  have W0:zH H (upd H lr (.lst [])) lr []:=⟨ai,hlr,aq.upd hlr⟩
  generalize upd H lr (.lst []) = H0 at W0
  refine @aG _ _ _ _ _ _ _ (λZ' H'=>(∃ x2 x3 x4 x5 x6 x7 x8 x9 x10 x11,Z' = [some (.ref lm),some (.ref lr),x2,x3,x4,x5,x6,x7,x8,x9,x10,x11]) /\ zH H H' lr ((itemsOf ms).map (rowOf names))) (dj PassesOwn.never rfl (eS (pv 0)) (qJ rfl (cL (bJ (i:=2) ig.nd rfl (Or.inl rfl)) (cL (bJ (i:=3) ig.nd rfl (Or.inl rfl)) (cL (bJ (i:=4) ig.nd rfl (Or.inl rfl)) j7)))) ay) ?_ ?_
  ·refine ⟨_,rfl,lm,rfl,⟨_,bf.of (W0.same _ _ hlm)⟩,gE (xs:=ts.map V.ref) (λi Z' H'=>(∃ x2 x3 x4 x5 x6 x7 x8 x9 x10 x11,Z' = [some (.ref lm),some (.ref lr),x2,x3,x4,x5,x6,x7,x8,x9,x10,x11]) /\ zH H H' lr ((itemsOf (ms.take i)).map (rowOf names))) ⟨⟨_,_,_,_,_,_,_,_,_,_,rfl⟩,W0⟩ ?_ ?_ ?_⟩
   ·rintro i Z' H' _ ⟨_,W⟩
    exact bf.of (W.same _ _ hlm)
   ·rintro i xv Z' H1 hx ⟨⟨x2,x3,x4,x5,x6,x7,x8,x9,x10,x11,rfl⟩,W1⟩
    rw [List.getElem?_map] at hx
    obtain ⟨tm,htm,rfl⟩:=Option.map_eq_some_iff.mp hx
    have hi:i < ms.length:=by rw [← hA.1];exact (List.getElem?_eq_some_iff.mp htm).1
    have hm:ms[i]? = some ms[i]:=List.getElem?_eq_getElem hi
    generalize hmd:ms[i] = m at hm
    obtain ⟨lu,rs,t1,t2,t3⟩:=hA.2 i tm m htm hm
    obtain ⟨n1,n2⟩:=B.nm m (List.mem_of_getElem? hm)
    obtain ⟨r6,rB⟩:=B.rules i m hm
    have l1:=(sy n1).1
    have l2:=(sy n2).1
    have hil:=B.len i (by lia)
    refine ⟨tm,[.str m.name,.str m.aU,.ref lu],rfl,d8.of (W1.same _ _ t1),rfl,_,_,rfl,_,_,rfl,_,_,rfl,rfl,?_⟩
    have e5:(Str.ofString "mode ").length = 5:=by decide +kernel
    have e1:(Str.ofString " ").length = 1:=by decide +kernel
    refine @ao _ _ _ _ _ _ _ (bz (cH F.plainAttrs_list F.slot_list_append F.type_list_append bQ (pv 1) (aa (aK eK (aK eK (aK eK aX (pv 2)) aX) (pv 3)) af))) ⟨_,rfl,.inl ⟨rfl,_,bf.of W1.at_⟩,_,rfl,_,_,rfl,rfl,b7 (by show (Str.ofString "mode ").length + _ <= _;lia),_,_,rfl,rfl,b7 (by rw [Str.length_append];show (Str.ofString "mode ").length + _ + (Str.ofString " ").length <= _;lia),_,rfl,_,_,rfl,rfl,b7 (by rw [Str.length_append,Str.length_append];show (Str.ofString "mode ").length + _ + (Str.ofString " ").length + _ <= _;lia),lr,_,_,rfl,rfl,W1.at_,cZ (by rw [List.length_map,List.length_map];lia),?_⟩
    rw [show (Str.ofString "mode " ++ m.name ++ Str.ofString " " ++ m.aU:Str) = rowOf names (.mode m.name m.aU) from DN]
    have W2:=W1.add (x:=rowOf names (.mode m.name m.aU))
    generalize upd H1 lr _ = H2 at W2
    refine @av _ _ _ _ _ _ (dj PassesOwn.never rfl (eS (pv 4)) (qJ rfl (cL (bJ (i:=5) ig.nd rfl (Or.inl rfl)) (cL (bJ (i:=6) ig.nd rfl (Or.inl rfl)) (cL (bJ (i:=7) ig.nd rfl (Or.inl rfl)) (cL (bJ (i:=8) ig.nd rfl (Or.inl rfl)) (cL (bJ (i:=9) ig.nd rfl (Or.inl rfl)) (cL (bJ (i:=10) ig.nd rfl (Or.inl rfl)) j7))))))) ay) ⟨_,rfl,lu,rfl,⟨_,bf.of (W2.same _ _ t2)⟩,gE (xs:=rs.map V.ref) (λj Z' H'=>(∃ x2 x3 x4 x5 x6 x7 x8 x9 x10 x11,Z' = [some (.ref lm),some (.ref lr),x2,x3,x4,x5,x6,x7,x8,x9,x10,x11]) /\ zH H H' lr ((itemsOf (ms.take i)).map (rowOf names) ++ [rowOf names (.mode m.name m.aU)] ++ (m.rules.take j).map λR=>rowOf names (.rule R))) ⟨⟨_,_,_,_,_,_,_,_,_,_,rfl⟩,by rw [List.take_zero,List.map_nil,List.append_nil];exact W2⟩ ?_ ?_ ?_⟩
    ·rintro j Z' H' _ ⟨_,W⟩
     exact bf.of (W.same _ _ t2)
    ·rintro j xv Z' H3 hx ⟨⟨y2,y3,y4,y5,y6,y7,y8,y9,y10,y11,rfl⟩,W3⟩
     rw [List.getElem?_map] at hx
     obtain ⟨tr,htr,rfl⟩:=Option.map_eq_some_iff.mp hx
     have hj:j < m.rules.length:=by rw [← t3.1];exact (List.getElem?_eq_some_iff.mp htr).1
     have hRj:m.rules[j]? = some m.rules[j]:=List.getElem?_eq_getElem hj
     generalize hRd:m.rules[j] = R at hRj
     obtain ⟨z,u1,u2,u3⟩:=t3.2 j tr R htr hRj
     have hRm:=List.mem_of_getElem? hRj
     have GR:gU names R:=by rw [hnames];exact B.rule hm hRm
     refine ⟨tr,JU R z,rfl,d8.of (W3.same _ _ u1),rfl,_,_,rfl,_,_,rfl,_,_,rfl,_,_,rfl,_,_,rfl,_,_,rfl,rfl,?_⟩
     show At _ _ _ [some (.ref lm),some (.ref lr),y2,y3,y4,some (.str R.sort),some (.str z),some (.str R.aU),some (.str R.bh),some (iZ R.goal),some (.str R.fold),y11] H3
     refine @ao _ _ _ _ _ _ _ (aB (i:=11) ig.nd rfl (Or.inl rfl) (bH (aa (pv 5) af))) ⟨_,rfl,by show 1 <= sizeLine;decide,λl hl0=>?_⟩
     have V0:zH H3 (upd H3 l (.lst [.str R.sort])) l [R.sort]:=⟨ai,hl0,aq.upd hl0⟩
     show At _ _ _ [some (.ref lm),some (.ref lr),y2,y3,y4,some (.str R.sort),some (.str z),some (.str R.aU),some (.str R.bh),some (iZ R.goal),some (.str R.fold),some (.ref l)] _
     generalize upd H3 l (.lst [.str R.sort]) = H4 at V0
     have hs:=GR.pat.sort
     refine @aG _ _ _ _ _ _ _ (λZ' H'=>Z' = [some (.ref lm),some (.ref lr),y2,y3,y4,some (.str R.sort),some (.str z),some (.str R.aU),some (.str R.bh),some (iZ R.goal),some (.str R.fold),some (.ref l)] /\ zH H3 H' l (cD R.sort R.signs)) (@bx _ _ _ _ _ _ _ _ (@aA _ _ _ _ _ _ _ _ fY (pv 5) (@ez _ _ _ _ _ (@fP _ _ ["word","one","none","many"] rfl)) rfl) ay ay) ?_ ?_
     ·refine ⟨_,rfl,by show 4 <= sizeLine;decide,λpt hpt=>⟨pt,_,rfl,.inr (d8.of ai),rfl,rfl,_,rfl,?_⟩⟩
      have V1:zH H3 (upd H4 pt (.tup ((["word","one","none","many"]:List Str).map V.str))) l [R.sort]:=V0.to (aq.upd hpt)
      generalize upd H4 pt (.tup ((["word","one","none","many"]:List Str).map V.str)) = H5 at V1
      have hin:Jm (.str R.sort) [.str "word",.str "one",.str "none",.str "many"] = decide (¬ bare R.sort):=by
       rw [show ([.str "word",.str "one",.str "none",.str "many"]:List V) = (["word","one","none","many"]:List Str).map V.str from rfl,iL]
       generalize R.sort = st at hs
       rcases eu hs with rfl | rfl | rfl | rfl | rfl | rfl | rfl <;> decide +kernel
      refine vv hin (dJ (λh=>?_) (λh=>aZ ⟨rfl,?_⟩))
      ·have hz:z = R.signs:=u3 h
       refine @av _ _ _ _ _ _ (bz (cH F.plainAttrs_list F.slot_list_append F.type_list_append bQ (pv 11) (aa (xJ (by decide +kernel) (pv 6)) af))) ⟨_,rfl,.inl ⟨rfl,_,bf.of V1.at_⟩,_,rfl,z,rfl,?_,_,rfl,?_,?_⟩
       ·rw [show ("_" : Str).length = 1 from by decide +kernel]
        lia
       ·rw [FZ,show ("'" : Str).length = 1 from by decide +kernel]
        exact b7 (by lia)
       ·refine ⟨l,_,_,rfl,rfl,V1.at_,by show 1 < sizeLine;decide,rfl,?_⟩
        rw [cD,if_neg h,← hz]
        exact V1.add (x:=iG z)
      ·rw [cD,if_pos (Decidable.not_not.mp h)]
       exact V1
     rintro Z' H5 ⟨rfl,V5⟩
     have plen:=Bd (s:=R.sort) (z:=R.signs)
     refine @aG _ _ _ _ _ _ _ (λZ' H'=>Z' = [some (.ref lm),some (.ref lr),y2,y3,y4,some (.str R.sort),some (.str z),some (.str R.aU),some (.str R.bh),some (iZ R.goal),some (.str R.fold),some (.ref l)] /\ zH H3 H' l (cD R.sort R.signs ++ (if bX R.sort = true then [R.aU] else []))) (bx (aA lE (pv 7) aX (aI _)) ay ay) ?_ ?_
     ·refine ⟨_,rfl,rfl,_,rfl,g7 (λh=>?_) (λh=>aZ ⟨rfl,?_⟩)⟩
      ·have he:bX R.sort = true:=by
        cases e:bX R.sort with
        | true=>rfl
        | false=>exact absurd (by rw [GR.HR e]) h
       refine @av _ _ _ _ _ _ (bz (cH F.plainAttrs_list F.slot_list_append F.type_list_append bQ (pv 11) (aa (pv 7) af))) ⟨_,rfl,.inl ⟨rfl,_,bf.of V5.at_⟩,_,rfl,l,_,_,rfl,rfl,V5.at_,cZ (by rw [List.length_map];lia),rfl,?_⟩
       rw [if_pos he]
       exact V5.add
      ·have he:¬ bX R.sort = true:=λe=>(sy (GR.col e)).2 (V.str.inj h)
       rw [if_neg he,List.append_nil]
       exact V5
     rintro Z' H6 ⟨rfl,V6⟩
     have l4:(if bX R.sort = true then [R.aU] else []).length <= 1:=by split <;> simp
     refine @ao _ _ _ _ _ _ _ (bz (cH F.plainAttrs_list F.slot_list_append F.type_list_append bQ (pv 11) (aa (pv 8) af))) ⟨_,rfl,.inl ⟨rfl,_,bf.of V6.at_⟩,_,rfl,l,_,_,rfl,rfl,V6.at_,cZ (by rw [List.length_map,List.length_append];lia),?_⟩
     have V7:=V6.add (x:=R.bh)
     generalize upd H6 l _ = H7 at V7
     refine @aG _ _ _ _ _ _ _ (λZ' H'=>Z' = [some (.ref lm),some (.ref lr),y2,y3,y4,some (.str R.sort),some (.str z),some (.str R.aU),some (.str R.bh),some (iZ R.goal),some (.str R.fold),some (.ref l)] /\ zH H3 H' l (cD R.sort R.signs ++ (if bX R.sort = true then [R.aU] else []) ++ [R.bh] ++ pq names R.goal)) (bx (aA gJ (pv 9) bN (aI _)) ay ay) ?_ ?_
     ·cases hg:R.goal with
      | none =>
       refine ⟨_,rfl,rfl,_,rfl,g7 (λh=>absurd rfl h) (λ_=>aZ ⟨rfl,?_⟩)⟩
       rw [show pq names none = [] from rfl,List.append_nil]
       exact V7
      | some g =>
       have hgl:g < ms.length:=by
        by_cases hgo:gv R.bh
        ·obtain ⟨g',e,hg'⟩:=GR.goal hgo
         rw [hg] at e;cases e;lia
        ·rw [GR.wW hgo] at hg;cases hg
       have hmg:ms[g]? = some ms[g]:=List.getElem?_eq_getElem hgl
       obtain ⟨tg,htg,hLg⟩:=hA.at hmg
       obtain ⟨lg,rg,v1,v2,v3⟩:=hLg
       have hng:names.getD g "" = ms[g].name:=by rw [hnames];simp [hgl]
       refine ⟨_,rfl,rfl,_,rfl,g7 (λ_=>?_) (λh=>by cases h)⟩
       refine @av _ _ _ _ _ _ (bz (cH F.plainAttrs_list F.slot_list_append F.type_list_append bQ (pv 11) (aa (aL bw (aL aS (pv 0) (pv 9) (λ_ _=>rfl)) ak (λ_ _=>rfl)) af))) ⟨_,rfl,.inl ⟨rfl,_,bf.of V7.at_⟩,_,rfl,_,rfl,_,_,_,_,rfl,rfl,bf.of ((W3.same.trans V7.same) _ _ hlm),c9 htg,_,_,_,_,rfl,rfl,d8.of ((W3.same.trans V7.same) _ _ v1),aQ (j:=0) rfl,l,_,_,rfl,rfl,V7.at_,cZ (by simp only [List.length_map,List.length_append,List.length_cons,List.length_nil];lia),rfl,?_⟩
       rw [show pq names (some g) = [ms[g].name] by rw [← hng];rfl]
       exact V7.add
     rintro Z' H8 ⟨rfl,V8⟩
     have l7:=tZ (names:=names) (g:=R.goal)
     refine @aG _ _ _ _ _ _ _ (λZ' H'=>Z' = [some (.ref lm),some (.ref lr),y2,y3,y4,some (.str R.sort),some (.str z),some (.str R.aU),some (.str R.bh),some (iZ R.goal),some (.str R.fold),some (.ref l)] /\ zH H3 H' l (cK names R)) (bx (aA lE (pv 10) aX (aI _)) ay ay) ?_ ?_
     ·refine ⟨_,rfl,rfl,_,rfl,g7 (λh=>?_) (λh=>aZ ⟨rfl,?_⟩)⟩
      ·have h:R.fold ≠ "" := λy=>h (by rw [y])
       refine @av _ _ _ _ _ _ (bz (cH F.plainAttrs_list F.slot_list_append F.type_list_append bQ (pv 11) (aa (pv 10) af))) ⟨_,rfl,.inl ⟨rfl,_,bf.of V8.at_⟩,_,rfl,l,_,_,rfl,rfl,V8.at_,cZ (by simp only [List.length_map,List.length_append,List.length_cons,List.length_nil];lia),rfl,?_⟩
       have:=V8.add (x:=R.fold)
       rw [cK]
       simp only [if_neg h]
       simp only [List.append_assoc] at this ⊢
       exact this
      ·have h:R.fold = "" := V.str.inj h
       rw [cK]
       simp only [if_pos h]
       simp only [List.append_assoc,List.append_nil] at V8 ⊢
       exact V8
     rintro Z' H9 ⟨rfl,V9⟩
     have rl:=xK (names:=names) (R:=R)
     have W9:=W3.to V9.same
     refine @av _ _ _ _ _ _ (bz (cH F.plainAttrs_list F.slot_list_append F.type_list_append bQ (pv 1) (aa (cH F.plainAttrs_str F.slot_str_join F.type_str_join jw aX (aa (pv 11) af)) af))) ⟨_,rfl,.inl ⟨rfl,_,bf.of W9.at_⟩,rfl,_,rfl,_,l,_,rfl,rfl,bf.of V9.at_,?_,?_⟩
     ·have h1:=z0 (m:=202) (cK names R) (λy hy=>(rQ hnm GR y hy).l)
      rw [show (" " : Str).length = 1 from by decide +kernel]
      have h2:(cK names R).length * 202 <= 7 * 202:=Nat.mul_le_mul_right _ rl.2
      lia
     ·rw [join_eq,show ((" " : Str)) = ⟨#[32]⟩ from by decide +kernel]
      refine ⟨lr,_,_,rfl,rfl,W9.at_,cZ (by simp only [List.length_map,List.length_append,List.length_cons,List.length_nil,List.length_take];lia),⟨_,_,_,_,_,_,_,_,_,_,rfl⟩,?_⟩
      have e:(m.rules.take (j + 1)).map (λR=>rowOf names (.rule R)) = (m.rules.take j).map (λR=>rowOf names (.rule R)) ++ [rowOf names (.rule R)]:=by rw [take_snoc hRj,List.map_append];rfl
      rw [e,← List.append_assoc]
      exact W9.add (x:=rowOf names (.rule R))
    ·rintro Z' H3 ⟨hZ,W3⟩
     refine ⟨hZ,?_⟩
     rw [List.length_map,t3.1,List.take_length] at W3
     rw [take_snoc hm,gW,gZ,List.map_append,gk,List.map_cons,List.map_map]
     rw [List.append_assoc] at W3
     exact W3
   ·rintro Z' H1 ⟨hZ,W1⟩
    rw [List.length_map,hA.1,List.take_length] at W1
    exact ⟨hZ,W1⟩
  rintro Z' H1 ⟨⟨x2,x3,x4,x5,x6,x7,x8,x9,x10,x11,rfl⟩,W1⟩
  have hGI:=B.items
  have hrows:rowsOf (itemsOf ms) = (itemsOf ms).map (rowOf names):=by rw [rowsOf,gP,hnames]
  refine @av _ _ _ _ _ _ (aJ (cH F.plainAttrs_str F.slot_str_join F.type_str_join jw aX (aa (pv 1) af))) ⟨rfl,_,rfl,_,lr,_,rfl,rfl,bf.of W1.at_,?_,?_⟩
  ·have h5:=z0 (m:=1421) ((itemsOf ms).map (rowOf names)) (λy hy=>by
    obtain ⟨it,hi,rfl⟩:=List.mem_map.mp hy
    obtain ⟨i,e⟩:=List.mem_iff_getElem?.mp hi
    have:=(jO hGI e).2.1
    rw [gP,← hnames] at this
    exact this)
   rw [show ("\n" : Str).length = 1 from by decide +kernel]
   rw [List.length_map] at h5 ⊢
   have h6:(itemsOf ms).length * 1421 <= 28 * 1421:=Nat.mul_le_mul_right _ hitems
   lia
  ·rw [join_eq,show ((("\n" : Str))) = ⟨#[10]⟩ from by decide +kernel,← hrows]
   exact q _ W1.same
noncomputable def Oo (K:PySem.W.Frag):Sp:=λvs H Q _=>∃ (a:Addr) (ns:List Int) (b:Int),vs = [.ref a,.int b] /\ bf K H a (ns.map V.int) /\ ns.length <= 63 /\ 0 <= b /\ b <= 30000 /\ ∀ ms lm H',qM ms -> CW H' lm ms -> aq H H' -> Q (.ref lm) H'
theorem LD (T:Txt K mg t):bC P w K mg base c6 8 t.o6 t.zD ["_law_script","_law_base"] (Oo K):=by
 refine T.zk.ok AW ?_ ?_
 walk_at "i"
 ·obtain ⟨a,ns,b,rfl,hS,hl,hb0,hb1,q⟩:=h
  refine @ao _ _ _ _ _ _ _ (aB (i:=2) AW.nd rfl (Or.inl rfl) (aM (DV T) (hr.mono (by decide)) rfl T.De T.pR.kp (T.pR.binds (by walk_at "3")) .nil aF (aa (pv 0) (aa (pv 1) (aa jh af))))) ⟨_,rfl,_,rfl,a,ns,b,false,rfl,hS,hl,hb0,hb1,λms lm H1 B hL s1=>?_⟩
  refine @aG _ _ _ _ _ _ _ (λZ' H'=>∃ ms lm,qM ms /\ CW H' lm ms /\ Z' = [some (.ref a),some (.int b),some (.ref lm)] /\ aq H H') (bx (aA gJ (aM (EV T) (hr.mono (by decide)) rfl T.Fj T.p9.kp (T.p9.binds (by walk_at "1")) .nil aF (aa (aM (GQ T) (hr.mono (by decide)) rfl T.Ej T.pe.kp (T.pe.binds (by walk_at "1")) .nil aF (aa (aM (FO T) (hr.mono (by decide)) rfl T.DB T.qk.kp (T.qk.binds (by walk_at "1")) .nil aF (aa (pv 2) af)) af)) af)) bN (aI _)) ay ay) ?_ ?_
  ·refine ⟨_,rfl,lm,ms,false,rfl,hL,B,λH2 s2=>⟨itemsOf ms,rfl,B.items,(by have:=B.DG;lia),λr H3 hR s3=>?_⟩⟩
   rw [qH] at hR
   have s3':=s1.trans (s2.trans s3)
   refine ⟨r,ms,rfl,hR,B.mK,λH4 s4=>⟨λhn=>?_,λring row p l _ _ _=>?_⟩⟩
   ·exact ⟨rfl,_,rfl,g7 (λh=>absurd rfl h) (λ_=>aZ ⟨ms,lm,⟨⟨false,B⟩,MA B.up B.pos hn,hn⟩,hL.same (s2.trans (s3.trans s4)),rfl,s3'.trans s4⟩)⟩
   ·refine ⟨rfl,_,rfl,g7 (λ_=>?_) (λh=>by cases h)⟩
    exact @av _ _ _ _ _ _ (aB (i:=2) AW.nd rfl (Or.inl rfl) (aM (DV T) (hr.mono (by decide)) rfl T.De T.pR.kp (T.pR.binds (by walk_at "3")) .nil aF (aa (pv 0) (aa (pv 1) (aa jh af))))) ⟨_,rfl,_,rfl,a,ns,b,true,rfl,hS.same (s3'.trans s4),hl,hb0,hb1,λms2 lm2 H5 B2 hL2 s5=>⟨ms2,lm2,⟨⟨true,B2⟩,λr _=>B2.G3 r,B2.D6⟩,hL2,rfl,(s3'.trans s4).trans s5⟩⟩
  rintro Z' H2 ⟨ms2,lm2,L2',hL2,rfl,s2⟩
  exact @av _ _ _ _ _ _ (aJ (pv 2)) ⟨_,rfl,q ms2 lm2 H2 L2' hL2 s2⟩
def NJ (R:bB):Prop:=¬ bare R.sort -> 1 <= R.signs.length
theorem fW (x:Str) (i:Nat) (hi:i <= x.length):(PySem.Txt.slice x (some (i:Int)) none).cps.toList = x.cps.toList.drop i:=by
 have:=eq_of_beq (PyProof.Rows.slice_closes_fromL (x:=x) (i:=(i:Int)) (b:=(x.length:Int)) (by lia) (by lia) rfl)
 rw [this]
 show (x.cps.toList.drop (i:Int).toNat).take ((x.length:Int) - (i:Int)).toNat = _
 rw [Int.toNat_natCast,List.take_of_length_le (by rw [List.length_drop,bq];lia)]
theorem Aa {x sg:Str}:(decide (0 + sg.length <= x.length) && Builtin.Str.subAt x sg 0) = decide (x.cps.toList.take sg.length = sg.cps.toList):=by
 have e2:Builtin.Str.subAt x sg 0 = decide (x.cps.toList.take sg.length = sg.cps.toList):=by
  unfold Builtin.Str.subAt
  rw [Bool.eq_iff_iff,beq_iff_eq,decide_eq_true_eq]
  rw [← Array.toList_inj]
  simp [Array.toList_extract,List.extract_eq_take_drop]
 rw [e2,Bool.eq_iff_iff,Bool.and_eq_true,decide_eq_true_eq,decide_eq_true_eq]
 refine ⟨λz=>z.2,λz=>⟨?_,z⟩⟩
 have:=congrArg List.length z
 rw [List.length_take,bq,bq] at this
 lia
theorem Bk {b:Bool} {x y:V}:rA [x,y] (if b = true then (1:Int) else 0) = some (if b = true then y else x):=by
 cases b <;> rfl
noncomputable def MO:Sp:=λvs H Q _=>∃ (tr:Addr) (R:bB) (row:Str) (i:Nat),vs = [.ref tr,.str row,.int i] /\ LR H tr R /\ R.sort ∈ sorts /\ NJ R /\ row.length <= 1000 /\ i <= row.length /\ ∀ H',aq H H' -> Q (eY R.sort R.signs row i) H'
theorem FL (T:Txt K mg t):bC P w K mg base c6 1 t.sD t.wY ["_law_rule_here","_law_row_here","_law_at"] MO:=by
 refine T.rq.ok vg ?_ ?_
 walk_at "i"
 ·obtain ⟨tr,R,row,i,rfl,⟨z,htr,hzl,hzs⟩,hs,hsg,hrow,hi,q⟩:=h
  have hT:=λ{H':Hp} (s':aq H H')=>d8.of (K:=K) (s' _ _ htr)
  have hT0:=d8.of (K:=K) htr
  refine @ao _ _ _ _ _ _ _ (bx (aA cI (aL bw (pv 0) ak (λ_ _=>rfl)) aX (aI _)) ay ay) ⟨_,rfl,_,_,_,_,rfl,rfl,hT0,aQ (j:=0) rfl,rfl,_,rfl,dJ (λh=>?_) (λh1=>aZ ?_)⟩
  ·have h:=V.str.inj h
   refine @av _ _ _ _ _ _ (aJ (aL aS (bH (aa bN (aa ak af))) (dU ko (by rfl) T.uB (by decide +kernel) (aa (gH cI (pv 2) (aO bD (by rfl) T.bK (by decide +kernel) (aa (pv 1) af)) (aI _)) af)) (λ_ _=>rfl))) ⟨by show 2 <= sizeLine;decide,λl hl=>⟨_,rfl,_,rfl,_,rfl,b7 (by lia),rfl,.inr ⟨_,rfl,l,_,_,_,rfl,rfl,bf.of ai,Bk,?_⟩⟩⟩
   have q0:=q _ (aq.upd (o:=.lst [.cQ,.int 0]) hl)
   rw [eY,if_pos h] at q0
   by_cases e:i = row.length
   ·rw [if_pos e] at q0
    rw [decide_eq_true (show V.int (i:Int) = V.int (row.length:Int) by rw [e])]
    exact q0
   ·rw [if_neg e] at q0
    rw [decide_eq_false (show ¬ V.int (i:Int) = V.int (row.length:Int) from λy=>e (by have:=V.int.inj y;lia))]
    exact q0
  have h1:R.sort ≠ "end" := λy=>h1 (by rw [y])
  refine @ao _ _ _ _ _ _ _ (bx (aA cI (pv 2) (aO bD (by rfl) T.bK (by decide +kernel) (aa (pv 1) af)) (aI _)) ay ay) ⟨_,rfl,_,rfl,_,rfl,b7 (by lia),rfl,_,rfl,dJ (λh=>?_) (λh3=>aZ ?_)⟩
  ·have h:i = row.length:=by have:=V.int.inj h;lia
   have q0:=q H (aq.refl H)
   have e:eY R.sort R.signs row i = .cQ:=by
    by_cases h2:R.sort = "word"
    ·rw [eY,if_neg h1,if_pos h2,if_neg]
     intro y
     have:=congrArg List.length y
     rw [List.length_take,List.length_drop,bq,bq] at this
     have:=hsg (by rw [h2];decide)
     lia
    ·exact gQ h1 h2 (by lia)
   rw [e] at q0
   exact @av _ _ _ _ _ _ (aJ bN) q0
  have h3:i < row.length:=by
   have:¬ i = row.length:=λy=>h3 (by rw [y])
   lia
  obtain ⟨c,e1,e2⟩:=strAt (row:=row) (i:=(i:Int)) (by lia) (by lia)
  rw [Int.toNat_natCast] at e1
  refine @ao _ _ _ _ _ _ _ (bx (aA cI (aL bw (pv 0) ak (λ_ _=>rfl)) aX (aI _)) ay ay) ⟨_,rfl,_,_,_,_,rfl,rfl,hT0,aQ (j:=0) rfl,rfl,_,rfl,dJ (λh=>?_) (λh4=>aZ ?_)⟩
  ·have h:=V.str.inj h
   have q0:=q H (aq.refl H)
   rw [fR h1 (by rw [h];decide) e1,if_pos (.inr h),if_neg (by rw [h];decide)] at q0
   exact @av _ _ _ _ _ _ (aJ ak) q0
  have h4:R.sort ≠ "still" := λy=>h4 (by rw [y])
  refine @ao _ _ _ _ _ _ _ (bx (aA cI (aL bw (pv 0) ak (λ_ _=>rfl)) aX (aI _)) ay ay) ⟨_,rfl,_,_,_,_,rfl,rfl,hT0,aQ (j:=0) rfl,rfl,_,rfl,dJ (λh=>?_) (λh5=>aZ ?_)⟩
  ·have h:=V.str.inj h
   have hz:z = R.signs:=hzs (by rw [h];decide)
   refine @av _ _ _ _ _ _ (aJ (aL aS (bH (aa bN (aa (aO bD (by rfl) T.bK (by decide +kernel) (aa (aL bw (pv 0) ak (λ_ _=>rfl)) af)) af))) (dU ko (by rfl) T.uB (by decide +kernel) (aa (cH F.plainAttrs_str F.slot_str_startswith F.type_str_startswith qY (bT gw (pv 1) (bR (pv 2)) cY) (aa (aL bw (pv 0) ak (λ_ _=>rfl)) af)) af)) (λ_ _=>rfl))) ⟨_,rfl,_,_,_,_,rfl,rfl,hT0,aQ (j:=1) rfl,_,rfl,b7 (by lia),by show 2 <= sizeLine;decide,λl hl=>⟨_,rfl,_,rfl,_,rfl,_,rfl,b7 (by lia),rfl,_,rfl,_,_,_,_,rfl,rfl,hT (aq.upd hl),aQ (j:=1) rfl,_,_,rfl,rfl,.inr ⟨_,rfl,l,_,_,_,rfl,rfl,bf.of ai,Bk,?_⟩⟩⟩
   have q0:=q _ (aq.upd (o:=.lst [.cQ,.int z.length]) hl)
   rw [eY,if_neg h1,if_pos h,← hz] at q0
   rw [Aa,fW row i hi]
   by_cases e:(row.cps.toList.drop i).take z.length = z.cps.toList
   ·rw [if_pos e] at q0
    rw [decide_eq_true e]
    exact q0
   ·rw [if_neg e] at q0
    rw [decide_eq_false e]
    exact q0
  have h5:R.sort ≠ "word" := λy=>h5 (by rw [y])
  have qd:=λH' (s':aq H H')=>q H' s'
  simp only [fR h1 h5 e1] at qd
  refine @ao _ _ _ _ _ _ _ (bx (aA cI (aL bw (pv 0) ak (λ_ _=>rfl)) aX (aI _)) ay ay) ⟨_,rfl,_,_,_,_,rfl,rfl,hT0,aQ (j:=0) rfl,rfl,_,rfl,dJ (λh=>?_) (λh6=>aZ ?_)⟩
  ·have h:=V.str.inj h
   have q0:=qd H (aq.refl H)
   rw [if_pos (.inl h),if_pos h] at q0
   exact @av _ _ _ _ _ _ (aJ ak) q0
  have h6:R.sort ≠ "any" := λy=>h6 (by rw [y])
  have h7:¬ (R.sort = "any" ∨ R.sort = "still"):=λy=>y.elim h6 h4
  have hb:¬ bare R.sort:=λy=>by
   rcases y with y | y | y
   ·exact h6 y
   ·exact h4 y
   ·exact h1 y
  have hz:z = R.signs:=hzs hb
  refine @ao _ _ _ _ _ _ _ (bx (aA cI (aL bw (pv 0) ak (λ_ _=>rfl)) aX (aI _)) ay ay) ⟨_,rfl,_,_,_,_,rfl,rfl,hT0,aQ (j:=0) rfl,rfl,_,rfl,dJ (λh=>?_) (λh8=>aZ ?_)⟩
  ·have h:=V.str.inj h
   refine @av _ _ _ _ _ _ (aJ (aL aS (bH (aa ak (aa bN af))) (dU ko (by rfl) T.uB (by decide +kernel) (aa (gH jg (aL k6 (pv 1) (pv 2) (λ_ _=>rfl)) (aL bw (pv 0) ak (λ_ _=>rfl)) rfl) af)) (λ_ _=>rfl))) ⟨by show 2 <= sizeLine;decide,λl hl=>⟨_,rfl,_,rfl,_,_,c,rfl,rfl,b7 (by lia),e2,_,rfl,_,_,_,_,rfl,rfl,hT (aq.upd hl),aQ (j:=1) rfl,_,_,rfl,rfl,.inr ⟨_,rfl,l,_,_,_,rfl,rfl,bf.of ai,Bk,?_⟩⟩⟩
   have q0:=qd _ (aq.upd (o:=.lst [.int 1,.cQ]) hl)
   rw [if_neg h7,if_pos h,← hz] at q0
   rw [PySem.StrLaws.found_one]
   by_cases e:c ∈ z.cps.toList
   ·rw [if_pos e] at q0
    rw [decide_eq_true e]
    exact q0
   ·rw [if_neg e] at q0
    rw [decide_eq_false e]
    exact q0
  have h8:R.sort ≠ "none" := λy=>h8 (by rw [y])
  simp only [if_neg h7,if_neg h8,← hz] at qd
  refine @ao _ _ _ _ _ _ _ (aB (i:=3) vg.nd rfl (Or.inl rfl) ak) ?_
  show At _ _ _ [some (.ref tr),some (.str row),some (.int i),some (.int 0)] H
  refine @aG _ _ _ _ _ _ _ (λZ' H'=>H' = H /\ ∃ j:Nat,Z' = [some (.ref tr),some (.str row),some (.int i),some (.int j)] /\ j = if c ∈ z.cps.toList then (if R.sort = "many" then 1 + iB z.cps.toList (row.cps.toList.drop (i + 1)) else 1) else 0) (gu PassesOwn.never (PW.pt (dH (aA ff (aK aY (pv 2) (pv 3)) (aO bD (by rfl) T.bK (by decide +kernel) (aa (pv 1) af)) (aI _)) (dH (aA jg (aL k6 (pv 1) (aK aY (pv 2) (pv 3)) (λ_ _=>rfl)) (aL bw (pv 0) ak (λ_ _=>rfl)) rfl) (di (PW.pt (jy (aA cI (aL bw (pv 0) ak (λ_ _=>rfl)) aX (aI _)) (i8 (aA cI (pv 3) ak (aI _))))))))) ay) ?_ ?_
  ·refine ⟨λm Z' H'=>H' = H /\ ∃ j:Nat,Z' = [some (.ref tr),some (.str row),some (.int i),some (.int j)] /\ i + j <= row.length /\ m = row.length - j /\ (R.sort = "many" -> iB z.cps.toList (row.cps.toList.drop i) = j + iB z.cps.toList (row.cps.toList.drop (i + j))) /\ (R.sort ≠ "many" -> j <= 1) /\ (0 < j -> c ∈ z.cps.toList),⟨_,rfl,0,rfl,by lia,rfl,λ_=>by rw [Nat.zero_add,Nat.add_zero],λ_=>by lia,λy=>by lia⟩,?_⟩
   rintro m Z' H' ⟨e,j,rfl,hj,rfl,hm,ho,hc⟩
   rw [e]
   clear e H'
   have hstep:=jU (sg:=z.cps.toList) e1
   refine ⟨_,rfl,_,rfl,_,_,rfl,rfl,_,rfl,_,rfl,b7 (by lia),_,_,rfl,rfl,_,rfl,dJ (λh=>?_) (λh=>?_)⟩
   ·have hlt:i + j < row.length:=by lia
    obtain ⟨c2,g1,g2⟩:=strAt (row:=row) (i:=(i:Int) + (j:Int)) (by lia) (by lia)
    rw [show ((i:Int) + (j:Int)).toNat = i + j by lia] at g1
    refine ⟨_,rfl,_,rfl,_,rfl,_,_,rfl,rfl,_,_,c2,rfl,rfl,b7 (by lia),g2,_,rfl,_,_,_,_,rfl,rfl,hT0,aQ (j:=1) rfl,_,_,rfl,rfl,_,rfl,?_⟩
    rw [PySem.StrLaws.found_one]
    refine dJ (λh2=>?_) (λh2=>?_)
    ·have hj0:j = 0 -> c ∈ z.cps.toList:=λy=>by
      subst y
      rw [Nat.add_zero,e1] at g1
      rw [Option.some.inj g1];exact h2
     have key:∀ {G:Prop},(R.sort = "many" ∨ j = 0 -> G) -> (¬ R.sort = "many" -> ¬ j = 0 -> G) -> G:=λa b=>by
      by_cases y:R.sort = "many"
      ·exact a (.inl y)
      ·by_cases y2:j = 0
       ·exact a (.inr y2)
       ·exact b y y2
     have go:(R.sort = "many" ∨ j = 0) -> i + (j + 1) <= row.length /\ (R.sort = "many" -> iB z.cps.toList (row.cps.toList.drop i) = (j + 1) + iB z.cps.toList (row.cps.toList.drop (i + (j + 1)))) /\ (R.sort ≠ "many" -> j + 1 <= 1) /\ (0 < j + 1 -> c ∈ z.cps.toList):=λy=>by
      refine ⟨by lia,λy2=>?_,λy2=>?_,λ_=>?_⟩
      ·have:=hm y2
       rw [jU (j:=i + j) g1,if_pos h2] at this
       rw [show i + (j + 1) = i + j + 1 by lia]
       lia
      ·rcases y with y | y
       ·exact absurd y y2
       ·lia
      ·by_cases y3:j = 0
       ·exact hj0 y3
       ·exact hc (by lia)
     refine ⟨_,rfl,_,_,_,_,rfl,rfl,hT0,aQ (j:=0) rfl,rfl,_,rfl,dJ (λh3=>?_) (λh3=>?_)⟩
     ·obtain ⟨a1,a2,a3,a4⟩:=go (.inl (V.str.inj h3))
      refine ⟨_,λZ' H' z=>z,@av _ _ _ _ _ _ (aB (i:=3) vg.nd rfl (Or.inl rfl) (aK aY (pv 3) ak)) ⟨_,rfl,_,_,rfl,rfl,row.length - (j + 1),by lia,rfl,j + 1,by simp,a1,rfl,a2,a3,a4⟩⟩
     ·refine ⟨_,rfl,rfl,_,rfl,dJ (λh4=>?_) (λh4=>?_)⟩
      ·have h4:j = 0:=by have:=V.int.inj h4;lia
       obtain ⟨a1,a2,a3,a4⟩:=go (.inr h4)
       refine ⟨_,λZ' H' z=>z,@av _ _ _ _ _ _ (aB (i:=3) vg.nd rfl (Or.inl rfl) (aK aY (pv 3) ak)) ⟨_,rfl,_,_,rfl,rfl,row.length - (j + 1),by lia,rfl,j + 1,by simp,a1,rfl,a2,a3,a4⟩⟩
      ·have h3:¬ R.sort = "many" := λy=>h3 (by rw [y])
       have h4:¬ j = 0:=λy=>h4 (by rw [y];rfl)
       have:=ho h3
       refine ⟨rfl,j,rfl,?_⟩
       rw [if_pos (hc (by lia)),if_neg h3]
       lia
    ·refine ⟨rfl,j,rfl,?_⟩
     by_cases hm2:R.sort = "many"
     ·have:=hm hm2
      rw [jU (j:=i + j) g1,if_neg h2,hstep] at this
      split
      ·rename_i y;rw [if_pos y] at this;lia
      ·rename_i y;rw [if_neg y] at this;lia
     ·have hj1:=ho hm2
      split
      ·rename_i y
       by_cases y2:j = 0
       ·subst y2
        rw [Nat.add_zero,e1] at g1
        exact absurd (Option.some.inj g1 ▸ y) h2
       ·lia
      ·rename_i y
       by_cases y2:j = 0
       ·exact y2
       ·exact absurd (hc (by lia)) y
   ·have hge:i + j = row.length:=by lia
    have hjp:0 < j:=by lia
    have hcm:=hc hjp
    refine ⟨rfl,j,rfl,?_⟩
    rw [if_pos hcm]
    by_cases hm2:R.sort = "many"
    ·have:=hm hm2
     have hd:row.cps.toList.drop (i + j) = []:=List.drop_eq_nil_of_le (by rw [bq];lia)
     rw [hd,iB,hstep,if_pos hcm] at this
     rw [if_pos hm2]
     lia
    ·have:=ho hm2
     rw [if_neg hm2]
     lia
  rintro Z' H' ⟨e,j,rfl,hj⟩
  rw [e]
  clear e H'
  refine @av _ _ _ _ _ _ (aJ (aL aS (bH (aa bN (aa (pv 3) af))) (dU ko (by rfl) T.uB (by decide +kernel) (aa (gH i6 (pv 3) ak (aI _)) af)) (λ_ _=>rfl))) ⟨_,rfl,by show 2 <= sizeLine;decide,λl hl=>⟨_,rfl,_,_,rfl,rfl,.inr ⟨_,rfl,l,_,_,_,rfl,rfl,bf.of ai,Bk,?_⟩⟩⟩
  have q0:=qd _ (aq.upd (o:=.lst [.cQ,.int j]) hl)
  by_cases y:c ∈ z.cps.toList
  ·rw [if_pos y] at q0 hj
   rw [decide_eq_true (show (0:Int) < (j:Int) by split at hj <;> lia)]
   by_cases hm2:R.sort = "many"
   ·rw [if_pos hm2] at q0 hj
    rw [show (1:Int) + ((iB z.cps.toList (row.cps.toList.drop (i + 1)):Nat):Int) = ((j:Nat):Int) by lia] at q0
    exact q0
   ·rw [if_neg hm2] at q0 hj
    have q1:Q (.int ((j:Nat):Int)) (upd H l (.lst [.cQ,.int j])):=by rw [hj] at q0 ⊢;exact q0
    exact q1
  ·rw [if_neg y] at q0 hj
   rw [decide_eq_false (show ¬ (0:Int) < (j:Int) by lia)]
   exact q0
theorem yt {xs:List V} (h:xs ≠ []):cG xs none (some (-1:Int)) = xs.dropLast:=by
 have hp:0 < xs.length:=List.length_pos_iff.mpr h
 unfold cG
 have e:HT.vE xs.length xs.length (some (-1:Int)) = xs.length - 1:=by
  show (if (-1:Int) < 0 then ((-1:Int) + (xs.length:Int)).toNat else min (-1:Int).toNat xs.length) = _
  rw [if_pos (by decide)]
  lia
 rw [HT.qt,e,List.drop_zero,Nat.sub_zero,List.dropLast_eq_take]
structure Wk (ms:List aC):Prop where
 g:dZ ms
 sg:∀ m ∈ ms,∀ R ∈ m.rules,NJ R
noncomputable def KL:Sp:=λvs H Q _=>∃ (lm:Addr) (ms:List aC) (m:aC) (k i:Nat) (row:Str),vs = [.ref lm,.int k,.str row,.int i] /\ CW H lm ms /\ Wk ms /\ ms[k]? = some m /\ row.length <= 1000 /\ i <= row.length /\
 ∀ H',aq H H' -> (c8 m.rules row i = none -> Q .cQ H') /\ ∀ R tr,c8 m.rules row i = some R -> R ∈ m.rules -> LR H tr R -> Q (.ref tr) H'
theorem F9 (T:Txt K mg t):bC P w K mg base c6 2 t.qP t.yQ ["_law_modes_here","_law_top","_law_row_here","_law_at"] KL:=by
 refine T.qo.ok Fx ?_ ?_
 walk_at "i"
 ·obtain ⟨lm,ms,m,k,i,row,rfl,⟨ts,hlm,hA⟩,W,hm,hrow,hi,q⟩:=h
  obtain ⟨tm,htm,lu,rs,t1,t2,t3⟩:=hA.at hm
  have hmm:=List.mem_of_getElem? hm
  refine @aG _ _ _ _ _ _ _ (λZ' H'=>(∃ x,Z' = [some (.ref lm),some (.int k),some (.str row),some (.int i),x]) /\ aq H H' /\ c8 m.rules row i = none) (dj PassesOwn.never rfl (eS (aL bw (aL aS (pv 0) (pv 1) (λ_ _=>rfl)) ak (λ_ _=>rfl))) (bJ (i:=4) Fx.nd rfl (Or.inl rfl)) ay) ?_ ?_
  ·refine ⟨_,rfl,_,rfl,_,_,_,_,rfl,rfl,bf.of hlm,c9 htm,_,_,_,_,rfl,rfl,d8.of t1,aQ (j:=2) rfl,lu,rfl,⟨_,bf.of t2⟩,gE (xs:=rs.map V.ref) (λn Z' H'=>(∃ x,Z' = [some (.ref lm),some (.int k),some (.str row),some (.int i),x]) /\ aq H H' /\ firstM m.rules row i = iI row i n (m.rules.drop n)) ⟨⟨_,rfl⟩,aq.refl H,rfl⟩ ?_ ?_ ?_⟩
   ·rintro n Z' H' _ ⟨_,s1,_⟩
    exact bf.of (s1 _ _ t2)
   ·rintro n xv Z' H1 hx ⟨⟨x,rfl⟩,s1,hf⟩
    rw [List.getElem?_map] at hx
    obtain ⟨tr,htr,rfl⟩:=Option.map_eq_some_iff.mp hx
    have hn:n < m.rules.length:=by rw [← t3.1];exact (List.getElem?_eq_some_iff.mp htr).1
    have hR:m.rules[n]? = some m.rules[n]:=List.getElem?_eq_getElem hn
    generalize m.rules[n] = R at hR
    have hRm:=List.mem_of_getElem? hR
    have hLR:=t3.2 n tr R htr hR
    rw [tT hR] at hf
    refine @av _ _ _ _ _ _ (bx (aA gJ (aM (FL T) (hr.mono (by decide)) rfl T.GU T.rq.kp (T.rq.binds (by walk_at "3")) .nil aF (aa (pv 4) (aa (pv 2) (aa (pv 3) af)))) bN (aI _)) ay ay) ⟨_,rfl,_,rfl,_,rfl,tr,R,row,i,rfl,hLR.same s1,((W.g.ok m hmm).2 R hRm).1,W.sg m hmm R hRm,hrow,hi,λH2 s2=>⟨rfl,_,rfl,g7 (λh=>?_) (λh=>aZ ⟨⟨_,rfl⟩,s1.trans s2,?_⟩)⟩⟩
    ·rw [if_pos (show eT R row i = true from decide_eq_true h)] at hf
     exact @av _ _ _ _ _ _ (aJ (pv 4)) ⟨_,rfl,(q H2 (s1.trans s2)).2 R tr (by rw [c8,hf];exact hR) hRm hLR⟩
    ·rw [if_neg (by rw [eT,decide_eq_false (λz=>z h)];decide)] at hf
     exact hf
   ·rintro Z' H' ⟨h1,h2,h3⟩
    rw [List.length_map,t3.1,List.drop_length] at h3
    exact ⟨h1,h2,by rw [c8,h3];rfl⟩
  rintro Z' H' ⟨⟨x,rfl⟩,s1,hn⟩
  exact @av _ _ _ _ _ _ (aJ bN) ((q H' s1).1 hn)
noncomputable def HD:Sp:=λvs H Q _=>∃ (lo tr:Addr) (on:List Nat) (R:bB),vs = [.ref tr,.ref lo] /\ H lo = some (.lst (on.map bS)) /\ LR H tr R /\ R.bh ∈ jN /\ Bl R /\ on ≠ [] /\ on.length <= 100000 /\
 ∀ l H',H' l = some (.lst ((bE on R.bh R.goal).map bS)) -> (l = lo ∨ H l = none) -> aq H H' -> Q (.ref l) H'
theorem L1 (T:Txt K mg t):bC P w K mg base c6 1 t.oV t.yJ ["_law_rule_here","_law_on"] HD:=by
 refine T.xm.ok KG ?_ ?_
 walk_at "i"
 ·obtain ⟨lo,tr,on,R,rfl,hlo,⟨z,htr,hzl,hzs⟩,hdd,hgd,hne,hlen,q⟩:=h
  have ht:=d8.of (K:=K) htr
  have hL:=bf.of (K:=K) hlo
  have hne':on.map bS ≠ []:=by simpa using hne
  have hl0:on.length ≠ 0:=λy=>hne (List.eq_nil_of_length_eq_zero y)
  refine @ao _ _ _ _ _ _ _ (bx (aA cI (aL bw (pv 0) ak (λ_ _=>rfl)) aX (aI _)) ay ay) ⟨_,rfl,_,_,_,_,rfl,rfl,ht,aQ (j:=3) rfl,rfl,_,rfl,dJ (λh=>?_) (λh2=>aZ ?_)⟩
  ·have h:=V.str.inj h
   obtain ⟨g,eg⟩:=hgd (.inl h)
   refine @av _ _ _ _ _ _ (aJ (aK m8 (pv 1) (bH (aa (aL bw (pv 0) ak (λ_ _=>rfl)) af)))) ⟨_,rfl,_,rfl,_,_,_,_,rfl,rfl,ht,aQ (j:=4) rfl,by show 1 <= sizeLine;decide,λl1 hl1=>⟨lo,l1,_,_,rfl,rfl,aq.upd hl1 _ _ hlo,ai,b7 (by simp only [List.length_map,List.length_cons,List.length_nil];lia),λl2 hl2=>q l2 _ ?_ (.inr ((aq.upd hl1).free hl2)) ((aq.upd hl1).to hl2)⟩⟩
   rw [ai,bE,if_pos h,eg,List.map_append]
   rfl
  have h2:R.bh ≠ "push" := λy=>h2 (by rw [y])
  refine @ao _ _ _ _ _ _ _ (bx (aA cI (aL bw (pv 0) ak (λ_ _=>rfl)) aX (aI _)) ay ay) ⟨_,rfl,_,_,_,_,rfl,rfl,ht,aQ (j:=3) rfl,rfl,_,rfl,dJ (λh=>?_) (λh3=>aZ ?_)⟩
  ·have h:=V.str.inj h
   obtain ⟨g,eg⟩:=hgd (.inr h)
   refine @av _ _ _ _ _ _ (aJ (aK m8 (bT gq (pv 1) cY (bR (iu fG ak))) (bH (aa (aL bw (pv 0) ak (λ_ _=>rfl)) af)))) ⟨_,rfl,_,rfl,_,rfl,lo,_,rfl,hL,λl0 hl0'=>?_⟩
   have s0:aq H (upd H l0 (.lst (cG (on.map bS) none (some (-1:Int))))):=aq.upd hl0'
   have hl2:upd H l0 (.lst (cG (on.map bS) none (some (-1:Int)))) l0 = some (.lst ((on.map bS).dropLast)):=by rw [ai,yt hne']
   generalize upd H l0 (.lst (cG (on.map bS) none (some (-1:Int)))) = H0 at s0 hl2
   refine ⟨_,rfl,_,_,_,_,rfl,rfl,d8.of (s0 _ _ htr),aQ (j:=4) rfl,by show 1 <= sizeLine;decide,λl1 hl1=>⟨l0,l1,_,_,rfl,rfl,aq.upd hl1 _ _ hl2,ai,b7 (by simp only [List.length_dropLast,List.length_map,List.length_cons,List.length_nil];lia),λl2 hl2=>q l2 _ ?_ (.inr ((s0.to hl1).free hl2)) (s0.trans ((aq.upd hl1).to hl2))⟩⟩
   rw [ai,bE,if_neg h2,if_pos h,eg,List.map_append,List.map_dropLast]
   rfl
  have h3:R.bh ≠ "into" := λy=>h3 (by rw [y])
  refine @aG _ _ _ _ _ _ _ (λZ' H'=>Z' = [some (.ref tr),some (.ref lo)] /\ H' = H /\ ¬ (R.bh = "pop" /\ on.length = 1)) (bx (PW.pt (dH (aA cI (aL bw (pv 0) ak (λ_ _=>rfl)) aX (aI _)) (di (aA cI (aO aR (by rfl) T.bK (by decide +kernel) (aa (pv 1) af)) ak (aI _))))) ay ay) ?_ ?_
  ·refine ⟨_,rfl,_,_,_,_,rfl,rfl,ht,aQ (j:=3) rfl,rfl,_,rfl,dJ (λh=>?_) (λh=>aZ ⟨rfl,rfl,λy=>h (by rw [y.1])⟩)⟩
   have h:=V.str.inj h
   refine ⟨_,rfl,_,_,rfl,.inl hL,rfl,_,rfl,dJ (λh5=>?_) (λh5=>aZ ⟨rfl,rfl,λy=>h5 (by rw [List.length_map,y.2];rfl)⟩)⟩
   have h5:=V.int.inj h5
   rw [List.length_map] at h5
   refine @av _ _ _ _ _ _ (aJ (bH (aa ak af))) ⟨by show 1 <= sizeLine;decide,λl hl=>q l _ ?_ (.inr hl) (aq.upd hl)⟩
   rw [ai,bE,if_neg h2,if_neg h3,if_pos h,if_pos (by lia)]
   rfl
  rintro Z' H' ⟨rfl,e,h5⟩
  rw [e]
  clear e H'
  refine @ao _ _ _ _ _ _ _ (bx (aA cI (aL bw (pv 0) ak (λ_ _=>rfl)) aX (aI _)) ay ay) ⟨_,rfl,_,_,_,_,rfl,rfl,ht,aQ (j:=3) rfl,rfl,_,rfl,dJ (λh=>?_) (λh6=>aZ ?_)⟩
  ·have h:=V.str.inj h
   refine @av _ _ _ _ _ _ (aJ (bT gq (pv 1) cY (bR (iu fG ak)))) ⟨_,rfl,_,rfl,_,rfl,lo,_,rfl,hL,λl0 hl0'=>q l0 _ ?_ (.inr hl0') (aq.upd hl0')⟩
   rw [ai,yt hne',bE,if_neg h2,if_neg h3,if_pos h,if_neg (λy=>h5 ⟨h,y⟩),List.map_dropLast]
  ·have h6:R.bh ≠ "pop" := λy=>h6 (by rw [y])
   refine @av _ _ _ _ _ _ (aJ (pv 1)) ⟨_,rfl,q lo H ?_ (.inl rfl) (aq.refl H)⟩
   rw [bE,if_neg h2,if_neg h3,if_neg h6]
   exact hlo
noncomputable def Iq:Sp:=λvs H Q _=>∃ (lm lo:Addr) (ms:List aC) (on:List Nat) (row:Str) (n:Nat) (d:Cfg),vs = [.ref lm,.ref lo,.str row] /\ CW H lm ms /\ Wk ms /\ H lo = some (.lst (on.map bS)) /\ ia ms on /\ row.length <= 1000 /\ on.length <= 40000 /\ n <= 5000 /\ goN ms row n ⟨on,[],[]⟩ = some d /\
 ∀ tp lt lo' lk H',Told H' tp lt lo' lk d -> H lt = none -> H lk = none -> (lo' = lo ∨ H lo' = none) -> aq H H' -> Q (.ref tp) H'
theorem Lp (T:Txt K mg t):bC P w K mg base c6 3 t.qx t.zd ["_law_modes_here","_law_on","_law_row_here"] Iq:=by
 refine T.vG.ok gD ?_ ?_
 walk_at "i"
 ·obtain ⟨lm,lh,ms,on,row,n,d,rfl,hL,W,hlh,hok,hrow,honl,hn,hgo,q⟩:=h
  refine @ao _ _ _ _ _ _ _ (aB (i:=3) gD.nd rfl (Or.inl rfl) (bH af)) ⟨by show 0 <= sizeLine;decide,λlt hlt=>?_⟩
  have s1:aq H (upd H lt (.lst [])):=aq.upd hlt
  have ht1:upd H lt (.lst []) lt = some (.lst []):=ai
  have nht:lh ≠ lt:=aj hlh hlt
  generalize upd H lt (.lst []) = H1 at s1 ht1
  refine @ao _ _ _ _ _ _ _ (aB (i:=4) gD.nd rfl (Or.inl rfl) (bH af)) ⟨by show 0 <= sizeLine;decide,λlk hlk=>?_⟩
  have s2:aq H1 (upd H1 lk (.lst [])):=aq.upd hlk
  have hk2:upd H1 lk (.lst []) lk = some (.lst []):=ai
  have ht2:=s2 _ _ ht1
  have ntk:lt ≠ lk:=aj ht1 hlk
  have nhk:lh ≠ lk:=aj (s1 _ _ hlh) hlk
  have hlk0:H lk = none:=s1.free hlk
  generalize upd H1 lk (.lst []) = H2 at s2 hk2 ht2
  have s2:=s1.trans s2
  refine @ao _ _ _ _ _ _ _ (aB (i:=5) gD.nd rfl (Or.inl rfl) ak) ?_
  refine @ao _ _ _ _ _ _ _ (aB (i:=6) gD.nd rfl (Or.inl rfl) ak) ?_
  show At _ _ _ [some (.ref lm),some (.ref lh),some (.str row),some (.ref lt),some (.ref lk),some (.int 0),some (.int 5000),none,none] H2
  have look:∀ {H':Hp} {c:Cfg},ia ms c.on -> ∃ m,ms[bM c.on]? = some m /\ dB ms (bM c.on) = m.rules:=λ{H' c} h=>by
   obtain ⟨m,hm⟩:=h.mode
   exact ⟨m,hm,by rw [dB,hm]⟩
  obtain ⟨m0,hm0,hr0⟩:=look (H':=H) (c:=⟨on,[],[]⟩) hok
  refine @aG _ _ _ _ _ _ _ (λZ' H'=>∃ rv,Z' = [some (.ref lm),some (.ref lh),some (.str row),some (.ref lt),some (.ref lk),some (.int 0),some (.int 5000),some rv,none] /\ aq H2 H' /\ ((c8 (dB ms (bM on)) row 0 = none /\ rv = .cQ) ∨ ∃ R tr,c8 (dB ms (bM on)) row 0 = some R /\ R ∈ m0.rules /\ rv = .ref tr /\ LR H' tr R)) (aB (i:=7) gD.nd rfl (Or.inl rfl) (aM (F9 T) (hr.mono (by decide)) rfl T.Ft T.qo.kp (T.qo.binds (by walk_at "4")) .nil aF (aa (pv 0) (aa (aL aS (pv 1) (iu fG ak) (λ_ _=>rfl)) (aa (pv 2) (aa (pv 5) af)))))) ?_ ?_
  ·refine ⟨_,rfl,_,rfl,_,rfl,_,_,_,_,rfl,rfl,bf.of (s2 _ _ hlh),eE (fJ hok.1),_,rfl,_,rfl,lm,ms,m0,bM on,0,row,rfl,hL.same s2,W,hm0,hrow,Nat.zero_le _,λH3 s3=>⟨λe=>⟨_,rfl,s3,.inl ⟨by rw [hr0];exact e,rfl⟩⟩,λR tr e hR hLR=>⟨_,rfl,s3,.inr ⟨R,tr,by rw [hr0];exact e,hR,rfl,hLR.same s3⟩⟩⟩⟩
  rintro Z' H3 ⟨rv0,rfl,s3,hrv0⟩
  have s3':=s2.trans s3
  refine @aG _ _ _ _ _ _ _ (λZ' H'=>∃ lt lo x5 x6 x7 x8,Z' = [some (.ref lm),some (.ref lo),some (.str row),some (.ref lt),some (.ref lk),x5,x6,x7,x8] /\ H' lt = some (.lst (d.aD.map V.str)) /\ H' lo = some (.lst (d.on.map bS)) /\ GM H' lk d.marks /\ H lt = none /\ (lo = lh ∨ H lo = none) /\ aq H H') (gu PassesOwn.never (PW.pt (dH (aA i6 (pv 6) ak (aI _)) (di (PW.pt (jy (aA gJ (pv 7) bN (aI _)) (i8 (aA ff (pv 5) (aO bD (by rfl) T.bK (by decide +kernel) (aa (pv 2) af)) (aI _)))))))) ay) ?_ ?_
  ·refine ⟨λm Z' H'=>∃ (c:Cfg) (lt lo:Addr) (left:Int) (rv:V) (x8:Option V),Z' = [some (.ref lm),some (.ref lo),some (.str row),some (.ref lt),some (.ref lk),some (.int c.aD.length),some (.int left),some rv,x8] /\ H' lo = some (.lst (c.on.map bS)) /\ H' lt = some (.lst (c.aD.map V.str)) /\ GM H' lk c.marks /\ H lt = none /\ (lo = lh ∨ H lo = none) /\ lo ≠ lt /\ lo ≠ lk /\ lt ≠ lk /\ ia ms c.on /\ c.aD.length <= row.length /\ c.on.length + m <= on.length + n /\ c.marks.length + m <= n /\ (m:Int) <= left /\ goN ms row m c = some d /\ ((c8 (dB ms (bM c.on)) row c.aD.length = none /\ rv = .cQ) ∨ ∃ R tr m',ms[bM c.on]? = some m' /\ c8 (dB ms (bM c.on)) row c.aD.length = some R /\ R ∈ m'.rules /\ rv = .ref tr /\ LR H' tr R) /\ aq H H',
    ⟨n,⟨on,[],[]⟩,lt,lh,5000,rv0,_,rfl,s3' _ _ hlh,s3 _ _ ht2,⟨[],s3 _ _ hk2,bU.nil⟩,hlt,.inl rfl,nht,nhk,ntk,hok,Nat.zero_le _,Nat.le_refl _,by simp,by lia,hgo,?_,s3'⟩,?_⟩
   ·rcases hrv0 with h | ⟨R,tr,h1,h2,h3,h4⟩
    ·exact .inl h
    ·exact .inr ⟨R,tr,m0,hm0,h1,h2,h3,h4⟩
   rintro m Z' H4 ⟨c,lt,lo,left,rv,x8,rfl,ho4,ht4,hk4,hlt0,hlo0,not_,nok,ntk,hok4,htl4,hol4,hml4,hleft,hgo4,hrv,s4⟩
   obtain ⟨md,hmd,hru⟩:=look (H':=H) hok4
   have hmm:=List.mem_of_getElem? hmd
   cases hst:eW ms row c with
   | none =>
    have hd:d = c:=by
     rw [oK hst] at hgo4
     exact (Option.some.inj hgo4).symm
    subst hd
    rw [eW] at hst
    rcases hrv with ⟨hnone,rfl⟩ | ⟨R,tr,m',_,h1,_⟩
    ·rw [hnone] at hst
     have hnl:¬ d.aD.length < row.length:=λz=>by
      have hst:(if d.aD.length < row.length then some _ else none) = none:=hst
      rw [if_pos z] at hst;cases hst
     have fin:∃ lt' lo' x5 x6 x7 x8',[some (V.ref lm),some (V.ref lo),some (V.str row),some (V.ref lt),some (V.ref lk),some (V.int d.aD.length),some (V.int left),some V.cQ,x8] = [some (.ref lm),some (.ref lo'),some (.str row),some (.ref lt'),some (.ref lk),x5,x6,x7,x8'] /\ H4 lt' = some (.lst (d.aD.map V.str)) /\ H4 lo' = some (.lst (d.on.map bS)) /\ GM H4 lk d.marks /\ H lt' = none /\ (lo' = lh ∨ H lo' = none) /\ aq H H4:=⟨lt,lo,_,_,_,_,rfl,ht4,ho4,hk4,hlt0,hlo0,s4⟩
     refine ⟨_,rfl,_,_,rfl,rfl,_,rfl,dJ (λh=>?_) (λh=>fin)⟩
     refine ⟨_,rfl,rfl,_,rfl,g7 (λh=>absurd rfl h) (λ_=>?_)⟩
     exact ⟨_,rfl,_,rfl,_,rfl,b7 (by lia),_,_,rfl,rfl,_,rfl,dJ (λh=>absurd h (by lia)) (λh=>fin)⟩
    ·rw [h1] at hst;cases hst
   | some c' =>
    obtain ⟨m',rfl⟩:∃ m',m = m' + 1:=by
     cases m with
     | zero=>rw [goN,hst] at hgo4;cases hgo4
     | succ m'=>exact ⟨m',rfl⟩
    rw [goN,hst] at hgo4
    have hgo5:goN ms row m' c' = some d:=hgo4
    have hpos:(0:Int) < left:=by lia
    refine ⟨_,rfl,_,_,rfl,rfl,_,rfl,dJ (λ_=>?_) (λh=>absurd hpos h)⟩
    have hnon:rv = .cQ -> c.aD.length < row.length:=λe=>by
     rcases hrv with ⟨hnone,_⟩ | ⟨R,tr,m',_,h1,_,h3,_⟩
     ·rw [eW,hnone] at hst
      have hst:(if c.aD.length < row.length then some _ else none) = some c':=hst
      by_cases z:c.aD.length < row.length
      ·exact z
      ·rw [if_neg z] at hst;cases hst
     ·rw [e] at h3;cases h3
    refine (λhb=>⟨_,rfl,rfl,_,rfl,g7 (λ_=>hb) (λh=>⟨_,rfl,_,rfl,_,rfl,b7 (by lia),_,_,rfl,rfl,_,rfl,dJ (λ_=>hb) (λh'=>absurd (by have:=hnon h;lia) h')⟩)⟩) ?_
    refine ⟨_,λZ' H' z=>z,?_⟩
    refine @ao _ _ _ _ _ _ _ (aB (i:=6) gD.nd rfl (Or.inl rfl) (aK dR (pv 6) ak)) ⟨_,rfl,_,_,rfl,rfl,?_⟩
    refine @ao _ _ _ _ _ _ _ (aB (i:=8) gD.nd rfl (Or.inl rfl) ak) ?_
    show At _ _ _ [some (.ref lm),some (.ref lo),some (.str row),some (.ref lt),some (.ref lk),some (.int c.aD.length),some (.int (left - 1)),some rv,some (.int 1)] H4
    refine @aG _ _ _ _ _ _ _ (λZ' H'=>∃ (lt lo:Addr) (mn:Int),Z' = [some (.ref lm),some (.ref lo),some (.str row),some (.ref lt),some (.ref lk),some (.int c.aD.length),some (.int (left - 1)),some rv,some (.int mn)] /\ (c.aD.length:Int) + mn = c'.aD.length /\ H' lo = some (.lst (c'.on.map bS)) /\ H' lt = some (.lst (c'.aD.map V.str)) /\ GM H' lk c'.marks /\ H lt = none /\ (lo = lh ∨ H lo = none) /\ lo ≠ lt /\ lo ≠ lk /\ lt ≠ lk /\ ia ms c'.on /\ c'.aD.length <= row.length /\ c'.on.length + m' <= on.length + n /\ c'.marks.length + m' <= n /\ aq H H') (bx (aA qI (pv 7) bN (aI _)) ay ay) ?_ ?_
    ·rcases hrv with ⟨hnone,rfl⟩ | ⟨R,tr,m2,hm2,h1,h2,rfl,h4⟩
     ·have hlt':=hnon rfl
      have ec:c' = ⟨c.on,c.aD ++ [cC ms (bM c.on)],c.marks⟩:=by
       rw [eW,hnone] at hst
       have hst:(if c.aD.length < row.length then some (Cfg.mk c.on (c.aD ++ [cC ms (bM c.on)]) c.marks) else none) = some c':=hst
       rw [if_pos hlt'] at hst
       exact (Option.some.inj hst).symm
      have ecol:cC ms (bM c.on) = md.aU:=by rw [cC,hmd]
      obtain ⟨ts,hlm,hA⟩:=hL
      obtain ⟨tm,htm,lu,rs,t1,t2,t3⟩:=hA.at hmd
      refine ⟨_,rfl,rfl,_,rfl,dJ (λ_=>?_) (λh=>absurd rfl h)⟩
      refine @av _ _ _ _ _ _ (bz (cH F.plainAttrs_list F.slot_list_append F.type_list_append bQ (pv 3) (aa (aL bw (aL aS (pv 0) (aL aS (pv 1) (iu fG ak) (λ_ _=>rfl)) (λ_ _=>rfl)) ak (λ_ _=>rfl)) af))) ⟨_,rfl,.inl ⟨rfl,_,bf.of ht4⟩,_,rfl,_,rfl,_,rfl,_,_,_,_,rfl,rfl,bf.of ho4,eE (fJ hok4.1),_,_,_,_,rfl,rfl,bf.of (s4 _ _ hlm),c9 htm,_,_,_,_,rfl,rfl,d8.of (s4 _ _ t1),aQ (j:=1) rfl,lt,_,_,rfl,rfl,ht4,cZ (by rw [List.length_map];lia),lt,lo,1,rfl,?_,?_,?_,?_,hlt0,hlo0,not_,nok,ntk,?_,?_,?_,?_,?_⟩
      ·rw [ec]
       show _ = (((c.aD ++ [cC ms (bM c.on)]).length:Nat):Int)
       rw [List.length_append,List.length_cons,List.length_nil]
       lia
      ·rw [ec,au not_];exact ho4
      ·rw [ec,ai]
       show _ = some (HO.lst ((c.aD ++ [cC ms (bM c.on)]).map V.str))
       rw [List.map_append,ecol]
       rfl
      ·rw [ec];exact hk4.kJ ht4 (Ne.symm ntk)
      ·rw [ec];exact hok4
      ·rw [ec]
       show (c.aD ++ [cC ms (bM c.on)]).length <= _
       rw [List.length_append,List.length_cons,List.length_nil]
       lia
      ·rw [ec];show c.on.length + m' <= _;lia
      ·rw [ec];show c.marks.length + m' <= _;lia
      ·intro b o hb
       rw [au (aj hb hlt0)]
       exact s4 _ _ hb
     ·have ec:c' = fq c R row:=by
       rw [eW,h1] at hst
       exact (Option.some.inj hst).symm
      have hmm2:=List.mem_of_getElem? hm2
      have hs:=((W.g.ok m2 hmm2).2 R h2).1
      have hfit:eT R row c.aD.length = true:=by
       rw [hru] at h1
       unfold c8 at h1
       cases ef:firstM md.rules row c.aD.length with
       | none=>rw [ef] at h1;cases h1
       | some j =>
        rw [ef] at h1
        obtain ⟨_,R',g1,g2,_⟩:=gY ef
        rw [Nat.sub_zero] at g1
        have:R' = R:=Option.some.inj (g1.symm.trans h1)
        rw [← this];exact g2
      have hel:=AS (R:=R) (row:=row) hs htl4
      have hdl:=qR (on:=c.on) (d:=R.bh) (g:=R.goal)
      refine ⟨_,rfl,rfl,_,rfl,dJ (λh=>by cases h) (λ_=>?_)⟩
      refine @ao _ _ _ _ _ _ _ (aB (i:=8) gD.nd rfl (Or.inl rfl) (aM (FL T) (hr.mono (by decide)) rfl T.GU T.rq.kp (T.rq.binds (by walk_at "3")) .nil aF (aa (pv 7) (aa (pv 2) (aa (pv 5) af))))) ⟨_,rfl,_,rfl,_,rfl,tr,R,row,c.aD.length,rfl,h4,hs,W.sg m2 hmm2 R h2,hrow,htl4,λH5 s5=>?_⟩
      rw [Bq hfit]
      have h5:=h4.same s5
      obtain ⟨z,u1,u2,u3⟩:=id h5
      have ht5:=s5 _ _ ht4
      have ho5:=s5 _ _ ho4
      have hk5:=hk4.same s5
      refine @ao _ _ _ _ _ _ _ (aB (i:=3) gD.nd rfl (Or.inl rfl) (aK m8 (pv 3) (aK E8 (bH (aa (aL bw (pv 7) ak (λ_ _=>rfl)) af)) (pv 8)))) ⟨_,rfl,_,rfl,_,_,_,_,rfl,rfl,d8.of u1,aQ (j:=2) rfl,by show 1 <= sizeLine;decide,λl1 hl1=>⟨_,rfl,l1,_,_,rfl,rfl,ai,by lia,by lia,(by rw [Int.toNat_natCast];exact b7 (by simp only [List.length_cons,List.length_nil];lia)),λl2 hl2=>?_⟩⟩
      rw [Int.toNat_natCast,pF]
      have s7:aq H5 (upd (upd H5 l1 (.lst [.str R.aU])) l2 (.lst (List.replicate (fF R row c.aD.length) (V.str R.aU)))):=(aq.upd hl1).to hl2
      have hl7:upd (upd H5 l1 (.lst [.str R.aU])) l2 (.lst (List.replicate (fF R row c.aD.length) (V.str R.aU))) l2 = some (.lst (List.replicate (fF R row c.aD.length) (V.str R.aU))):=ai
      generalize upd (upd H5 l1 (.lst [.str R.aU])) l2 (.lst (List.replicate (fF R row c.aD.length) (V.str R.aU))) = H7 at s7 hl7
      refine ⟨lt,l2,_,_,rfl,rfl,s7 _ _ ht5,hl7,b7 (by rw [List.length_map,List.length_replicate];lia),λlt' hlt'=>?_⟩
      have s8:aq H7 (upd H7 lt' (.lst (c.aD.map V.str ++ List.replicate (fF R row c.aD.length) (V.str R.aU)))):=aq.upd hlt'
      have ht8:upd H7 lt' (.lst (c.aD.map V.str ++ List.replicate (fF R row c.aD.length) (V.str R.aU))) lt' = some (.lst ((fq c R row).aD.map V.str)):=by
       rw [ai]
       show _ = some (HO.lst ((c.aD ++ List.replicate (fF R row c.aD.length) R.aU).map V.str))
       rw [List.map_append,List.map_replicate]
      generalize upd H7 lt' (.lst (c.aD.map V.str ++ List.replicate (fF R row c.aD.length) (V.str R.aU))) = H8 at s8 ht8
      have s78:=s7.trans s8
      have ho8:=s78 _ _ ho5
      have hk8:=hk5.same s78
      have h8:=h5.same s78
      have no8:lo ≠ lt':=aj (s7 _ _ ho5) hlt'
      obtain ⟨ps5,hps5,_⟩:=id hk5
      have nk8:lk ≠ lt':=aj (s7 _ _ hps5) hlt'
      have s48:=s4.trans (s5.trans s78)
      have hlt0':H lt' = none:=(s4.trans (s5.trans s7)).free hlt'
      show At _ _ _ [some (.ref lm),some (.ref lo),some (.str row),some (.ref lt'),some (.ref lk),some (.int c.aD.length),some (.int (left - 1)),some (.ref tr),some (bS (fF R row c.aD.length))] H8
      refine @aG _ _ _ _ _ _ _ (λZ' H'=>Z' = [some (.ref lm),some (.ref lo),some (.str row),some (.ref lt'),some (.ref lk),some (.int c.aD.length),some (.int (left - 1)),some (.ref tr),some (bS (fF R row c.aD.length))] /\ H' lo = some (.lst (c.on.map bS)) /\ H' lt' = some (.lst ((fq c R row).aD.map V.str)) /\ GM H' lk (fq c R row).marks /\ LR H' tr R /\ aq H H') (bx (aA lE (aL bw (pv 7) ak (λ_ _=>rfl)) aX (aI _)) ay ay) ?_ ?_
      ·obtain ⟨z8,u8,u9⟩:=id h8
       refine ⟨_,rfl,_,_,_,_,rfl,rfl,d8.of u8,aQ (j:=5) rfl,rfl,_,rfl,g7 (λh=>?_) (λh=>aZ ⟨rfl,ho8,ht8,?_,h8,s48⟩)⟩
       ·have h:R.fold ≠ "" := λz=>h (by rw [z])
        obtain ⟨ps,hps,hAp⟩:=hk8
        refine @av _ _ _ _ _ _ (bz (cH F.plainAttrs_list F.slot_list_append F.type_list_append bQ (pv 4) (aa (ez (aa (pv 5) (aa (aL bw (pv 7) ak (λ_ _=>rfl)) af))) af))) ⟨_,rfl,.inl ⟨rfl,_,bf.of hps⟩,_,rfl,_,rfl,_,_,_,_,rfl,rfl,d8.of u8,aQ (j:=5) rfl,by show 2 <= sizeLine;decide,λtp htp=>?_⟩
        have s9:aq H8 (upd H8 tp (.tup [.int c.aD.length,.str R.fold])):=aq.upd htp
        have hp9:upd H8 tp (.tup [.int c.aD.length,.str R.fold]) tp = some (.tup [.int c.aD.length,.str R.fold]):=ai
        generalize upd H8 tp (.tup [.int c.aD.length,.str R.fold]) = H9 at s9 hp9
        have hps9:=s9 _ _ hps
        have hpl:ps.length <= 100000:=by rw [hAp.1];lia
        refine ⟨lk,_,_,rfl,rfl,hps9,cZ (by rw [List.length_map];lia),rfl,?_,?_,?_,?_,?_⟩
        ·rw [au nok];exact s9 _ _ ho8
        ·rw [au (Ne.symm nk8)];exact s9 _ _ ht8
        ·have em:(fq c R row).marks = c.marks ++ [(c.aD.length,R.fold)]:=if_neg h
         rw [em]
         refine ⟨ps ++ [tp],by rw [ai,List.map_append];rfl,bU.snoc (hAp.mono λp m e=>?_) ?_⟩
         ·rw [au (cA (s9 _ _ e) hps9 (by intro z;cases z))];exact s9 _ _ e
         ·rw [au (cA hp9 hps9 (by intro z;cases z))];exact hp9
        ·exact ⟨z8,by rw [au (cA (s9 _ _ u8) hps9 (by intro z;cases z))];exact s9 _ _ u8,u9⟩
        ·intro b o hb
         rw [au (aj hb hlk0)]
         exact s9 _ _ (s48 _ _ hb)
       ·have h:R.fold = "" := V.str.inj h
        have em:(fq c R row).marks = c.marks:=if_pos h
        rw [em]
        exact hk8
      rintro Z' H9 ⟨rfl,ho9,ht9,hk9,h9,s9⟩
      have hgd:Bl R:=W.g.gd hmm2 h2
      refine @av _ _ _ _ _ _ (aB (i:=1) gD.nd rfl (Or.inl rfl) (aM (L1 T) (hr.mono (by decide)) rfl T.LP T.xm.kp (T.xm.binds (by walk_at "2")) .nil aF (aa (pv 7) (aa (pv 1) af)))) ⟨_,rfl,_,rfl,lo,tr,c.on,R,rfl,ho9,h9,W.g.bh m2 hmm2 R h2,hgd,hok4.1,by lia,λlo' H10 ho10 hor s10=>?_⟩
      obtain ⟨ps9,hps9,_⟩:=id hk9
      have no1:lo' ≠ lt':=by
       rcases hor with z | z
       ·rw [z];exact no8
       ·exact Ne.symm (aj ht9 z)
      have no2:lo' ≠ lk:=by
       rcases hor with z | z
       ·rw [z];exact nok
       ·exact Ne.symm (aj hps9 z)
      have hlo':lo' = lh ∨ H lo' = none:=by
       rcases hor with z | z
       ·rw [z];exact hlo0
       ·exact .inr (s9.free z)
      refine ⟨lt',lo',((fF R row c.aD.length:Nat):Int),rfl,?_,?_,?_,?_,hlt0',hlo',no1,no2,Ne.symm nk8,?_,?_,?_,?_,s9.trans s10⟩
      ·rw [ec]
       show _ = (((c.aD ++ List.replicate _ _).length:Nat):Int)
       rw [List.length_append,List.length_replicate]
       lia
      ·rw [ec];exact ho10
      ·rw [ec];exact s10 _ _ ht9
      ·rw [ec];exact hk9.same s10
      ·rw [ec];exact hok4.bh W.g hmm2 h2
      ·rw [ec]
       show (c.aD ++ List.replicate _ _).length <= _
       rw [List.length_append,List.length_replicate]
       exact hel
      ·rw [ec]
       show (bE c.on R.bh R.goal).length + m' <= _
       lia
      ·rw [ec]
       show (if R.fold = "" then c.marks else c.marks ++ [(c.aD.length,R.fold)]).length + m' <= _
       split
       ·lia
       ·rw [List.length_append,List.length_cons,List.length_nil];lia
    rintro Z' H5 ⟨lt5,lo5,mn,rfl,hmn,ho5,ht5,hk5,hlt5,hlo5,no5,nok5,ntk5,hok5,htl5,hol5,hml5,s5⟩
    refine @ao _ _ _ _ _ _ _ (aB (i:=5) gD.nd rfl (Or.inl rfl) (aK aY (pv 5) (pv 8))) ⟨_,rfl,_,rfl,_,_,rfl,rfl,?_⟩
    show At _ _ _ [some (.ref lm),some (.ref lo5),some (.str row),some (.ref lt5),some (.ref lk),some (.int ((c.aD.length:Int) + mn)),some (.int (left - 1)),some rv,some (.int mn)] H5
    rw [hmn]
    obtain ⟨m5,hm5,hr5⟩:=look (H':=H) hok5
    refine @av _ _ _ _ _ _ (aB (i:=7) gD.nd rfl (Or.inl rfl) (aM (F9 T) (hr.mono (by decide)) rfl T.Ft T.qo.kp (T.qo.binds (by walk_at "4")) .nil aF (aa (pv 0) (aa (aL aS (pv 1) (iu fG ak) (λ_ _=>rfl)) (aa (pv 2) (aa (pv 5) af)))))) ⟨_,rfl,_,rfl,_,rfl,_,_,_,_,rfl,rfl,bf.of ho5,eE (fJ hok5.1),_,rfl,_,rfl,lm,ms,m5,bM c'.on,c'.aD.length,row,rfl,hL.same s5,W,hm5,hrow,htl5,λH6 s6=>⟨λe=>?_,λR tr e hR hLR=>?_⟩⟩
    ·exact ⟨m',by lia,c',lt5,lo5,left - 1,.cQ,_,rfl,s6 _ _ ho5,s6 _ _ ht5,hk5.same s6,hlt5,hlo5,no5,nok5,ntk5,hok5,htl5,hol5,hml5,by lia,hgo5,.inl ⟨by rw [hr5];exact e,rfl⟩,s5.trans s6⟩
    ·exact ⟨m',by lia,c',lt5,lo5,left - 1,.ref tr,_,rfl,s6 _ _ ho5,s6 _ _ ht5,hk5.same s6,hlt5,hlo5,no5,nok5,ntk5,hok5,htl5,hol5,hml5,by lia,hgo5,.inr ⟨R,tr,m5,hm5,by rw [hr5];exact e,hR,rfl,hLR.same s6⟩,s5.trans s6⟩
  rintro Z' H4 ⟨lt',lo',x5,x6,x7,x8,rfl,ht,ho,hk,f1,f2,s4⟩
  refine @av _ _ _ _ _ _ (aJ (ez (aa (pv 3) (aa (pv 1) (aa (pv 4) af))))) ⟨_,rfl,_,rfl,_,rfl,by show 3 <= sizeLine;decide,λtp htp=>?_⟩
  exact q tp lt' lo' lk _ ⟨ai,aq.upd htp _ _ ht,aq.upd htp _ _ ho,hk.same (aq.upd htp)⟩ f1 hlk0 f2 (s4.to htp)
theorem qM.wk {ms:List aC} (L:qM ms):Wk ms:=by
 obtain ⟨calm,B⟩:=L.b
 refine ⟨B.mK,λm hm R hR hb=>?_⟩
 obtain ⟨k,e⟩:=List.mem_iff_getElem?.mp hm
 obtain ⟨z,hz⟩:=(B.rules k m e).2 R hR
 rw [hz.sg,if_neg hb]
 exact hz.z1
theorem qv {N:Nat}:∀ {on:List Nat},(∀ x ∈ on,x < N) -> on.length <= wsum N on
 | [],_=>by simp [wsum]
 | x :: r,h=>by
  have:=qv (on:=r) (λy hy=>h y (List.mem_cons_of_mem _ hy))
  have hx:=h x (by simp)
  have e:wsum N (x :: r) = (N - x) + wsum N r:=by simp [wsum]
  rw [e,List.length_cons]
  lia
open Classical in
noncomputable def hid (S:Addr -> Prop) (H:Hp):Hp:=λb=>if S b then none else H b
theorem aV {S:Addr -> Prop} {H:Hp}:aq (hid S H) H:=λb o h=>by
 unfold hid at h
 split at h
 ·cases h
 ·exact h
theorem bL {S:Addr -> Prop} {H:Hp} {b:Addr} {o:HO} (h:H b = some o) (n:¬ S b):hid S H b = some o:=by
 unfold hid
 rw [if_neg n]
 exact h
theorem eO {S:Addr -> Prop} {H:Hp} {b:Addr} {o:HO} (h:hid S H b = some o):¬ S b:=λz=>by
 unfold hid at h
 rw [if_pos z] at h
 cases h
theorem cu {S:Addr -> Prop} {H H':Hp} (s:aq H H'):aq (hid S H) (hid S H'):=λb o h=>bL (s _ _ (aV _ _ h)) (eO h)
theorem jZ {S:Addr -> Prop} {H:Hp} {l:Addr} {o:HO} (hl:S l):hid S (upd H l o) = hid S H:=by
 funext b
 unfold hid
 split
 ·rfl
 ·rename_i h;rw [au (λz=>h (by rw [z];exact hl))]
theorem pM {S S':Addr -> Prop} {H:Hp} (h:∀ b,S b -> S' b):aq (hid S' H) (hid S H):=λb o e=>bL (aV _ _ e) (λz=>eO e (h b z))
def Ex (S:Addr -> Prop) (H:Hp):Prop:=∀ b,S b -> ∃ o,H b = some o
theorem Ex.new {S:Addr -> Prop} {H:Hp} (e:Ex S H) {b:Addr} (h:H b = none):¬ S b:=λz=>by
 obtain ⟨o,ho⟩:=e b z
 rw [h] at ho
 cases ho
theorem Ex.same {S:Addr -> Prop} {H H':Hp} (e:Ex S H) (s:aq H H'):Ex S H':=λb z=>let ⟨o,ho⟩:=e b z;⟨o,s _ _ ho⟩
theorem Ex.none (H:Hp):Ex (λ_=>False) H:=λ_ z=>z.elim
noncomputable def NU (t:gp):Sp:=λvs H Q _=>∃ (r:Addr) (S:Addr -> Prop) (R:bB),vs = [.ref r] /\ dc t (hid S H) r R /\ Ex S H /\ ∀ r' H',dc t (hid S H') r' R -> aq H H' -> Q (.ref r') H'
theorem KD (T:Txt K mg t):bC P w K mg base c6 3 t.rW t.yS ["rule"] (NU t):=by
 refine T.xu.ok Kz ?_ ?_
 walk_at "i"
 ·obtain ⟨r,S,R,rfl,⟨dr,pa,o1',hp⟩,hz,q⟩:=h
  have o1:=aV _ _ o1'
  refine @av _ _ _ _ _ _ (aJ (eV T.oB (Gn T) (hr.mono (by decide)) rfl T.v5 (T.wj.binds (by walk_at "6")) .nil aF (aa (aT (pv 0) rfl) (aa (aT (pv 0) rfl) (aa (aT (pv 0) rfl) (aa (aT (pv 0) rfl) (aa (aT (pv 0) rfl) af))))))) ?_
  refine ⟨_,rfl,_,_,_,_,_,rfl,o1,T.cE,T.cW,rfl,?_⟩
  refine ⟨_,rfl,_,_,_,_,_,rfl,o1,T.cE,T.fH,rfl,?_⟩
  refine ⟨_,rfl,_,_,_,_,_,rfl,o1,T.cE,T.d9,rfl,?_⟩
  refine ⟨_,rfl,_,_,_,_,_,rfl,o1,T.cE,T.gh,rfl,?_⟩
  refine ⟨_,rfl,_,_,_,_,_,rfl,o1,T.cE,T.fZ,rfl,?_⟩
  refine λx dx' nx ndx ne=>⟨x,dx',pa,R,rfl,ai,rfl,?_⟩
  exact q x _ ⟨dx',pa,bL ai (hz.new nx),hp.same (cu (fQ nx ndx))⟩ (fQ nx ndx)
noncomputable def NS (t:gp):Sp:=λvs H Q _=>∃ (b l dm:Addr) (S:Addr -> Prop) (m:aC) (rs:List Addr),vs = [.ref b] /\ hid S H b = some (.ins t.bZ dm (mf m l)) /\ hid S H l = some (.lst (rs.map V.ref)) /\ bU (dc t (hid S H)) rs m.rules /\ Ex S H /\ m.rules.length <= 200 /\
 ∀ b' l' dm' rs' H',hid S H' b' = some (.ins t.bZ dm' (mf m l')) -> hid S H' l' = some (.lst (rs'.map V.ref)) -> bU (dc t (hid S H')) rs' m.rules -> H l' = none -> aq H H' -> Q (.ref b') H'
theorem Mm (T:Txt K mg t):bC P w K mg base c6 4 t.qi t.wV ["mode"] (NS t):=by
 refine T.yI.ok KJ ?_ ?_
 walk_at "i"
 ·obtain ⟨b,l,dm,S,m,rs,rfl,hb',hl',hA,hz,hlen,q⟩:=h
  have hb:=aV _ _ hb'
  have hl:=aV _ _ hl'
  refine @av _ _ _ _ _ _ (@aJ _ _ _ _ (@eV _ _ _ _ _ _ _ _ _ _ _ _ _ _ _ _ _ T.oE (ET T) (hr.mono (by decide)) rfl T.yO (T.wQ.binds (by walk_at "4")) .nil aF (@aa _ _ _ _ _ (@aT _ _ _ _ _ (pv 0) rfl) (@aa _ _ _ _ _ (@aT _ _ _ _ _ (pv 0) rfl) (@aa _ _ _ _ _ (@gK _ (az BD) _ ["mode"] _ _ ("rule") _ _ [] _ _ (by walk_at "ck") (@eS _ _ _ _ (@aT _ _ _ _ _ (pv 0) rfl)) (λ_ _ _ _=>by exact (@aM _ _ _ _ _ _ _ _ _ _ _ _ _ _ _ _ (KD T) (hr.mono (by decide)) rfl T.LK T.xu.kp (T.xu.binds (by walk_at "1")) .nil aF (@aa _ _ _ _ _ (pv 0) af (by left)) (by left) (by left) (by left))) (by left) (by left) (by left) (by left)) af (by left)) (by left)) (by left)) (by left) (by left) (by left))) ?_
  refine ⟨_,rfl,_,_,_,_,_,rfl,hb,T.fB,T.gg,rfl,?_⟩
  refine ⟨_,rfl,_,_,_,_,_,rfl,hb,T.fB,T.fN,rfl,?_⟩
  refine ⟨_,rfl,_,_,_,_,_,rfl,hb,T.fB,T.dF,rfl,?_⟩
  refine ⟨l,rfl,⟨_,bf.of hl⟩,gx (xs:=rs.map V.ref) (λi ys H2=>∃ rs2:List Addr,ys = rs2.map V.ref /\ bU (dc t (hid S H2)) rs2 (m.rules.take i) /\ aq H H2) ⟨[],rfl,bU.nil,aq.refl H⟩ (cZ (by rw [List.length_map,hA.1];lia)) ?_ ?_ ?_⟩
  ·rintro i ys H2 _ ⟨_,_,_,s2⟩
   exact bf.of (s2 _ _ hl)
  ·rintro i xv ys H2 hx hyl ⟨rs2,rfl,hA2,s2⟩
   rw [List.getElem?_map] at hx
   obtain ⟨r,hr0,rfl⟩:=Option.map_eq_some_iff.mp hx
   have hi:=(List.getElem?_eq_some_iff.mp hr0).1
   have hRi:m.rules[i]? = some (m.rules[i]'(by rw [← hA.1];exact hi)):=List.getElem?_eq_getElem _
   have hR:=hA.2 i r _ hr0 hRi
   refine ⟨_,rfl,r,S,_,rfl,hR.same (cu s2),hz.same s2,λr' H3 hr3 s3=>dh (by rw [List.length_map];exact hi) hyl ⟨rs2 ++ [r'],by rw [List.map_append];rfl,?_,s2.trans s3⟩⟩
   rw [take_snoc hRi]
   exact bU.snoc (hA2.mono λ_ _ y=>y.same (cu s3)) hr3
  ·rintro ys H2 hyl ⟨rs2,rfl,hA2,s2⟩ D hD
   rw [List.length_map,hA.1,List.take_length] at hA2
   have s3:aq H (upd H2 D (.lst (rs2.map V.ref))):=s2.to hD
   have hD3:upd H2 D (.lst (rs2.map V.ref)) D = some (.lst (rs2.map V.ref)):=ai
   have hA3:bU (dc t (hid S (upd H2 D (.lst (rs2.map V.ref))))) rs2 m.rules:=hA2.mono λ_ _ y=>y.same (cu (aq.upd hD))
   generalize upd H2 D (.lst (rs2.map V.ref)) = H3 at s3 hD3 hA3
   refine λx dx' nx ndx ne=>⟨x,dx',D,m.name,m.aU,_,rfl,ai,bP nx ndx _ _ hD3,λl2 H4 e1 e2 e3 e4=>⟨rfl,?_⟩⟩
   have s4:aq H3 H4:=λb o hb=>e4 b o (bP nx ndx _ _ hb) (aj hb nx)
   have hz3:=hz.same s3
   have nxz:¬ S x:=hz3.new nx
   have nlz:¬ S l2:=hz3.new ((bP nx ndx).free e1)
   exact q x l2 dx' rs2 H4 (bL e2 nxz) (bL e3 nlz) (hA3.mono λ_ _ y=>y.same (cu s4)) (s3.free ((bP nx ndx).free e1)) (s3.trans s4)
noncomputable def M0 (t:gp):Sp:=λvs H Q _=>∃ (a:Addr) (S:Addr -> Prop) (ms:List aC),vs = [.ref a] /\ IsRules t (hid S H) a ms /\ Ex S H /\ dZ ms /\ ∀ a' H',IsRules t (hid S H') a' ms -> aq H H' -> Q (.ref a') H'
theorem MY (T:Txt K mg t):bC P w K mg base c6 5 t.pX t.wK ["rules"] (M0 t):=by
 refine T.yy.ok Le ?_ ?_
 walk_at "i"
 ·obtain ⟨a,S,ms,rfl,⟨dx,lm,as,ls,ha',hlm',hM⟩,hz,G,q⟩:=h
  have ha:=aV _ _ ha'
  have hlm:=aV _ _ hlm'
  have hlen:=G.len
  refine @av _ _ _ _ _ _ (@aJ _ _ _ _ (@eV _ _ _ _ _ _ _ _ _ _ _ _ _ _ _ _ _ T.lS (Fl T) (hr.mono (by decide)) rfl T.tG (T.yr.binds (by walk_at "2")) .nil aF (@aa _ _ _ _ _ (@gK _ (az B4) _ ["rules"] _ _ ("mode") _ _ [] _ _ (by walk_at "ck") (@eS _ _ _ _ (@aT _ _ _ _ _ (pv 0) rfl)) (λ_ _ _ _=>by exact (@aM _ _ _ _ _ _ _ _ _ _ _ _ _ _ _ _ (Mm T) (hr.mono (by decide)) rfl T.Kg T.yI.kp (T.yI.binds (by walk_at "1")) .nil aF (@aa _ _ _ _ _ (pv 0) af (by left)) (by left) (by left) (by left))) (by left) (by left) (by left) (by left)) af (by left)) (by left) (by left) (by left))) ?_
  refine ⟨_,rfl,_,_,_,_,_,rfl,ha,T.g6,T.cB,rfl,?_⟩
  refine ⟨lm,rfl,⟨_,bf.of hlm⟩,gx (xs:=as.map V.ref) (λi ys H2=>∃ as2 Jr:List Addr,ys = as2.map V.ref /\ cF t (hid S H2) as2 Jr (ms.take i) /\ aq H H2) ⟨[],[],rfl,⟨rfl,rfl,List.nodup_nil,λi a l m h=>by simp at h⟩,aq.refl H⟩ (cZ (by rw [List.length_map,hM.la];lia)) ?_ ?_ ?_⟩
  ·rintro i ys H2 _ ⟨_,_,_,_,s2⟩
   exact bf.of (s2 _ _ hlm)
  ·rintro i xv ys H2 hx hyl ⟨as2,Jr,rfl,hM2,s2⟩
   rw [List.getElem?_map] at hx
   obtain ⟨b,hb,rfl⟩:=Option.map_eq_some_iff.mp hx
   have hi:=(List.getElem?_eq_some_iff.mp hb).1
   have him:i < ms.length:=by rw [← hM.la];exact hi
   have hmi:ms[i]? = some ms[i]:=List.getElem?_eq_getElem him
   obtain ⟨l,hl⟩:∃ l,ls[i]? = some l:=⟨ls[i]'(by rw [hM.ll];exact him),List.getElem?_eq_getElem _⟩
   obtain ⟨dm,rs,o1,o2,o3⟩:=hM.ob i b l _ hb hl hmi
   have sh:=cu (S:=S) s2
   refine ⟨_,rfl,b,l,dm,S,ms[i],rs,rfl,sh _ _ o1,sh _ _ o2,o3.mono λ_ _ y=>y.same sh,hz.same s2,(G.ok _ (List.getElem_mem him)).1,λb' l' dm' rs' H3 e1 e2 e3 e4 s3=>dh (by rw [List.length_map];exact hi) hyl ⟨as2 ++ [b'],Jr ++ [l'],by rw [List.map_append];rfl,?_,s2.trans s3⟩⟩
   have hM3:=hM2.same (cu s3)
   rw [take_snoc hmi]
   refine ⟨by rw [List.length_append,List.length_append,hM3.la];rfl,by rw [List.length_append,List.length_append,hM3.ll];rfl,?_,λj a' l'' m' h1 h2 h3=>?_⟩
   ·refine List.nodup_append.mpr ⟨hM3.nd,by simp,λx hx y hy=>?_⟩
    rw [List.mem_singleton.mp hy]
    intro e
    obtain ⟨xs,hxs⟩:=hM2.alive hx
    have hxs:=aV _ _ hxs
    rw [e,e4] at hxs
    cases hxs
   ·have k1:=hM3.la
    have k2:=hM3.ll
    rcases cP h1 with h1 | ⟨i1,rfl⟩
    ·have:=(List.getElem?_eq_some_iff.mp h1).1
     rcases cP h2 with h2 | ⟨i2,rfl⟩
     ·rcases cP h3 with h3 | ⟨i3,rfl⟩
      ·exact hM3.ob j a' l'' m' h1 h2 h3
      ·lia
     ·lia
    ·rcases cP h2 with h2 | ⟨i2,rfl⟩
     ·have:=(List.getElem?_eq_some_iff.mp h2).1;lia
     ·rcases cP h3 with h3 | ⟨i3,rfl⟩
      ·have:=(List.getElem?_eq_some_iff.mp h3).1;lia
      ·exact ⟨dm',rs',e1,e2,e3⟩
  ·rintro ys H2 hyl ⟨as2,Jr,rfl,hM2,s2⟩ D hD
   rw [List.length_map,hM.la,List.take_length] at hM2
   have s3:aq H (upd H2 D (.lst (as2.map V.ref))):=s2.to hD
   have hD3:upd H2 D (.lst (as2.map V.ref)) D = some (.lst (as2.map V.ref)):=ai
   have hM3:cF t (hid S (upd H2 D (.lst (as2.map V.ref)))) as2 Jr ms:=hM2.same (cu (aq.upd hD))
   generalize upd H2 D (.lst (as2.map V.ref)) = H3 at s3 hD3 hM3
   refine λx dx' nx ndx ne=>⟨x,dx',D,_,rfl,ai,bP nx ndx _ _ hD3,λl2 H4 e1 e2 e3 e4=>⟨rfl,?_⟩⟩
   have s4:aq H3 H4:=λb o hb=>e4 b o (bP nx ndx _ _ hb) (aj hb nx)
   have hz3:=hz.same s3
   have nxz:¬ S x:=hz3.new nx
   have nlz:¬ S l2:=hz3.new ((bP nx ndx).free e1)
   exact q x H4 ⟨dx',l2,as2,Jr,bL e2 nxz,bL e3 nlz,hM3.same (cu s4)⟩ (s3.trans s4)
noncomputable def Ni (t:gp):Sp:=λvs H Q _=>∃ (a:Addr) (ms:List aC),vs = [.ref a] /\ IsRules t H a ms /\ dZ ms /\ jE ms = none /\ ∀ H',aq H H' -> Q .cQ H'
theorem JV (T:Txt K mg t):bC P w K mg base c6 6 t.qa t.xV ["rules"] (Ni t):=by
 refine T.vO.ok GA ?_ ?_
 walk_at "i"
 ·obtain ⟨a,ms,rfl,hR,G,hn,q⟩:=h
  refine @ao _ _ _ _ _ _ _ (aB (i:=1) GA.nd rfl (Or.inl rfl) (aM (EV T) (hr.mono (by decide)) rfl T.Fj T.p9.kp (T.p9.binds (by walk_at "1")) .nil aF (aa (pv 0) af))) ⟨_,rfl,a,ms,rfl,hR,G,λH1 s1=>⟨λ_=>?_,(λring row p l e=>by rw [hn] at e;cases e)⟩⟩
  exact @av _ _ _ _ _ _ (bx (aA gJ (pv 1) bN (aI _)) ay ay) ⟨_,rfl,rfl,_,rfl,g7 (λh=>absurd rfl h) (λ_=>aZ (q H1 s1))⟩
structure bF where
 row:Str
 before:List Nat
 d:Cfg
def gf (row:Str) (lb lt lo lk:Addr):List (Str × V):=[("signs",.str row),("before",.ref lb),("tints",.ref lt),("behind",.ref lo),("folded",.ref lk)]
structure vS (t:gp) (H:Hp) (g dx lb lt lo lk:Addr) (G:bF):Prop where
 ob:H g = some (.ins t.bg dx (gf G.row lb lt lo lk))
 lb:H lb = some (.lst (G.before.map bS))
 lt:H lt = some (.lst (G.d.aD.map V.str))
 lo:H lo = some (.lst (G.d.on.map bS))
 lk:GM H lk G.d.marks
def dY (t:gp) (H:Hp) (g:Addr) (G:bF):Prop:=∃ dx lb lt lo lk,vS t H g dx lb lt lo lk G
theorem dY.same {H H':Hp} {g:Addr} {G:bF} (h:dY t H g G) (s:aq H H'):dY t H' g G :=
 let ⟨dx,lb,lt,lo,lk,e⟩:=h;⟨dx,lb,lt,lo,lk,s _ _ e.ob,s _ _ e.lb,s _ _ e.lt,s _ _ e.lo,e.lk.same s⟩
structure lH (ms:List aC) (G:bF):Prop where
 ok:ia ms G.before
 len:G.before.length <= 20000
 row:G.row.length <= 1000
 go:∃ n,n <= 5000 /\ goN ms G.row n ⟨G.before,[],[]⟩ = some G.d
 ok2:ia ms G.d.on
 len2:G.d.on.length <= 20000
 tl:G.d.aD.length = G.row.length
noncomputable def Ja (t:gp):Sp:=λvs H Q _=>∃ (x dx a lb:Addr) (S:Addr -> Prop) (ms:List aC) (G:bF),vs = [.ref x,.ref a,.ref lb,.str G.row] /\ H x = some (.ins t.bg dx []) /\ IsRules t H a ms /\ dZ ms /\ hid S H lb = some (.lst (G.before.map bS)) /\ Ex S H /\ ¬ S x /\ lH ms G /\
 ∀ lt lo lk H',vS t (hid S H') x dx lb lt lo lk G -> iS H H' x -> Q .cQ H'
theorem F8 (T:Txt K mg t):bC P w K mg base c6 4 t.nZ t.wo ["self","rules","modes","row"] (Ja t):=by
 refine T.xQ.ok Dk ?_ ?_
 walk_at "i"
 ·obtain ⟨x,dx,a,lb,Sh,ms,G,rfl,hx,hR,GM_,hlb',hE,hxS,S,q⟩:=h
  have hlb:=aV _ _ hlb'
  obtain ⟨n,hn,hgo⟩:=S.go
  have hbl:=S.len
  refine @ao _ _ _ _ _ _ _ (aB (i:=4) Dk.nd rfl (Or.inl rfl) (aM (K0 T) (hr.mono (by decide)) rfl T.LV T.zF.kp (T.zF.binds (by walk_at "3")) .nil aF (aa (pv 1) (aa (pv 2) (aa (pv 3) af))))) ⟨_,rfl,_,rfl,_,rfl,a,lb,ms,G.before,G.row,n,G.d,rfl,hR,GM_,hlb,S.ok,S.row,by lia,by lia,hgo,λtp lt lo lk H1 D GF1 f1 f2 f3 n1 n2 n3 s1=>?_⟩
  have hx1:=s1 _ _ hx
  have nx:∀ {b o},H1 b = some o -> (∀ C dx fs,o ≠ .ins C dx fs) -> b ≠ x:=λ{b o} e h=>cA e hx1 (λz=>h _ _ _ z)
  have x1:tp ≠ x:=nx D.tp (by intro _ _ _ z;cases z)
  have x2:lt ≠ x:=nx D.lt (by intro _ _ _ z;cases z)
  have x3:lo ≠ x:=nx D.lo (by intro _ _ _ z;cases z)
  have x4:lb ≠ x:=nx (s1 _ _ hlb) (by intro _ _ _ z;cases z)
  refine @ao _ _ _ _ _ _ _ (cS (pv 0) (pv 3) rfl) ⟨_,rfl,_,rfl,x,_,dx,[],rfl,hx1,T.bV,T.cy,by decide,?_⟩
  refine @ao _ _ _ _ _ _ _ (cS (pv 0) (pv 2) rfl) ⟨_,rfl,_,rfl,x,_,dx,[("signs",.str G.row)],rfl,ai,T.bV,T.dW,by show 1 < 1000;decide,?_⟩
  refine @ao _ _ _ _ _ _ _ (cS (pv 0) (aL bw (pv 4) ak (λ_ _=>rfl)) rfl) ⟨_,rfl,_,_,_,_,rfl,rfl,d8.of (by rw [au x1,au x1];exact D.tp),aQ (j:=0) rfl,_,rfl,x,_,dx,[("signs",.str G.row),("before",.ref lb)],rfl,ai,T.bV,T.fT,by show 2 < 1000;decide,?_⟩
  refine @ao _ _ _ _ _ _ _ (cS (pv 0) (aL bw (pv 4) ak (λ_ _=>rfl)) rfl) ⟨_,rfl,_,_,_,_,rfl,rfl,d8.of (by rw [au x1,au x1,au x1];exact D.tp),aQ (j:=1) rfl,_,rfl,x,_,dx,[("signs",.str G.row),("before",.ref lb),("tints",.ref lt)],rfl,ai,T.bV,T.d7,by show 3 < 1000;decide,?_⟩
  refine @av _ _ _ _ _ _ (cS (pv 0) (aL bw (pv 4) ak (λ_ _=>rfl)) rfl) ⟨_,rfl,_,_,_,_,rfl,rfl,d8.of (by rw [au x1,au x1,au x1,au x1];exact D.tp),aQ (j:=2) rfl,_,rfl,x,_,dx,[("signs",.str G.row),("before",.ref lb),("tints",.ref lt),("behind",.ref lo)],rfl,ai,T.bV,T.fu,by show 4 < 1000;decide,?_⟩
  rw [iy,iy,iy,iy]
  obtain ⟨ps,k1,k2⟩:=D.lk
  have x5:lk ≠ x:=nx k1 (by intro _ _ _ z;cases z)
  obtain ⟨ps',k1',k2',k3'⟩:=GF1
  refine q lt lo lk _ ⟨bL ai hxS,?_,?_,?_,ps',?_,⟨k2'.1,λi p m hp hm=>?_⟩⟩ λb o hb nb=>?_
  ·exact bL (by rw [au x4];exact s1 _ _ hlb) (eO hlb')
  ·exact bL (by rw [au x2];exact D.lt) (hE.new f1)
  ·exact bL (by rw [au x3];exact D.lo) (hE.new f2)
  ·exact bL (by rw [au x5];exact k1') (hE.new f3)
  ·have e:=k2'.2 i p m hp hm
   exact bL (by rw [au (nx e (by intro _ _ _ z;cases z))];exact e) (hE.new (k3' p (List.mem_of_getElem? hp)))
  ·rw [au nb];exact s1 _ _ hb
def Chain (ms:List aC):List Nat -> List Str -> List bF -> Prop
 | _,[],[]=>True
 | b,r :: rs,G :: Gs=>G.row = r /\ G.before = b /\ lH ms G /\ Chain ms G.d.on rs Gs
 | _,_,_=>False
theorem Chain.len {ms:List aC}:∀ {b:List Nat} {rs:List Str} {Gs:List bF},Chain ms b rs Gs -> Gs.length = rs.length
 | _,[],[],_=>rfl
 | _,_ :: _,_ :: _,h=>by simp [h.2.2.2.len]
 | _,[],_ :: _,h=>h.elim
 | _,_ :: _,[],h=>h.elim
theorem Chain.rows {ms:List aC}:∀ {b:List Nat} {rs:List Str} {Gs:List bF},Chain ms b rs Gs -> Gs.map (·.row) = rs
 | _,[],[],_=>rfl
 | _,_ :: _,_ :: _,h=>by rw [List.map_cons,h.1,h.2.2.2.rows]
 | _,[],_ :: _,h=>h.elim
 | _,_ :: _,[],h=>h.elim
def ja:List Nat -> List bF -> List Nat
 | b,[]=>b
 | _,G :: Gs=>ja G.d.on Gs
theorem rE {ms:List aC}:∀ {b:List Nat} {rs:List Str} {Gs:List bF} {i:Nat} {r:Str},Chain ms b rs Gs -> rs[i]? = some r -> ∃ G,Gs[i]? = some G /\ G.row = r /\ lH ms G
 | _,[],[],i,r,_,h=>by simp at h
 | _,x :: rs,G :: Gs,0,r,hc,h=>by
  cases h
  exact ⟨G,rfl,hc.1,hc.2.2.1⟩
 | _,x :: rs,G :: Gs,i + 1,r,hc,h=>by
  obtain ⟨G',h1,h2⟩:=rE hc.2.2.2 (i:=i) (r:=r) h
  exact ⟨G',h1,h2⟩
 | _,[],_ :: _,_,_,hc,_=>hc.elim
 | _,_ :: _,[],_,_,hc,_=>hc.elim
theorem qm {ms:List aC} {b:List Nat} {rs:List Str} {Gs:List bF} {r:Str} {i:Nat} (hc:Chain ms b (rs.drop i) (Gs.drop i)) (hr:rs[i]? = some r):∃ G,Gs[i]? = some G /\ G.row = r /\ G.before = b /\ lH ms G /\ Chain ms G.d.on (rs.drop (i + 1)) (Gs.drop (i + 1)):=by
 rw [dO hr] at hc
 cases e:Gs.drop i with
 | nil=>rw [e] at hc;exact hc.elim
 | cons G t =>
  rw [e] at hc
  have hG:Gs[i]? = some G:=by
   have:=congrArg (λl=>l[0]?) e
   simpa [List.getElem?_drop] using this
  have ht:Gs.drop (i + 1) = t:=by rw [← List.drop_drop,e];rfl
  rw [ht]
  exact ⟨G,hG,hc⟩
structure cj (t:gp) (H:Hp) (x dx a lg:Addr) (gs:List Addr) (ms:List aC) (Gs:List bF):Prop where
 ob:H x = some (.ins t.aH dx [("rules",.ref a),("gone_rows",.ref lg)])
 ru:IsRules t H a ms
 lg:H lg = some (.lst (gs.map V.ref))
 go:bU (dY t H) gs Gs
theorem cj.same {H H':Hp} {x dx a lg:Addr} {gs:List Addr} {ms:List aC} {Gs:List bF} (h:cj t H x dx a lg gs ms Gs) (s:aq H H'):cj t H' x dx a lg gs ms Gs:=⟨s _ _ h.ob,h.ru.same s,s _ _ h.lg,h.go.mono λ_ _ z=>z.same s⟩
noncomputable def C8 (t:gp):Sp:=λvs H Q _=>∃ (x dx a lb lr:Addr) (S:Addr -> Prop) (fs:List (Str × V)) (ms:List aC) (b:List Nat) (rs:List Str) (Gs:List bF),vs = [.ref x,.ref lb,.ref lr] /\ H x = some (.ins t.aH dx fs) /\ fs.lookup ("rules" : Str) = some (.ref a) /\ IsRules t H a ms /\ dZ ms /\ hid S H lb = some (.lst (b.map bS)) /\ Ex S H /\ H lr = some (.lst (rs.map V.str)) /\ rs.length <= 100000 /\ Chain ms b rs Gs /\
 ∀ lg gs H',H' lg = some (.lst (gs.map V.ref)) -> bU (dY t (hid S H')) gs Gs -> H lg = none -> aq H H' -> Q (.ref lg) H'
theorem F1 (T:Txt K mg t):bC P w K mg base c6 6 t.nS t.wA ["self","modes","rows"] (C8 t):=by
 refine T.t7.ok qq ?_ ?_
 walk_at "i"
 ·obtain ⟨x,dx,a,lb,lr,S,fs,ms,b,rs,Gs,rfl,hx,hfs,hR,G,hlb,hE,hlr,hrl,hC,q⟩:=h
  have hGl:=hC.len
  refine @ao _ _ _ _ _ _ _ (aB (i:=3) qq.nd rfl (Or.inl rfl) (bH af)) ⟨by show 0 <= sizeLine;decide,λlg hlg=>?_⟩
  have s1:aq H (upd H lg (.lst [])):=aq.upd hlg
  have hg1:upd H lg (.lst []) lg = some (.lst []):=ai
  generalize upd H lg (.lst []) = H1 at s1 hg1
  obtain ⟨S2,hS2⟩:∃ S2:Addr -> Prop,S2 = λc=>S c ∨ c = lg:=⟨_,rfl⟩
  have hSl:S2 lg:=by rw [hS2];exact .inr rfl
  have hE2:∀ {H':Hp} {xs:List V},aq H H' -> H' lg = some (.lst xs) -> Ex S2 H':=λ{H' xs} s' h' c hc=>by
   rw [hS2] at hc
   rcases hc with hc | hc
   ·exact (hE.same s') c hc
   ·rw [hc];exact ⟨_,h'⟩
  refine @aG _ _ _ _ _ _ _ (λZ' H'=>∃ gs,(∃ x1 x4 x5,Z' = [some (.ref x),x1,some (.ref lr),some (.ref lg),x4,x5]) /\ H' lg = some (.lst (gs.map V.ref)) /\ bU (dY t (hid S H')) gs Gs /\ aq H H') (dj PassesOwn.never rfl (eS (pv 2)) (bJ (i:=4) qq.nd rfl (Or.inl rfl)) ay) ?_ ?_
  ·refine ⟨_,rfl,lr,rfl,⟨_,bf.of (s1 _ _ hlr)⟩,gE (xs:=rs.map V.str) (λi Z' H'=>∃ (gs:List Addr) (lb:Addr) (b:List Nat),(∃ x4 x5,Z' = [some (.ref x),some (.ref lb),some (.ref lr),some (.ref lg),x4,x5]) /\ H' lg = some (.lst (gs.map V.ref)) /\ bU (dY t (hid S2 H')) gs (Gs.take i) /\ hid S2 H' lb = some (.lst (b.map bS)) /\ Chain ms b (rs.drop i) (Gs.drop i) /\ aq H H') ⟨[],lb,b,⟨_,_,rfl⟩,hg1,bU.nil,bL (s1 _ _ (aV _ _ hlb)) (by rw [hS2];rintro (z | z);(exact eO hlb z);(exact aj (aV _ _ hlb) hlg z)),hC,s1⟩ ?_ ?_ ?_⟩
   ·rintro i Z' H' _ ⟨_,_,_,_,_,_,_,_,s2⟩
    exact bf.of (s2 _ _ hlr)
   ·rintro i xv Z' H2 hxv ⟨gs,lb,b,⟨x4,x5,rfl⟩,hg2,hA2,hlb2,hC2,s2⟩
    rw [List.getElem?_map] at hxv
    obtain ⟨r,hri,rfl⟩:=Option.map_eq_some_iff.mp hxv
    obtain ⟨Gi,hGi,e1,e2,hS,hC3⟩:=qm hC2 hri
    subst e1 e2
    have hi:=(List.getElem?_eq_some_iff.mp hri).1
    have hEx:=hE2 s2 hg2
    refine @ao _ _ _ _ _ _ _ (aB (i:=5) qq.nd rfl (Or.inl rfl) (eV T.jm (F8 T) (hr.mono (by decide)) rfl T.nK (T.xQ.binds (by walk_at "4")) .nil aF (aa (aT (pv 0) rfl) (aa (pv 1) (aa (pv 4) af))))) (⟨_,rfl,_,_,_,_,_,rfl,(s2 _ _ hx),T.aN,T.fh,hfs,⟨_,rfl,_,rfl,λg dg ng ndg ne=>⟨g,dg,a,lb,S2,ms,Gi,rfl,ai,(hR.same s2).same (bP ng ndg),G,(cu (bP ng ndg)) _ _ hlb2,hEx.same (bP ng ndg),hEx.new ng,hS,λlt lo lk H3 hG3 a3=>⟨rfl,?_⟩⟩⟩⟩)
    have s3:aq H2 H3:=λb o hb=>a3 b o (bP ng ndg _ _ hb) (aj hb ng)
    have hg3:=s3 _ _ hg2
    have hob:=aV _ _ hG3.ob
    have ngl:g ≠ lg:=cA hob hg3 (by intro z;cases z)
    have hlen:gs.length <= 100000:=by rw [hA2.1,List.length_take];lia
    refine @ao _ _ _ _ _ _ _ (bz (cH F.plainAttrs_list F.slot_list_append F.type_list_append bQ (pv 3) (aa (pv 5) af))) ⟨_,rfl,.inl ⟨rfl,_,bf.of hg3⟩,_,rfl,lg,_,_,rfl,rfl,hg3,cZ (by rw [List.length_map];lia),?_⟩
    refine @av _ _ _ _ _ _ (aB (i:=1) qq.nd rfl (Or.inl rfl) (aT (pv 5) rfl)) ⟨_,rfl,g,t.bg,dg,_,_,rfl,(by rw [au ngl];exact hob),T.bV,T.d7,rfl,?_⟩
    refine ⟨gs ++ [g],lo,Gi.d.on,⟨_,_,rfl⟩,by rw [ai,List.map_append];rfl,?_,?_,hC3,λb o hb=>?_⟩
    ·rw [take_snoc hGi,jZ hSl]
     exact bU.snoc (hA2.mono λ_ _ z=>z.same (cu s3)) ⟨dg,lb,lt,lo,lk,hG3⟩
    ·rw [jZ hSl];exact hG3.lo
    ·rw [au (aj hb hlg)];exact s3 _ _ (s2 _ _ hb)
   ·rintro Z' H2 ⟨gs,lb,b,⟨x4,x5,rfl⟩,hg2,hA2,_,_,s2⟩
    rw [List.length_map,← hGl,List.take_length] at hA2
    exact ⟨gs,⟨_,_,_,rfl⟩,hg2,hA2.mono λ_ _ z=>z.same (pM (λc hc=>by rw [hS2];exact .inl hc)),s2⟩
  rintro Z' H2 ⟨gs,⟨x1,x4,x5,rfl⟩,hg2,hA2,s2⟩
  exact @av _ _ _ _ _ _ (aJ (pv 3)) ⟨_,rfl,q lg gs H2 hg2 hA2 hlg s2⟩
noncomputable def IT (t:gp):Sp:=λvs H Q _=>∃ (x dx a lr:Addr) (S:Addr -> Prop) (ms:List aC) (rs:List Str) (Gs:List bF),vs = [.ref x,.ref a,.ref lr] /\ H x = some (.ins t.aH dx []) /\ ¬ S x /\ Ex S H /\ IsRules t (hid (λc=>S c ∨ c = x) H) a ms /\ dZ ms /\ jE ms = none /\ H lr = some (.lst (rs.map V.str)) /\ rs.length <= 100000 /\ Chain ms [0] rs Gs /\
 ∀ a' lg gs H',cj t (hid S H') x dx a' lg gs ms Gs -> H lg = none -> iS H H' x -> Q .cQ H'
theorem J1 (T:Txt K mg t):bC P w K mg base c6 7 t.nE t.xE ["self","rules","rows"] (IT t):=by
 refine T.A8.ok Nb ?_ ?_
 walk_at "i"
 ·obtain ⟨x,dx,a,lr,S,ms,rs,Gs,rfl,hx,hxS,hE,hR,G,hring,hlr,hrl,hC,q⟩:=h
  obtain ⟨S2,hS2⟩:∃ S2:Addr -> Prop,S2 = λc=>S c ∨ c = x:=⟨_,rfl⟩
  rw [← hS2] at hR
  have hSx:S2 x:=by rw [hS2];exact .inr rfl
  have hE2:Ex S2 H:=λc hc=>by
   rw [hS2] at hc
   rcases hc with hc | hc
   ·exact hE c hc
   ·rw [hc];exact ⟨_,hx⟩
  have hle:∀ c,S c -> S2 c:=λc hc=>by rw [hS2];exact .inl hc
  refine @ao _ _ _ _ _ _ _ (bz (aM (JV T) (hr.mono (by decide)) rfl T.MQ T.vO.kp (T.vO.binds (by walk_at "1")) .nil aF (aa (pv 1) af))) ⟨_,rfl,a,ms,rfl,hR.same aV,G,hring,λH1 s1=>?_⟩
  refine @ao _ _ _ _ _ _ _ (cS (pv 0) (aM (MY T) (hr.mono (by decide)) rfl T.K2 T.yy.kp (T.yy.binds (by walk_at "1")) .nil aF (aa (pv 1) af)) rfl) ⟨_,rfl,a,S2,ms,rfl,hR.same (cu s1),hE2.same s1,G,λa' H2 hR2 s2=>?_⟩
  have s2:=s1.trans s2
  have hx2:=s2 _ _ hx
  refine ⟨_,rfl,x,_,dx,[],rfl,hx2,T.aN,T.fh,by decide,?_⟩
  have hx3:upd H2 x (.ins t.aH dx (gi "rules" (.ref a') [])) x = some (.ins t.aH dx [("rules",.ref a')]):=ai
  have a3:iS H (upd H2 x (.ins t.aH dx (gi "rules" (.ref a') []))) x:=s2.HL iS.upd
  have nl:lr ≠ x:=cA (s2 _ _ hlr) hx2 (by intro z;cases z)
  have hlr3:upd H2 x (.ins t.aH dx (gi "rules" (.ref a') [])) lr = some (.lst (rs.map V.str)):=by rw [au nl];exact s2 _ _ hlr
  have hH3:hid S2 (upd H2 x (.ins t.aH dx (gi "rules" (.ref a') []))) = hid S2 H2:=jZ hSx
  have hE3:Ex S (upd H2 x (.ins t.aH dx (gi "rules" (.ref a') []))):=λc hc=>by
   obtain ⟨o,ho⟩:=(hE.same s2) c hc
   exact ⟨o,by rw [au (λz=>hxS (by rw [← z];exact hc))];exact ho⟩
  rw [← hH3] at hR2
  generalize upd H2 x (.ins t.aH dx (gi "rules" (.ref a') [])) = H3 at hx3 a3 hlr3 hR2 hE3
  refine @av _ _ _ _ _ _ (cS (pv 0) (bA (pv 0) T.aN T.Jv (F1 T) (hr.mono (by decide)) (T.t7.binds (by walk_at "3")) .nil aF (aa (bH (aa (gn rfl T.j8) af)) (aa (pv 2) af))) rfl) ⟨_,rfl,x,dx,_,rfl,hx3,rfl,by show 1 <= sizeLine;decide,λlb hlb=>⟨_,rfl,x,dx,a',lb,lr,S,_,ms,[0],rs,Gs,rfl,aq.upd hlb _ _ hx3,rfl,(hR2.same aV).same (aq.upd hlb),G,bL ai (hE3.new hlb),hE3.same (aq.upd hlb),aq.upd hlb _ _ hlr3,hrl,hC,λlg gs H4 hg4 hA4 f4 s4=>?_⟩⟩
  have s34:aq H3 H4:=(aq.upd hlb).trans s4
  have hx4:=s34 _ _ hx3
  refine ⟨_,rfl,x,_,dx,[("rules",.ref a')],rfl,hx4,T.aN,T.aP,by show 1 < 1000;decide,?_⟩
  have h3n:H3 lg = none:=(aq.upd hlb).free f4
  have nlg:lg ≠ x:=cA hg4 hx4 (by intro z;cases z)
  have hlg0:H lg = none:=by
   cases e:H lg with
   | none=>rfl
   | some o=>have:=a3 _ _ e nlg;rw [h3n] at this;cases this
  have sh:aq (hid S2 H4) (hid S (upd H4 x (.ins t.aH dx (gi "gone_rows" (.ref lg) [("rules",.ref a')])))):=λb o hb=>by
   have hb2:=eO hb
   exact bL (by rw [au (λz=>hb2 (by rw [z];exact hSx))];exact aV _ _ hb) (λz=>hb2 (hle b z))
  refine q a' lg gs _ ⟨bL ai hxS,(hR2.same (cu s34)).same sh,bL (by rw [au nlg];exact hg4) (hE3.new h3n),hA4.mono λg Gi hg=>?_⟩ hlg0 ?_
  ·obtain ⟨dg,lb',lt,lo,lk,e⟩:=hg
   have key:∀ {b o},hid S H4 b = some o -> b ≠ x -> hid S (upd H4 x (.ins t.aH dx (gi "gone_rows" (.ref lg) [("rules",.ref a')]))) b = some o:=λ{b o} hb h=>bL (by rw [au h];exact aV _ _ hb) (eO hb)
   have nk:∀ {b o},hid S H4 b = some o -> (∀ C d fs,o ≠ .ins C d fs) -> b ≠ x:=λ{b o} hb h=>cA (aV _ _ hb) hx4 (λz=>h _ _ _ z)
   obtain ⟨ps,k1,k2⟩:=e.lk
   refine ⟨dg,lb',lt,lo,lk,key e.ob (cA (aV _ _ e.ob) hx4 (by intro z;injection z with _ _ z;cases z)),key e.lb (nk e.lb (by intro _ _ _ z;cases z)),key e.lt (nk e.lt (by intro _ _ _ z;cases z)),key e.lo (nk e.lo (by intro _ _ _ z;cases z)),ps,key k1 (nk k1 (by intro _ _ _ z;cases z)),k2.mono λp m h=>key h (nk h (by intro _ _ _ z;cases z))⟩
  ·intro b o hb nb
   rw [au nb]
   exact s34 _ _ (a3 _ _ hb nb)
noncomputable def Na (t:gp):Sp:=λvs H Q _=>∃ (x dx a lg:Addr) (gs:List Addr) (ms:List aC) (Gs:List bF),vs = [.ref x] /\ cj t H x dx a lg gs ms Gs /\ Gs.length <= 100000 /\ ∀ l H',H' l = some (.lst ((Gs.map (·.row)).map V.str)) -> H l = none -> aq H H' -> Q (.ref l) H'
theorem zJ (T:Txt K mg t):bC P w K mg base c6 1 t.nF t.v8 ["self"] (Na t):=by
 refine T.qZ.ok J7 ?_ ?_
 walk_at "i"
 ·obtain ⟨x,dx,a,lg,gs,ms,Gs,rfl,I,hl,q⟩:=h
  refine @av _ _ _ _ _ _ (@aJ _ _ _ _ (@gK _ (az BW) _ ["self"] _ _ ("gone") _ _ [] _ _ (by walk_at "ck") (@eS _ _ _ _ (@aT _ _ _ _ _ (pv 0) rfl)) (λ_ _ _ _=>by exact (@oG _ K _ _ _ _ (pv 0) rfl (by left))) (by left) (by left) (by left) (by left))) (⟨_,rfl,_,_,_,_,_,rfl,I.ob,T.aN,T.aP,rfl,⟨lg,rfl,⟨_,bf.of I.lg⟩,gx (xs:=gs.map V.ref) (λi ys H2=>ys = ((Gs.take i).map (·.row)).map V.str /\ H2 = H) ⟨rfl,rfl⟩ (cZ (by rw [List.length_map,I.go.1];lia)) ?_ ?_ ?_⟩⟩)
  ·rintro i ys H2 _ ⟨_,rfl⟩
   exact bf.of I.lg
  ·rintro i xv ys H2 hx hyl ⟨rfl,rfl⟩
   rw [List.getElem?_map] at hx
   obtain ⟨g,hg,rfl⟩:=Option.map_eq_some_iff.mp hx
   have hi:=(List.getElem?_eq_some_iff.mp hg).1
   have hGi:Gs[i]? = some (Gs[i]'(by rw [← I.go.1];exact hi)):=List.getElem?_eq_getElem _
   obtain ⟨dg,lb,lt,lo,lk,e⟩:=I.go.2 i g _ hg hGi
   refine ⟨_,rfl,_,_,_,_,_,rfl,e.ob,T.bV,T.cy,rfl,(dh (by rw [List.length_map];exact hi) hyl ⟨?_,rfl⟩)⟩
   rw [take_snoc hGi,List.map_append,List.map_append]
   rfl
  ·rintro ys H2 hyl ⟨rfl,rfl⟩ D hD
   have e5:Gs.take (gs.map V.ref).length = Gs:=by rw [List.length_map,I.go.1,List.take_length]
   rw [e5]
   exact q D _ ai hD (aq.upd hD)
noncomputable def F7 (t:gp):Sp:=λvs H Q _=>∃ (x dx a lg:Addr) (gs:List Addr) (ms:List aC) (Gs:List bF) (i:Nat),vs = [.ref x,.int i] /\ cj t H x dx a lg gs ms Gs /\ i < Gs.length /\ Q .cQ H
theorem ES (T:Txt K mg t):bC P w K mg base c6 1 t.oq t.yV ["self","row"] (F7 t):=by
 refine T.ur.ok JX ?_ ?_
 walk_at "i"
 ·obtain ⟨x,dx,a,lg,gs,ms,Gs,i,rfl,I,hi,q⟩:=h
  have hl:=I.go.1
  refine @av _ _ _ _ _ _ (bx (PW.pt (jy (aA ff (pv 1) ak (aI _)) (i8 (aA NN (pv 1) (aO aR (by rfl) T.bK (by decide +kernel) (aa (aT (pv 0) rfl) af)) (aI _))))) ay ay) ⟨_,rfl,_,_,rfl,rfl,_,rfl,dJ (λh=>absurd h (by lia)) (λ_=>?_)⟩
  exact ⟨_,rfl,⟨_,rfl,_,_,_,_,_,rfl,I.ob,T.aN,T.aP,rfl,⟨_,_,rfl,.inl (bf.of I.lg),_,_,rfl,rfl,_,rfl,dJ (λh=>absurd h (by rw [List.length_map];lia)) (λ_=>aZ q)⟩⟩⟩
noncomputable def CD (t:gp):Sp:=λvs H Q _=>∃ (x dx a lg:Addr) (gs:List Addr) (ms:List aC) (Gs:List bF) (G:bF) (i:Nat),vs = [.ref x,.int i] /\ cj t H x dx a lg gs ms Gs /\ Gs[i]? = some G /\ ∀ g,dY t H g G -> Q (.ref g) H
theorem Am (T:Txt K mg t):bC P w K mg base c6 2 t.nW t.yh ["self","row"] (CD t):=by
 refine T.qQ.ok LF ?_ ?_
 walk_at "i"
 ·obtain ⟨x,dx,a,lg,gs,ms,Gs,G,i,rfl,I,hG,q⟩:=h
  obtain ⟨g,hg,hgo⟩:=I.go.at hG
  refine @ao _ _ _ _ _ _ _ (bz (bA (pv 0) T.aN T.Jo (ES T) (hr.mono (by decide)) (T.ur.binds (by walk_at "2")) .nil aF (aa (pv 1) af))) ⟨_,rfl,x,dx,_,rfl,I.ob,rfl,_,rfl,x,dx,a,lg,gs,ms,Gs,i,rfl,I,(List.getElem?_eq_some_iff.mp hG).1,?_⟩
  exact @av _ _ _ _ _ _ (aJ (aL aS (aT (pv 0) rfl) (pv 1) (λ_ _=>rfl))) (⟨_,rfl,_,_,_,_,_,rfl,I.ob,T.aN,T.aP,rfl,⟨_,rfl,_,_,_,_,rfl,rfl,bf.of I.lg,c9 hg,q g hgo⟩⟩)
noncomputable def Ge (t:gp) (f:bF -> List V):Sp:=λvs H Q _=>∃ (x dx a lg:Addr) (gs:List Addr) (ms:List aC) (Gs:List bF) (G:bF) (i:Nat),vs = [.ref x,.int i] /\ cj t H x dx a lg gs ms Gs /\ Gs[i]? = some G /\ ∀ l H',H' l = some (.lst (f G)) -> H l = none -> aq H H' -> Q (.ref l) H'
theorem Mf (T:Txt K mg t):bC P w K mg base c6 3 t.nG t.yF ["self","row"] (Ge t λG=>G.before.map bS):=by
 refine T.xr.ok L8 ?_ ?_
 walk_at "i"
 ·obtain ⟨x,dx,a,lg,gs,ms,Gs,G,i,rfl,I,hG,q⟩:=h
  refine @av _ _ _ _ _ _ (aJ (dU fC (by rfl) T.iO (by decide +kernel) (aa (aT (bA (pv 0) T.aN T.GW (Am T) (hr.mono (by decide)) (T.qQ.binds (by walk_at "2")) .nil aF (aa (pv 1) af)) rfl) af))) ⟨_,rfl,x,dx,_,rfl,I.ob,rfl,_,rfl,x,dx,a,lg,gs,ms,Gs,G,i,rfl,I,hG,λg hY=>?_⟩
  obtain ⟨dg,lb,lt,lo,lk,e⟩:=hY
  exact ⟨g,t.bg,dg,_,_,rfl,e.ob,T.bV,T.dW,rfl,lb,_,rfl,.inl (bf.of e.lb),λl hl=>q l _ ai hl (aq.upd hl)⟩
theorem MW (T:Txt K mg t):bC P w K mg base c6 3 t.nT t.xB ["self","row"] (Ge t λG=>G.d.aD.map V.str):=by
 refine T.yH.ok MT ?_ ?_
 walk_at "i"
 ·obtain ⟨x,dx,a,lg,gs,ms,Gs,G,i,rfl,I,hG,q⟩:=h
  refine @av _ _ _ _ _ _ (aJ (dU fC (by rfl) T.iO (by decide +kernel) (aa (aT (bA (pv 0) T.aN T.GW (Am T) (hr.mono (by decide)) (T.qQ.binds (by walk_at "2")) .nil aF (aa (pv 1) af)) rfl) af))) ⟨_,rfl,x,dx,_,rfl,I.ob,rfl,_,rfl,x,dx,a,lg,gs,ms,Gs,G,i,rfl,I,hG,λg hY=>?_⟩
  obtain ⟨dg,lb,lt,lo,lk,e⟩:=hY
  exact ⟨g,t.bg,dg,_,_,rfl,e.ob,T.bV,T.fT,rfl,lt,_,rfl,.inl (bf.of e.lt),λl hl=>q l _ ai hl (aq.upd hl)⟩
noncomputable def Jh (t:gp):Sp:=λvs H Q _=>∃ (x dx a lg:Addr) (gs:List Addr) (ms:List aC) (Gs:List bF) (G:bF) (i:Nat),vs = [.ref x,.int i] /\ cj t H x dx a lg gs ms Gs /\ Gs[i]? = some G /\ ∀ l H' ps,H' l = some (.lst (ps.map V.ref)) -> bU (λp m=>H p = some (.tup [bS m.1,.str m.2])) ps G.d.marks -> H l = none -> aq H H' -> Q (.ref l) H'
theorem K9 (T:Txt K mg t):bC P w K mg base c6 3 t.nJ t.yG ["self","row"] (Jh t):=by
 refine T.vQ.ok LJ ?_ ?_
 walk_at "i"
 ·obtain ⟨x,dx,a,lg,gs,ms,Gs,G,i,rfl,I,hG,q⟩:=h
  refine @av _ _ _ _ _ _ (aJ (dU fC (by rfl) T.iO (by decide +kernel) (aa (aT (bA (pv 0) T.aN T.GW (Am T) (hr.mono (by decide)) (T.qQ.binds (by walk_at "2")) .nil aF (aa (pv 1) af)) rfl) af))) ⟨_,rfl,x,dx,_,rfl,I.ob,rfl,_,rfl,x,dx,a,lg,gs,ms,Gs,G,i,rfl,I,hG,λg hY=>?_⟩
  obtain ⟨dg,lb,lt,lo,lk,e⟩:=hY
  obtain ⟨ps,k1,k2⟩:=e.lk
  exact ⟨g,t.bg,dg,_,_,rfl,e.ob,T.bV,T.fu,rfl,lk,_,rfl,.inl (bf.of k1),λl hl=>q l _ ps ai k2 hl (aq.upd hl)⟩
def Hf (H:Hp) (p:Addr) (G:bF):Prop:=∃ lo lt lk,H p = some (.tup [.str G.row,.ref lo,.ref lt,.ref lk]) /\ H lo = some (.lst (G.before.map bS)) /\ H lt = some (.lst (G.d.aD.map V.str)) /\ GM H lk G.d.marks
theorem Hf.same {H H':Hp} {p:Addr} {G:bF} (h:Hf H p G) (s:aq H H'):Hf H' p G:=by
 obtain ⟨lo,lt,lk,a,b,c,d⟩:=h
 exact ⟨lo,lt,lk,s _ _ a,s _ _ b,s _ _ c,d.same s⟩
def KP (H:Hp) (l:Addr) (Gs:List bF):Prop:=∃ ps:List Addr,H l = some (.lst (ps.map V.ref)) /\ bU (Hf H) ps Gs
theorem KP.same {H H':Hp} {l:Addr} {Gs:List bF} (h:KP H l Gs) (s:aq H H'):KP H' l Gs:=by
 obtain ⟨ps,a,b⟩:=h
 exact ⟨ps,s _ _ a,b.mono λ_ _ z=>z.same s⟩
noncomputable def HJ:Sp:=λvs H Q _=>∃ (S:Addr -> Prop) (lm lr:Addr) (ms:List aC) (rs:List Str) (Gs:List bF),vs = [.ref lm,.ref lr] /\ (∀ b,S b -> ∃ xs,H b = some (.lst xs)) /\ CW H lm ms /\ Wk ms /\ H lr = some (.lst (rs.map V.str)) /\ rs.length <= 1000 /\ Chain ms [0] rs Gs /\ ∀ l H',KP (hid S H') l Gs -> H l = none -> aq H H' -> Q (.ref l) H'
theorem EO (T:Txt K mg t):bC P w K mg base c6 4 t.qU t.xD ["_law_modes_here","_law_rows"] HJ:=by
 refine T.pW.ok m7 ?_ ?_
 walk_at "i"
 ·obtain ⟨S,lm,lr,ms,rs,Gs,rfl,hES,hL,W,hlr,hrl,hC,q⟩:=h
  have hGl:=hC.len
  have new:∀ {H':Hp} {b:Addr},aq H H' -> H' b = none -> ¬ S b:=λ{H' b} s e z=>by
   obtain ⟨xs,hx⟩:=hES b z
   rw [s _ _ hx] at e
   cases e
  have tup:∀ {H':Hp} {b:Addr} {xs:List V},aq H H' -> H' b = some (.tup xs) -> ¬ S b:=λ{H' b xs} s e z=>by
   obtain ⟨xs,hx⟩:=hES b z
   rw [s _ _ hx] at e
   cases e
  refine @ao _ _ _ _ _ _ _ (aB (i:=2) m7.nd rfl (Or.inl rfl) (bH (aa ak af))) ⟨by show 1 <= sizeLine;decide,λlo hlo=>?_⟩
  have s1:aq H (upd H lo (.lst [.int 0])):=aq.upd hlo
  have ho1:upd H lo (.lst [.int 0]) lo = some (.lst ([0].map bS)):=ai
  have nSo:=new (aq.refl H) hlo
  generalize upd H lo (.lst [.int 0]) = H1 at s1 ho1
  refine @ao _ _ _ _ _ _ _ (aB (i:=3) m7.nd rfl (Or.inl rfl) (bH af)) ⟨by show 0 <= sizeLine;decide,λlf hlf=>?_⟩
  have s2:aq H1 (upd H1 lf (.lst [])):=aq.upd hlf
  have hf2:upd H1 lf (.lst []) lf = some (.lst []):=ai
  have ho2:=s2 _ _ ho1
  have nof:lo ≠ lf:=aj ho1 hlf
  have hlf0:H lf = none:=s1.free hlf
  have nSf:=new (aq.refl H) hlf0
  generalize upd H1 lf (.lst []) = H2 at s2 hf2 ho2
  have s2:=s1.trans s2
  refine @aG _ _ _ _ _ _ _ (λZ' H'=>(∃ x2 x4 x5,Z' = [some (.ref lm),some (.ref lr),x2,some (.ref lf),x4,x5]) /\ KP (hid S H') lf Gs /\ aq H H') (dj PassesOwn.never rfl (eS (pv 1)) (bJ (i:=4) m7.nd rfl (Or.inl rfl)) ay) ?_ ?_
  ·refine ⟨_,rfl,lr,rfl,⟨_,bf.of (s2 _ _ hlr)⟩,gE (xs:=rs.map V.str) (λi Z' H'=>∃ (ps:List Addr) (lo:Addr) (b:List Nat),(∃ x4 x5,Z' = [some (.ref lm),some (.ref lr),some (.ref lo),some (.ref lf),x4,x5]) /\ H' lf = some (.lst (ps.map V.ref)) /\ bU (Hf (hid (λc=>S c ∨ c = lf) H')) ps (Gs.take i) /\ hid (λc=>S c ∨ c = lf) H' lo = some (.lst (b.map bS)) /\ Chain ms b (rs.drop i) (Gs.drop i) /\ aq H H') ⟨[],lo,[0],⟨_,_,rfl⟩,hf2,bU.nil,bL ho2 (λz=>z.elim nSo nof),hC,s2⟩ ?_ ?_ ?_⟩
   ·rintro i Z' H' _ ⟨_,_,_,_,_,_,_,_,s3⟩
    exact bf.of (s3 _ _ hlr)
   ·rintro i xv Z' H3 hxv ⟨ps,lo,b,⟨x4,x5,rfl⟩,hf3,hA3,hlo3,hC3,s3⟩
    rw [List.getElem?_map] at hxv
    obtain ⟨r,hri,rfl⟩:=Option.map_eq_some_iff.mp hxv
    obtain ⟨G,hGi,e1,e2,hS,hC4⟩:=qm hC3 hri
    subst e1 e2
    obtain ⟨n,hn,hgo⟩:=hS.go
    have hbl:=hS.len
    have hlo3':=aV _ _ hlo3
    have nlo:¬ (S lo ∨ lo = lf):=eO (S:=λc=>S c ∨ c = lf) hlo3
    have hplen:ps.length <= 1000:=by rw [hA3.1,List.length_take];lia
    refine @ao _ _ _ _ _ _ _ (aB (i:=5) m7.nd rfl (Or.inl rfl) (aM (Lp T) (hr.mono (by decide)) rfl T.MZ T.vG.kp (T.vG.binds (by walk_at "3")) .nil aF (aa (pv 0) (aa (pv 2) (aa (pv 4) af))))) ⟨_,rfl,_,rfl,_,rfl,lm,lo,ms,G.before,G.row,n,G.d,rfl,hL.same s3,W,hlo3',hS.ok,hS.row,by lia,hn,hgo,λtp lt lo' lk H4 D f1 f2 f3 s4=>?_⟩
    have hf4:=s4 _ _ hf3
    have n1:¬ (S lt ∨ lt = lf):=λz=>z.elim (new s3 f1) (Ne.symm (aj hf3 f1))
    have n2:¬ (S lk ∨ lk = lf):=λz=>z.elim (new s3 f2) (Ne.symm (aj hf3 f2))
    have n3:¬ (S lo' ∨ lo' = lf):=by
     rcases f3 with z | z
     ·rw [z];exact nlo
     ·exact λy=>y.elim (new s3 z) (Ne.symm (aj hf3 z))
    refine @ao _ _ _ _ _ _ _ (bz (cH F.plainAttrs_list F.slot_list_append F.type_list_append bQ (pv 3) (aa (ez (aa (pv 4) (aa (pv 2) (aa (aL bw (pv 5) ak (λ_ _=>rfl)) (aa (aL bw (pv 5) ak (λ_ _=>rfl)) af))))) af))) ⟨_,rfl,.inl ⟨rfl,_,bf.of hf4⟩,_,rfl,_,rfl,_,rfl,_,_,_,_,rfl,rfl,d8.of D.tp,aQ (j:=0) rfl,_,rfl,_,_,_,_,rfl,rfl,d8.of D.tp,aQ (j:=2) rfl,by show 4 <= sizeLine;decide,λtq htq=>?_⟩
    have s5:aq H4 (upd H4 tq (.tup [.str G.row,.ref lo,.ref lt,.ref lk])):=aq.upd htq
    have htq5:upd H4 tq (.tup [.str G.row,.ref lo,.ref lt,.ref lk]) tq = some (.tup [.str G.row,.ref lo,.ref lt,.ref lk]):=ai
    generalize upd H4 tq (.tup [.str G.row,.ref lo,.ref lt,.ref lk]) = H5 at s5 htq5
    have hf5:=s5 _ _ hf4
    have D5:=D.same s5
    have s35:=s4.trans s5
    have tp5:∀ {b:Addr} {xs:List V},H5 b = some (.tup xs) -> ¬ (S b ∨ b = lf):=λ{b xs} e z=>z.elim (tup (s3.trans s35) e) (cA e hf5 (by intro y;cases y))
    have ntp:tp ≠ lf:=λz=>tp5 D5.tp (.inr z)
    refine ⟨lf,_,_,rfl,rfl,hf5,cZ (by rw [List.length_map];lia),?_⟩
    refine @av _ _ _ _ _ _ (aB (i:=2) m7.nd rfl (Or.inl rfl) (aL bw (pv 5) ak (λ_ _=>rfl))) ⟨_,rfl,_,_,_,_,rfl,rfl,d8.of (by rw [au ntp];exact D5.tp),aQ (j:=1) rfl,?_⟩
    refine ⟨ps ++ [tq],lo',G.d.on,⟨_,_,rfl⟩,by rw [ai,List.map_append];rfl,?_,?_,hC4,λb o hb=>?_⟩
    ·rw [take_snoc hGi,jZ (.inr rfl)]
     refine bU.snoc (hA3.mono λ_ _ z=>z.same (cu s35)) ⟨lo,lt,lk,bL htq5 (tp5 htq5),bL (s35 _ _ hlo3') nlo,bL D5.lt n1,?_⟩
     obtain ⟨ms',k1,k2⟩:=D5.lk
     exact ⟨ms',bL k1 n2,k2.mono λp m e=>bL e (tp5 e)⟩
    ·rw [jZ (.inr rfl)];exact bL D5.lo n3
    ·rw [au (aj hb hlf0)];exact s35 _ _ (s3 _ _ hb)
   ·rintro Z' H3 ⟨ps,lo,b,⟨x4,x5,rfl⟩,hf3,hA3,_,_,s3⟩
    rw [List.length_map,← hGl,List.take_length] at hA3
    exact ⟨⟨_,_,_,rfl⟩,⟨ps,bL hf3 nSf,hA3.mono λ_ _ z=>z.same (pM λb y=>.inl y)⟩,s3⟩
  rintro Z' H3 ⟨⟨x2,x4,x5,rfl⟩,hK,s3⟩
  exact @av _ _ _ _ _ _ (aJ (pv 3)) ⟨_,rfl,q lf H3 hK hlf0 s3⟩
theorem uX {H:Hp} {ps qs:List Addr} {mk:List (Nat × Str)} (a2:bU (λp (m:Nat × Str)=>H p = some (.tup [bS m.1,.str m.2])) ps mk) (b2:bU (λp (m:Nat × Str)=>H p = some (.tup [bS m.1,.str m.2])) qs mk):∀ (j:Nat) (x y:V),(ps.map V.ref)[j]? = some x -> (qs.map V.ref)[j]? = some y -> mF K H 1 x y:=by
 intro j x y hx hy
 rw [List.getElem?_map] at hx hy
 obtain ⟨p,hp,rfl⟩:=Option.map_eq_some_iff.mp hx
 obtain ⟨q,hq,rfl⟩:=Option.map_eq_some_iff.mp hy
 have hj:j < mk.length:=by rw [← a2.1];exact (List.getElem?_eq_some_iff.mp hp).1
 have hm:mk[j]? = some mk[j]:=List.getElem?_eq_getElem hj
 have e1:=a2.2 j p _ hp hm
 have e2:=b2.2 j q _ hq hm
 refine .inr ⟨p,q,_,_,rfl,rfl,.inr ⟨d8.of e1,d8.of e2⟩,rfl,λj' x y hx hy=>?_⟩
 rw [hx] at hy
 cases hy
 cases j' with
 | zero=>cases hx;exact ⟨rfl,.inl rfl⟩
 | succ j' =>
  cases j' with
  | zero=>cases hx;exact ⟨rfl,.inl rfl⟩
  | succ j'=>cases hx
noncomputable def HE (t:gp):Sp:=λvs H Q _=>∃ (x dx a lg lq:Addr) (gs:List Addr) (ms:List aC) (Gs:List bF),vs = [.ref x,.ref lq] /\ cj t H x dx a lg gs ms Gs /\ KP H lq Gs /\ Gs.length <= 1000 /\ ∀ H',aq H H' -> Q (.bl true) H'
theorem JM (T:Txt K mg t):bC P w K mg base c6 4 t.qF t.ze ["_law_text_here","_law_kept"] (HE t):=by
 refine T.wI.ok C9 ?_ ?_
 walk_at "i"
 ·obtain ⟨x,dx,a,lg,lq,gs,ms,Gs,rfl,I,⟨ps,hlq,hK⟩,hl,q⟩:=h
  refine @aG _ _ _ _ _ _ _ (λZ' H'=>(∃ y,Z' = [some (.ref x),some (.ref lq),y]) /\ aq H H') (@bx _ _ _ _ _ _ _ _ (@aA _ _ _ _ _ _ _ _ (lM (Nat.lt_of_succ_lt (lG hr))) (@b6 _ _ _ _ _ _ _ _ _ _ _ _ _ _ _ _ _ (pv 0) T.aN T.Dz (zJ T) (hr.mono (by decide)) (T.qZ.binds (by walk_at "1")) .nil aF (by left)) (@gK _ (az A2) _ ["_law_text_here","_law_kept","_law_k"] _ _ ("_law_one") _ _ [] _ _ (by walk_at "ck") (@eS _ _ _ _ (pv 1)) (λ_ _ _ _=>by exact (@aL _ _ _ _ _ _ _ (IE (K:=K) rfl) (pv 0) ak (λ_ _=>rfl))) (by left) (by left) (by left) (by left)) (aI _)) ay ay) ?_ ?_
  ·refine ⟨_,rfl,x,dx,_,rfl,I.ob,rfl,x,dx,a,lg,gs,ms,Gs,rfl,I,by lia,λl H1 hl1 f1 s1=>⟨_,rfl,lq,rfl,⟨_,bf.of (s1 _ _ hlq)⟩,gx (xs:=ps.map V.ref) (λi ys H2=>ys = ((Gs.take i).map (·.row)).map V.str /\ H2 = H1) ⟨rfl,rfl⟩ (cZ (by rw [List.length_map,hK.1];lia)) ?_ ?_ ?_⟩⟩
   ·rintro i ys H2 _ ⟨_,rfl⟩
    exact bf.of (s1 _ _ hlq)
   ·rintro i xv ys H2 hx hyl ⟨rfl,rfl⟩
    rw [List.getElem?_map] at hx
    obtain ⟨p,hp,rfl⟩:=Option.map_eq_some_iff.mp hx
    have hi:=(List.getElem?_eq_some_iff.mp hp).1
    have hGi:Gs[i]? = some (Gs[i]'(by rw [← hK.1];exact hi)):=List.getElem?_eq_getElem _
    obtain ⟨lo,lt,lk,e,_⟩:=hK.2 i p _ hp hGi
    refine ⟨_,rfl,_,_,_,_,rfl,rfl,d8.of (s1 _ _ e),aQ (j:=0) rfl,dh (by rw [List.length_map];exact hi) hyl ⟨?_,rfl⟩⟩
    rw [take_snoc hGi,List.map_append,List.map_append]
    rfl
   ·rintro ys H2 hyl ⟨rfl,rfl⟩ D hD
    have e5:Gs.take (ps.map V.ref).length = Gs:=by rw [List.length_map,hK.1,List.take_length]
    rw [e5]
    exact ⟨l,D,_,_,rfl,rfl,bf.of (aq.upd hD _ _ hl1),bf.of ai,pP _ _,_,rfl,g7 (λh=>absurd rfl h) (λ_=>aZ ⟨⟨_,rfl⟩,s1.to hD⟩)⟩
  rintro Z' H1 ⟨⟨y,rfl⟩,s1⟩
  refine @aG _ _ _ _ _ _ _ (λZ' H'=>(∃ y,Z' = [some (.ref x),some (.ref lq),y]) /\ aq H H') (dj PassesOwn.never rfl (dS rfl T.fE (aa (aO aR (by rfl) T.bK (by decide +kernel) (aa (pv 1) af)) af)) (bJ (i:=2) C9.nd rfl (Or.inl rfl)) ay) ?_ ?_
  ·refine ⟨_,rfl,_,_,rfl,.inl (bf.of (s1 _ _ hlq)),(ps.length:Int),by rw [List.length_map],by lia,by rw [hK.1];lia,fX (n:=((ps.length:Nat):Int).toNat) (λk Z' H'=>(∃ y,Z' = [some (.ref x),some (.ref lq),y]) /\ aq H H') ⟨⟨_,rfl⟩,s1⟩ ?_ (λZ' H' z=>z)⟩
   rintro k Z' H2 hk ⟨⟨y,rfl⟩,s2⟩
   have hk':k < Gs.length:=by rw [← hK.1];lia
   have hGk:Gs[k]? = some Gs[k]:=List.getElem?_eq_getElem hk'
   generalize Gs[k] = G at hGk
   obtain ⟨p,hp,lo,lt,lk,e1,e2,e3,qs,e4,e5⟩:=hK.at hGk
   have hat:rA (ps.map V.ref) ((0:Int) + (k:Int)) = some (.ref p):=by rw [Int.zero_add];exact c9 hp
   have I2:=I.same s2
   refine @av _ _ _ _ _ _ (bx (PW.pt (jy (aA (lM (Nat.lt_of_succ_lt (lG hr))) (bA (pv 0) T.aN T.Nz (Mf T) (hr.mono (by decide)) (T.xr.binds (by walk_at "2")) .nil aF (aa (pv 2) af)) (aL bw (aL aS (pv 1) (pv 2) (λ_ _=>rfl)) ak (λ_ _=>rfl)) (aI _)) (jy (aA (lM (Nat.lt_of_succ_lt (lG hr))) (bA (pv 0) T.aN T.O8 (MW T) (hr.mono (by decide)) (T.yH.binds (by walk_at "2")) .nil aF (aa (pv 2) af)) (aL bw (aL aS (pv 1) (pv 2) (λ_ _=>rfl)) ak (λ_ _=>rfl)) (aI _)) (i8 (aA (Km 1 (Nat.lt_of_le_of_lt (Nat.add_le_add_left (by decide:2 <= 64) _) hr.units)) (bA (pv 0) T.aN T.Ol (K9 T) (hr.mono (by decide)) (T.vQ.binds (by walk_at "2")) .nil aF (aa (pv 2) af)) (aL bw (aL aS (pv 1) (pv 2) (λ_ _=>rfl)) ak (λ_ _=>rfl)) (aI _)))))) ay ay) ⟨_,rfl,x,dx,_,rfl,I2.ob,rfl,_,rfl,x,dx,a,lg,gs,ms,Gs,G,k,(by rw [Int.zero_add];rfl),I2,hGk,λl3 H3 h3 f3 s3=>?_⟩
   have s3':=s2.trans s3
   refine ⟨_,rfl,_,rfl,_,_,_,_,rfl,rfl,bf.of (s3' _ _ hlq),hat,_,_,_,_,rfl,rfl,d8.of (s3' _ _ e1),aQ (j:=1) rfl,l3,lo,_,_,rfl,rfl,bf.of h3,bf.of (s3' _ _ e2),qB _ _ _ _,_,rfl,g7 (λh=>absurd rfl h) (λ_=>?_)⟩
   have I3:=I.same s3'
   refine ⟨_,rfl,x,dx,_,rfl,I3.ob,rfl,_,rfl,x,dx,a,lg,gs,ms,Gs,G,k,(by rw [Int.zero_add];rfl),I3,hGk,λl4 H4 h4 f4 s4=>?_⟩
   have s4':=s3'.trans s4
   refine ⟨_,rfl,_,rfl,_,_,_,_,rfl,rfl,bf.of (s4' _ _ hlq),hat,_,_,_,_,rfl,rfl,d8.of (s4' _ _ e1),aQ (j:=2) rfl,l4,lt,_,_,rfl,rfl,bf.of h4,bf.of (s4' _ _ e3),pP _ _,_,rfl,g7 (λh=>absurd rfl h) (λ_=>?_)⟩
   have I4:=I.same s4'
   refine ⟨_,rfl,x,dx,_,rfl,I4.ob,rfl,_,rfl,x,dx,a,lg,gs,ms,Gs,G,k,(by rw [Int.zero_add];rfl),I4,hGk,λl5 H5 ps5 h5 m5 f5 s5=>?_⟩
   have s5':=s4'.trans s5
   refine ⟨_,rfl,_,rfl,_,_,_,_,rfl,rfl,bf.of (s5' _ _ hlq),hat,_,_,_,_,rfl,rfl,d8.of (s5' _ _ e1),aQ (j:=3) rfl,l5,lk,_,_,rfl,rfl,.inl ⟨bf.of h5,bf.of (s5' _ _ e4)⟩,(by rw [List.length_map,List.length_map,m5.1,e5.1]),uX (m5.mono λ_ _ z=>s5 _ _ z) (e5.mono λ_ _ z=>s5' _ _ z),_,rfl,uE (aZ ⟨⟨_,rfl⟩,s5'⟩)⟩
  rintro Z' H2 ⟨⟨y2,rfl⟩,s2⟩
  exact @av _ _ _ _ _ _ (aJ jh) (q H2 s2)
def cN:List Str -> List Str -> Nat
 | x :: xs,y :: ys=>if x = y then cN xs ys + 1 else 0
 | _,_=>0
theorem iJ:∀ (xs ys:List Str),cN xs ys <= xs.length /\ cN xs ys <= ys.length
 | [],ys=>⟨Nat.zero_le _,Nat.zero_le _⟩
 | _ :: _,[]=>⟨Nat.zero_le _,Nat.zero_le _⟩
 | x :: xs,y :: ys=>by
  have h:=iJ xs ys
  rw [cN]
  by_cases e:x = y
  ·rw [if_pos e,List.length_cons,List.length_cons];lia
  ·rw [if_neg e];exact ⟨Nat.zero_le _,Nat.zero_le _⟩
theorem kZ:∀ (xs ys:List Str),xs.take (cN xs ys) = ys.take (cN xs ys)
 | [],ys=>by simp [cN]
 | _ :: _,[]=>by simp [cN]
 | x :: xs,y :: ys=>by
  rw [cN]
  by_cases e:x = y
  ·rw [if_pos e,List.take_succ_cons,List.take_succ_cons,kZ xs ys,e]
  ·rw [if_neg e];rfl
theorem se {xs ys:List Str} {i:Nat} {x y:Str} (h1:xs[i]? = some x) (h2:ys[i]? = some y):cN (xs.drop i) (ys.drop i) = if x = y then cN (xs.drop (i + 1)) (ys.drop (i + 1)) + 1 else 0:=by
 rw [dO h1,dO h2,cN]
theorem jd {xs ys:List Str} {i:Nat} (h:i = xs.length ∨ i = ys.length):cN (xs.drop i) (ys.drop i) = 0:=by
 rcases h with h | h
 ·rw [h,List.drop_length,cN];intros;simp_all
 ·rw [h,List.drop_length]
  cases xs.drop ys.length <;> rfl
noncomputable def Hx:Sp:=λvs H Q _=>∃ (a b:Addr) (xs ys:List Str),vs = [.ref a,.ref b] /\ H a = some (.lst (xs.map V.str)) /\ H b = some (.lst (ys.map V.str)) /\ ∀ H',aq H H' -> Q (.int (cN xs ys:Nat)) H'
theorem FY (T:Txt K mg t):bC P w K mg base c6 1 t.qE t.xG ["some","others"] Hx:=by
 refine T.pH.ok rS ?_ ?_
 walk_at "i"
 ·obtain ⟨a,b,xs,ys,rfl,ha,hb,q⟩:=h
  refine @ao _ _ _ _ _ _ _ (aB (i:=2) rS.nd rfl (Or.inl rfl) ak) ?_
  refine @aG _ _ _ _ _ _ _ (λZ' H'=>(∃ x3 x4,Z' = [some (.ref a),some (.ref b),some (.int (cN xs ys:Nat)),x3,x4]) /\ aq H H') (dj PassesOwn.never rfl (LY rfl T.EA (aa (pv 0) (aa (pv 1) af))) (qJ rfl (cL (bJ (i:=3) rS.nd rfl (Or.inl rfl)) (cL (bJ (i:=4) rS.nd rfl (Or.inl rfl)) j7))) ay) ?_ ?_
  ·refine ⟨_,rfl,_,rfl,a,b,_,_,rfl,bf.of ha,bf.of hb,DR (xs:=xs.map V.str) (ys:=ys.map V.str) (λi Z' H'=>(∃ x3 x4,Z' = [some (.ref a),some (.ref b),some (.int (i:Nat)),x3,x4]) /\ aq H H' /\ cN xs ys = i + cN (xs.drop i) (ys.drop i)) ⟨⟨_,_,rfl⟩,aq.refl H,by simp⟩ ?_ ?_ ?_⟩
   ·rintro i Z' H' _ _ ⟨_,s1,_⟩
    exact ⟨bf.of (s1 _ _ ha),bf.of (s1 _ _ hb)⟩
   ·rintro i xv yv p Z' H1 hx hy hp ⟨⟨x3,x4,rfl⟩,s1,hn⟩
    rw [List.getElem?_map] at hx hy
    obtain ⟨x,hx1,rfl⟩:=Option.map_eq_some_iff.mp hx
    obtain ⟨y,hy1,rfl⟩:=Option.map_eq_some_iff.mp hy
    rw [se hx1 hy1] at hn
    have s2:aq H (upd H1 p (.tup [.str x,.str y])):=s1.trans (aq.upd hp)
    refine ⟨p,[.str x,.str y],rfl,d8.of ai,rfl,_,_,rfl,_,_,rfl,rfl,?_⟩
    by_cases e:x = y
    ·rw [if_pos e] at hn
     refine @ao _ _ _ _ _ _ _ (bx (aA lE (pv 3) (pv 4) (aI _)) ay ay) ⟨_,rfl,_,rfl,rfl,_,rfl,vv (c:=false) (by simp [e]) (aZ ?_)⟩
     refine @av _ _ _ _ _ _ (AK (i:=2) rS.nd rfl (Or.inl rfl) ak Ax) ⟨_,rfl,_,_,rfl,rfl,⟨_,_,rfl⟩,s2,?_⟩
     lia
    ·rw [if_neg e] at hn
     refine @ao _ _ _ _ _ _ _ (bx (aA lE (pv 3) (pv 4) (aI _)) ay ay) ⟨_,rfl,_,rfl,rfl,_,rfl,vv (c:=true) (by simp [e]) ?_⟩
     refine @av _ _ _ _ _ _ (aJ (pv 2)) ⟨_,rfl,?_⟩
     have:=q _ s2
     rw [hn] at this
     exact this
   ·rintro i Z' H1 hi h1 h2 ⟨⟨x3,x4,rfl⟩,s1,hn⟩
    rw [List.length_map,List.length_map] at hi
    rw [jd hi] at hn
    exact ⟨⟨_,_,by rw [hn];rfl⟩,s1⟩
  rintro Z' H1 ⟨⟨x3,x4,rfl⟩,s1⟩
  exact @av _ _ _ _ _ _ (aJ (pv 2)) ⟨_,rfl,q _ s1⟩
noncomputable def Ht:Sp:=λvs H Q _=>∃ (a b:Addr) (xs ys:List Str),vs = [.ref a,.ref b] /\ H a = some (.lst (xs.map V.str)) /\ H b = some (.lst (ys.map V.str)) /\ ∀ H',aq H H' -> Q (.int (cN xs.reverse ys.reverse:Nat)) H'
theorem K1 (T:Txt K mg t):bC P w K mg base c6 2 t.r9 t.zm ["some","others"] Ht:=by
 refine T.we.ok J0 ?_ ?_
 walk_at "i"
 ·obtain ⟨a,b,xs,ys,rfl,ha,hb,q⟩:=h
  refine @av _ _ _ _ _ _ (aJ (aM (FY T) (hr.mono (by decide)) rfl T.E9 T.pH.kp (T.pH.binds (by walk_at "2")) .nil aF (aa (rM rfl rfl T.iO rfl T.jj (aa (pv 0) af)) (aa (rM rfl rfl T.iO rfl T.jj (aa (pv 1) af)) af)))) ⟨_,rfl,a,_,rfl,bf.of ha,λl1 h1=>⟨_,rfl,b,_,rfl,bf.of (aq.upd h1 _ _ hb),λl2 h2=>⟨l1,l2,xs.reverse,ys.reverse,rfl,?_,?_,λH' s'=>q H' (((aq.upd h1).trans (aq.upd h2)).trans s')⟩⟩⟩
  ·rw [List.map_reverse]
   exact aq.upd h2 _ _ ai
  ·rw [List.map_reverse]
   exact ai
theorem uo {b:List Nat}:∀ {Gs:List bF} {j:Nat} {G:bF},Gs[j]? = some G -> ja b (Gs.take (j + 1)) = G.d.on
 | G' :: Gs,0,G,h=>by cases h;rfl
 | G' :: Gs,j + 1,G,h=>by
  rw [List.take_succ_cons,ja]
  exact uo (Gs:=Gs) (by simpa using h)
noncomputable def Ij (t:gp):Sp:=λvs H Q _=>∃ (x dx a lg:Addr) (gs:List Addr) (S:Addr -> Prop) (Gs:List bF) (i:Nat),vs = [.ref x,.int i] /\ H x = some (.ins t.aH dx [("rules",.ref a),("gone_rows",.ref lg)]) /\ H lg = some (.lst (gs.map V.ref)) /\ bU (dY t (hid S H)) gs Gs /\ Ex S H /\ i <= Gs.length /\
 ∀ lb H',hid S H' lb = some (.lst ((ja [0] (Gs.take i)).map bS)) -> aq H H' -> Q (.ref lb) H'
theorem z7 (T:Txt K mg t):bC P w K mg base c6 1 t.ni t.zB ["self","row"] (Ij t):=by
 refine T.oS.ok Ln ?_ ?_
 walk_at "i"
 ·obtain ⟨x,dx,a,lg,gs,S,Gs,i,rfl,hx,hlg,hA,hE,hi,q⟩:=h
  refine @av _ _ _ _ _ _ (aJ (cX (aA i6 (pv 1) ak (aI _)) (aT (aL aS (aT (pv 0) rfl) (aK dR (pv 1) ak) (λ_ _=>rfl)) rfl) (bH (aa (gn rfl T.j8) af)))) ⟨_,rfl,_,_,rfl,rfl,_,rfl,dJ (λh=>?_) (λh=>?_)⟩
  ·obtain ⟨j,rfl⟩:∃ j,i = j + 1:=⟨i - 1,by lia⟩
   obtain ⟨G,hG⟩:∃ G,Gs[j]? = some G:=⟨Gs[j]'(by lia),List.getElem?_eq_getElem _⟩
   obtain ⟨g,hg,dg,lb,lt,lo,lk,e⟩:=hA.at hG
   have ej:((j + 1:Nat):Int) - 1 = (j:Int):=by lia
   refine ⟨_,rfl,_,_,_,_,_,rfl,hx,T.aN,T.aP,rfl,⟨_,rfl,_,_,rfl,rfl,?_⟩⟩
   show IU _ (.ref lg) (.int (((j + 1:Nat):Int) - 1)) H _
   rw [ej]
   refine ⟨_,_,_,_,rfl,rfl,bf.of hlg,c9 hg,g,t.bg,dg,_,_,rfl,aV _ _ e.ob,T.bV,T.d7,rfl,?_⟩
   refine q lo H ?_ (aq.refl H)
   rw [uo hG]
   exact e.lo
  ·have e0:i = 0:=by lia
   subst e0
   exact ⟨by show 1 <= sizeLine;decide,λlb hlb=>q lb _ (bL ai (hE.new hlb)) (aq.upd hlb)⟩
noncomputable def IQ (t:gp):Sp:=λvs H Q _=>∃ (x dx a lg:Addr) (gs:List Addr) (i k:Nat),vs = [.ref x,.int i,.int k] /\ H x = some (.ins t.aH dx [("rules",.ref a),("gone_rows",.ref lg)]) /\ H lg = some (.lst (gs.map V.ref)) /\ i + k <= gs.length /\ Q .cQ H
theorem J9 (T:Txt K mg t):bC P w K mg base c6 1 t.nq t.vR ["self","row","many"] (IQ t):=by
 refine T.xg.ok L7 ?_ ?_
 walk_at "i"
 ·obtain ⟨x,dx,a,lg,gs,i,k,rfl,hx,hlg,hi,q⟩:=h
  refine @av _ _ _ _ _ _ (bx (PW.pt (jy (aA ff (pv 1) ak (aI _)) (jy (aA ff (pv 2) ak (aI _)) (i8 (aA i6 (aK aY (pv 1) (pv 2)) (aO aR (by rfl) T.bK (by decide +kernel) (aa (aT (pv 0) rfl) af)) (aI _)))))) ay ay) ⟨_,rfl,_,_,rfl,rfl,_,rfl,dJ (λh=>absurd h (by lia)) (λ_=>?_)⟩
  refine ⟨_,rfl,_,_,rfl,rfl,_,rfl,dJ (λh=>absurd h (by lia)) (λ_=>?_)⟩
  refine ⟨_,rfl,_,rfl,_,_,rfl,rfl,⟨_,rfl,_,_,_,_,_,rfl,hx,T.aN,T.aP,rfl,⟨_,_,rfl,.inl (bf.of hlg),_,_,rfl,rfl,_,rfl,dJ (λh=>absurd h (by rw [List.length_map];lia)) (λ_=>aZ q)⟩⟩⟩
structure mT (ms:List aC) (Gs:List bF) (i k:Nat) (Gs':List bF):Prop where
 len:Gs'.length = Gs.length
 le:i + k <= Gs.length
 pre:∀ j,j < i -> Gs'[j]? = Gs[j]?
 suf:∀ j,i + k <= j -> Gs'[j]? = Gs[j]?
 mid:∀ j,i <= j -> j < i + k -> ∃ G G',Gs[j]? = some G /\ Gs'[j]? = some G' /\ G'.row = G.row /\ G'.before = ja [0] (Gs'.take j) /\ G.before ≠ ja [0] (Gs'.take j) /\ lH ms G'
 stop:∀ G,Gs[i + k]? = some G -> G.before = ja [0] (Gs'.take (i + k))
def jS (Gs Gs':List bF) (n:Nat):List bF:=Gs'.take n ++ Gs.drop n
theorem Kx {Gs Gs':List bF} {n:Nat} (hl:Gs'.length = Gs.length) (h:n <= Gs.length):(jS Gs Gs' n)[n]? = Gs[n]?:=by
 rw [jS,List.getElem?_append_right (by rw [List.length_take];lia),List.length_take,List.getElem?_drop]
 congr 1
 lia
theorem xq {Gs Gs':List bF} {n:Nat} (hl:Gs'.length = Gs.length) (h:n <= Gs.length):(jS Gs Gs' n).take n = Gs'.take n:=by
 have e:n = (Gs'.take n).length:=by rw [List.length_take];lia
 rw [jS]
 conv=>lhs;arg 1;rw [e]
 rw [List.take_left]
theorem vo {Gs Gs':List bF} {n:Nat} (hl:Gs'.length = Gs.length) (h:n <= Gs.length):(jS Gs Gs' n).length = Gs.length:=by
 rw [jS,List.length_append,List.length_take,List.length_drop];lia
theorem HS {Gs Gs':List bF} {n:Nat} {G':bF} (hl:Gs'.length = Gs.length) (h:n < Gs.length) (hG:Gs'[n]? = some G'):(jS Gs Gs' n).set n G' = jS Gs Gs' (n + 1):=by
 have e:(Gs'.take n).length = n:=by rw [List.length_take];lia
 rw [jS,jS,List.set_append_right _ _ (by rw [e];exact Nat.le_refl _),e,Nat.sub_self,take_snoc hG,List.append_assoc]
 congr 1
 rw [dO (List.getElem?_eq_getElem h)]
 rfl
theorem mT.first {ms:List aC} {Gs Gs':List bF} {i k:Nat} (h:mT ms Gs i k Gs'):jS Gs Gs' i = Gs:=by
 apply List.ext_getElem?
 intro j
 rw [jS]
 have:=h.le
 have:=h.len
 by_cases hj:j < i
 ·rw [List.getElem?_append_left (by rw [List.length_take];lia),List.getElem?_take,if_pos hj,h.pre j hj]
 ·rw [List.getElem?_append_right (by rw [List.length_take];lia),List.length_take,List.getElem?_drop]
  congr 1
  lia
theorem mT.last {ms:List aC} {Gs Gs':List bF} {i k:Nat} (h:mT ms Gs i k Gs'):jS Gs Gs' (i + k) = Gs':=by
 apply List.ext_getElem?
 intro j
 rw [jS]
 have:=h.le
 have:=h.len
 by_cases hj:j < i + k
 ·rw [List.getElem?_append_left (by rw [List.length_take];lia),List.getElem?_take,if_pos hj]
 ·rw [List.getElem?_append_right (by rw [List.length_take];lia),List.length_take,List.getElem?_drop,h.suf j (by lia)]
  congr 1
  lia
theorem bU.put {α β:Type} {R:α -> β -> Prop} {xs:List α} {ys:List β} {n:Nat} {x:α} {y:β} (h:bU R xs ys) (r:R x y):bU R (xs.set n x) (ys.set n y):=by
 refine ⟨by rw [List.length_set,List.length_set];exact h.1,λi a b ha hb=>?_⟩
 rw [List.getElem?_set] at ha hb
 by_cases e:n = i
 ·rw [if_pos e] at ha hb
  split at ha
  ·split at hb
   ·cases ha;cases hb;exact r
   ·cases hb
  ·cases ha
 ·rw [if_neg e] at ha hb
  exact h.2 i a b ha hb
theorem qX:∀ {xs ys:List Nat},xs.map bS = ys.map bS -> xs = ys
 | [],[],_=>rfl
 | [],_ :: _,h=>by simp at h
 | _ :: _,[],h=>by simp at h
 | x :: xs,y :: ys,h=>by
  rw [List.map_cons,List.map_cons] at h
  injection h with h1 h2
  injection h1 with h1
  rw [qX h2,Int.ofNat_inj.mp h1]
theorem p7 (xs ys:List Nat):qu (xs.map bS) (ys.map bS):=qB (λn:Nat=>(n:Int)) (λn:Nat=>(n:Int)) xs ys
noncomputable def J6 (t:gp):Sp:=λvs H Q _=>∃ (x dx a lg:Addr) (gs:List Addr) (S:Addr -> Prop) (ms:List aC) (Gs Gs':List bF) (i k:Nat),vs = [.ref x,.int i] /\ H x = some (.ins t.aH dx [("rules",.ref a),("gone_rows",.ref lg)]) /\ IsRules t (hid S H) a ms /\ dZ ms /\ H lg = some (.lst (gs.map V.ref)) /\ S lg /\ bU (dY t (hid S H)) gs Gs /\ Ex S H /\ Gs.length <= 100000 /\ mT ms Gs i k Gs' /\
 ∀ gs' H',H' lg = some (.lst (gs'.map V.ref)) -> bU (dY t (hid S H')) gs' Gs' -> iS H H' lg -> Q (.int (k:Nat)) H'
theorem LQ (T:Txt K mg t):bC P w K mg base c6 6 t.nu t.yP ["self","row"] (J6 t):=by
 refine T.zA.ok AQ ?_ ?_
 walk_at "i"
 ·obtain ⟨x,dx,a,lg,gs,S,ms,Gs,Gs',i,k,rfl,hx,hR,G,hlg,hSl,hA,hE,hlen,O,q⟩:=h
  have hxl:x ≠ lg:=cA hx hlg (by intro z;cases z)
  have hl:=O.len
  have hle:=O.le
  refine @ao _ _ _ _ _ _ _ (aB (i:=2) AQ.nd rfl (Or.inl rfl) (pv 1)) ⟨_,rfl,?_⟩
  refine @aG _ _ _ _ _ _ _ (λZ' H'=>∃ gs',(∃ x2,Z' = [some (.ref x),some (.int i),x2] /\ x2 = some (.int ((i + k:Nat):Int))) /\ H' lg = some (.lst (gs'.map V.ref)) /\ bU (dY t (hid S H')) gs' Gs' /\ iS H H' lg) (gu PassesOwn.never (PW.pt (dH (aA ff (pv 2) (aO aR (by rfl) T.bK (by decide +kernel) (aa (aT (pv 0) rfl) af)) (aI _)) (di (aA (lM (Nat.lt_of_succ_lt (lG hr))) (aT (aL aS (aT (pv 0) rfl) (pv 2) (λ_ _=>rfl)) rfl) (bA (pv 0) T.aN T.Gj (z7 T) (hr.mono (by decide)) (T.oS.binds (by walk_at "2")) .nil aF (aa (pv 2) af)) (aI _))))) ay) ?_ ?_
  ·refine ⟨λm Z' H'=>∃ (j:Nat) (gs':List Addr),Z' = [some (.ref x),some (.int i),some (.int ((i + j:Nat):Int))] /\ j <= k /\ m = k - j /\ H' lg = some (.lst (gs'.map V.ref)) /\ bU (dY t (hid S H')) gs' (jS Gs Gs' (i + j)) /\ iS H H' lg,⟨k,0,gs,rfl,Nat.zero_le _,rfl,hlg,(by rw [Nat.add_zero,O.first];exact hA),iS.refl H lg⟩,?_⟩
   rintro m Z' H1 ⟨j,gs1,rfl,hj,rfl,hlg1,hA1,a1⟩
   have hx1:=a1 _ _ hx hxl
   have s1:aq (hid S H) (hid S H1):=λb o hb=>bL (a1 _ _ (aV _ _ hb) (λz=>eO hb (by rw [z];exact hSl))) (eO hb)
   have hR1:=hR.same s1
   have hE1:Ex S H1:=λb hb=>by
    by_cases e:b = lg
    ·rw [e];exact ⟨_,hlg1⟩
    ·obtain ⟨o,ho⟩:=hE b hb
     exact ⟨o,a1 _ _ ho e⟩
   have hg1:gs1.length = Gs.length:=by rw [hA1.1,vo hl (by lia)]
   refine ⟨_,rfl,⟨_,rfl,_,_,_,_,_,rfl,hx1,T.aN,T.aP,rfl,⟨_,_,rfl,.inl (bf.of hlg1),_,_,rfl,rfl,_,rfl,dJ (λh=>?_) (λh=>?_)⟩⟩⟩
   ·rw [List.length_map] at h
    have hlt:i + j < Gs.length:=by lia
    obtain ⟨G0,hG0⟩:∃ G0,Gs[i + j]? = some G0:=⟨Gs[i + j],List.getElem?_eq_getElem hlt⟩
    have hG1:(jS Gs Gs' (i + j))[i + j]? = some G0:=by rw [Kx hl (by lia)];exact hG0
    obtain ⟨g,hg,dg,lb,lt,lo,lk,e⟩:=hA1.at hG1
    refine ⟨_,rfl,_,_,_,_,_,rfl,hx1,T.aN,T.aP,rfl,⟨_,rfl,_,_,_,_,rfl,rfl,bf.of hlg1,c9 hg,g,t.bg,dg,_,_,rfl,aV _ _ e.ob,T.bV,T.dW,rfl,?_⟩⟩
    refine ⟨_,rfl,x,dx,_,rfl,hx1,rfl,_,rfl,x,dx,a,lg,gs1,S,_,i + j,rfl,hx1,hlg1,hA1,hE1,(by rw [vo hl (by lia)];lia),λlb2 H2 hb2 s2=>?_⟩
    rw [xq hl (by lia)] at hb2
    refine ⟨lb,lb2,_,_,rfl,rfl,bf.of (s2 _ _ (aV _ _ e.lb)),bf.of (aV _ _ hb2),p7 _ _,_,rfl,?_⟩
    have hlg2:=s2 _ _ hlg1
    have hx2:=s2 _ _ hx1
    have hA2:bU (dY t (hid S H2)) gs1 (jS Gs Gs' (i + j)):=hA1.mono λ_ _ z=>z.same (cu s2)
    have hE2:=hE1.same s2
    have a2:iS H H2 lg:=a1.same s2
    refine g7 (λhne=>?_) (λheq=>?_)
    ·have hjk:j < k:=by
      rcases Nat.lt_or_ge j k with z | z
      ·exact z
      ·exfalso
       have ejk:j = k:=by lia
       subst ejk
       exact hne (by rw [O.stop G0 hG0])
     obtain ⟨G1,G',z1,hG',er,eb,_,hSt⟩:=O.mid (i + j) (by lia) (by lia)
     rw [hG0] at z1
     cases z1
     refine ⟨_,λZ' H' z=>z,@ao _ _ _ _ _ _ _ (o9 (eV T.jm (F8 T) (hr.mono (by decide)) rfl T.nK (T.xQ.binds (by walk_at "4")) .nil aF (aa (aT (pv 0) rfl) (aa (bA (pv 0) T.aN T.Gj (z7 T) (hr.mono (by decide)) (T.oS.binds (by walk_at "2")) .nil aF (aa (pv 2) af)) (aa (aT (aL aS (aT (pv 0) rfl) (pv 2) (λ_ _=>rfl)) rfl) af)))) (uV (aT (pv 0) rfl) (pv 2) set_list)) ?_⟩
     refine ⟨_,rfl,_,_,_,_,_,rfl,hx2,T.aN,T.fh,rfl,?_⟩
     refine ⟨_,rfl,x,dx,_,rfl,hx2,rfl,_,rfl,x,dx,a,lg,gs1,S,_,i + j,rfl,hx2,hlg2,hA2,hE2,(by rw [vo hl (by lia)];lia),λlb3 H3 hb3 s3=>?_⟩
     rw [xq hl (by lia),← eb] at hb3
     have hlg3:=s3 _ _ hlg2
     have hx3:=s3 _ _ hx2
     have hE3:=hE2.same s3
     have s13:aq H1 H3:=s2.trans s3
     refine ⟨_,rfl,_,_,_,_,_,rfl,hx3,T.aN,T.aP,rfl,⟨_,rfl,_,_,_,_,rfl,rfl,bf.of hlg3,c9 hg,g,t.bg,dg,_,_,rfl,s13 _ _ (aV _ _ e.ob),T.bV,T.cy,rfl,?_⟩⟩
     refine λg' dg' ng ndg ne=>⟨g',dg',a,lb3,S,ms,G',(by rw [er];rfl),ai,((hR1.same aV).same s13).same (bP ng ndg),G,(cu (bP ng ndg)) _ _ hb3,hE3.same (bP ng ndg),hE3.new ng,hSt,λlt4 lo4 lk4 H4 hG4 a4=>⟨rfl,?_⟩⟩
     have s34:aq H3 H4:=λb o hb=>a4 b o (bP ng ndg _ _ hb) (aj hb ng)
     have hlg4:=s34 _ _ hlg3
     have hx4:=s34 _ _ hx3
     have s14:aq H1 H4:=s13.trans s34
     refine ⟨_,rfl,_,_,_,_,_,rfl,hx4,T.aN,T.aP,rfl,⟨_,rfl,lg,_,_,i + j,rfl,rfl,hlg4,?_,?_⟩⟩
     ·have hz:(gs1.map V.ref).length = Gs.length:=by rw [List.length_map];exact hg1
      rw [hz,Bo,if_pos (by lia),if_pos (by lia),Int.toNat_natCast]
     refine @av _ _ _ _ _ _ (AK (i:=2) AQ.nd rfl (Or.inl rfl) ak Ax) ⟨_,rfl,_,_,rfl,rfl,?_⟩
     refine ⟨k - (j + 1),by lia,j + 1,gs1.set (i + j) g',?_,by lia,rfl,?_,?_,?_⟩
     ·show [some (V.ref x),some (V.int i),some (V.int (((i + j:Nat):Int) + 1))] = _
      rw [show (((i + (j + 1):Nat)):Int) = ((i + j:Nat):Int) + 1 by lia]
     ·rw [ai,List.map_set]
     ·rw [jZ hSl,show i + (j + 1) = i + j + 1 from rfl,← HS hl hlt hG']
      exact (hA1.mono λ_ _ z=>z.same (cu s14)).put ⟨dg',lb3,lt4,lo4,lk4,hG4⟩
     ·intro b o hb nb
      rw [au nb]
      exact s14 _ _ (a1 _ _ hb nb)
    ·have ejk:j = k:=by
      rcases Nat.lt_or_ge j k with z | z
      ·exfalso
       obtain ⟨G1,G',z1,hG',er,eb,hnb,hSt⟩:=O.mid (i + j) (by lia) (by lia)
       rw [hG0] at z1
       cases z1
       exact hnb (qX heq)
      ·lia
     subst ejk
     rw [O.last] at hA2
     exact ⟨gs1,⟨_,rfl,rfl⟩,hlg2,hA2,a2⟩
   ·rw [List.length_map] at h
    have ej:j = k:=by
     have:=O.le
     lia
    subst ej
    rw [O.last] at hA1
    exact ⟨gs1,⟨_,rfl,rfl⟩,hlg1,hA1,a1⟩
  rintro Z' H1 ⟨gs1,⟨x2,rfl,rfl⟩,h1,h2,h3⟩
  refine @av _ _ _ _ _ _ (aJ (aK dR (pv 2) (pv 1))) ⟨_,rfl,_,rfl,_,_,rfl,rfl,?_⟩
  have:=q gs1 H1 h1 h2 h3
  rw [show (k:Int) = ((i + k:Nat):Int) - (i:Int) by lia] at this
  exact this
theorem oO {xs:List V} {i j:Nat} (hj:j <= xs.length) (h:i <= j):cG xs (some (i:Int)) (some (j:Int)) = (xs.drop i).take (j - i):=by
 rw [cG,HT.oM,HT.oM,Nat.min_eq_left hj,Nat.min_eq_left (Nat.le_trans h hj)]
theorem oY {xs:List V} {i:Nat} (h:i <= xs.length):cG xs (some (i:Int)) none = xs.drop i:=by
 rw [cG,HT.oM,HT.qt,Nat.min_eq_left h,List.take_of_length_le (by rw [List.length_drop];exact Nat.le_refl _)]
theorem QV {a n m x s:Nat} (h:n + m + n <= s):min a n + m + (n - x) <= s:=by lia
theorem Fg {xs:List V} {j:Nat} (hj:j <= xs.length):cG xs none (some (j:Int)) = xs.take j:=by
 rw [cG,HT.oM,HT.qt,Nat.min_eq_left hj];rfl
theorem apart {H:Hp} {x b:Addr} {o:HO} {C dx:Addr} {fs:List (Str × V)} (hx:H x = some (.ins C dx fs)) (hb:H b = some o) (h:∀ C' d' fs',o = .ins C' d' fs' -> fs'.length ≠ fs.length):hid (λc=>c = x) H b = some o:=by
 refine bL hb λz=>?_
 rw [z,hx] at hb
 cases hb
 exact h _ _ _ rfl rfl
theorem EN (s z:Str):(ku s z).length <= 1:=by
 rw [ku]
 by_cases b:bare s
 ·rw [if_pos b];exact Nat.zero_le _
 ·rw [if_neg b]
  by_cases e:s = "word"
  ·rw [if_pos e];exact Nat.le_refl _
  ·rw [if_neg e];exact Nat.le_refl _
theorem IsRules.apart {H:Hp} {x a dx a' lg:Addr} {ms:List aC} (h:IsRules t H a ms) (hx:H x = some (.ins t.aH dx [("rules",.ref a'),("gone_rows",.ref lg)])):IsRules t (hid (λc=>c = x) H) a ms:=by
 obtain ⟨d1,lm,as,ls,h1,h2,h3⟩:=h
 refine ⟨d1,lm,as,ls,K33.apart hx h1 (λ_ _ _ z=>by cases z;simp),K33.apart hx h2 (λ_ _ _ z=>by cases z),h3.la,h3.ll,h3.nd,λi a l m e1 e2 e3=>?_⟩
 obtain ⟨d2,rs,k1,k2,k3⟩:=h3.ob i a l m e1 e2 e3
 refine ⟨d2,rs,K33.apart hx k1 (λ_ _ _ z=>by cases z;simp [mf]),K33.apart hx k2 (λ_ _ _ z=>by cases z),k3.mono λr R hr=>?_⟩
 obtain ⟨d3,p,r1,d4,r2⟩:=hr
 refine ⟨d3,p,K33.apart hx r1 (λ_ _ _ z=>by cases z;simp [rf]),d4,K33.apart hx r2 (λ_ _ _ z=>?_)⟩
 injection z with _ _ z
 rw [← z]
 have:=EN R.sort R.signs
 intro z
 have z:(ku R.sort R.signs).length = 2:=z
 lia
theorem dY.apart {H:Hp} {x g dx a' lg:Addr} {G:bF} (h:dY t H g G) (hx:H x = some (.ins t.aH dx [("rules",.ref a'),("gone_rows",.ref lg)])):dY t (hid (λc=>c = x) H) g G:=by
 obtain ⟨dg,lb,lt,lo,lk,e⟩:=h
 obtain ⟨ps,k1,k2⟩:=e.lk
 exact ⟨dg,lb,lt,lo,lk,K33.apart hx e.ob (λ_ _ _ z=>by cases z;simp [gf]),K33.apart hx e.lb (λ_ _ _ z=>by cases z),K33.apart hx e.lt (λ_ _ _ z=>by cases z),K33.apart hx e.lo (λ_ _ _ z=>by cases z),ps,K33.apart hx k1 (λ_ _ _ z=>by cases z),k2.mono λp m h=>K33.apart hx h (λ_ _ _ z=>by cases z)⟩
structure j6 (ms:List aC) (Gs:List bF) (i k:Nat) (fs:List Str) (ah bk:Nat) (Gm:List bF) (c:Nat) (Gs':List bF):Prop where
 le:i + k <= Gs.length
 eah:ah = cN (((Gs.map (·.row)).drop i).take k) fs
 ebk:bk = cN ((((Gs.map (·.row)).drop i).take k).drop ah).reverse (fs.drop ah).reverse
 mid:Chain ms (ja [0] (Gs.take (i + ah))) ((fs.drop ah).take (fs.length - bk - ah)) Gm
 on:mT ms (Gs.take (i + ah) ++ Gm ++ Gs.drop (i + k - bk)) (i + ah + Gm.length) c Gs'
theorem j6.small {ms:List aC} {Gs:List bF} {i k:Nat} {fs:List Str} {ah bk:Nat} {Gm:List bF} {c:Nat} {Gs':List bF} (h:j6 ms Gs i k fs ah bk Gm c Gs'):ah <= k /\ ah <= fs.length /\ ah + bk <= k /\ ah + bk <= fs.length /\ Gm.length = fs.length - bk - ah:=by
 have h1:=iJ (((Gs.map (·.row)).drop i).take k) fs
 have h2:=iJ ((((Gs.map (·.row)).drop i).take k).drop ah).reverse (fs.drop ah).reverse
 have h3:=h.mid.len
 have h4:=h.le
 rw [← h.eah,List.length_take,List.length_drop,List.length_map] at h1
 rw [← h.ebk,List.length_reverse,List.length_reverse,List.length_drop,List.length_drop,List.length_take,List.length_drop,List.length_map] at h2
 rw [List.length_take,List.length_drop] at h3
 lia
theorem bU.take {α β:Type} {R:α -> β -> Prop} {xs:List α} {ys:List β} (h:bU R xs ys) (n:Nat):bU R (xs.take n) (ys.take n):=by
 refine ⟨by rw [List.length_take,List.length_take,h.1],λi a b ha hb=>?_⟩
 rw [List.getElem?_take] at ha hb
 by_cases e:i < n
 ·rw [if_pos e] at ha hb;exact h.2 i a b ha hb
 ·rw [if_neg e] at ha;cases ha
theorem bU.drop {α β:Type} {R:α -> β -> Prop} {xs:List α} {ys:List β} (h:bU R xs ys) (n:Nat):bU R (xs.drop n) (ys.drop n):=by
 refine ⟨by rw [List.length_drop,List.length_drop,h.1],λi a b ha hb=>?_⟩
 rw [List.getElem?_drop] at ha hb
 exact h.2 _ a b ha hb
theorem bU.append {α β:Type} {R:α -> β -> Prop} {xs xs':List α} {ys ys':List β} (h:bU R xs ys) (h':bU R xs' ys'):bU R (xs ++ xs') (ys ++ ys'):=by
 refine ⟨by rw [List.length_append,List.length_append,h.1,h'.1],λi a b ha hb=>?_⟩
 have e:=h.1
 by_cases hi:i < xs.length
 ·rw [List.getElem?_append_left hi] at ha
  rw [List.getElem?_append_left (by lia)] at hb
  exact h.2 i a b ha hb
 ·rw [List.getElem?_append_right (by lia)] at ha
  rw [List.getElem?_append_right (by lia),← e] at hb
  exact h'.2 _ a b ha hb
theorem BV {S S':Addr -> Prop} {H:Hp}:aq (hid S' (hid S H)) (hid (λc=>S c ∨ S' c) H):=λb o h=>by
 have h1:=eO h
 have h2:=aV _ _ h
 exact bL (aV _ _ h2) (λz=>z.elim (eO h2) h1)
noncomputable def Dd (t:gp):Sp:=λvs H Q _=>∃ (S:Addr -> Prop) (x dx a lg lr:Addr) (gs:List Addr) (ms:List aC) (Gs:List bF) (i k:Nat) (fs:List Str) (ah bk:Nat) (Gm:List bF) (c:Nat) (Gs':List bF),vs = [.ref x,.int i,.int k,.ref lr] /\ Ex S H /\ cj t (hid S H) x dx a lg gs ms Gs /\ dZ ms /\ H lr = some (.lst (fs.map V.str)) /\ Gs.length <= 50000 /\ fs.length <= 50000 /\ (k = Gs.length -> fs ≠ []) /\ j6 ms Gs i k fs ah bk Gm c Gs' /\
 ∀ lg' gs' H',cj t (hid S H') x dx a lg' gs' ms Gs' -> H lg' = none -> iS H H' x -> Q (.int ((Gm.length + c:Nat):Int)) H'
theorem Dh (T:Txt K mg t):bC P w K mg base c6 8 t.nA t.yc ["self","row","many","rows"] (Dd t):=by
 refine T.sS.ok mJ ?_ ?_
 walk_at "i"
 ·obtain ⟨S,x,dx,a,lg,lr,gs,ms,Gs,i,k,fs,ah,bk,Gm,c,Gs',rfl,hES,IS,GM_,hlr,hl1,hl2,hne,C,q⟩:=h
  have I:=IS.same aV
  have hxS:¬ S x:=eO IS.ob
  obtain ⟨b1,b2,b3,b4,b5⟩:=C.small
  have hle:=C.le
  have hgl:=I.go.1
  refine @ao _ _ _ _ _ _ _ (bz (bA (pv 0) T.aN T.N9 (J9 T) (hr.mono (by decide)) (T.xg.binds (by walk_at "3")) .nil aF (aa (pv 1) (aa (pv 2) af)))) ⟨_,rfl,x,dx,_,rfl,I.ob,rfl,_,rfl,_,rfl,x,dx,a,lg,gs,i,k,rfl,I.ob,I.lg,(by lia),?_⟩
  refine @aG _ _ _ _ _ _ _ (λZ' H'=>H' = H /\ Z' = [some (.ref x),some (.int i),some (.int k),some (.ref lr),none,none,none,none,none]) (bx (PW.pt (dH (aA cI (pv 2) (aO aR (by rfl) T.bK (by decide +kernel) (aa (aT (pv 0) rfl) af)) (aI _)) (di (mX (je (pv 3) (λ_=>rfl)))))) ay ay) ?_ ?_
  ·refine ⟨_,rfl,⟨_,rfl,_,_,_,_,_,rfl,I.ob,T.aN,T.aP,rfl,⟨_,_,rfl,.inl (bf.of I.lg),rfl,_,rfl,dJ (λh=>?_) (λh=>aZ ⟨rfl,rfl⟩)⟩⟩⟩
   have hk:k = Gs.length:=by
    injection h with h
    rw [List.length_map] at h
    lia
   have hf:=hne hk
   refine ⟨_,rfl,true,.inl ⟨_,bf.of hlr,?_⟩,vv (c:=false) rfl (aZ ⟨rfl,rfl⟩)⟩
   cases fs with
   | nil=>exact absurd rfl hf
   | cons _ _=>rfl
  rintro Z' H' ⟨eH,eZ⟩
  rw [eH,eZ]
  clear eH eZ Z' H'
  refine @ao _ _ _ _ _ _ _ (aB (i:=4) mJ.nd rfl (Or.inl rfl) (bT gq (b6 (pv 0) T.aN T.Dz (zJ T) (hr.mono (by decide)) (T.qZ.binds (by walk_at "1")) .nil aF) (bR (pv 1)) (bR (aK aY (pv 1) (pv 2))))) ⟨_,rfl,x,dx,_,rfl,I.ob,rfl,x,dx,a,lg,gs,ms,Gs,rfl,I,(by lia),λl1 H1 h1 f1 s1=>?_⟩
  obtain ⟨tk,htk⟩:∃ tk,tk = ((Gs.map (·.row)).drop i).take k:=⟨_,rfl⟩
  have ea:ah = cN tk fs:=by rw [htk];exact C.eah
  have eb:bk = cN (tk.drop ah).reverse (fs.drop ah).reverse:=by rw [htk];exact C.ebk
  have htl:tk.length = k:=by rw [htk,List.length_take,List.length_drop,List.length_map];lia
  refine ⟨_,rfl,_,rfl,_,rfl,_,rfl,_,_,rfl,rfl,_,rfl,l1,_,rfl,bf.of h1,λl2 f2=>?_⟩
  have e2:cG ((Gs.map (·.row)).map V.str) (some (i:Int)) (some ((i:Int) + (k:Int))) = tk.map V.str:=by
   rw [← Int.natCast_add,oO (by rw [List.length_map,List.length_map];lia) (by lia),htk,List.map_take,List.map_drop]
   congr 1
   lia
  have h2:upd H1 l2 (.lst (cG ((Gs.map (·.row)).map V.str) (some (i:Int)) (some ((i:Int) + (k:Int))))) l2 = some (.lst (tk.map V.str)):=by rw [ai,e2]
  have s2:aq H (upd H1 l2 (.lst (cG ((Gs.map (·.row)).map V.str) (some (i:Int)) (some ((i:Int) + (k:Int)))))):=s1.trans (aq.upd f2)
  generalize upd H1 l2 (.lst (cG ((Gs.map (·.row)).map V.str) (some (i:Int)) (some ((i:Int) + (k:Int))))) = H2 at h2 s2
  refine @ao _ _ _ _ _ _ _ (aB (i:=5) mJ.nd rfl (Or.inl rfl) (aM (FY T) (hr.mono (by decide)) rfl T.E9 T.pH.kp (T.pH.binds (by walk_at "2")) .nil aF (aa (pv 4) (aa (pv 3) af)))) ⟨_,rfl,_,rfl,l2,lr,tk,fs,rfl,h2,s2 _ _ hlr,λH3 s3'=>?_⟩
  rw [← ea]
  have s3:=s2.trans s3'
  refine @ao _ _ _ _ _ _ _ (aB (i:=6) mJ.nd rfl (Or.inl rfl) (aM (K1 T) (hr.mono (by decide)) rfl T.MX T.we.kp (T.we.binds (by walk_at "2")) .nil aF (aa (bT gq (pv 4) (bR (pv 5)) cY) (aa (bT gq (pv 3) (bR (pv 5)) cY) af)))) ⟨_,rfl,_,rfl,_,rfl,l2,_,rfl,bf.of (s3' _ _ h2),λl4 f4=>⟨_,rfl,_,rfl,_,rfl,lr,_,rfl,bf.of (aq.upd f4 _ _ (s3 _ _ hlr)),λl5 f5=>⟨l4,l5,tk.drop ah,fs.drop ah,rfl,?_,?_,λH6 s6=>?_⟩⟩⟩
  ·rw [aq.upd f5 _ _ ai,oY (by rw [List.length_map];lia),List.map_drop]
  ·rw [ai,oY (by rw [List.length_map];lia),List.map_drop]
  rw [← eb]
  have s6:aq H H6:=((s3.trans (aq.upd f4)).trans (aq.upd f5)).trans s6
  refine @aG _ _ _ _ _ _ _ (λZ' H'=>H' = H6 /\ Z' = [some (.ref x),some (.int i),some (.int k),some (.ref lr),some (.ref l2),some (.int ah),some (.int bk),some (.int ((i + ah:Nat):Int)),none]) (aB (i:=7) mJ.nd rfl (Or.inl rfl) (aK aY (pv 1) (pv 5))) ⟨_,rfl,_,rfl,_,_,rfl,rfl,rfl,rfl⟩ ?_
  rintro Z' H' ⟨eH,eZ⟩
  rw [eH,eZ]
  clear eH eZ Z' H'
  have hx6:=s6 _ _ I.ob
  have hlg6:=s6 _ _ I.lg
  have hlr6:=s6 _ _ hlr
  have hx6S:=(cu (S:=S) s6) _ _ IS.ob
  have hR6:IsRules t (hid (λc=>S c ∨ c = x) H6) a ms:=((IS.ru.same (cu s6)).apart hx6S).same BV
  have hA6:bU (dY t (hid (λc=>S c ∨ c = x) H6)) gs Gs:=IS.go.mono λ_ _ z=>((z.same (cu s6)).apart hx6S).same BV
  have hE6:Ex (λc=>S c ∨ c = x) H6:=λb hb=>by
   rcases hb with hb | hb
   ·exact (hES.same s6) b hb
   ·rw [hb];exact ⟨_,hx6⟩
  refine @ao _ _ _ _ _ _ _ (aB (i:=8) mJ.nd rfl (Or.inl rfl) (bA (pv 0) T.aN T.Jv (F1 T) (hr.mono (by decide)) (T.t7.binds (by walk_at "3")) .nil aF (aa (bA (pv 0) T.aN T.Gj (z7 T) (hr.mono (by decide)) (T.oS.binds (by walk_at "2")) .nil aF (aa (pv 7) af)) (aa (bT gq (pv 3) (bR (pv 5)) (bR (aK dR (aO aR (by rfl) T.bK (by decide +kernel) (aa (pv 3) af)) (pv 6)))) af)))) ⟨_,rfl,x,dx,_,rfl,hx6,rfl,_,rfl,x,dx,_,rfl,hx6,rfl,_,rfl,x,dx,a,lg,gs,λc=>S c ∨ c = x,Gs,i + ah,rfl,hx6,hlg6,hA6,hE6,(by lia),λlb H7 hb7 s7=>?_⟩
  refine ⟨_,rfl,_,rfl,_,rfl,_,rfl,_,_,rfl,.inl (bf.of (s7 _ _ hlr6)),_,rfl,_,_,rfl,rfl,_,rfl,lr,_,rfl,bf.of (s7 _ _ hlr6),λl8 f8=>?_⟩
  have e8:cG (fs.map V.str) (some (ah:Int)) (some (((fs.map V.str).length:Int) - (bk:Int))) = ((fs.drop ah).take (fs.length - bk - ah)).map V.str:=by
   rw [List.length_map,show ((fs.length:Int) - (bk:Int)) = ((fs.length - bk:Nat):Int) by lia,oO (by rw [List.length_map];lia) (by lia),List.map_take,List.map_drop]
  have h8:upd H7 l8 (.lst (cG (fs.map V.str) (some (ah:Int)) (some (((fs.map V.str).length:Int) - (bk:Int))))) l8 = some (.lst (((fs.drop ah).take (fs.length - bk - ah)).map V.str)):=by rw [ai,e8]
  have s8:aq H6 (upd H7 l8 (.lst (cG (fs.map V.str) (some (ah:Int)) (some (((fs.map V.str).length:Int) - (bk:Int)))))):=s7.trans (aq.upd f8)
  have hb8:=(cu (S:=λc=>S c ∨ c = x) (aq.upd (o:=.lst (cG (fs.map V.str) (some (ah:Int)) (some (((fs.map V.str).length:Int) - (bk:Int))))) f8)) _ _ hb7
  generalize upd H7 l8 (.lst (cG (fs.map V.str) (some (ah:Int)) (some (((fs.map V.str).length:Int) - (bk:Int))))) = H8 at h8 s8 hb8
  refine ⟨x,dx,a,lb,l8,λc=>S c ∨ c = x,_,ms,_,_,Gm,rfl,s8 _ _ hx6,rfl,(hR6.same aV).same s8,GM_,hb8,hE6.same s8,h8,(by rw [List.length_take,List.length_drop];lia),C.mid,λlm gm H9 hm9 hA9 f9 s9=>?_⟩
  have s9:aq H6 H9:=s8.trans s9
  have hx9:=s9 _ _ hx6
  have hlg9:=s9 _ _ hlg6
  have hgm:gm.length = Gm.length:=hA9.1
  refine @ao _ _ _ _ _ _ _ (cS (pv 0) (aK m8 (aK m8 (bT gq (aT (pv 0) rfl) cY (bR (pv 7))) (pv 8)) (bT gq (aT (pv 0) rfl) (bR (aK dR (aK aY (pv 1) (pv 2)) (pv 6))) cY)) rfl) (⟨_,rfl,_,_,_,_,_,rfl,hx9,T.aN,T.aP,rfl,⟨_,rfl,_,rfl,lg,_,rfl,bf.of hlg9,λp1 g1=>?_⟩⟩)
  have z1:(gs.map V.ref).length = Gs.length:=by rw [List.length_map];exact hgl
  have z2:(gm.map V.ref).length = Gm.length:=by rw [List.length_map];exact hgm
  have c1:cG (gs.map V.ref) none (some ((i + ah:Nat):Int)) = (gs.take (i + ah)).map V.ref:=by
   rw [Fg (by rw [z1];lia),List.map_take]
  have c2:cG (gs.map V.ref) (some ((i:Int) + (k:Int) - (bk:Int))) none = (gs.drop (i + k - bk)).map V.ref:=by
   rw [show ((i:Int) + (k:Int) - (bk:Int)) = ((i + k - bk:Nat):Int) by lia,oY (by rw [z1];lia),List.map_drop]
  have sz:=sizeLine_eq
  refine ⟨_,rfl,p1,lm,_,_,rfl,rfl,ai,aq.upd g1 _ _ hm9,(by rw [c1,z2,List.length_map,List.length_take];lia),λp2 g2=>?_⟩
  refine ⟨_,rfl,_,_,_,_,_,rfl,(aq.upd g2 _ _ (aq.upd g1 _ _ hx9)),T.aN,T.aP,rfl,?_⟩
  refine ⟨_,rfl,_,rfl,_,_,rfl,rfl,_,rfl,_,_,rfl,rfl,_,rfl,lg,_,rfl,bf.of (aq.upd g2 _ _ (aq.upd g1 _ _ hlg9)),λp3 g3=>?_⟩
  refine ⟨p2,p3,_,_,rfl,rfl,aq.upd g3 _ _ ai,ai,?_,λlg' g4=>?_⟩
  ·rw [List.length_append,c1,c2,z2,List.length_map,List.length_map,List.length_take,List.length_drop];exact QV (by lia)
  have e10:cG (gs.map V.ref) none (some ((i + ah:Nat):Int)) ++ gm.map V.ref ++ cG (gs.map V.ref) (some ((i:Int) + (k:Int) - (bk:Int))) none = (gs.take (i + ah) ++ gm ++ gs.drop (i + k - bk)).map V.ref:=by
   rw [c1,c2,List.map_append,List.map_append]
  have s10:aq H9 (upd (upd (upd H9 p1 (.lst (cG (gs.map V.ref) none (some ((i + ah:Nat):Int))))) p2 (.lst (cG (gs.map V.ref) none (some ((i + ah:Nat):Int)) ++ gm.map V.ref))) p3 (.lst (cG (gs.map V.ref) (some ((i:Int) + (k:Int) - (bk:Int))) none))):=((aq.upd g1).trans (aq.upd g2)).trans (aq.upd g3)
  revert g4
  show upd (upd (upd H9 p1 (.lst (cG (gs.map V.ref) none (some ((i + ah:Nat):Int))))) p2 (.lst (cG (gs.map V.ref) none (some ((i + ah:Nat):Int)) ++ gm.map V.ref))) p3 (.lst (cG (gs.map V.ref) (some ((i:Int) + (k:Int) - (bk:Int))) none)) lg' = none -> _
  generalize upd (upd (upd H9 p1 (.lst (cG (gs.map V.ref) none (some ((i + ah:Nat):Int))))) p2 (.lst (cG (gs.map V.ref) none (some ((i + ah:Nat):Int)) ++ gm.map V.ref))) p3 (.lst (cG (gs.map V.ref) (some ((i:Int) + (k:Int) - (bk:Int))) none)) = HA at s10
  intro g4
  have hx10:=s10 _ _ hx9
  refine ⟨_,rfl,x,_,dx,_,rfl,aq.upd g4 _ _ hx10,T.aN,T.aP,(by show 2 < 1000;decide),?_⟩
  have hxl:x ≠ lg':=aj hx10 g4
  have hxB:upd (upd HA lg' (.lst (cG (gs.map V.ref) none (some ((i + ah:Nat):Int)) ++ gm.map V.ref ++ cG (gs.map V.ref) (some ((i:Int) + (k:Int) - (bk:Int))) none))) x (.ins t.aH dx (gi "gone_rows" (.ref lg') [("rules",.ref a),("gone_rows",.ref lg)])) x = some (.ins t.aH dx [("rules",.ref a),("gone_rows",.ref lg')]):=ai
  have hlB:upd (upd HA lg' (.lst (cG (gs.map V.ref) none (some ((i + ah:Nat):Int)) ++ gm.map V.ref ++ cG (gs.map V.ref) (some ((i:Int) + (k:Int) - (bk:Int))) none))) x (.ins t.aH dx (gi "gone_rows" (.ref lg') [("rules",.ref a),("gone_rows",.ref lg)])) lg' = some (.lst ((gs.take (i + ah) ++ gm ++ gs.drop (i + k - bk)).map V.ref)):=by
   rw [au (Ne.symm hxl),ai,e10]
  have kB:∀ b o,HA b = some o -> b ≠ x -> upd (upd HA lg' (.lst (cG (gs.map V.ref) none (some ((i + ah:Nat):Int)) ++ gm.map V.ref ++ cG (gs.map V.ref) (some ((i:Int) + (k:Int) - (bk:Int))) none))) x (.ins t.aH dx (gi "gone_rows" (.ref lg') [("rules",.ref a),("gone_rows",.ref lg)])) b = some o:=λb o hb nb=>by
   rw [au nb,au (aj hb g4)];exact hb
  show At _ _ _ _ (upd (upd HA lg' (.lst (cG (gs.map V.ref) none (some ((i + ah:Nat):Int)) ++ gm.map V.ref ++ cG (gs.map V.ref) (some ((i:Int) + (k:Int) - (bk:Int))) none))) x (.ins t.aH dx (gi "gone_rows" (.ref lg') [("rules",.ref a),("gone_rows",.ref lg)])))
  generalize upd (upd HA lg' (.lst (cG (gs.map V.ref) none (some ((i + ah:Nat):Int)) ++ gm.map V.ref ++ cG (gs.map V.ref) (some ((i:Int) + (k:Int) - (bk:Int))) none))) x (.ins t.aH dx (gi "gone_rows" (.ref lg') [("rules",.ref a),("gone_rows",.ref lg)])) = HB at hxB hlB kB
  have s9A:aq H9 HA:=s10
  have hmA:=s9A _ _ hm9
  have nmx:lm ≠ x:=cA hm9 hx9 (by intro z;cases z)
  have hmB:=kB _ _ hmA nmx
  have sB:aq (hid (λc=>S c ∨ c = x) H9) (hid (λc=>(S c ∨ c = x) ∨ c = lg') HB):=λb o hb=>by
   have nb:=eO (S:=λc=>S c ∨ c = x) hb
   have hbA:=s9A _ _ (aV _ _ hb)
   refine bL (kB b o hbA (λz=>nb (.inr z))) λz=>?_
   rcases z with z | z
   ·exact nb z
   ·exact aj hbA g4 z
  have hE:Ex (λc=>(S c ∨ c = x) ∨ c = lg') HB:=λb hb=>by
   rcases hb with (z | z) | z
   ·obtain ⟨o,ho⟩:=(((hES.same s6).same s9).same s9A) b z
    exact ⟨o,kB b o ho (λy=>hxS (by rw [← y];exact z))⟩
   ·rw [z];exact ⟨_,hxB⟩
   ·rw [z];exact ⟨_,hlB⟩
  have hR9:IsRules t (hid (λc=>S c ∨ c = x) H9) a ms:=hR6.same (cu s9)
  have hG9:bU (dY t (hid (λc=>S c ∨ c = x) H9)) gs Gs:=hA6.mono λ_ _ z=>z.same (cu s9)
  have hGG:bU (dY t (hid (λc=>(S c ∨ c = x) ∨ c = lg') HB)) (gs.take (i + ah) ++ gm ++ gs.drop (i + k - bk)) (Gs.take (i + ah) ++ Gm ++ Gs.drop (i + k - bk)) :=
   (((hG9.take (i + ah)).append hA9).append (hG9.drop (i + k - bk))).mono λ_ _ z=>z.same sB
  refine @av _ _ _ _ _ _ (aJ (aK aY (aO aR (by rfl) T.bK (by decide +kernel) (aa (pv 8) af)) (bA (pv 0) T.aN T.N6 (LQ T) (hr.mono (by decide)) (T.zA.binds (by walk_at "2")) .nil aF (aa (aK aY (pv 7) (aO aR (by rfl) T.bK (by decide +kernel) (aa (pv 8) af))) af)))) ⟨_,rfl,_,_,rfl,.inl (bf.of hmB),?_⟩
  refine ⟨_,rfl,x,dx,_,rfl,hxB,rfl,_,rfl,_,rfl,_,_,rfl,.inl (bf.of hmB),_,_,rfl,rfl,x,dx,a,lg',_,λc=>(S c ∨ c = x) ∨ c = lg',ms,_,Gs',i + ah + Gm.length,c,?_,hxB,hR9.same sB,GM_,hlB,.inr rfl,hGG,hE,?_,C.on,λgs2 HC h1 h2 a2=>?_⟩
  ·rw [z2];rfl
  ·rw [List.length_append,List.length_append,List.length_take,List.length_drop];lia
  refine ⟨_,_,rfl,rfl,?_⟩
  have hxC:=a2 _ _ hxB hxl
  have hlS:¬ S lg':=(((hES.same s6).same s9).same s9A).new g4
  have:=q lg' gs2 HC ⟨bL hxC hxS,(hR9.same sB).same (λb o hb=>bL (a2 _ _ (aV _ _ hb) (λz=>eO hb (.inr z))) (λz=>eO hb (.inl (.inl z)))),bL h1 hlS,h2.mono λ_ _ z=>z.same (pM λc hc=>.inl (.inl hc))⟩ ?_ ?_
  ·rw [Int.natCast_add,← z2] at this
   exact this
  ·exact ((s6.trans s9).trans s9A).free g4
  ·intro b o hb nb
   have hbA:=((s6.trans s9).trans s9A) _ _ hb
   exact a2 _ _ (kB _ _ hbA nb) (aj hbA g4)
theorem lH.one {ms:List aC} {G G':bF} (h:lH ms G) (h':lH ms G') (e1:G.row = G'.row) (e2:G.before = G'.before):G = G':=by
 obtain ⟨n,_,g⟩:=h.go
 obtain ⟨m,_,g'⟩:=h'.go
 rw [← e1,← e2] at g'
 have x:=qw (Nat.le_max_left n m) g
 have y:=qw (Nat.le_max_right n m) g'
 rw [x] at y
 injection y with y
 cases G
 cases G'
 simp_all
theorem Chain.one {ms:List aC}:∀ {b:List Nat} {rs:List Str} {Gs Gs':List bF},Chain ms b rs Gs -> Chain ms b rs Gs' -> Gs = Gs'
 | _,[],[],[],_,_=>rfl
 | b,r :: rs,G :: Gs,G' :: Gs',h,h'=>by
  have e:=h.2.2.1.one h'.2.2.1 (h.1.trans h'.1.symm) (h.2.1.trans h'.2.1.symm)
  subst e
  rw [Chain.one h.2.2.2 h'.2.2.2]
 | _,[],[],_ :: _,_,h=>h.elim
 | _,[],_ :: _,_,h,_=>h.elim
 | _,_ :: _,[],_,h,_=>h.elim
 | _,_ :: _,_ :: _,[],_,h=>h.elim
theorem Chain.split {ms:List aC}:∀ {b:List Nat} {rs:List Str} {Gs:List bF} (n:Nat),Chain ms b rs Gs -> Chain ms b (rs.take n) (Gs.take n) /\ Chain ms (ja b (Gs.take n)) (rs.drop n) (Gs.drop n)
 | _,rs,Gs,0,h=>⟨by rw [List.take_zero,List.take_zero];trivial,h⟩
 | _,[],[],n + 1,h=>⟨trivial,trivial⟩
 | b,r :: rs,G :: Gs,n + 1,h=>by
  obtain ⟨h1,h2,h3,h4⟩:=h
  obtain ⟨k1,k2⟩:=Chain.split n h4
  exact ⟨⟨h1,h2,h3,k1⟩,k2⟩
 | _,[],_ :: _,_ + 1,h=>h.elim
 | _,_ :: _,[],_ + 1,h=>h.elim
theorem Chain.at {ms:List aC} {b:List Nat} {rs:List Str} {Gs:List bF} {j:Nat} {G:bF} (h:Chain ms b rs Gs) (hG:Gs[j]? = some G):rs[j]? = some G.row /\ G.before = ja b (Gs.take j) /\ lH ms G:=by
 have k:=(h.split j).2
 rw [dO hG] at k
 cases e:rs.drop j with
 | nil=>rw [e] at k;exact k.elim
 | cons r t =>
  rw [e] at k
  refine ⟨?_,k.2.1,k.2.2.1⟩
  have:=congrArg (λl=>l[0]?) e
  simp only [List.getElem?_drop,Nat.add_zero,List.getElem?_cons_zero] at this
  rw [this,k.1]
def eX:List bF -> List bF -> Nat
 | A :: As,B :: Bs=>if A.before = B.before then 0 else eX As Bs + 1
 | _,_=>0
theorem uL:∀ (As Bs:List bF),eX As Bs <= As.length /\ eX As Bs <= Bs.length
 | [],_=>⟨Nat.zero_le _,Nat.zero_le _⟩
 | _ :: _,[]=>⟨Nat.zero_le _,Nat.zero_le _⟩
 | A :: As,B :: Bs=>by
  have h:=uL As Bs
  rw [eX]
  by_cases e:A.before = B.before
  ·rw [if_pos e];exact ⟨Nat.zero_le _,Nat.zero_le _⟩
  ·rw [if_neg e,List.length_cons,List.length_cons];lia
theorem Bf:∀ {As Bs:List bF} {j:Nat} {A B:bF},j < eX As Bs -> As[j]? = some A -> Bs[j]? = some B -> A.before ≠ B.before
 | A :: As,B :: Bs,0,A',B',h,h1,h2=>by
  cases h1;cases h2
  rw [eX] at h
  intro e
  rw [if_pos e] at h
  exact Nat.lt_irrefl _ h
 | A :: As,B :: Bs,j + 1,A',B',h,h1,h2=>by
  rw [eX] at h
  by_cases e:A.before = B.before
  ·rw [if_pos e] at h;exact absurd h (Nat.not_lt_zero _)
  ·rw [if_neg e] at h
   exact Bf (As:=As) (Bs:=Bs) (j:=j) (by lia) (by simpa using h1) (by simpa using h2)
 | [],_,j,_,_,h,_,_=>by rw [eX] at h;exact absurd h (Nat.not_lt_zero _);intros;simp_all
 | _ :: _,[],j,_,_,h,_,_=>by rw [eX] at h;exact absurd h (Nat.not_lt_zero _);intros;simp_all
theorem uI:∀ {As Bs:List bF} {A B:bF},As[eX As Bs]? = some A -> Bs[eX As Bs]? = some B -> A.before = B.before
 | A :: As,B :: Bs,A',B',h1,h2=>by
  rw [eX] at h1 h2
  by_cases e:A.before = B.before
  ·rw [if_pos e] at h1 h2
   cases h1;cases h2
   exact e
  ·rw [if_neg e] at h1 h2
   exact uI (As:=As) (Bs:=Bs) (by simpa using h1) (by simpa using h2)
 | [],_,_,_,h1,_=>by simp at h1
 | _ :: _,[],_,_,_,h2=>by simp at h2
theorem Ck {ms:List aC} {b b':List Nat} {rs:List Str} {As Bs:List bF} (hA:Chain ms b rs As) (hB:Chain ms b' rs Bs):As.drop (eX As Bs) = Bs.drop (eX As Bs):=by
 have l1:=hA.len
 have l2:=hB.len
 by_cases hc:eX As Bs < As.length
 ·obtain ⟨A,eA⟩:∃ A,As[eX As Bs]? = some A:=⟨_,List.getElem?_eq_getElem hc⟩
  obtain ⟨B,eB⟩:∃ B,Bs[eX As Bs]? = some B:=⟨_,List.getElem?_eq_getElem (by lia)⟩
  have e:=uI eA eB
  rw [(hA.at eA).2.1,(hB.at eB).2.1] at e
  have k1:=(hA.split (eX As Bs)).2
  have k2:=(hB.split (eX As Bs)).2
  rw [e] at k1
  exact k1.one k2
 ·rw [List.drop_eq_nil_of_le (by lia),List.drop_eq_nil_of_le (by lia)]
theorem NY {i f k b g g':Nat} (h:i + k <= g) (e:g' = i + f + (g - (i + k))) (hf:b <= f) (hk:b <= k):g' - (i + f - b) = g - (i + k - b):=by lia
theorem PU {i f k b g g':Nat} (h:i + k <= g) (e:g' = i + f + (g - (i + k))) (hf:b <= f) (hk:b <= k):g' = i + f - b + (g - (i + k - b)):=by lia
theorem ar2 {a b k:Nat} (h:a + b <= k):a + (k - a - b) = k - b:=by lia
theorem ar3 {i k b:Nat}:i + k - b - i = k - b:=by lia
theorem ar4 {i a b f:Nat} (h:a + b <= f):i + a + (f - b - a) = i + f - b:=by lia
theorem ar5 {i a b f n:Nat} (h:a + b <= f) (h2:i + f <= n):min (f - b - a) (n - (i + a)) = f - b - a:=by lia
theorem pG {ms:List aC} {Gs Gs':List bF} {rs fs:List Str} {i k:Nat} (hC:Chain ms [0] rs Gs) (hle:i + k <= rs.length) (hC':Chain ms [0] (rs.take i ++ fs ++ rs.drop (i + k)) Gs') :
  ∃ ah bk Gm c,j6 ms Gs i k fs ah bk Gm c Gs' /\ ah = cN ((rs.drop i).take k) fs /\ bk = cN (((rs.drop i).take k).drop ah).reverse (fs.drop ah).reverse /\ Gm.length = fs.length - bk - ah /\ c = eX (Gs'.drop (i + fs.length - bk)) (Gs.drop (i + k - bk)) /\ ah + bk <= k /\ ah + bk <= fs.length:=by
 have hr:=hC.rows
 have hl:=hC.len
 have hl':=hC'.len
 obtain ⟨tk,htk⟩:∃ tk,tk = (rs.drop i).take k:=⟨_,rfl⟩
 have htl:tk.length = k:=by rw [htk,List.length_take,List.length_drop];lia
 obtain ⟨ah,ea⟩:∃ ah,ah = cN tk fs:=⟨_,rfl⟩
 obtain ⟨bk,eb⟩:∃ bk,bk = cN (tk.drop ah).reverse (fs.drop ah).reverse:=⟨_,rfl⟩
 have a1:=iJ tk fs
 have a2:=iJ (tk.drop ah).reverse (fs.drop ah).reverse
 rw [← ea] at a1
 rw [← eb,List.length_reverse,List.length_reverse,List.length_drop,List.length_drop] at a2
 have hF:ah + bk <= fs.length:=by lia
 have hK:ah + bk <= k:=by lia
 have hiK:i + ah <= rs.length:=Nat.le_trans (Nat.add_le_add_left (Nat.le_trans (Nat.le_add_right _ _) hK) i) hle
 have t1:tk.take ah = fs.take ah:=by rw [ea];exact kZ tk fs
 have t2:(tk.drop ah).reverse.take bk = (fs.drop ah).reverse.take bk:=by rw [eb];exact kZ _ _
 have t3:tk.drop (k - bk) = fs.drop (fs.length - bk):=by
  have:=congrArg List.reverse t2
  rw [List.reverse_take,List.reverse_take,List.reverse_reverse,List.reverse_reverse,List.length_reverse,List.length_reverse,List.length_drop,List.length_drop,List.drop_drop,List.drop_drop,htl] at this
  rw [show ah + (k - ah - bk) = k - bk from ar2 hK,show ah + (fs.length - ah - bk) = fs.length - bk from ar2 hF] at this
  exact this
 have hdk:(rs.drop i).drop k = rs.drop (i + k):=List.drop_drop
 have hri:rs.drop i = tk ++ rs.drop (i + k):=by rw [htk,← hdk,List.take_append_drop]
 have hrs:rs = rs.take i ++ (tk ++ rs.drop (i + k)):=by rw [← hri,List.take_append_drop]
 have hil:(rs.take i).length = i:=by rw [List.length_take];lia
 have e1:(rs.take i ++ fs ++ rs.drop (i + k)).take (i + ah) = rs.take (i + ah):=by
  conv=>rhs;rw [hrs]
  rw [List.append_assoc]
  conv=>lhs;rw [List.take_append,hil,List.take_of_length_le (by rw [hil];lia),show i + ah - i = ah by lia,List.take_append_of_le_length a1.2]
  conv=>rhs;rw [List.take_append,hil,List.take_of_length_le (by rw [hil];lia),show i + ah - i = ah by lia,List.take_append_of_le_length (by lia)]
  rw [t1]
 have e2:(rs.take i ++ fs ++ rs.drop (i + k)).drop (i + fs.length - bk) = rs.drop (i + k - bk):=by
  conv=>rhs;rw [hrs]
  rw [List.append_assoc]
  conv=>lhs;rw [List.drop_append,hil,List.drop_of_length_le (by rw [hil];lia),show i + fs.length - bk - i = fs.length - bk from ar3,List.drop_append_of_le_length (by lia)]
  conv=>rhs;rw [List.drop_append,hil,List.drop_of_length_le (by rw [hil];lia),show i + k - bk - i = k - bk from ar3,List.drop_append_of_le_length (by rw [htl];exact Nat.sub_le _ _)]
  rw [t3]
 have e3:((rs.take i ++ fs ++ rs.drop (i + k)).drop (i + ah)).take (fs.length - bk - ah) = (fs.drop ah).take (fs.length - bk - ah):=by
  rw [List.append_assoc,List.drop_append,hil,List.drop_of_length_le (by rw [hil];exact Nat.le_add_right _ _),show i + ah - i = ah from Nat.add_sub_cancel_left ..,List.drop_append_of_le_length a1.2,List.nil_append,List.take_append_of_le_length (by rw [List.length_drop];lia)]
 obtain ⟨p1,p2⟩:=hC.split (i + ah)
 obtain ⟨p1',p2'⟩:=hC'.split (i + ah)
 rw [e1] at p1'
 have eG:=p1.one p1'
 obtain ⟨m1,_⟩:=p2'.split (fs.length - bk - ah)
 rw [e3,← eG] at m1
 obtain ⟨_,q1⟩:=hC.split (i + k - bk)
 obtain ⟨_,q1'⟩:=hC'.split (i + fs.length - bk)
 rw [e2] at q1'
 have hlr:(rs.take i ++ fs ++ rs.drop (i + k)).length = i + fs.length + (rs.length - (i + k)):=by rw [List.length_append,List.length_append,hil,List.length_drop]
 rw [hlr] at hl'
 have lm:((Gs'.drop (i + ah)).take (fs.length - bk - ah)).length = fs.length - bk - ah:=by rw [List.length_take,List.length_drop];exact ar5 hF (by rw [hl'];exact Nat.le_add_right _ _)
 have en:i + ah + (fs.length - bk - ah) = i + fs.length - bk:=ar4 hF
 have lt:(Gs.take (i + ah)).length = i + ah:=by rw [List.length_take];exact Nat.min_eq_left (by rw [hl];exact hiK)
 have lG1:(Gs.take (i + ah) ++ (Gs'.drop (i + ah)).take (fs.length - bk - ah)).length = i + fs.length - bk:=by rw [List.length_append,lm,lt];exact en
 have eG1:Gs.take (i + ah) ++ (Gs'.drop (i + ah)).take (fs.length - bk - ah) = Gs'.take (i + fs.length - bk):=by
  rw [eG,← en]
  exact List.take_add.symm
 have dl:=uL (Gs'.drop (i + fs.length - bk)) (Gs.drop (i + k - bk))
 rw [List.length_drop,List.length_drop] at dl
 have dd:=Ck q1' q1
 refine ⟨ah,bk,(Gs'.drop (i + ah)).take (fs.length - bk - ah),_,⟨by rw [hl];exact hle,by rw [hr,← htk];exact ea,by rw [hr,← htk];exact eb,m1,?_⟩,by rw [← htk];exact ea,by rw [← htk];exact eb,lm,rfl,hK,hF⟩
 rw [lm,en,eG1]
 have hle2:i + k <= Gs.length:=by rw [hl];exact hle
 have hl2:Gs'.length = i + fs.length + (Gs.length - (i + k)):=by rw [hl];exact hl'
 have hF2:bk <= fs.length:=Nat.le_trans (Nat.le_add_left _ _) hF
 have hK2:bk <= k:=Nat.le_trans (Nat.le_add_left _ _) hK
 have hGl:=PU hle2 hl2 hF2 hK2
 have hGd:=NY hle2 hl2 hF2 hK2
 have lT:(Gs'.take (i + fs.length - bk)).length = i + fs.length - bk:=by rw [List.length_take];exact Nat.min_eq_left (by rw [hGl];exact Nat.le_add_right _ _)
 refine ⟨?_,?_,λj hj=>?_,λj hj=>?_,λj h1 h2=>?_,λG hG=>?_⟩
 ·rw [List.length_append,lT,List.length_drop];first | exact hGl | exact hGl.symm | lia
 ·rw [List.length_append,lT,List.length_drop];first | exact hGl | exact hGl.symm | lia
 ·rw [List.getElem?_append_left (by lia),List.getElem?_take,if_pos hj]
 ·rw [List.getElem?_append_right (by lia),lT]
  have:=congrArg (λl=>l[j - (i + fs.length - bk) - eX (Gs'.drop (i + fs.length - bk)) (Gs.drop (i + k - bk))]?) dd
  simp only [List.getElem?_drop] at this
  rw [List.getElem?_drop]
  rw [show i + fs.length - bk + (eX (Gs'.drop (i + fs.length - bk)) (Gs.drop (i + k - bk)) + (j - (i + fs.length - bk) - eX (Gs'.drop (i + fs.length - bk)) (Gs.drop (i + k - bk)))) = j by lia] at this
  rw [this]
  congr 1
  lia
 ·obtain ⟨d,rfl⟩:∃ d,j = i + fs.length - bk + d:=⟨j - (i + fs.length - bk),by lia⟩
  obtain ⟨A,hA⟩:∃ A,Gs'[i + fs.length - bk + d]? = some A:=⟨_,List.getElem?_eq_getElem (by lia)⟩
  obtain ⟨B,hB⟩:∃ B,Gs[i + k - bk + d]? = some B:=⟨_,List.getElem?_eq_getElem (by lia)⟩
  have hA2:(Gs'.drop (i + fs.length - bk))[d]? = some A:=by rw [List.getElem?_drop];exact hA
  have hB2:(Gs.drop (i + k - bk))[d]? = some B:=by rw [List.getElem?_drop];exact hB
  obtain ⟨x1,x2,x3⟩:=hC'.at hA
  obtain ⟨y1,_,_⟩:=q1.at hB2
  obtain ⟨w1,_,_⟩:=q1'.at hA2
  refine ⟨B,A,?_,hA,?_,x2,?_,x3⟩
  ·rw [List.getElem?_append_right (by rw [lT];exact Nat.le_add_right _ _),lT,Nat.add_sub_cancel_left];exact hB2
  ·rw [y1] at w1
   injection w1 with w1
   exact w1.symm
  ·rw [← x2]
   exact λz=>Bf (by lia) hA2 hB2 z.symm
 ·rw [List.getElem?_append_right (by lia),lT,Nat.add_sub_cancel_left] at hG
  have hz:=(List.getElem?_eq_some_iff.mp hG).1
  rw [List.length_drop] at hz
  obtain ⟨A,hA⟩:∃ A,(Gs'.drop (i + fs.length - bk))[eX (Gs'.drop (i + fs.length - bk)) (Gs.drop (i + k - bk))]? = some A:=⟨_,List.getElem?_eq_getElem (by rw [List.length_drop,hGd];exact hz)⟩
  have e:=uI hA hG
  rw [List.getElem?_drop] at hA
  rw [← e]
  exact (hC'.at hA).2.1
theorem Ia {xs:List Str} {j:Nat} {x:Str} (h:xs[j]? = some x):rA (xs.map V.str) (j:Int) = some (.str x):=by
 have hj:=(List.getElem?_eq_some_iff.mp h).1
 rw [rA,Bo,if_pos (by lia),if_pos (by rw [List.length_map];lia),Int.toNat_natCast,Option.bind_some,List.getElem?_map,h]
 rfl
theorem vZ {xs:List Str} {j:Nat} {x:Str} (h:xs[xs.length - 1 - j]? = some x) (hj:j < xs.length):rA (xs.map V.str) ((-1:Int) - (j:Int)) = some (.str x):=by
 have e:((-1:Int) - (j:Int) + ((xs.length:Nat):Int)).toNat = xs.length - 1 - j:=by lia
 rw [rA,Bo,List.length_map,if_neg (by lia),if_pos (by lia),e,Option.bind_some,List.getElem?_map,h]
 rfl
theorem Gz {xs:List Str} {a j:Nat} (h:a + j < xs.length):(xs.drop a).reverse[j]? = xs[xs.length - 1 - j]?:=by
 rw [List.getElem?_reverse (by rw [List.length_drop];lia),List.length_drop,List.getElem?_drop]
 congr 1
 lia
theorem HU {As Bs:List bF} {d:Nat} {A B:bF} (h1:As[d]? = some A) (h2:Bs[d]? = some B):eX (As.drop d) (Bs.drop d) = if A.before = B.before then 0 else eX (As.drop (d + 1)) (Bs.drop (d + 1)) + 1:=by
 rw [dO h1,dO h2,eX]
theorem F3 {As Bs:List bF} {d:Nat} (h:As.length <= d):eX (As.drop d) (Bs.drop d) = 0:=by
 rw [List.drop_eq_nil_of_le h,eX]
 intros
 simp_all
theorem ar6 {k a j:Nat} (h:a + j < k):k - (j + 1) < k - j:=by lia
theorem ar7 {b j x:Nat} (h:b = j + (x + 1)):b = j + 1 + x:=by lia
theorem ar8 {a j f l b x:Nat} (e:l = f - a) (h:¬ ((a:Int) + (j:Int) < (f:Int))) (hb:b <= f - a) (hj:b = j + x):j = l:=by lia
theorem QL {f a b:Nat} (h:a + b <= f):(f:Int) - (a:Int) - (b:Int) = ((f - b - a:Nat):Int):=by lia
theorem Rf {x d n:Nat} (h:((x + d:Nat):Int) < (n:Int)):d < n - x:=by lia
theorem Pz {x d n:Nat} (h:¬ ((x + d:Nat):Int) < (n:Int)):n - x <= d:=by lia
theorem QT {n d:Nat} (h:d < n):n - (d + 1) < n - d:=by lia
theorem ar9 {i k b:Nat} (h:b <= k):(i:Int) + (k:Int) - (b:Int) = ((i + k - b:Nat):Int):=by lia
noncomputable def IV:Sp:=λvs H Q _=>∃ (l1 l2 lf:Addr) (Gs Gs':List bF) (fs tk:List Str) (i k ah bk:Nat),vs = [.ref l1,.ref l2,.int i,.int k,.ref lf] /\ KP H l1 Gs /\ KP H l2 Gs' /\ H lf = some (.lst (fs.map V.str)) /\ i + k <= Gs.length /\ Gs'.length = i + fs.length + (Gs.length - (i + k)) /\
 tk = ((Gs.map (·.row)).drop i).take k /\ ah = cN tk fs /\ bk = cN (tk.drop ah).reverse (fs.drop ah).reverse /\ Q (.int ((fs.length - bk - ah + eX (Gs'.drop (i + fs.length - bk)) (Gs.drop (i + k - bk)):Nat):Int)) H
theorem LX (T:Txt K mg t):bC P w K mg base c6 1 t.qK t.zq ["_law_former","_law_kept","_law_row_here","_law_many","_law_fresh"] IV:=by
 refine T.zl.ok iH ?_ ?_
 walk_at "i"
 ·obtain ⟨l1,l2,lf,Gs,Gs',fs,tk,i,k,ah,bk,rfl,⟨ps,hl1,hA1⟩,⟨ps',hl2,hA2⟩,hlf,hle,hl',htk,ea,eb,q⟩:=h
  have htl:tk.length = k:=by rw [htk,List.length_take,List.length_drop,List.length_map];lia
  have a1:=iJ tk fs
  have a2:=iJ (tk.drop ah).reverse (fs.drop ah).reverse
  rw [← ea] at a1
  rw [← eb,List.length_reverse,List.length_reverse,List.length_drop,List.length_drop] at a2
  have hbk:bk <= k:=by lia
  have hbk2:bk <= k - ah:=by lia
  have hbf:ah + bk <= fs.length:=by lia
  have hbf2:bk <= fs.length:=by lia
  have row:∀ {j:Nat} {x:Str},tk[j]? = some x -> ∃ p lo lt lk G,ps[i + j]? = some p /\ H p = some (.tup [.str x,.ref lo,.ref lt,.ref lk]) /\ Gs[i + j]? = some G /\ G.row = x:=λ{j x} hx=>by
   rw [htk,List.getElem?_take] at hx
   by_cases hj:j < k
   ·rw [if_pos hj,List.getElem?_drop,List.getElem?_map] at hx
    obtain ⟨G,hG,rfl⟩:=Option.map_eq_some_iff.mp hx
    obtain ⟨p,hp,lo,lt,lk,e1,_⟩:=hA1.at hG
    exact ⟨p,lo,lt,lk,G,hp,e1,hG,rfl⟩
   ·rw [if_neg hj] at hx;cases hx
  refine @ao _ _ _ _ _ _ _ (aB (i:=5) iH.nd rfl (Or.inl rfl) ak) ?_
  refine @aG _ _ _ _ _ _ _ (λZ' H'=>H' = H /\ ∃ x6 x7 x8 x9,Z' = [some (.ref l1),some (.ref l2),some (.int i),some (.int k),some (.ref lf),some (.int ah),x6,x7,x8,x9]) (gu PassesOwn.never (PW.pt (dH (aA ff (pv 5) (pv 3) (aI _)) (dH (aA ff (pv 5) (aO aR (by rfl) T.bK (by decide +kernel) (aa (pv 4) af)) (aI _)) (di (aA cI (aL bw (aL aS (pv 0) (aK aY (pv 2) (pv 5)) (λ_ _=>rfl)) ak (λ_ _=>rfl)) (aL aS (pv 4) (pv 5) (λ_ _=>rfl)) (aI _)))))) ay) ?_ ?_
  ·refine ⟨λm Z' H'=>∃ j:Nat,(∃ x6 x7 x8 x9,Z' = [some (.ref l1),some (.ref l2),some (.int i),some (.int k),some (.ref lf),some (.int (j:Nat)),x6,x7,x8,x9]) /\ H' = H /\ m = k - j /\ ah = j + cN (tk.drop j) (fs.drop j),⟨_,0,⟨_,_,_,_,rfl⟩,rfl,rfl,by rw [List.drop_zero,List.drop_zero,← ea];lia⟩,?_⟩
   rintro m Z' H' ⟨j,⟨x6,x7,x8,x9,rfl⟩,rfl,rfl,hj⟩
   refine ⟨_,rfl,_,rfl,_,_,rfl,rfl,_,rfl,dJ (λh1=>?_) (λh1=>?_)⟩
   ·have h1:j < k:=by lia
    refine ⟨_,rfl,_,rfl,_,_,rfl,.inl (bf.of hlf),_,_,rfl,rfl,_,rfl,dJ (λh2=>?_) (λh2=>?_)⟩
    ·rw [List.length_map] at h2
     have h2:j < fs.length:=by lia
     obtain ⟨x,hx⟩:∃ x,tk[j]? = some x:=⟨_,List.getElem?_eq_getElem (by lia)⟩
     obtain ⟨y,hy⟩:∃ y,fs[j]? = some y:=⟨_,List.getElem?_eq_getElem h2⟩
     obtain ⟨p,lo,lt,lk,G,hp,hpt,_,_⟩:=row hx
     rw [se hx hy] at hj
     refine ⟨_,rfl,_,rfl,_,rfl,_,_,rfl,rfl,_,_,_,_,rfl,rfl,bf.of hl1,c9 (k:=i + j) hp,_,_,_,_,rfl,rfl,d8.of hpt,rfl,_,rfl,_,rfl,_,_,_,_,rfl,rfl,bf.of hlf,Ia hy,rfl,_,rfl,dJ (λh3=>?_) (λh3=>?_)⟩
     ·injection h3 with h3
      rw [if_pos h3] at hj
      refine ⟨_,λZ' H' z=>z,@av _ _ _ _ _ _ (aB (i:=5) iH.nd rfl (Or.inl rfl) (aK aY (pv 5) ak)) ⟨_,rfl,_,_,rfl,rfl,k - (j + 1),by lia,j + 1,⟨_,_,_,_,rfl⟩,rfl,rfl,by lia⟩⟩
     ·rw [if_neg (λz=>h3 (by rw [z]))] at hj
      exact ⟨rfl,_,_,_,_,by rw [show ah = j by lia]⟩
    ·rw [List.length_map] at h2
     rw [jd (.inr (by lia))] at hj
     exact ⟨rfl,_,_,_,_,by rw [show ah = j by lia]⟩
   ·rw [jd (.inl (by lia))] at hj
    exact ⟨rfl,_,_,_,_,by rw [show ah = j by lia]⟩
  rintro Z' H' ⟨rfl,x6,x7,x8,x9,rfl⟩
  obtain ⟨TT,hTT⟩:∃ TT,TT = (tk.drop ah).reverse:=⟨_,rfl⟩
  obtain ⟨FF,hFF⟩:∃ FF,FF = (fs.drop ah).reverse:=⟨_,rfl⟩
  have lT:TT.length = k - ah:=by rw [hTT,List.length_reverse,List.length_drop,htl]
  have lF:FF.length = fs.length - ah:=by rw [hFF,List.length_reverse,List.length_drop]
  have eb':bk = cN TT FF:=by rw [hTT,hFF];exact eb
  refine @ao _ _ _ _ _ _ _ (aB (i:=6) iH.nd rfl (Or.inl rfl) ak) ?_
  refine @aG _ _ _ _ _ _ _ (λZ' H2=>H2 = H' /\ ∃ x7 x8 x9,Z' = [some (.ref l1),some (.ref l2),some (.int i),some (.int k),some (.ref lf),some (.int ah),some (.int bk),x7,x8,x9]) (gu PassesOwn.never (PW.pt (dH (aA ff (aK aY (pv 5) (pv 6)) (pv 3) (aI _)) (dH (aA ff (aK aY (pv 5) (pv 6)) (aO aR (by rfl) T.bK (by decide +kernel) (aa (pv 4) af)) (aI _)) (di (aA cI (aL bw (aL aS (pv 0) (aK dR (aK dR (aK aY (pv 2) (pv 3)) ak) (pv 6)) (λ_ _=>rfl)) ak (λ_ _=>rfl)) (aL aS (pv 4) (aK dR (iu fG ak) (pv 6)) (λ_ _=>rfl)) (aI _)))))) ay) ?_ ?_
  ·refine ⟨λm Z' H2=>∃ j:Nat,(∃ x7 x8 x9,Z' = [some (.ref l1),some (.ref l2),some (.int i),some (.int k),some (.ref lf),some (.int ah),some (.int (j:Nat)),x7,x8,x9]) /\ H2 = H' /\ m = k - j /\ bk = j + cN (TT.drop j) (FF.drop j),⟨_,0,⟨_,_,_,rfl⟩,rfl,rfl,by rw [List.drop_zero,List.drop_zero,← eb'];lia⟩,?_⟩
   rintro m Z' H2 ⟨j,⟨x7,x8,x9,rfl⟩,rfl,rfl,hj⟩
   refine ⟨_,rfl,_,rfl,_,_,rfl,rfl,_,rfl,_,_,rfl,rfl,_,rfl,dJ (λh1=>?_) (λh1=>?_)⟩
   ·have h1:ah + j < k:=by lia
    refine ⟨_,rfl,_,rfl,_,_,rfl,rfl,_,rfl,_,_,rfl,.inl (bf.of hlf),_,_,rfl,rfl,_,rfl,dJ (λh2=>?_) (λh2=>?_)⟩
    ·rw [List.length_map] at h2
     have h2:ah + j < fs.length:=by lia
     obtain ⟨x,hx⟩:∃ x,tk[tk.length - 1 - j]? = some x:=⟨_,List.getElem?_eq_getElem (by lia)⟩
     obtain ⟨y,hy⟩:∃ y,fs[fs.length - 1 - j]? = some y:=⟨_,List.getElem?_eq_getElem (by lia)⟩
     have hx':TT[j]? = some x:=by rw [hTT,Gz (by lia)];exact hx
     have hy':FF[j]? = some y:=by rw [hFF,Gz (by lia)];exact hy
     rw [htl] at hx
     obtain ⟨p,lo,lt,lk,G,hp,hpt,_,_⟩:=row hx
     rw [se hx' hy'] at hj
     have hat:rA (ps.map V.ref) ((i:Int) + (k:Int) - 1 - (j:Int)) = some (.ref p):=by
      rw [show ((i:Int) + (k:Int) - 1 - (j:Int)) = ((i + (k - 1 - j):Nat):Int) by lia]
      exact c9 hp
     refine ⟨_,rfl,_,rfl,_,rfl,_,_,rfl,rfl,_,_,rfl,rfl,_,rfl,_,_,rfl,rfl,_,_,_,_,rfl,rfl,bf.of hl1,hat,_,_,_,_,rfl,rfl,d8.of hpt,rfl,_,rfl,_,rfl,_,rfl,_,_,rfl,rfl,_,_,_,_,rfl,rfl,bf.of hlf,vZ hy (by lia),rfl,_,rfl,dJ (λh3=>?_) (λh3=>?_)⟩
     ·injection h3 with h3
      rw [if_pos h3] at hj
      refine ⟨_,λZ' H' z=>z,@av _ _ _ _ _ _ (aB (i:=6) iH.nd rfl (Or.inl rfl) (aK aY (pv 6) ak)) ⟨_,rfl,_,_,rfl,rfl,k - (j + 1),ar6 h1,j + 1,⟨_,_,_,rfl⟩,rfl,rfl,ar7 hj⟩⟩
     ·rw [if_neg (λz=>h3 (by rw [z]))] at hj
      exact ⟨rfl,_,_,_,by rw [show bk = j from hj]⟩
    ·rw [List.length_map] at h2
     rw [jd (.inr (ar8 lF h2 a2.2 hj))] at hj
     exact ⟨rfl,_,_,_,by rw [show bk = j from hj]⟩
   ·rw [jd (.inl (ar8 lT h1 hbk2 hj))] at hj
    exact ⟨rfl,_,_,_,by rw [show bk = j from hj]⟩
  rintro Z' H2 ⟨rfl,x7,x8,x9,rfl⟩
  obtain ⟨AA,hAA⟩:∃ AA,AA = Gs'.drop (i + fs.length - bk):=⟨_,rfl⟩
  obtain ⟨BB,hBB⟩:∃ BB,BB = Gs.drop (i + k - bk):=⟨_,rfl⟩
  have lA:AA.length = Gs.length - (i + k - bk):=by rw [hAA,List.length_drop];exact NY hle hl' hbf2 hbk
  have lB:BB.length = Gs.length - (i + k - bk):=by rw [hBB,List.length_drop]
  rw [← hAA,← hBB] at q
  have hp1:=hA1.1
  have hp2:=hA2.1
  refine @aG _ _ _ _ _ _ _ (λZ' H3=>H3 = H2 /\ ∃ x8 x9,Z' = [some (.ref l1),some (.ref l2),some (.int i),some (.int k),some (.ref lf),some (.int ah),some (.int bk),some (.int ((fs.length - bk - ah:Nat):Int)),x8,x9]) (aB (i:=7) iH.nd rfl (Or.inl rfl) (aK dR (aK dR (aO aR (by rfl) T.bK (by decide +kernel) (aa (pv 4) af)) (pv 5)) (pv 6))) ⟨_,rfl,_,_,rfl,.inl (bf.of hlf),_,rfl,_,_,rfl,rfl,_,rfl,_,_,rfl,rfl,rfl,x8,x9,?_⟩ ?_
  ·show [_,_,_,_,_,_,_,some (V.int (((fs.map V.str).length:Int) - (ah:Int) - (bk:Int))),_,_] = _
   rw [List.length_map,show ((fs.length:Int) - (ah:Int) - (bk:Int)) = ((fs.length - bk - ah:Nat):Int) from QL hbf]
  rintro Z' H3 ⟨rfl,x8,x9,rfl⟩
  refine @aG _ _ _ _ _ _ _ (λZ' H4=>H4 = H3 /\ ∃ x9,Z' = [some (.ref l1),some (.ref l2),some (.int i),some (.int k),some (.ref lf),some (.int ah),some (.int bk),some (.int ((fs.length - bk - ah:Nat):Int)),some (.int ((i + k - bk:Nat):Int)),x9]) (aB (i:=8) iH.nd rfl (Or.inl rfl) (aK dR (aK aY (pv 2) (pv 3)) (pv 6))) ⟨_,rfl,_,rfl,_,_,rfl,rfl,_,rfl,_,_,rfl,rfl,rfl,x9,?_⟩ ?_
  ·show [_,_,_,_,_,_,_,_,some (V.int ((i:Int) + (k:Int) - (bk:Int))),_] = _
   rw [show ((i:Int) + (k:Int) - (bk:Int)) = ((i + k - bk:Nat):Int) from ar9 hbk]
  rintro Z' H4 ⟨rfl,x9,rfl⟩
  refine @aG _ _ _ _ _ _ _ (λZ' H5=>H5 = H4 /\ Z' = [some (.ref l1),some (.ref l2),some (.int i),some (.int k),some (.ref lf),some (.int ah),some (.int bk),some (.int ((fs.length - bk - ah:Nat):Int)),some (.int ((i + k - bk:Nat):Int)),some (.int ((i + fs.length - bk:Nat):Int))]) (aB (i:=9) iH.nd rfl (Or.inl rfl) (aK dR (aK aY (pv 2) (aO aR (by rfl) T.bK (by decide +kernel) (aa (pv 4) af))) (pv 6))) ⟨_,rfl,_,rfl,_,_,rfl,.inl (bf.of hlf),_,_,rfl,rfl,_,rfl,_,_,rfl,rfl,rfl,?_⟩ ?_
  ·show [_,_,_,_,_,_,_,_,_,some (V.int ((i:Int) + ((fs.map V.str).length:Int) - (bk:Int)))] = _
   rw [List.length_map,show ((i:Int) + (fs.length:Int) - (bk:Int)) = ((i + fs.length - bk:Nat):Int) from ar9 hbf2]
  rintro Z' H5 ⟨rfl,rfl⟩
  refine @aG _ _ _ _ _ _ _ (λZ' H6=>H6 = H5 /\ ∃ x8 x9,Z' = [some (.ref l1),some (.ref l2),some (.int i),some (.int k),some (.ref lf),some (.int ah),some (.int bk),some (.int ((fs.length - bk - ah + eX AA BB:Nat):Int)),x8,x9]) (gu PassesOwn.never (PW.pt (dH (aA ff (pv 9) (aO aR (by rfl) T.bK (by decide +kernel) (aa (pv 1) af)) (aI _)) (di (aA (lM (Nat.lt_of_succ_lt (lG hr))) (aL bw (aL aS (pv 1) (pv 9) (λ_ _=>rfl)) ak (λ_ _=>rfl)) (aL bw (aL aS (pv 0) (pv 8) (λ_ _=>rfl)) ak (λ_ _=>rfl)) (aI _))))) ay) ?_ ?_
  ·refine ⟨λm Z' H6=>∃ d:Nat,Z' = [some (.ref l1),some (.ref l2),some (.int i),some (.int k),some (.ref lf),some (.int ah),some (.int bk),some (.int ((fs.length - bk - ah + d:Nat):Int)),some (.int ((i + k - bk + d:Nat):Int)),some (.int ((i + fs.length - bk + d:Nat):Int))] /\ H6 = H5 /\ m = AA.length - d /\ eX AA BB = d + eX (AA.drop d) (BB.drop d),⟨_,0,rfl,rfl,rfl,by rw [List.drop_zero,List.drop_zero];lia⟩,?_⟩
   rintro m Z' H6 ⟨d,rfl,rfl,rfl,hd⟩
   have hdl:=uL AA BB
   refine ⟨_,rfl,_,rfl,_,_,rfl,.inl (bf.of hl2),_,_,rfl,rfl,_,rfl,dJ (λh1=>?_) (λh1=>?_)⟩
   ·rw [List.length_map] at h1
    have h1:d < AA.length:=by rw [hAA,List.length_drop,← hp2];exact Rf h1
    obtain ⟨A,hA⟩:∃ A,AA[d]? = some A:=⟨_,List.getElem?_eq_getElem h1⟩
    obtain ⟨B,hB⟩:∃ B,BB[d]? = some B:=⟨_,List.getElem?_eq_getElem (by rw [lB,← lA];exact h1)⟩
    rw [HU hA hB] at hd
    rw [hAA,List.getElem?_drop] at hA
    rw [hBB,List.getElem?_drop] at hB
    obtain ⟨p,hp,lo,lt,lk,e1,e2,_⟩:=hA1.at hB
    obtain ⟨p',hp',lo',lt',lk',e1',e2',_⟩:=hA2.at hA
    refine ⟨_,rfl,_,rfl,_,_,_,_,rfl,rfl,bf.of hl2,c9 hp',_,_,_,_,rfl,rfl,d8.of e1',rfl,_,rfl,_,rfl,_,_,_,_,rfl,rfl,bf.of hl1,c9 hp,_,_,_,_,rfl,rfl,d8.of e1,rfl,lo',lo,_,_,rfl,rfl,bf.of e2',bf.of e2,p7 _ _,_,rfl,g7 (λh3=>?_) (λh3=>?_)⟩
    ·rw [if_neg (λz=>h3 (by rw [z]))] at hd
     refine ⟨_,λZ' H' z=>z,@ao _ _ _ _ _ _ _ (aB (i:=7) iH.nd rfl (Or.inl rfl) (aK aY (pv 7) ak)) ⟨_,rfl,_,_,rfl,rfl,@ao _ _ _ _ _ _ _ (aB (i:=8) iH.nd rfl (Or.inl rfl) (aK aY (pv 8) ak)) ⟨_,rfl,_,_,rfl,rfl,@av _ _ _ _ _ _ (aB (i:=9) iH.nd rfl (Or.inl rfl) (aK aY (pv 9) ak)) ⟨_,rfl,_,_,rfl,rfl,AA.length - (d + 1),QT h1,d + 1,rfl,rfl,rfl,ar7 hd⟩⟩⟩⟩
    ·rw [if_pos (qX h3)] at hd
     exact ⟨rfl,_,_,by rw [show eX AA BB = d from hd]⟩
   ·rw [List.length_map] at h1
    rw [F3 (by rw [hAA,List.length_drop,← hp2];exact Pz h1)] at hd
    exact ⟨rfl,_,_,by rw [show eX AA BB = d from hd]⟩
  rintro Z' H6 ⟨rfl,x8,x9,rfl⟩
  exact @av _ _ _ _ _ _ (aJ (pv 7)) ⟨_,rfl,q⟩
theorem iF (x:Str) (n:Nat):(PySem.Txt.slice x none (some (n:Int))).cps.toList = x.cps.toList.take n:=by
 by_cases h:n <= x.length
 ·have:=eq_of_beq (PyProof.Rows.slice_closes_toL (x:=x) (j:=(n:Int)) (by lia) (by lia))
  rw [this]
  simp
 ·have e:PySem.Txt.slice x none (some (n:Int)) = PySem.Txt.slice x none (some (x.length:Int)):=by
   have e2:PySem.Builtin.Str.strSliceIndices none (some (n:Int)) 1 x.length = PySem.Builtin.Str.strSliceIndices none (some (x.length:Int)) 1 x.length:=by
    have h0:¬ ((n:Int) < 0):=by lia
    have h1:¬ ((x.length:Int) < 0):=by lia
    have h2:(1:Int) > 0:=by decide
    have h3:(x.length:Int) <= (n:Int):=by lia
    simp only [PySem.Builtin.Str.strSliceIndices,h0,h1,h2,if_false,if_true,Int.min_eq_right h3,Int.min_self]
   unfold PySem.Txt.slice
   rw [e2]
  have:=eq_of_beq (PyProof.Rows.slice_closes_toL (x:=x) (j:=(x.length:Int)) (by lia) (by lia))
  rw [List.take_of_length_le (l:=x.cps.toList) (i:=n) (by rw [bq];lia),e,this]
  show ((x.cps.toList.drop (0:Int).toNat).take ((x.length:Int) - 0).toNat) = _
  exact List.take_of_length_le (by show x.cps.toList.length <= _;rw [bq];lia)
def mZ (x:Str) (j:Nat) (z:Str):Str:=PySem.Txt.slice x none (some (j:Int)) ++ z ++ PySem.Txt.slice x (some (j:Int)) none
def sN (x:Str) (j:Nat) (y:Str) (k:Nat):Str:=PySem.Txt.slice x none (some (j:Int)) ++ PySem.Txt.slice y (some (k:Int)) none
noncomputable def AE (t:gp):Sp:=λvs H Q _=>∃ (x dx a lg:Addr) (gs:List Addr) (ms:List aC) (Gs:List bF) (G:bF) (i j:Nat),vs = [.ref x,.int i,.int j] /\ cj t H x dx a lg gs ms Gs /\ Gs[i]? = some G /\ j <= G.row.length /\ G.row.length <= 1000 /\ Q .cQ H
theorem zS (T:Txt K mg t):bC P w K mg base c6 2 t.nQ t.wG ["self","row","at"] (AE t):=by
 refine T.rH.ok Lj ?_ ?_
 walk_at "i"
 ·obtain ⟨x,dx,a,lg,gs,ms,Gs,G,i,j,rfl,I,hG,hj,hl,q⟩:=h
  have hi:=(List.getElem?_eq_some_iff.mp hG).1
  have sz:=sizeLine_eq
  obtain ⟨g,hg,dg,lb,lt,lo,lk,e⟩:=I.go.at hG
  refine @ao _ _ _ _ _ _ _ (bz (bA (pv 0) T.aN T.Jo (ES T) (hr.mono (by decide)) (T.ur.binds (by walk_at "2")) .nil aF (aa (pv 1) af))) ⟨_,rfl,x,dx,_,rfl,I.ob,rfl,_,rfl,x,dx,a,lg,gs,ms,Gs,i,rfl,I,hi,?_⟩
  refine @av _ _ _ _ _ _ (bx (PW.pt (jy (aA ff (pv 2) ak (aI _)) (i8 (aA i6 (pv 2) (aO bD (by rfl) T.bK (by decide +kernel) (aa (aT (aL aS (aT (pv 0) rfl) (pv 1) (λ_ _=>rfl)) rfl) af)) (aI _))))) ay ay) ⟨_,rfl,_,_,rfl,rfl,_,rfl,dJ (λh=>absurd h (by lia)) (λ_=>?_)⟩
  exact ⟨_,rfl,⟨_,rfl,_,_,_,_,_,rfl,I.ob,T.aN,T.aP,rfl,⟨_,rfl,_,_,_,_,rfl,rfl,bf.of I.lg,c9 hg,g,t.bg,dg,_,_,rfl,e.ob,T.bV,T.cy,rfl,_,rfl,b7 (by lia),_,_,rfl,rfl,_,rfl,dJ (λh=>absurd h (by lia)) (λ_=>aZ q)⟩⟩⟩
noncomputable def vM (t:gp):Sp:=λvs H Q _=>∃ (x dx a lg:Addr) (gs:List Addr) (ms:List aC) (Gs:List bF) (G G2:bF) (i j i2 j2:Nat),vs = [.ref x,.int i,.int j,.int i2,.int j2] /\ cj t H x dx a lg gs ms Gs /\ Gs[i]? = some G /\ j <= G.row.length /\ G.row.length <= 1000 /\ Gs[i2]? = some G2 /\ j2 <= G2.row.length /\ G2.row.length <= 1000 /\ HT.c7 [(i:Int),j] [(i2:Int),j2] = false /\ ∀ H',aq H H' -> Q .cQ H'
theorem D4 (T:Txt K mg t):bC P w K mg base c6 3 t.oh t.v7 ["self","row","at","row2","at2"] (vM t):=by
 refine T.uA.ok MK ?_ ?_
 walk_at "i"
 ·obtain ⟨x,dx,a,lg,gs,ms,Gs,G,G2,i,j,i2,j2,rfl,I,hG,hj,hl,hG2,hj2,hl2,hx,q⟩:=h
  refine @ao _ _ _ _ _ _ _ (bz (bA (pv 0) T.aN T.Ga (zS T) (hr.mono (by decide)) (T.rH.binds (by walk_at "3")) .nil aF (aa (pv 1) (aa (pv 2) af)))) ⟨_,rfl,x,dx,_,rfl,I.ob,rfl,_,rfl,_,rfl,x,dx,a,lg,gs,ms,Gs,G,i,j,rfl,I,hG,hj,hl,?_⟩
  refine @ao _ _ _ _ _ _ _ (bz (bA (pv 0) T.aN T.Ga (zS T) (hr.mono (by decide)) (T.rH.binds (by walk_at "3")) .nil aF (aa (pv 3) (aa (pv 4) af)))) ⟨_,rfl,x,dx,_,rfl,I.ob,rfl,_,rfl,_,rfl,x,dx,a,lg,gs,ms,Gs,G2,i2,j2,rfl,I,hG2,hj2,hl2,?_⟩
  refine @av _ _ _ _ _ _ (bx (aA (Hz (Nat.lt_of_succ_lt (lG hr))) (ez (aa (pv 1) (aa (pv 2) af))) (ez (aa (pv 3) (aa (pv 4) af))) (aI _)) ay ay) ⟨_,rfl,_,rfl,by show 2 <= sizeLine;decide,λt1 e1=>⟨_,rfl,_,rfl,by show 2 <= sizeLine;decide,λt2 e2=>⟨t1,t2,[(i:Int),j],[(i2:Int),j2],rfl,rfl,d8.of (aq.upd e2 _ _ ai),d8.of ai,_,rfl,?_⟩⟩⟩
  rw [hx]
  exact uE (aZ (q _ ((aq.upd e1).trans (aq.upd e2))))
noncomputable def N7 (t:gp):Sp:=λvs H Q _=>∃ (S:Addr -> Prop) (x dx a lg:Addr) (gs:List Addr) (ms:List aC) (Gs:List bF) (G:bF) (i j:Nat) (z:Str) (fs:List Str) (ah bk:Nat) (Gm:List bF) (c:Nat) (Gs':List bF),vs = [.ref x,.int i,.int j,.str z] /\ Ex S H /\ cj t (hid S H) x dx a lg gs ms Gs /\ dZ ms /\ Gs[i]? = some G /\ j <= G.row.length /\ G.row.length <= 1000 /\ z.length <= 1000 /\ PySem.Txt.split (mZ G.row j z) (Str.ofString "\n") = fs /\ Gs.length <= 50000 /\ fs.length <= 50000 /\ fs ≠ [] /\ j6 ms Gs i 1 fs ah bk Gm c Gs' /\
 ∀ lg' gs' H',cj t (hid S H') x dx a lg' gs' ms Gs' -> H lg' = none -> iS H H' x -> Q (.int ((Gm.length + c:Nat):Int)) H'
theorem Mp (T:Txt K mg t):bC P w K mg base c6 9 t.nU t.xF ["self","row","at","text"] (N7 t):=by
 refine T.xw.ok GJ ?_ ?_
 walk_at "i"
 ·obtain ⟨S,x,dx,a,lg,gs,ms,Gs,G,i,j,z,fs,ah,bk,Gm,c,Gs',rfl,hES,IS,GM_,hG,hj,hl,hz,hfs,hl1,hl2,hne,C,q⟩:=h
  have I:=IS.same aV
  have sz:=sizeLine_eq
  obtain ⟨g,hg,dg,lb,lt,lo,lk,e⟩:=I.go.at hG
  have b1:=PySem.Txt.slice_le G.row none (some (j:Int))
  have b2:=PySem.Txt.slice_le G.row (some (j:Int)) none
  refine @ao _ _ _ _ _ _ _ (bz (bA (pv 0) T.aN T.Ga (zS T) (hr.mono (by decide)) (T.rH.binds (by walk_at "3")) .nil aF (aa (pv 1) (aa (pv 2) af)))) ⟨_,rfl,x,dx,_,rfl,I.ob,rfl,_,rfl,_,rfl,x,dx,a,lg,gs,ms,Gs,G,i,j,rfl,I,hG,hj,hl,?_⟩
  refine @ao _ _ _ _ _ _ _ (aB (i:=4) GJ.nd rfl (Or.inl rfl) (aT (aL aS (aT (pv 0) rfl) (pv 1) (λ_ _=>rfl)) rfl)) (⟨_,rfl,_,_,_,_,_,rfl,I.ob,T.aN,T.aP,rfl,⟨_,rfl,_,_,_,_,rfl,rfl,bf.of I.lg,c9 hg,g,t.bg,dg,_,_,rfl,e.ob,T.bV,T.cy,rfl,?_⟩⟩)
  have l1:(PySem.Txt.slice G.row none (some (j:Int)) ++ z).length <= 2000:=by rw [PySem.strLen_append];lia
  have l2:(mZ G.row j z).length <= 3000:=by unfold mZ;rw [PySem.strLen_append];lia
  refine @av _ _ _ _ _ _ (aJ (bA (pv 0) T.aN T.JI (Dh T) (hr.mono (by decide)) (T.sS.binds (by walk_at "4")) .nil aF (aa (pv 1) (aa ak (aa (cH F.plainAttrs_str F.slot_str_split F.type_str_split jJ (aK eK (aK eK (bT gw (pv 4) cY (bR (pv 2))) (pv 3)) (bT gw (pv 4) (bR (pv 2)) cY)) (aa aX af)) af))))) ⟨_,rfl,x,dx,_,rfl,I.ob,rfl,_,rfl,_,rfl,_,rfl,_,rfl,_,rfl,(by lia),_,rfl,_,_,rfl,rfl,(by lia),_,rfl,_,rfl,_,rfl,_,rfl,(by lia),_,_,rfl,rfl,(by lia),rfl,mZ G.row j z,Str.ofString "\n",rfl,rfl,rfl,(by lia),λp fp=>?_⟩
  rw [hfs]
  have s1:aq H (upd H p (.lst (fs.map V.str))):=aq.upd fp
  exact ⟨S,x,dx,a,lg,p,gs,ms,Gs,i,1,fs,ah,bk,Gm,c,Gs',rfl,hES.same s1,IS.same (cu s1),GM_,ai,hl1,hl2,(λ_=>hne),C,λlg' gs' H' I' f' a'=>q lg' gs' H' I' (s1.free f') (λb o hb nb=>a' b o (s1 _ _ hb) nb)⟩
noncomputable def OT (t:gp):Sp:=λvs H Q _=>∃ (S:Addr -> Prop) (x dx a lg:Addr) (gs:List Addr) (ms:List aC) (Gs:List bF) (G G2:bF) (i j i2 j2:Nat) (ah bk:Nat) (Gm:List bF) (c:Nat) (Gs':List bF),vs = [.ref x,.int i,.int j,.int i2,.int j2] /\ Ex S H /\ cj t (hid S H) x dx a lg gs ms Gs /\ dZ ms /\ Gs[i]? = some G /\ j <= G.row.length /\ G.row.length <= 1000 /\ Gs[i2]? = some G2 /\ j2 <= G2.row.length /\ G2.row.length <= 1000 /\ HT.c7 [(i:Int),j] [(i2:Int),j2] = false /\ i <= i2 /\ Gs.length <= 50000 /\ j6 ms Gs i (i2 - i + 1) [sN G.row j G2.row j2] ah bk Gm c Gs' /\
 ∀ lg' gs' H',cj t (hid S H') x dx a lg' gs' ms Gs' -> H lg' = none -> iS H H' x -> Q (.int ((Gm.length + c:Nat):Int)) H'
theorem K5 (T:Txt K mg t):bC P w K mg base c6 9 t.nR t.xT ["self","row","at","row2","at2"] (OT t):=by
 refine T.xP.ok Dj ?_ ?_
 walk_at "i"
 ·obtain ⟨S,x,dx,a,lg,gs,ms,Gs,G,G2,i,j,i2,j2,ah,bk,Gm,c,Gs',rfl,hES,IS,GM_,hG,hj,hl,hG2,hj2,hl2,hx,hii,hl1,C,q⟩:=h
  have I:=IS.same aV
  have sz:=sizeLine_eq
  refine @ao _ _ _ _ _ _ _ (bz (bA (pv 0) T.aN T.JA (D4 T) (hr.mono (by decide)) (T.uA.binds (by walk_at "5")) .nil aF (aa (pv 1) (aa (pv 2) (aa (pv 3) (aa (pv 4) af)))))) ⟨_,rfl,x,dx,_,rfl,I.ob,rfl,_,rfl,_,rfl,_,rfl,_,rfl,x,dx,a,lg,gs,ms,Gs,G,G2,i,j,i2,j2,rfl,I,hG,hj,hl,hG2,hj2,hl2,hx,λH1 s1=>?_⟩
  have I1:=I.same s1
  obtain ⟨g,hg,dg,lb,lt,lo,lk,e⟩:=I1.go.at hG
  obtain ⟨g2,hg2,dg2,lb2,lt2,lo2,lk2,e2⟩:=I1.go.at hG2
  have b1:=PySem.Txt.slice_le G.row none (some (j:Int))
  have b2:=PySem.Txt.slice_le G2.row (some (j2:Int)) none
  refine @ao _ _ _ _ _ _ _ (aB (i:=5) Dj.nd rfl (Or.inl rfl) (aK eK (bT gw (aT (aL aS (aT (pv 0) rfl) (pv 1) (λ_ _=>rfl)) rfl) cY (bR (pv 2))) (bT gw (aT (aL aS (aT (pv 0) rfl) (pv 3) (λ_ _=>rfl)) rfl) (bR (pv 4)) cY))) (⟨_,rfl,_,_,_,_,_,rfl,I1.ob,T.aN,T.aP,rfl,⟨_,rfl,_,_,_,_,rfl,rfl,bf.of I1.lg,c9 hg,g,t.bg,dg,_,_,rfl,e.ob,T.bV,T.cy,rfl,_,rfl,_,rfl,_,rfl,(by lia),⟨_,rfl,_,_,_,_,_,rfl,I1.ob,T.aN,T.aP,rfl,⟨_,rfl,_,_,_,_,rfl,rfl,bf.of I1.lg,c9 hg2,g2,t.bg,dg2,_,_,rfl,e2.ob,T.bV,T.cy,rfl,_,rfl,_,rfl,_,rfl,(by lia),_,_,rfl,rfl,(by lia),?_⟩⟩⟩⟩)
  show At _ _ _ [some (.ref x),some (.int i),some (.int j),some (.int i2),some (.int j2),some (.str (sN G.row j G2.row j2))] H1
  refine @av _ _ _ _ _ _ (aJ (bA (pv 0) T.aN T.JI (Dh T) (hr.mono (by decide)) (T.sS.binds (by walk_at "4")) .nil aF (aa (pv 1) (aa (aK aY (aK dR (pv 3) (pv 1)) ak) (aa (bH (aa (pv 5) af)) af))))) ⟨_,rfl,x,dx,_,rfl,I1.ob,rfl,_,rfl,_,rfl,_,rfl,_,_,rfl,rfl,_,_,rfl,rfl,_,rfl,by show 1 <= sizeLine;decide,λp fp=>?_⟩
  have s2:aq H (upd H1 p (.lst [.str (sN G.row j G2.row j2)])):=s1.trans (aq.upd fp)
  have ek:((i2:Int) - (i:Int) + 1) = ((i2 - i + 1:Nat):Int):=by lia
  refine ⟨S,x,dx,a,lg,p,gs,ms,Gs,i,i2 - i + 1,[sN G.row j G2.row j2],ah,bk,Gm,c,Gs',?_,hES.same s2,IS.same (cu s2),GM_,ai,hl1,(show 1 <= 50000 by decide),(λ_=>by simp),C,λlg' gs' H' I' f' a'=>q lg' gs' H' I' (s2.free f') (λb o hb nb=>a' b o (s2 _ _ hb) nb)⟩
  rw [← ek];rfl
theorem A3 {x z:Str} {j:Nat} (h:j <= x.length):(mZ x j z).cps.toList = x.cps.toList.take j ++ z.cps.toList ++ x.cps.toList.drop j:=by
 unfold mZ
 rw [eU,eU,iF,fW _ _ h]
theorem vp {x y:Str} {j k:Nat} (h:k <= y.length):(sN x j y k).cps.toList = x.cps.toList.take j ++ y.cps.toList.drop k:=by
 unfold sN
 rw [eU,iF,fW _ _ h]
def sH (A:List (List Nat)):List Nat:=A.flatMap λr=>r ++ [10]
def gB (B:List (List Nat)):List Nat:=B.flatMap λr=>10 :: r
theorem gF {x:List Nat} {F:List (List Nat)} (h:F ≠ []):bI 10 (x :: F) = x ++ 10 :: bI 10 F:=by
 cases F with
 | nil=>exact absurd rfl h
 | cons y r=>rfl
theorem uf {F:List (List Nat)} (h:F ≠ []):∀ (A:List (List Nat)),bI 10 (A ++ F) = sH A ++ bI 10 F
 | []=>rfl
 | a :: A=>by
  have e:sH (a :: A) = a ++ [10] ++ sH A:=rfl
  rw [List.cons_append,gF (by simp [h]),uf h A,e]
  simp
theorem kh:∀ (x:List Nat) (B:List (List Nat)),bI 10 (x :: B) = x ++ gB B
 | x,[]=>by simp [bI,gB]
 | x,b :: B=>by
  have e:gB (b :: B) = 10 :: b ++ gB B:=rfl
  rw [gF (by simp),kh b B,e]
  rfl
theorem t6:∀ (F B:List (List Nat)),F ≠ [] -> bI 10 (F ++ B) = bI 10 F ++ gB B
 | [],_,h=>absurd rfl h
 | [x],B,_=>by rw [List.singleton_append,kh];rfl
 | x :: y :: F,B,_=>by
  have ih:=t6 (y :: F) B (by simp)
  have e1:bI 10 (x :: ((y :: F) ++ B)) = x ++ 10 :: bI 10 ((y :: F) ++ B):=gF (by simp)
  have e2:bI 10 (x :: (y :: F)) = x ++ 10 :: bI 10 (y :: F):=gF (by simp)
  show bI 10 (x :: ((y :: F) ++ B)) = bI 10 (x :: (y :: F)) ++ gB B
  rw [e1,ih,e2,List.append_assoc,List.cons_append]
theorem mQ {A F B:List (List Nat)} (h:F ≠ []):bI 10 (A ++ F ++ B) = sH A ++ bI 10 F ++ gB B:=by
 rw [List.append_assoc,uf (by simp [h]),t6 F B h,List.append_assoc]
def dX:List Nat -> List (List Nat)
 | []=>[[]]
 | c :: r=>if c = 10 then [] :: dX r else match dX r with
  | []=>[[c]]
  | x :: xs=>(c :: x) :: xs
theorem ji:∀ l:List Nat,dX l ≠ []
 | []=>by simp [dX]
 | c :: r=>by
  rw [dX]
  by_cases h:c = 10
  ·rw [if_pos h];simp
  ·rw [if_neg h]
   cases dX r with
   | nil=>simp
   | cons x xs=>simp
theorem jB:∀ l:List Nat,bI 10 (dX l) = l
 | []=>rfl
 | c :: r=>by
  have ih:=jB r
  rw [dX]
  by_cases h:c = 10
  ·rw [if_pos h,gF (ji r),ih,h];rfl
  ·rw [if_neg h]
   cases e:dX r with
   | nil=>exact absurd e (ji r)
   | cons x xs =>
    rw [e] at ih
    show bI 10 ((c :: x) :: xs) = _
    rw [kh] at ih ⊢
    rw [← ih];rfl
theorem oX:∀ (l:List Nat),∀ x ∈ dX l,∀ c ∈ x,c ∈ l /\ c ≠ 10
 | [],x,hx,c,hc=>by
  rw [dX,List.mem_singleton] at hx
  rw [hx] at hc;cases hc
 | d :: r,x,hx,c,hc=>by
  have ih:=oX r
  rw [dX] at hx
  by_cases h:d = 10
  ·rw [if_pos h] at hx
   rcases List.mem_cons.mp hx with z | z
   ·rw [z] at hc;cases hc
   ·have:=ih x z c hc
    exact ⟨List.mem_cons_of_mem _ this.1,this.2⟩
  ·rw [if_neg h] at hx
   cases e:dX r with
   | nil=>exact absurd e (ji r)
   | cons y ys =>
    rw [e] at hx ih
    have hx:x ∈ (d :: y) :: ys:=hx
    rcases List.mem_cons.mp hx with z | z
    ·rw [z] at hc
     rcases List.mem_cons.mp hc with w | w
     ·rw [w];exact ⟨by simp,h⟩
     ·have:=ih y (by simp) c w
      exact ⟨List.mem_cons_of_mem _ this.1,this.2⟩
    ·have:=ih x (List.mem_cons_of_mem _ z) c hc
     exact ⟨List.mem_cons_of_mem _ this.1,this.2⟩
theorem o7:∀ l:List Nat,(dX l).length = l.count 10 + 1 /\ ((dX l).map List.length).sum + l.count 10 = l.length
 | []=>⟨rfl,rfl⟩
 | c :: r=>by
  obtain ⟨i1,i2⟩:=o7 r
  rw [dX]
  by_cases h:c = 10
  ·subst h
   rw [if_pos rfl,List.count_cons_self,List.length_cons,List.map_cons,List.sum_cons,List.length_cons,List.length_nil]
   lia
  ·rw [if_neg h,List.count_cons_of_ne h]
   cases e:dX r with
   | nil=>exact absurd e (ji r)
   | cons x xs =>
    rw [e] at i1 i2
    show ((c :: x) :: xs).length = _ /\ (((c :: x) :: xs).map List.length).sum + _ = _
    rw [List.length_cons] at i1 ⊢
    rw [List.map_cons,List.sum_cons] at i2 ⊢
    rw [List.length_cons,List.length_cons]
    lia
def Al (s:Str):List Str:=(dX s.cps.toList).map λl=>⟨l.toArray⟩
theorem kg (s:Str):(Al s).map (λp=>p.cps.toList) = dX s.cps.toList:=by
 unfold Al
 rw [List.map_map]
 exact List.map_id'' (λ_=>rfl) _
theorem rZ (s:Str):Al s ≠ []:=by unfold Al;intro z;exact ji _ (List.map_eq_nil_iff.mp z)
theorem uG {s x:Str} (h:x ∈ Al s):∀ c ∈ x.cps.toList,c ∈ s.cps.toList /\ c ≠ 10:=λc hc=>by
 have:x.cps.toList ∈ (Al s).map (λp=>p.cps.toList):=List.mem_map_of_mem h
 rw [kg] at this
 exact oX _ _ this c hc
theorem A4:Str.ofString "\n" = ⟨#[10]⟩:=by decide +kernel
theorem pZ {s:Str} {ps:List Str} (hn:ps ≠ []) (hf:∀ p ∈ ps,10 ∉ p.cps.toList) (e:s.cps.toList = bI 10 (ps.map λp=>p.cps.toList)):PySem.Txt.split s (Str.ofString "\n") = ps:=by
 have:s = Str.join ⟨#[10]⟩ ps:=jo (by rw [dD];exact e)
 rw [this,A4]
 exact kT hn hf
theorem Cc (s:Str):PySem.Txt.split s (Str.ofString "\n") = Al s:=pZ (rZ s) (λp hp z=>(uG hp 10 z).2 rfl) (by rw [kg,jB])
def Ll (rs:List Str):Prop:=∀ x ∈ rs,10 ∉ x.cps.toList
def cJ (rs:List Str) (i j:Nat):Nat:=((rs.take i).map λr=>r.length + 1).sum + j
abbrev iR (rs:List Str):List (List Nat):=rs.map λp=>p.cps.toList
theorem oJ:∀ A:List Str,(sH (iR A)).length = (A.map λr=>r.length + 1).sum
 | []=>rfl
 | a :: A=>by
  have e:sH (iR (a :: A)) = a.cps.toList ++ [10] ++ sH (iR A):=rfl
  rw [e,List.length_append,oJ A,List.map_cons,List.sum_cons,List.length_append,bq]
  rfl
theorem pY {rs:List Str} {i:Nat} {r:Str} (h:rs[i]? = some r):bI 10 (iR rs) = sH (iR (rs.take i)) ++ r.cps.toList ++ gB (iR (rs.drop (i + 1))):=by
 have e:rs = rs.take i ++ [r] ++ rs.drop (i + 1):=by rw [List.append_assoc,List.singleton_append,← dO h,List.take_append_drop]
 conv=>lhs;rw [e]
 unfold iR
 rw [List.map_append,List.map_append,mQ (by simp)]
 rfl
theorem oZ {rs:List Str} {i j:Nat} {r:Str} (h:rs[i]? = some r) (hj:j <= r.length):(bI 10 (iR rs)).take (cJ rs i j) = sH (iR (rs.take i)) ++ r.cps.toList.take j:=by
 rw [pY h,List.append_assoc,cJ,← oJ,List.take_length_add_append,List.take_append_of_le_length (by rw [bq];exact hj)]
theorem kR {rs:List Str} {i j:Nat} {r:Str} (h:rs[i]? = some r) (hj:j <= r.length):(bI 10 (iR rs)).drop (cJ rs i j) = r.cps.toList.drop j ++ gB (iR (rs.drop (i + 1))):=by
 rw [pY h,List.append_assoc,cJ,← oJ,List.drop_length_add_append,List.drop_append_of_le_length (by rw [bq];exact hj)]
theorem lN {rs:List Str} {i j:Nat} {r:Str} (h:rs[i]? = some r) (hj:j <= r.length):cJ rs i j <= (bI 10 (iR rs)).length:=by
 rw [pY h,List.length_append,List.length_append,oJ,bq,cJ]
 lia
def iQ (rs:List Str) (i j:Nat) (r z:Str):List Str:=rs.take i ++ Al (mZ r j z) ++ rs.drop (i + 1)
def ie (rs:List Str) (i j i2 j2:Nat) (r r2:Str):List Str:=rs.take i ++ [sN r j r2 j2] ++ rs.drop (i2 + 1)
theorem Cs {rs:List Str} {i j:Nat} {r z w:Str} (hr:rs[i]? = some r) (hj:j <= r.length) (hN:Ll rs) (hw:w.cps.toList = bI 10 (iR rs)) :
  PySem.Txt.split (PySem.Txt.slice w none (some (cJ rs i j:Int)) ++ z ++ PySem.Txt.slice w (some (cJ rs i j:Int)) none) (Str.ofString "\n") = iQ rs i j r z:=by
 have hl:=lN hr hj
 have hwl:w.length = (bI 10 (iR rs)).length:=by rw [← bq,hw]
 refine pZ (by unfold iQ;simp [rZ]) (λp hp=>?_) ?_
 ·unfold iQ at hp
  rcases List.mem_append.mp hp with hp | hp
  ·rcases List.mem_append.mp hp with hp | hp
   ·exact hN p (List.mem_of_mem_take hp)
   ·exact λy=>(uG hp 10 y).2 rfl
  ·exact hN p (List.mem_of_mem_drop hp)
 ·rw [eU,eU,iF,fW _ _ (by lia),hw,oZ hr hj,kR hr hj]
  unfold iQ
  rw [List.map_append,List.map_append,mQ (by intro y;exact rZ _ (List.map_eq_nil_iff.mp y)),kg,jB,A3 hj]
  simp [iR]
theorem CI {rs:List Str} {i j i2 j2:Nat} {r r2 w:Str} (hr:rs[i]? = some r) (hj:j <= r.length) (hr2:rs[i2]? = some r2) (hj2:j2 <= r2.length) (hN:Ll rs) (hw:w.cps.toList = bI 10 (iR rs)) :
  PySem.Txt.split (PySem.Txt.slice w none (some (cJ rs i j:Int)) ++ PySem.Txt.slice w (some (cJ rs i2 j2:Int)) none) (Str.ofString "\n") = ie rs i j i2 j2 r r2:=by
 have hl:=lN hr hj
 have hl2:=lN hr2 hj2
 have hwl:w.length = (bI 10 (iR rs)).length:=by rw [← bq,hw]
 have ec:=vp (x:=r) (y:=r2) (j:=j) (k:=j2) hj2
 refine pZ (by unfold ie;simp) (λp hp=>?_) ?_
 ·unfold ie at hp
  rcases List.mem_append.mp hp with hp | hp
  ·rcases List.mem_append.mp hp with hp | hp
   ·exact hN p (List.mem_of_mem_take hp)
   ·rw [List.mem_singleton.mp hp,ec]
    intro y
    rcases List.mem_append.mp y with y | y
    ·exact hN r (List.mem_of_getElem? hr) (List.mem_of_mem_take y)
    ·exact hN r2 (List.mem_of_getElem? hr2) (List.mem_of_mem_drop y)
  ·exact hN p (List.mem_of_mem_drop hp)
 ·rw [eU,iF,fW _ _ (by lia),hw,oZ hr hj,kR hr2 hj2]
  unfold ie
  rw [List.map_append,List.map_append,mQ (by simp)]
  show _ = sH (iR (rs.take i)) ++ (sN r j r2 j2).cps.toList ++ gB (iR (rs.drop (i2 + 1)))
  rw [ec]
  simp
noncomputable def Ih (K:PySem.W.Frag):Sp:=λvs H Q _=>∃ (a lr:Addr) (ns:List Int) (b:Int) (rs:List Str),vs = [.ref a,.int b,.ref lr] /\ bf K H a (ns.map V.int) /\ ns.length <= 63 /\ 0 <= b /\ b <= 9000 /\ H lr = some (.lst (rs.map V.str)) /\ rs ≠ [] /\ rs.length <= 1000 /\ (∀ x ∈ rs,x.length <= 1000) /\
 ∀ p (i j:Nat) r H',rs[i]? = some r -> j <= r.length -> H' p = some (.tup [.int i,.int j]) -> aq H H' -> Q (.ref p) H'
theorem GH (T:Txt K mg t):bC P w K mg base c6 2 t.qG t.xS ["_law_script","_law_base","_law_rows"] (Ih K):=by
 refine T.pA.ok GO ?_ ?_
 walk_at "i"
 ·obtain ⟨a,lr,ns,b,rs,rfl,hS,hl,hb0,hb1,hlr,hne,hrl,hrs,q⟩:=h
  have hpos:=List.length_pos_iff.mpr hne
  refine @aG _ _ _ _ _ _ _ (λZ' H'=>∃ i:Nat,i < rs.length /\ aq H H' /\ Z' = [some (.ref a),some (.int b),some (.ref lr),some (.int i)]) (aB (i:=3) GO.nd rfl (Or.inl rfl) (aM (dI T) (hr.mono (by decide)) rfl T.dM T.bY.kp (T.bY.binds (by walk_at "3")) .nil aF (aa (pv 0) (aa (pv 1) (aa (aO aR (by rfl) T.bK (by decide +kernel) (aa (pv 2) af)) af))))) ⟨_,rfl,_,rfl,_,rfl,_,_,rfl,.inl (bf.of hlr),a,ns,_,_,rfl,hS,hb0,by lia,by rw [List.length_map];lia,hl,λd H1 h0 h1 s1=>⟨d.toNat,by rw [List.length_map] at h1;lia,s1,by rw [show (d.toNat:Int) = d by lia];rfl⟩⟩ ?_
  rintro Z' H1 ⟨i,hi,s1,rfl⟩
  obtain ⟨r,hri⟩:∃ r,rs[i]? = some r:=⟨rs[i],List.getElem?_eq_getElem hi⟩
  have hrl1:=hrs r (List.mem_of_getElem? hri)
  have hat:rA (rs.map V.str) (i:Int) = some (.str r):=aQ (by rw [List.getElem?_map,hri];rfl)
  refine @av _ _ _ _ _ _ (aJ (ez (aa (pv 3) (aa (aM (dI T) (hr.mono (by decide)) rfl T.dM T.bY.kp (T.bY.binds (by walk_at "3")) .nil aF (aa (pv 0) (aa (aK aY (pv 1) ak) (aa (aK aY (aO bD (by rfl) T.bK (by decide +kernel) (aa (aL aS (pv 2) (pv 3) (λ_ _=>rfl)) af)) ak) af)))) af)))) ⟨_,rfl,_,rfl,_,rfl,_,_,rfl,rfl,_,rfl,_,rfl,_,_,_,_,rfl,rfl,bf.of (s1 _ _ hlr),hat,_,rfl,b7 (by lia),_,_,rfl,rfl,a,ns,_,_,rfl,hS.same s1,by lia,by lia,by lia,hl,λd H2 h0 h2 s2=>⟨by show 2 <= sizeLine;decide,λp hp=>?_⟩⟩
  obtain ⟨j,rfl⟩:∃ j:Nat,d = j:=⟨d.toNat,by lia⟩
  exact q p i j r _ hri (by lia) ai ((s1.trans s2).to hp)
theorem Ho:∀ (l:List Str),(l.map λr=>((r.length + 1:Nat):Int)).sum = (((l.map λr=>r.length + 1).sum:Nat):Int)
 | []=>rfl
 | a :: l=>by rw [List.map_cons,List.sum_cons,Ho l,List.map_cons,List.sum_cons,Int.natCast_add];rfl
noncomputable def Nd:Sp:=λvs H Q _=>∃ (lr p:Addr) (rs:List Str) (i j:Nat),vs = [.ref lr,.ref p] /\ H lr = some (.lst (rs.map V.str)) /\ H p = some (.tup [.int i,.int j]) /\ i <= rs.length /\ rs.length <= 1000 /\ (∀ x ∈ rs,x.length <= 1000) /\ ∀ H',aq H H' -> Q (.int (cJ rs i j:Nat)) H'
theorem DW (T:Txt K mg t):bC P w K mg base c6 1 t.rY t.wH ["_law_rows","_law_place_here"] Nd:=by
 refine T.o5.ok JR ?_ ?_
 walk_at "i"
 ·obtain ⟨lr,p,rs,i,j,rfl,hlr,hp,hi,hrl,hrs,q⟩:=h
  have c1:cG (rs.map V.str) none (some (i:Int)) = (rs.take i).map V.str:=by rw [Fg (by rw [List.length_map];exact hi),List.map_take]
  refine @av _ _ _ _ _ _ (@aJ _ _ _ _ (@aK _ _ _ _ _ _ _ _ aY (@aO _ _ _ _ _ _ _ _ _ (Fy rfl) (by rfl) T.ED (by decide +kernel) (@aa _ _ _ _ _ (@gK _ (az Bm) _ ["_law_rows","_law_place_here"] _ _ ("_law_row_here") _ _ [] _ _ (by walk_at "ck") (@eS _ _ _ _ (@bT _ _ _ _ _ _ _ _ _ _ gq (pv 0) cY (@bR _ _ _ (@aL _ _ _ _ _ _ _ bw (pv 1) ak (λ_ _=>rfl))))) (λ_ _ _ _=>by exact (@aK _ _ _ _ _ _ _ _ aY (@aO _ _ _ _ _ _ _ _ _ bD (by rfl) T.bK (by decide +kernel) (@aa _ _ _ _ _ (pv 0) af (by left)) (by left) (by left) (by left) (by left)) ak)) (by left) (by left) (by left) (by left)) af (by left)) (by left) (by left) (by left) (by left)) (@aL _ _ _ _ _ _ _ bw (pv 1) ak (λ_ _=>rfl)))) ⟨_,rfl,_,rfl,_,_,_,_,rfl,rfl,d8.of hp,aQ (j:=0) rfl,_,rfl,lr,_,rfl,bf.of hlr,λl1 g1=>?_⟩
  have s1:aq H (upd H l1 (.lst (cG (rs.map V.str) none (some (i:Int))))):=aq.upd g1
  have h1:upd H l1 (.lst (cG (rs.map V.str) none (some (i:Int)))) l1 = some (.lst ((rs.take i).map V.str)):=by rw [ai,c1]
  generalize upd H l1 (.lst (cG (rs.map V.str) none (some (i:Int)))) = H1 at s1 h1
  refine ⟨l1,rfl,⟨_,bf.of h1⟩,gx (xs:=(rs.take i).map V.str) (λk ys H'=>ys = (((rs.take i).take k).map λr=>((r.length + 1:Nat):Int)).map V.int /\ H' = H1) ⟨rfl,rfl⟩ (cZ (by rw [List.length_map,List.length_take];lia)) ?_ ?_ ?_⟩
  ·rintro k ys H' _ ⟨_,e⟩
   rw [e];exact bf.of h1
  ·rintro k v ys H' hv hyl ⟨rfl,e⟩
   have hkl:=(List.getElem?_eq_some_iff.mp hv).1
   rw [List.getElem?_map] at hv
   obtain ⟨r,hr,rfl⟩:=Option.map_eq_some_iff.mp hv
   have hrm:=List.mem_of_mem_take (List.mem_of_getElem? hr)
   have:=hrs r hrm
   refine ⟨_,rfl,_,rfl,b7 (by lia),_,_,rfl,rfl,dh hkl hyl ⟨?_,e⟩⟩
   rw [take_snoc hr,List.map_append,List.map_append,List.map_singleton,List.map_singleton,Int.natCast_add]
   rfl
  ·rintro ys H' hyl ⟨rfl,e⟩ D hD
   rw [List.length_map,List.take_length]
   refine ⟨D,((rs.take i).map λr=>((r.length + 1:Nat):Int)),rfl,bf.of ai,_,rfl,_,_,_,_,rfl,rfl,d8.of (by rw [e];exact (s1.to (by rw [e] at hD;exact hD)) _ _ hp),aQ (j:=1) rfl,_,_,rfl,rfl,?_⟩
   have es:(((rs.take i).map λr=>((r.length + 1:Nat):Int)).sum + (j:Int)) = ((cJ rs i j:Nat):Int):=by
    unfold cJ
    rw [Int.natCast_add,Ho]
   show Q (V.int (((rs.take i).map λr=>((r.length + 1:Nat):Int)).sum + (j:Int))) _
   rw [es]
   exact q _ (by rw [e];exact s1.to (by rw [e] at hD;exact hD))
def tot (rs:List Str):Nat:=(rs.map λr=>r.length).sum
theorem jn (a b:List Str):tot (a ++ b) = tot a + tot b:=by unfold tot;rw [List.map_append,List.sum_append]
theorem lX (a:Str) (b:List Str):tot (a :: b) = a.length + tot b:=by unfold tot;rw [List.map_cons,List.sum_cons]
theorem ju:∀ {rs:List Str} {r:Str},r ∈ rs -> r.length <= tot rs
 | a :: b,r,h=>by
  rw [lX]
  rcases List.mem_cons.mp h with h | h
  ·rw [h];lia
  ·have:=ju h;lia
def qA (rs:List Str):Prop:=∀ r ∈ rs,∀ c ∈ r.cps.toList,c ∈ uW
theorem AL:10 ∉ uW:=by decide +kernel
theorem qA.Oa {rs:List Str} (h:qA rs):Ll rs:=λx hx z=>AL (h x hx 10 z)
theorem j0 {ms:List aC} (L:qM ms):∀ (rs:List Str) (b:List Nat) (W N:Nat),qA rs -> (∀ r ∈ rs,r.length <= N) -> N <= 200 -> ia ms b -> max (wsum ms.length b) 4 <= W -> W + 10 * tot rs + 6 * rs.length + 19 * N + 20 <= 5000 -> ∃ Gs,Chain ms b rs Gs
 | [],b,W,N,_,_,_,_,_,_=>⟨[],trivial⟩
 | r :: rs,b,W,N,ho,hr,hN,hb,hW,hs=>by
  have h1:=hr r (by simp)
  have h2:=ho r (by simp)
  obtain ⟨n,d,hgo,hdl,hdok,hn1,hn2⟩:=runs (L.good h2) r.length ⟨b,[],[]⟩ (by simp) hb (Nat.zero_le _)
  have hn1:n + wsum ms.length d.on <= wsum ms.length b + 19 * r.length + 14:=hn1
  have hn2:wsum ms.length d.on <= max (wsum ms.length b) 4 + 10 * r.length + 6:=hn2
  have hl1:=qv hb.2
  have hl2:=qv hdok.2
  rw [List.length_cons,lX] at hs
  obtain ⟨Gs,hG⟩:=j0 L rs d.on (W + (10 * r.length + 6)) N (λx hx=>ho x (List.mem_cons_of_mem _ hx)) (λx hx=>hr x (List.mem_cons_of_mem _ hx)) hN hdok (by lia) (by lia)
  exact ⟨⟨r,b,d⟩ :: Gs,rfl,rfl,⟨hb,by show b.length <= _;lia,by show r.length <= _;lia,⟨n,by lia,hgo⟩,hdok,by show d.on.length <= _;lia,hdl⟩,hG⟩
theorem m9 (rs:List Str):tot rs = ((iR rs).map List.length).sum:=by
 unfold tot iR
 rw [List.map_map]
 exact congrArg List.sum (List.map_congr_left λx _=>(bq x).symm)
theorem HN (s:Str):(Al s).length = s.cps.toList.count 10 + 1 /\ tot (Al s) + s.cps.toList.count 10 = s.length:=by
 have h:=o7 s.cps.toList
 have e1:(Al s).length = (dX s.cps.toList).length:=by unfold Al;rw [List.length_map]
 rw [m9]
 unfold iR
 rw [kg,e1,← bq s]
 exact h
theorem uS {rs:List Str} {i:Nat} {r:Str} (h:rs[i]? = some r):tot rs = tot (rs.take i) + r.length + tot (rs.drop (i + 1)):=by
 have e:rs = rs.take i ++ [r] ++ rs.drop (i + 1):=by rw [List.append_assoc,List.singleton_append,← dO h,List.take_append_drop]
 conv=>lhs;rw [e]
 rw [jn,jn]
 rfl
structure Bx (z:Str):Prop where
 le:z.length <= 8 + z.cps.toList.count 10
 few:z.cps.toList.count 10 <= 3
 ch:∀ c ∈ z.cps.toList,c = 10 ∨ c ∈ uW
theorem Ng {rs:List Str} {i j:Nat} {r z:Str} (hr:rs[i]? = some r) (hj:j <= r.length) (ho:qA rs) (hz:Bx z) :
  qA (iQ rs i j r z) /\ (iQ rs i j r z).length <= rs.length + 3 /\ tot (iQ rs i j r z) <= tot rs + 8 /\ (Al (mZ r j z)).length <= 4:=by
 have hil:=(List.getElem?_eq_some_iff.mp hr).1
 have hrm:=List.mem_of_getElem? hr
 have hc:=A3 (x:=r) (z:=z) hj
 have n0:∀ l:List Nat,(∀ c ∈ l,c ∈ r.cps.toList) -> l.count 10 = 0:=λl hl=>List.count_eq_zero.mpr λy=>AL (ho r hrm 10 (hl 10 y))
 have ec:(mZ r j z).cps.toList.count 10 = z.cps.toList.count 10:=by
  rw [hc,List.count_append,List.count_append,n0 _ λc hc=>List.mem_of_mem_take hc,n0 _ λc hc=>List.mem_of_mem_drop hc]
  lia
 have el:(mZ r j z).length = r.length + z.length:=by
  rw [← bq,hc,List.length_append,List.length_append,List.length_take,List.length_drop,bq,bq]
  lia
 obtain ⟨s1,s2⟩:=HN (mZ r j z)
 rw [ec] at s1 s2
 rw [el] at s2
 have ht:=uS hr
 have hf:=hz.few
 have hle:=hz.le
 refine ⟨?_,?_,?_,by lia⟩
 ·intro x hx c hcx
  unfold iQ at hx
  rcases List.mem_append.mp hx with hx | hx
  ·rcases List.mem_append.mp hx with hx | hx
   ·exact ho x (List.mem_of_mem_take hx) c hcx
   ·obtain ⟨h1,h2⟩:=uG hx c hcx
    rw [hc] at h1
    rcases List.mem_append.mp h1 with h1 | h1
    ·rcases List.mem_append.mp h1 with h1 | h1
     ·exact ho r hrm c (List.mem_of_mem_take h1)
     ·exact (hz.ch c h1).resolve_left h2
    ·exact ho r hrm c (List.mem_of_mem_drop h1)
  ·exact ho x (List.mem_of_mem_drop hx) c hcx
 ·unfold iQ
  rw [List.length_append,List.length_append,List.length_take,List.length_drop]
  lia
 ·unfold iQ
  rw [jn,jn]
  lia
theorem HH {x y:Str} {j k:Nat} (hj:j <= x.length) (h:k <= y.length):(sN x j y k).length = j + (y.length - k):=by
 rw [← bq,vp h,List.length_append,List.length_take,List.length_drop,bq,bq]
 lia
theorem JZ {rs:List Str} {i j i2 j2:Nat} {r r2:Str} (hr:rs[i]? = some r) (hj:j <= r.length) (hr2:rs[i2]? = some r2) (hj2:j2 <= r2.length) (hx:i < i2 ∨ i = i2 /\ j <= j2) (ho:qA rs) :
  qA (ie rs i j i2 j2 r r2) /\ (ie rs i j i2 j2 r r2).length = i + 1 + (rs.length - (i2 + 1)) /\ tot (ie rs i j i2 j2 r r2) <= tot rs:=by
 have hil:=(List.getElem?_eq_some_iff.mp hr).1
 have hc:=vp (x:=r) (j:=j) hj2
 refine ⟨?_,?_,?_⟩
 ·intro x hx c hcx
  unfold ie at hx
  rcases List.mem_append.mp hx with hx | hx
  ·rcases List.mem_append.mp hx with hx | hx
   ·exact ho x (List.mem_of_mem_take hx) c hcx
   ·rw [List.mem_singleton.mp hx,hc] at hcx
    rcases List.mem_append.mp hcx with h1 | h1
    ·exact ho r (List.mem_of_getElem? hr) c (List.mem_of_mem_take h1)
    ·exact ho r2 (List.mem_of_getElem? hr2) c (List.mem_of_mem_drop h1)
  ·exact ho x (List.mem_of_mem_drop hx) c hcx
 ·unfold ie
  rw [List.length_append,List.length_append,List.length_take,List.length_drop,List.length_singleton]
  lia
 ·unfold ie
  rw [jn,jn,lX,HH hj hj2]
  have e0:tot [] = 0:=rfl
  rcases hx with hx | ⟨rfl,hx⟩
  ·have h1:=uS hr
   have h2:(rs.drop (i + 1))[i2 - (i + 1)]? = some r2:=by rw [List.getElem?_drop,show i + 1 + (i2 - (i + 1)) = i2 by lia];exact hr2
   have h3:=uS h2
   rw [List.drop_drop,show i + 1 + (i2 - (i + 1) + 1) = i2 + 1 by lia] at h3
   lia
  ·have h1:=uS hr
   rw [hr] at hr2
   have:r = r2:=Option.some.inj hr2
   subst this
   lia
theorem tR (x:Str) {i j:Nat} (h:i <= j) (hj:j <= x.length):(PySem.Txt.slice x (some (i:Int)) (some (j:Int))).cps.toList = (x.cps.toList.drop i).take (j - i):=by
 have:=eq_of_beq (PyProof.Rows.slice_closesL (x:=x) (i:=(i:Int)) (j:=(j:Int)) (by lia) (by lia) (by lia))
 rw [this]
 show (x.cps.toList.drop (i:Int).toNat).take ((j:Int) - (i:Int)).toNat = _
 rw [Int.toNat_natCast,show ((j:Int) - (i:Int)).toNat = j - i by lia]
theorem suf_app (A B:List (List Nat)):gB (A ++ B) = gB A ++ gB B:=by unfold gB;rw [List.flatMap_append]
theorem BX:∀ A:List Str,(gB (iR A)).length = (A.map λr=>r.length + 1).sum
 | []=>rfl
 | a :: A=>by
  have e:gB (iR (a :: A)) = 10 :: a.cps.toList ++ gB (iR A):=rfl
  rw [e,List.length_append,BX A,List.map_cons,List.sum_cons,List.length_cons,bq]
theorem mG:∀ F:List (List Nat),F ≠ [] -> (bI 10 F).length + 1 = (F.map List.length).sum + F.length
 | [],h=>absurd rfl h
 | [x],_=>by show x.length + 1 = (x.length + 0) + 1;lia
 | x :: y :: r,_=>by
  have ih:=mG (y :: r) (by simp)
  rw [gF (by simp),List.length_append,List.length_cons,List.map_cons,List.sum_cons,List.length_cons]
  lia
theorem CK {rs:List Str} {i j i2 j2:Nat} {r r2 w:Str} (hr:rs[i]? = some r) (hj:j <= r.length) (hr2:rs[i2]? = some r2) (hj2:j2 <= r2.length) (hx:i < i2 ∨ i = i2 /\ j <= j2) (hw:w.cps.toList = bI 10 (iR rs)) :
  ∃ (ps:List Str) (y0:Str),(rs.drop i).take (i2 + 1 - i) = ps /\ ps.length = i2 + 1 - i /\ ps[i2 - i]? = some r2 /\ (ps.set (i2 - i) (PySem.Txt.slice r2 none (some (j2:Int))))[0]? = some y0 /\ y0.length <= r.length /\
   Str.join ⟨#[10]⟩ ((ps.set (i2 - i) (PySem.Txt.slice r2 none (some (j2:Int)))).set 0 (PySem.Txt.slice y0 (some (j:Int)) none)) = PySem.Txt.slice w (some (cJ rs i j:Int)) (some (cJ rs i2 j2:Int)):=by
 have hl:=lN hr hj
 have hl2:=lN hr2 hj2
 have hi2:=(List.getElem?_eq_some_iff.mp hr2).1
 have hi:=(List.getElem?_eq_some_iff.mp hr).1
 have hwl:w.length = (bI 10 (iR rs)).length:=by rw [← bq,hw]
 have e1:((rs.drop i).take (i2 + 1 - i)).length = i2 + 1 - i:=by rw [List.length_take,List.length_drop];lia
 have e2:((rs.drop i).take (i2 + 1 - i))[i2 - i]? = some r2:=by
  rw [List.getElem?_take_of_lt (by lia),List.getElem?_drop,show i + (i2 - i) = i2 by lia];exact hr2
 have ed:=kR hr hj
 have st:(PySem.Txt.slice r2 none (some (j2:Int))).length = j2:=by rw [← bq,iF,List.length_take,bq];lia
 rcases hx with hx | ⟨rfl,hx⟩
 ·have hD:(rs.drop (i + 1))[i2 - (i + 1)]? = some r2:=by rw [List.getElem?_drop,show i + 1 + (i2 - (i + 1)) = i2 by lia];exact hr2
  obtain ⟨m,hm⟩:∃ m,i2 = i + 1 + m:=⟨i2 - (i + 1),by lia⟩
  subst hm
  rw [show i + 1 + m - (i + 1) = m by lia] at hD
  obtain ⟨D,eD⟩:∃ D,D = rs.drop (i + 1):=⟨_,rfl⟩
  rw [← eD] at hD
  have ep:(rs.drop i).take (i + 1 + m + 1 - i) = r :: (D.take m ++ [r2]):=by
   rw [dO hr,← eD,show i + 1 + m + 1 - i = m + 1 + 1 by lia,List.take_succ_cons,take_snoc hD]
  have hml:(D.take m).length = m:=by rw [List.length_take];have:=(List.getElem?_eq_some_iff.mp hD).1;lia
  have es:(r :: (D.take m ++ [r2])).set (i + 1 + m - i) (PySem.Txt.slice r2 none (some (j2:Int))) = r :: (D.take m ++ [PySem.Txt.slice r2 none (some (j2:Int))]):=by
   rw [show i + 1 + m - i = m + 1 by lia,List.set_cons_succ,List.set_append_right _ _ (by lia),hml,Nat.sub_self]
   rfl
  refine ⟨_,r,rfl,e1,e2,?_,Nat.le_refl _,?_⟩
  ·rw [ep,es];rfl
  ·rw [ep,es,List.set_cons_zero]
   have hs1:cJ rs (i + 1 + m) j2 = ((rs.take i).map λr=>r.length + 1).sum + (r.length + 1 + ((D.take m).map λr=>r.length + 1).sum) + j2:=by
    unfold cJ
    rw [show i + 1 + m = i + (m + 1) by lia,List.take_add,dO hr,← eD,List.take_succ_cons,List.map_append,List.sum_append,List.map_cons,List.sum_cons]
   have hs0:cJ rs i j = ((rs.take i).map λr=>r.length + 1).sum + j:=rfl
   refine jo ?_
   rw [dD,tR _ (by lia) (by lia),hw,ed,← eD]
   have eDD:D = D.take m ++ r2 :: D.drop (m + 1):=by rw [← dO hD,List.take_append_drop]
   have e5:gB (iR D) = gB (iR (D.take m)) ++ (10 :: r2.cps.toList ++ gB (iR (D.drop (m + 1)))):=by
    conv=>lhs;rw [eDD]
    unfold iR
    rw [List.map_append,suf_app]
    rfl
   have e6:r2.cps.toList = r2.cps.toList.take j2 ++ r2.cps.toList.drop j2:=(List.take_append_drop _ _).symm
   have e7:r.cps.toList.drop j ++ gB (iR D) = (r.cps.toList.drop j ++ (gB (iR (D.take m)) ++ 10 :: r2.cps.toList.take j2)) ++ (r2.cps.toList.drop j2 ++ gB (iR (D.drop (m + 1)))):=by
    rw [e5]
    simp
    rw [← List.append_assoc,List.take_append_drop]
   rw [e7]
   have e8:(r.cps.toList.drop j ++ (gB (iR (D.take m)) ++ 10 :: r2.cps.toList.take j2)).length = cJ rs (i + 1 + m) j2 - cJ rs i j:=by
    rw [List.length_append,List.length_append,BX,List.length_cons,List.length_drop,List.length_take,bq,bq,hs1,hs0]
    lia
   rw [← e8,List.take_left']
   ·rw [List.map_cons,kh,List.map_append,suf_app,fW _ _ hj]
    show _ ++ (gB (iR (D.take m)) ++ gB [(PySem.Txt.slice r2 none (some (j2:Int))).cps.toList]) = _
    rw [iF]
    simp [gB]
   ·rfl
 ·rw [hr] at hr2
  have:r = r2:=Option.some.inj hr2
  subst this
  have ep:(rs.drop i).take (i + 1 - i) = [r]:=by
   rw [dO hr,show i + 1 - i = 0 + 1 by lia,List.take_succ_cons];rfl
  refine ⟨_,PySem.Txt.slice r none (some (j2:Int)),rfl,e1,e2,?_,by lia,?_⟩
  ·rw [ep,Nat.sub_self];rfl
  ·rw [ep,Nat.sub_self]
   have hs0:cJ rs i j = ((rs.take i).map λr=>r.length + 1).sum + j:=rfl
   have hs1:cJ rs i j2 = ((rs.take i).map λr=>r.length + 1).sum + j2:=rfl
   refine jo ?_
   rw [dD,tR _ (by lia) (by lia),hw,ed,List.take_append_of_le_length (by rw [List.length_drop,bq];lia),show cJ rs i j2 - cJ rs i j = j2 - j by lia]
   show (PySem.Txt.slice (PySem.Txt.slice r none (some (j2:Int))) (some (j:Int)) none).cps.toList = _
   rw [fW _ _ (by lia),iF,List.drop_take]
noncomputable def Lk (t:gp):Sp:=λvs H Q _=>∃ (x dx a lg:Addr) (gs:List Addr) (ms:List aC) (Gs:List bF) (G G2:bF) (i j i2 j2:Nat) (w:Str),vs = [.ref x,.int i,.int j,.int i2,.int j2] /\ cj t H x dx a lg gs ms Gs /\ Gs[i]? = some G /\ j <= G.row.length /\ G.row.length <= 1000 /\ Gs[i2]? = some G2 /\ j2 <= G2.row.length /\ G2.row.length <= 1000 /\ HT.c7 [(i:Int),j] [(i2:Int),j2] = false /\ (i < i2 ∨ i = i2 /\ j <= j2) /\ Gs.length <= 1000 /\ w.cps.toList = bI 10 (iR (Gs.map (·.row))) /\ w.length <= 100000 /\
 ∀ H',aq H H' -> Q (.str (PySem.Txt.slice w (some (cJ (Gs.map (·.row)) i j:Int)) (some (cJ (Gs.map (·.row)) i2 j2:Int)))) H'
theorem L5 (T:Txt K mg t):bC P w K mg base c6 4 t.nj t.xR ["self","row","at","row2","at2"] (Lk t):=by
 refine T.yk.ok DC ?_ ?_
 walk_at "i"
 ·obtain ⟨x,dx,a,lg,gs,ms,Gs,G,G2,i,j,i2,j2,w,rfl,I,hG,hj,hl,hG2,hj2,hl2,hx,hxx,hgl,hw,hwl,q⟩:=h
  have sz:=sizeLine_eq
  refine @ao _ _ _ _ _ _ _ (bz (bA (pv 0) T.aN T.JA (D4 T) (hr.mono (by decide)) (T.uA.binds (by walk_at "5")) .nil aF (aa (pv 1) (aa (pv 2) (aa (pv 3) (aa (pv 4) af)))))) ⟨_,rfl,x,dx,_,rfl,I.ob,rfl,_,rfl,_,rfl,_,rfl,_,rfl,x,dx,a,lg,gs,ms,Gs,G,G2,i,j,i2,j2,rfl,I,hG,hj,hl,hG2,hj2,hl2,hx,λH1 s1=>?_⟩
  have I1:=I.same s1
  have hri:(Gs.map (·.row))[i]? = some G.row:=by rw [List.getElem?_map,hG];rfl
  have hri2:(Gs.map (·.row))[i2]? = some G2.row:=by rw [List.getElem?_map,hG2];rfl
  have hi2:=(List.getElem?_eq_some_iff.mp hri2).1
  rw [List.length_map] at hi2
  obtain ⟨ps,y0,p1,p2,p3,p4,p5,p6⟩:=CK hri hj hri2 hj2 hxx hw
  refine @ao _ _ _ _ _ _ _ (aB (i:=5) DC.nd rfl (Or.inl rfl) (bT gq (b6 (pv 0) T.aN T.Dz (zJ T) (hr.mono (by decide)) (T.qZ.binds (by walk_at "1")) .nil aF) (bR (pv 1)) (bR (aK aY (pv 3) ak)))) ⟨_,rfl,x,dx,_,rfl,I1.ob,rfl,x,dx,a,lg,gs,ms,Gs,rfl,I1,(by lia),λl1 H2 h1 f1 s2=>?_⟩
  refine ⟨_,rfl,_,rfl,_,rfl,_,_,rfl,rfl,_,rfl,l1,_,rfl,bf.of h1,λl2 f2=>?_⟩
  have e2:cG ((Gs.map (·.row)).map V.str) (some (i:Int)) (some ((i2:Int) + 1)) = ps.map V.str:=by
   rw [show ((i2:Int) + 1) = ((i2 + 1:Nat):Int) by lia,oO (by rw [List.length_map,List.length_map];lia) (by lia),← p1,List.map_take,List.map_drop]
  have h2:upd H2 l2 (.lst (cG ((Gs.map (·.row)).map V.str) (some (i:Int)) (some ((i2:Int) + 1)))) l2 = some (.lst (ps.map V.str)):=by rw [ai,e2]
  have s3:aq H (upd H2 l2 (.lst (cG ((Gs.map (·.row)).map V.str) (some (i:Int)) (some ((i2:Int) + 1))))):=(s1.trans s2).trans (aq.upd f2)
  have f3:H l2 = none:=(s1.trans s2).free f2
  generalize upd H2 l2 (.lst (cG ((Gs.map (·.row)).map V.str) (some (i:Int)) (some ((i2:Int) + 1)))) = H3 at h2 s3
  have b1:=PySem.Txt.slice_le G2.row none (some (j2:Int))
  have b2:=PySem.Txt.slice_le y0 (some (j:Int)) none
  have eix:(i2 + 1 - i) - 1 = i2 - i:=by lia
  refine @ao _ _ _ _ _ _ _ (o9 (bT gw (aL aS (pv 5) (iu fG ak) (λ_ _=>rfl)) cY (bR (pv 4))) (uV (pv 5) (iu fG ak) set_list)) ⟨_,rfl,_,rfl,_,_,_,_,rfl,rfl,bf.of h2,mO (k:=i2 - i) (by lia) p3,_,rfl,_,rfl,_,rfl,(by lia),?_⟩
  refine ⟨_,rfl,_,rfl,l2,_,_,i2 - i,rfl,rfl,h2,(by rw [List.length_map,p2,BG (by lia),eix]),?_⟩
  have es:(ps.map V.str).set (i2 - i) (.str (PySem.Txt.slice G2.row none (some (j2:Int)))) = (ps.set (i2 - i) (PySem.Txt.slice G2.row none (some (j2:Int)))).map V.str:=by rw [List.map_set]
  rw [es]
  have hl1:(ps.set (i2 - i) (PySem.Txt.slice G2.row none (some (j2:Int)))).length = i2 + 1 - i:=by rw [List.length_set,p2]
  generalize ps.set (i2 - i) (PySem.Txt.slice G2.row none (some (j2:Int))) = ps1 at p4 p6 hl1
  refine @ao _ _ _ _ _ _ _ (o9 (bT gw (aL aS (pv 5) ak (λ_ _=>rfl)) (bR (pv 2)) cY) (uV (pv 5) ak set_list)) ⟨_,rfl,_,_,_,_,rfl,rfl,bf.of ai,aQ (j:=0) (by rw [List.getElem?_map,p4];rfl),_,rfl,_,rfl,_,rfl,(by lia),?_⟩
  refine ⟨_,rfl,l2,_,_,0,rfl,rfl,ai,(by rw [List.length_map,hl1,Bo,if_pos (by decide),if_pos (by lia)];rfl),?_⟩
  have es2:(ps1.map V.str).set 0 (.str (PySem.Txt.slice y0 (some (j:Int)) none)) = (ps1.set 0 (PySem.Txt.slice y0 (some (j:Int)) none)).map V.str:=by rw [List.map_set]
  rw [es2]
  have hn:ps1.set 0 (PySem.Txt.slice y0 (some (j:Int)) none) ≠ []:=by intro z;have:=congrArg List.length z;rw [List.length_set,hl1] at this;simp at this;lia
  have hl3:(ps1.set 0 (PySem.Txt.slice y0 (some (j:Int)) none)).length = i2 + 1 - i:=by rw [List.length_set,hl1]
  generalize ps1.set 0 (PySem.Txt.slice y0 (some (j:Int)) none) = ps2 at p6 hn hl3
  have hb:tot ps2 + ps2.length <= 100001:=by
   have e1:=mG (iR ps2) (by unfold iR;intro z;exact hn (List.map_eq_nil_iff.mp z))
   have e3:(bI 10 (iR ps2)).length <= 100000:=by
    rw [← dD,p6,bq]
    exact Nat.le_trans (PySem.Txt.slice_le _ _ _) hwl
   rw [← m9] at e1
   rw [show (iR ps2).length = ps2.length from List.length_map _] at e1
   lia
  refine @av _ _ _ _ _ _ (aJ (cH F.plainAttrs_str F.slot_str_join F.type_str_join jw aX (aa (pv 5) af))) ⟨rfl,_,rfl,_,l2,ps2,rfl,rfl,bf.of ai,?_,?_⟩
  ·show tot ps2 + ps2.length * 1 <= 16777216
   lia
  ·rw [join_eq,A4,p6]
   refine q _ λb o hb=>?_
   have nb:b ≠ l2:=aj hb f3
   rw [au nb,au nb]
   exact s3 _ _ hb
noncomputable def Jb (K:PySem.W.Frag):Sp:=λvs H Q _=>∃ (a:Addr) (ns:List Int) (b:Int),vs = [.ref a,.int b] /\ bf K H a (ns.map V.int) /\ ns.length <= 63 /\ 0 <= b /\ b <= 9000 /\ ∀ (z:Str) H',Bx z -> aq H H' -> Q (.str z) H'
abbrev NL:List Nat:=(Str.ofString "a()# ").cps.toList
theorem NF:∀ c ∈ NL,c ∈ uW:=by decide +kernel
theorem Il:([V.str "a",V.str "(",V.str ")",V.str "#",V.str " "]:List V) = NL.map λc=>V.str ⟨#[c]⟩:=by
 have e:NL = [97,40,41,35,32]:=by decide +kernel
 rw [e]
 have h1:("a" : Str) = ⟨#[97]⟩:=by decide +kernel
 have h2:("(" : Str) = ⟨#[40]⟩:=by decide +kernel
 have h3:(")" : Str) = ⟨#[41]⟩:=by decide +kernel
 have h4:("#" : Str) = ⟨#[35]⟩:=by decide +kernel
 have h5:(" " : Str) = ⟨#[32]⟩:=by decide +kernel
 rw [h1,h2,h3,h4,h5]
 rfl
theorem MJ (T:Txt K mg t):bC P w K mg base c6 2 t.rK t.wX ["_law_script","_law_base"] (Jb K):=by
 refine T.vX.ok zY ?_ ?_
 walk_at "i"
 ·obtain ⟨a,ns,b,rfl,hS,hl,hb0,hb1,q⟩:=h
  have l5:NL.length = 5:=by decide +kernel
  refine @aG _ _ _ _ _ _ _ (λZ' H'=>∃ (cs:List Nat) (l:Addr),cs.length <= 8 /\ (∀ c ∈ cs,c ∈ uW) /\ H' l = some (.lst (cs.map λc=>V.str ⟨#[c]⟩)) /\ H l = none /\ (∃ x3,Z' = [some (.ref a),some (.int b),some (.ref l),x3]) /\ aq H H') (@BK _ 2 _ (az BF) _ ["_law_script","_law_base","_law_signs_here","_law_k"] _ _ ("_law_k") _ _ _ _ [("_law_script",0),("_law_base",1)] _ _ zY.nd rfl (Or.inl rfl) (by walk_at "ck") (@dS _ _ _ _ _ _ rfl T.fE (@aa _ _ _ _ _ (@aM _ _ _ _ _ _ _ _ _ _ _ _ _ _ _ _ (dI T) (hr.mono (by decide)) rfl T.dM T.bY.kp (T.bY.binds (by walk_at "3")) .nil aF (@aa _ _ _ _ _ (pv 0) (@aa _ _ _ _ _ (pv 1) (@aa _ _ _ _ _ ak af (by left)) (by left)) (by left)) (by left) (by left) (by left)) af (by left)) (by left)) (λ_ _ _ _=>by exact (@aL _ _ _ _ _ _ _ (xO (K:=K) rfl) (@bH _ _ _ _ (@fP _ _ ["a","(",")","#"," "] rfl)) (@aM _ _ _ _ _ _ _ _ _ _ _ _ _ _ _ _ (dI T) (hr.mono (by decide)) rfl T.dM T.bY.kp (T.bY.binds (by walk_at "3")) .nil aF (@aa _ _ _ _ _ (pv 0) (@aa _ _ _ _ _ (@aK _ _ _ _ _ _ _ _ aY (@aK _ _ _ _ _ _ _ _ aY (pv 1) ak) (pv 2)) (@aa _ _ _ _ _ ak af (by left)) (by left)) (by left)) (by left) (by left) (by left)) (λ_ _=>rfl))) (by left) (by left) (by left) (by left) (by left) (by left)) ?_ ?_
  ·refine ⟨_,rfl,_,rfl,a,ns,_,_,rfl,hS,(by lia),(by lia),(by decide),hl,λd H1 h0 h1 s1=>?_⟩
   refine ⟨d,rfl,by lia,by lia,jk (n:=d.toNat) (λj ys H6=>∃ cs:List Nat,ys = cs.map (λc=>V.str ⟨#[c]⟩) /\ (∀ c ∈ cs,c ∈ uW) /\ aq H H6) ⟨[],rfl,(λx hx=>by simp at hx),s1⟩ (cZ (by lia)) ?_ ?_⟩
   ·rintro j ys H6 hj hyl ⟨cs,rfl,hz,s6⟩
    refine ⟨by show 5 <= sizeLine;decide,λl0 hl0=>⟨_,rfl,_,rfl,_,_,rfl,rfl,_,rfl,_,_,rfl,rfl,a,ns,_,_,rfl,hS.same (s6.to hl0),(by lia),(by lia),(by decide),hl,λd2 H7 h2 h3 s7=>?_⟩⟩
    obtain ⟨c,e1,e2⟩:=kP (NL.map λc=>V.str ⟨#[c]⟩) h2 (by rw [List.length_map,l5];exact h3)
    rw [List.getElem?_map] at e1
    obtain ⟨c0,ec,rfl⟩:=Option.map_eq_some_iff.mp e1
    refine ⟨_,_,_,_,rfl,rfl,bf.of (s7 _ _ (by rw [ai];exact congrArg (λl=>some (HO.lst l)) Il)),e2,dh hj hyl ⟨cs ++ [c0],by simp,?_,(s6.to hl0).trans s7⟩⟩
    intro x hx
    rcases List.mem_append.mp hx with hx | hx
    ·exact hz x hx
    ·rw [List.mem_singleton.mp hx];exact NF _ (List.mem_of_getElem? ec)
   ·rintro ys H6 hyl ⟨cs,rfl,hz,s6⟩ D hD
    rw [List.length_map] at hyl
    exact ⟨cs,D,by lia,hz,ai,s6.free hD,⟨_,rfl⟩,s6.to hD⟩
  rintro Z' H1 ⟨cs,l,hcl,hcs,hl1,fl,⟨x3,rfl⟩,s1⟩
  refine @aG _ _ _ _ _ _ _ (λZ' H'=>∃ (cs:List Nat),cs.length <= 8 + cs.count 10 /\ cs.count 10 <= 3 /\ (∀ c ∈ cs,c = 10 ∨ c ∈ uW) /\ H' l = some (.lst (cs.map λc=>V.str ⟨#[c]⟩)) /\ (∃ x3,Z' = [some (.ref a),some (.int b),some (.ref l),x3]) /\ aq H H') (dj PassesOwn.never rfl (dS rfl T.fE (aa (aM (dI T) (hr.mono (by decide)) rfl T.dM T.bY.kp (T.bY.binds (by walk_at "3")) .nil aF (aa (pv 0) (aa (aK aY (pv 1) ak) (aa ak af)))) af)) (bJ (i:=3) zY.nd rfl (Or.inl rfl)) ay) ?_ ?_
  ·refine ⟨_,rfl,_,rfl,_,_,rfl,rfl,a,ns,_,_,rfl,hS.same s1,(by lia),(by lia),(by decide),hl,λd H2 h0 h1 s2=>?_⟩
   refine ⟨d,rfl,by lia,by lia,fX (n:=d.toNat) (λj Z' H'=>∃ (cs:List Nat),cs.length <= 8 + j /\ cs.count 10 = j /\ (∀ c ∈ cs,c = 10 ∨ c ∈ uW) /\ H' l = some (.lst (cs.map λc=>V.str ⟨#[c]⟩)) /\ (∃ x3,Z' = [some (.ref a),some (.int b),some (.ref l),x3]) /\ aq H H') ⟨cs,by lia,List.count_eq_zero.mpr (λy=>AL (hcs 10 y)),λc hc=>.inr (hcs c hc),s2 _ _ hl1,⟨_,rfl⟩,s1.trans s2⟩ ?_ ?_⟩
   ·rintro j Z' H3 hj ⟨cs,g1,g2,g3,g4,⟨x3,rfl⟩,g5⟩
    refine @av _ _ _ _ _ _ (bz (cH F.plainAttrs_list F.slot_list_insert F.type_list_insert B6 (pv 2) (aa (aM (dI T) (hr.mono (by decide)) rfl T.dM T.bY.kp (T.bY.binds (by walk_at "3")) .nil aF (aa (pv 0) (aa (aK aY (aK aY (pv 1) ak) (pv 3)) (aa (aK aY (aO aR (by rfl) T.bK (by decide +kernel) (aa (pv 2) af)) ak) af)))) (aa aX af)))) ⟨_,rfl,.inl ⟨rfl,_,bf.of g4⟩,_,rfl,_,rfl,_,_,rfl,rfl,_,rfl,_,_,rfl,rfl,_,rfl,_,_,rfl,.inl (bf.of g4),_,_,rfl,rfl,a,ns,_,_,rfl,hS.same g5,(by lia),(by lia),(by rw [List.length_map];lia),hl,λd2 H4 h2 h3 s4=>?_⟩
    rw [List.length_map] at h3
    obtain ⟨k,rfl⟩:∃ k:Nat,d2 = k:=⟨d2.toNat,by lia⟩
    have hk:k <= cs.length:=by lia
    refine ⟨l,_,_,k,_,rfl,rfl,rfl,s4 _ _ g4,by rw [List.length_map];exact hk,by rw [List.length_map];lia,?_⟩
    refine ⟨cs.take k ++ [10] ++ cs.drop k,?_,?_,?_,?_,⟨_,rfl⟩,?_⟩
    ·rw [List.length_append,List.length_append,List.length_take,List.length_drop,List.length_singleton];lia
    ·have:cs.count 10 = (cs.take k).count 10 + (cs.drop k).count 10:=by rw [← List.count_append,List.take_append_drop]
     rw [List.count_append,List.count_append,List.count_singleton_self]
     lia
    ·intro c hc
     rcases List.mem_append.mp hc with hc | hc
     ·rcases List.mem_append.mp hc with hc | hc
      ·exact g3 c (List.mem_of_mem_take hc)
      ·exact .inl (List.mem_singleton.mp hc)
     ·exact g3 c (List.mem_of_mem_drop hc)
    ·rw [ai,List.map_append,List.map_append,List.map_take,List.map_drop]
     have:(V.str (Str.ofString "\n")) = V.str ⟨#[10]⟩:=by rw [A4]
     exact congrArg (λv=>some (HO.lst ((cs.map λc=>V.str ⟨#[c]⟩).take k ++ [v] ++ (cs.map λc=>V.str ⟨#[c]⟩).drop k))) this
    ·intro b o hb
     rw [au (aj hb fl)]
     exact (g5.trans s4) _ _ hb
   ·rintro Z' H3 ⟨cs,g1,g2,g3,g4,⟨x3,rfl⟩,g5⟩
    exact ⟨cs,by lia,by lia,g3,g4,⟨_,rfl⟩,g5⟩
  rintro Z' H2 ⟨cs,g1,g2,g3,g4,⟨x3',rfl⟩,g5⟩
  refine @av _ _ _ _ _ _ (aJ (cH F.plainAttrs_str F.slot_str_join F.type_str_join jw aX (aa (pv 2) af))) ⟨rfl,_,rfl,_,l,cs.map (λc=>(⟨#[c]⟩:Str)),rfl,rfl,bf.of (by rw [g4,List.map_map];rfl),?_,?_⟩
  ·rw [kq,show ("" : Str).length = 0 from by decide]
   lia
  ·rw [join_eq]
   have e:(Str.join (Str.ofString "") (cs.map λc=>(⟨#[c]⟩:Str))).cps.toList = cs:=jt cs
   have el:(Str.join (Str.ofString "") (cs.map λc=>(⟨#[c]⟩:Str))).length = cs.length:=by rw [← bq,e]
   exact q _ _ ⟨by show (Str.join (Str.ofString "") _).length <= _;rw [el];show _ <= 8 + (Str.join (Str.ofString "") _).cps.toList.count 10;rw [e];exact g1,by show (Str.join (Str.ofString "") _).cps.toList.count 10 <= 3;rw [e];exact g2,by show ∀ c ∈ (Str.join (Str.ofString "") _).cps.toList,_;rw [e];exact g3⟩ g5
end
theorem oq0{n0:Nat}{n1:Nat}{n2:Nat}{n3:Nat}{n4:Nat}{n5:Nat}(_:n0<=4)(_:n1=((n2+n0)+(n3-(n2+n4))))(_:n5=((n2+n0)+(n3-(n2+n4))))(_:((n2+n0)+(n3-(n2+n4)))=0):n0=0:=by lia
theorem oq1{n0:Nat}{n1:Nat}{n2:Nat}(_:n0<=(48+(8*n1)))(_:n2<=(n0+8)):n2<=(48+(8*(n1+1))):=by lia
theorem oq2{n0:Nat}{n1:Nat}{n2:Nat}{n3:Nat}{n4:Nat}{n5:Nat}{n6:Nat}{n7:Nat}(_:n0<=(6+(3*n1)))(_:n2=n0)(_:n3<=(n0+3))(_:n3=((n4+n5)+(n0-(n4+n6))))(_:n7=((n4+n5)+(n0-(n4+n6)))):n3<=(6+(3*(n1+1))):=by lia
theorem oq3{n0:Nat}{n1:Nat}{n2:Nat}{n3:Nat}{n4:Nat}{n5:Nat}{n6:Nat}{n7:Nat}(_:n0<8)(_:n1<=(6+(3*n0)))(_:n2=n1)(_:0<n1)(_:n3<=(n1+3))(_:n3=((n4+n5)+(n1-(n4+n6))))(_:n7=((n4+n5)+(n1-(n4+n6)))):n7<=1000:=by lia
theorem oq4{n0:Nat}{n1:Nat}{n2:Nat}{n3:Nat}{n4:Nat}{n5:Nat}{n6:Nat}(_:n0=n1)(_:(n2+n3)<=n1)(_:n4=((n2+n5)+(n1-(n2+n3))))(_:n6=((n2+n5)+(n1-(n2+n3)))):(n2+n3)<=n0:=by lia
theorem oq5{n0:Nat}{n1:Nat}(_:n0<=4):((n1+n0)-n1)=n0:=by lia
theorem oq6{n0:Nat}{n1:Nat}{n2:Nat}{n3:Nat}{n4:Nat}{n5:Nat}{n6:Nat}(_:n0=n1)(_:n2<n1)(_:n3=((n2+n4)+(n1-(n2+n5))))(_:n6=((n2+n4)+(n1-(n2+n5)))):(min n2 n1)<=n2:=by lia
theorem oq7{n0:Nat}{n1:Nat}{n2:Nat}{n3:Nat}{n4:Nat}{n5:Nat}{n6:Nat}(_:n0=n1)(_:n2<n1)(_:n3=((n2+n4)+(n1-(n2+n5))))(_:n6=((n2+n4)+(n1-(n2+n5)))):n2<=(min n2 n1):=by lia
theorem oq8{n0:Nat}{n1:Nat}(_:n0<=4):n1<=(n1+n0):=by lia
theorem oq9{n0:Nat}{n1:Nat}{n2:Nat}{n3:Nat}:(n0+n1)<=((n0+n1)+(n2-(n0+n3))):=by lia
theorem QO{n0:Nat}{n1:Nat}{n2:Nat}{n3:Nat}:((((n0+n1)+(n2-(n0+n3)):Nat):Int)-((n2-(n0+n3):Nat):Int))=((n0+n1:Nat):Int):=by lia
theorem QJ{n0:Nat}{n1:Nat}{n2:Nat}{n3:Nat}{n4:Nat}{n5:Nat}{n6:Nat}{n7:Nat}(_:n0<8)(_:n1<=(6+(3*n0)))(_:n2=n1)(_:0<n1)(_:n3<=(n1+3))(_:n3=((n4+n5)+(n1-(n4+n6))))(_:n7=((n4+n5)+(n1-(n4+n6)))):n3<=1000:=by lia
theorem Pw{n0:Nat}{n1:Nat}(_:n0=16777216)(_:n1<=3000):(n1+2)<=n0:=by lia
theorem Qj{n0:Nat}{n1:Nat}{n2:Nat}{n3:Nat}{n4:Nat}{n5:Nat}{n6:Nat}(_:n0=n1)(_:(n2+n3)<=n1)(_:n4=((n2+n5)+(n1-(n2+n3))))(_:n6=((n2+n5)+(n1-(n2+n3)))):((n1-(n2+n3):Nat):Int)=(((n1:Int)-(n2:Int))-(n3:Int)):=by lia
theorem Py{n0:Nat}{n1:Nat}{n2:Nat}{n3:Nat}{n4:Nat}(_:n0=n1)(_:n2<n1)(_:(n2+n3)<=n1):(((min n2 n1)+n4)+(n1-(n2+n3)))=((n2+n4)+(n1-(n2+n3))):=by lia
theorem P5{n0:Nat}{n1:Nat}{n2:Nat}(_:n0<=1000)(_:n1<=n0)(_:n2<=n0):(n1+n2)<=3000:=by lia
theorem O1{n0:Nat}{n1:Nat}{n2:Nat}{n3:Nat}{n4:Nat}{n5:Nat}(_:n0=n1)(_:n2<n1)(_:n3=((n4+1)+(n1-(n4+n5))))(_:(n2+1)=(n4+n5))(_:((n2-n4)+1)=n5):(n4+n5)<=n1:=by lia
theorem Qe{n0:Nat}{n1:Nat}(_:n0<=n1):n0<=(n1+8):=by lia
theorem P6{n0:Nat}{n1:Nat}{n2:Nat}{n3:Nat}{n4:Nat}{n5:Nat}{n6:Nat}{n7:Nat}{n8:Nat}{n9:Nat}{n10:Nat}(_:n0=n1)(_:n2<n1)(_:n3=((n4+1)+(n1-(n4+n5))))(_:(n2+1)=(n4+n5))(_:((n2-n4)+1)=n5)(_:n6=n7)(_:n8=n9)(_:(n6+n8)<=n10):((n4+1)+(n1-(n4+n5)))<=(n1+3):=by lia
theorem QC{n0:Nat}{n1:Nat}{n2:Nat}{n3:Nat}{n4:Nat}(_:n0=((n1+1)+(n2-(n1+n3))))(_:(n4+1)=(n1+n3)):(((n4:Int)-(n1:Int))+1)=(n3:Int):=by lia
theorem Ql{n0:Nat}{n1:Nat}{n2:Nat}{n3:Nat}(_:n0=16777216)(_:n1<=1000)(_:n2<=n1)(_:n3<=n1):(n2+n3)<=n0:=by lia
theorem Gk{n0:Nat}{n1:Nat}(_:n0=16777216)(_:n1<=1000):n1<=n0:=by lia
theorem Oe{n0:Nat}{n1:Nat}{n2:Nat}(_:n0<8)(_:n1<=(6+(3*n0)))(_:n2=n1):n2<=50000:=by lia
theorem Px{n0:Nat}{n1:Nat}{n2:Nat}{n3:Nat}{n4:Nat}(_:n0=((n1+1)+(n2-(n1+n3))))(_:(n4+1)=(n1+n3))(_:((n4-n1)+1)=n3):n1<=n4:=by lia
theorem CA{n0:Nat}{n1:Nat}{n2:Nat}(_:n0<8)(_:n1<=(48+(8*n0)))(_:n2<=n1):n2<=1000:=by lia
theorem Q0{n0:Nat}{n1:Nat}{n2:Nat}{n3:Nat}{n4:Nat}{n5:Nat}{n6:Nat}{n7:Nat}{n8:Nat}(_:n0<8)(_:n1<=(6+(3*n0)))(_:n2<=(48+(8*n0)))(_:n3=n1)(_:0<n1)(_:n4<n1)(_:n5<=n2)(_:n6=((n7+1)+(n1-(n7+n8))))(_:(n4+1)=(n7+n8))(_:((n4-n7)+1)=n8):((((4+(10*n5))+(6*n6))+(19*112))+20)<=5000:=by lia
theorem Qu{n0:Nat}{n1:Nat}{n2:Nat}{n3:Nat}(_:n0<8)(_:n1<=(48+(8*n0)))(_:n2<=n1)(_:n3<=n2):n3<=112:=by lia
theorem P1{n0:Nat}{n1:Nat}{n2:Nat}{n3:Nat}{n4:Nat}{n5:Nat}{n6:Nat}{n7:Nat}(_:n0=n1)(_:(n2<n3)∨((n2=n3)/\(n4<=n5)))(_:n3<n1)(_:n6=((n2+1)+(n1-(n3+1))))(_:(n3+1)=(n2+n7)):((n3-n2)+1)=n7:=by lia
theorem QI{n0:Nat}{n1:Nat}{n2:Nat}{n3:Nat}{n4:Nat}{n5:Nat}{n6:Nat}(_:n0=n1)(_:(n2<n3)∨((n2=n3)/\(n4<=n5)))(_:n3<n1)(_:n6=((n2+1)+(n1-(n3+1)))):(n3+1)=(n2+((n3+1)-n2)):=by lia
theorem Qp{n0:Nat}{n1:Nat}{n2:Nat}(_:n0<=1000)(_:n1<=n0)(_:n2<=1011):(n2+n1)<=3000:=by lia
theorem Ot{n0:Nat}{n1:Nat}{n2:Nat}(_:n0=n1)(_:n2<n1):(n2+1)<=n1:=by lia
theorem P8{n0:Nat}{n1:Nat}{n2:Nat}{n3:Nat}(_:n0=16777216)(_:n1<=1000)(_:n2<=n1)(_:n3<=1011):(n3+n2)<=n0:=by lia
theorem PY{n0:Nat}{n1:Nat}{n2:Nat}{n3:Nat}{n4:Nat}(_:n0=16777216)(_:n1<=1000)(_:n2<=3)(_:n3<=(8+n2))(_:n4<=n1):(n4+n3)<=n0:=by lia
theorem P7{n0:Nat}{n1:Nat}{n2:Nat}{n3:Nat}(_:n0<=1000)(_:n1<=3)(_:n2<=(8+n1))(_:n3<=n0):(n3+n2)<=1011:=by lia
theorem Q8{n0:Nat}(_:n0<=4):n0<=50000:=by lia
theorem Qy{n0:Nat}{n1:Nat}(_:n0<=3)(_:n1<=(8+n0)):n1<=1000:=by lia
theorem QG{n0:Nat}{n1:Nat}{n2:Nat}{n3:Nat}{n4:Nat}{n5:Nat}(_:n0<8)(_:n1<=(6+(3*n0)))(_:n2<=(48+(8*n0)))(_:n3=n1)(_:0<n1)(_:n4<=(n1+3))(_:n5<=(n2+8)):((((4+(10*n5))+(6*n4))+(19*112))+20)<=5000:=by lia
theorem PF{n0:Nat}{n1:Nat}{n2:Nat}{n3:Nat}(_:n0<8)(_:n1<=(48+(8*n0)))(_:n2<=(n1+8))(_:n3<=n2):n3<=112:=by lia
theorem Pu{i0:Int}(_:0<=i0)(_:i0<=2000):(i0+5)<=9000:=by lia
theorem QE{i0:Int}(_:0<=i0)(_:i0<=2000):0<=(i0+5):=by lia
theorem QN{i0:Int}(_:0<=i0)(_:i0<=2000):(i0+4)<=100000:=by lia
theorem QU{i0:Int}(_:0<=i0)(_:i0<=2000):0<=(i0+4):=by lia
theorem Qw{n0:Nat}(_:n0<=1000):n0<=100000:=by lia
theorem QY{n0:Nat}{n1:Nat}{n2:Nat}(_:n0<8)(_:n1<=(6+(3*n0)))(_:n2=n1):n2<=1000:=by lia
theorem Hv{n0:Nat}{n1:Nat}{n2:Nat}(_:n0<8)(_:n1<=(6+(3*n0)))(_:n2=n1):n1<=1000:=by lia
theorem Oi{n0:Nat}{n1:Nat}{n2:Nat}(_:n0=n1)(_:n2<n1):n2<=n1:=by lia
theorem QF{n0:Nat}{n1:Nat}{n2:Nat}{n3:Nat}{n4:Nat}(_:n0<8)(_:n1<=(6+(3*n0)))(_:n2<=(48+(8*n0)))(_:n3=n1)(_:0<n1)(_:(n4+1)=(n2+n1)):n4<=1000:=by lia
theorem Pr{n0:Nat}{n1:Nat}{n2:Nat}{n3:Nat}(_:n0<8)(_:n1<=(6+(3*n0)))(_:n2<=(48+(8*n0)))(_:n3=n1)(_:0<n1):(n2+(n1*1))<=16777216:=by lia
theorem P4{i0:Int}(_:0<=i0)(_:i0<=2000):(i0+2)<=9000:=by lia
theorem PR{i0:Int}(_:0<=i0)(_:i0<=2000):0<=(i0+2):=by lia
theorem Qs{i0:Int}(_:0<=i0)(_:i0<=2000):i0<=9000:=by lia
theorem Q7{n0:Nat}(_:n0<8):(1000+(50*(0+(n0:Int))))<=2000:=by lia
theorem Ri{n0:Nat}(_:n0<8):0<=(1000+(50*(0+(n0:Int)))):=by lia
theorem Qv{n0:Nat}{n1:Nat}(_:n0<=6)(_:n1=n0):n0<=1000:=by lia
theorem PL{n0:Nat}{n1:Nat}(_:n0<=6)(_:n1=n0):n0<=100000:=by lia
theorem Qo{n0:Nat}(_:n0<=28):n0<=200:=by lia
theorem Pj{n0:Nat}{n1:Nat}(_:n0<=6)(_:n1<=48):((((4+(10*n1))+(6*n0))+(19*112))+20)<=5000:=by lia
theorem Qf{n0:Nat}{n1:Nat}(_:n0<=48)(_:n1<=n0):n1<=112:=by lia
theorem Qz{i0:Int}{n1:Nat}(_:0<=i0)(_:i0<6)(_:n1<=(8*(Int.toNat (1+i0)))):n1<=48:=by lia
theorem Rb{i0:Int}{n1:Nat}(_:0<=i0)(_:i0<6)(_:n1=(Int.toNat (1+i0))):n1<=6:=by lia
theorem PV{i0:Int}(_:0<=i0)(_:i0<6)(_:0=(Int.toNat (1+i0))):False:=by lia
theorem QB{n0:Nat}{n1:Nat}{n2:Nat}{n3:Nat}(_:n0=n1)(_:n2<=(8*n1))(_:n3<9):(n2+(n3+0))<=(8*(n1+1)):=by lia
theorem Q4{i0:Int}{n1:Nat}{n2:Nat}(_:0<=i0)(_:i0<6)(_:n1<(Int.toNat (1+i0)))(_:n2=n1):(600+(10*(0+(n1:Int))))<=50000:=by lia
theorem Qg{n0:Nat}{n1:Nat}(_:n0=n1):0<=(600+(10*(0+(n1:Int)))):=by lia
theorem Qi{i0:Int}(_:0<=i0)(_:i0<6):(Int.toNat (1+i0))<=1000000:=by lia
theorem PZ:(0:Nat)<=(8*0):=by lia
theorem P0{i0:Int}(_:0<=i0)(_:i0<6):1+i0<2^62:=by lia
theorem PN{i0:Int}(_:0<=i0)(_:i0<6):-2^62≤1+i0:=by lia
theorem OX{i0:Int}{i1:Int}(_:i0>i1):¬(i1>i0):=by lia
theorem Q3{n0:Nat}{n1:Nat}(_:¬((n0:Int)=(n1:Int)))(_:¬((n0:Int)>(n1:Int))):n0<n1:=by lia
theorem Pq{n0:Nat}{n1:Nat}(_:¬((n0:Int)>(n1:Int))):n0<=n1:=by lia
theorem OD{n0:Nat}{n1:Nat}(_:(n0:Int)=(n1:Int)):n0=n1:=by lia
theorem P9{n0:Nat}{n1:Nat}(_:(n0:Int)=(n1:Int)):n0<=n1:=by lia
theorem Rc{n0:Nat}(_:n0<=4):(max (n0-0) 4)<=4:=by lia
section
variable {P:Program} {w:World} {K:PySem.W.Frag} {mg:Str -> Option Value} {base:Heap} {t:gp}
noncomputable def BA (K:PySem.W.Frag):Sp:=λvs H Q _=>∃ (a:Addr) (ns:List Int),vs = [.ref a] /\ bf K H a (ns.map V.int) /\ ns.length <= 63 /\ ∀ H',Q (.bl true) H'
theorem QK {ms:List aC} (h:0 < ms.length):ia ms [0]:=⟨by simp,λx hx=>by rw [List.mem_singleton.mp hx];exact h⟩
theorem w0 {ms:List aC} (h:ms.length <= 4):max (wsum ms.length [0]) 4 <= 4:=by rw [gj];exact Rc h
theorem zo {S:Addr -> Prop} {G H:Hp} (s:aq G H) (h:∀ b o,G b = some o -> ¬ S b):aq G (hid S H):=λb o e=>bL (s _ _ e) (h b o e)
theorem KP.apart {H:Hp} {x l C dx:Addr} {fs:List (Str × V)} {Gs:List bF} (h:KP H l Gs) (hx:H x = some (.ins C dx fs)):KP (hid (λc=>c = x) H) l Gs:=by
 obtain ⟨ps,h1,h2⟩:=h
 refine ⟨ps,K33.apart hx h1 (λ_ _ _ z=>by cases z),h2.mono λp G hY=>?_⟩
 obtain ⟨lo,lt,lk,e1,e2,e3,ms,e4,e5⟩:=hY
 exact ⟨lo,lt,lk,K33.apart hx e1 (λ_ _ _ z=>by cases z),K33.apart hx e2 (λ_ _ _ z=>by cases z),K33.apart hx e3 (λ_ _ _ z=>by cases z),ms,K33.apart hx e4 (λ_ _ _ z=>by cases z),e5.mono λp m h=>K33.apart hx h (λ_ _ _ z=>by cases z)⟩
theorem Li {i j i2 j2:Nat} (h:HT.c7 [(i:Int),j] [(i2:Int),j2] = false):i < i2 ∨ i = i2 /\ j <= j2:=by
 simp only [HT.c7] at h
 by_cases h1:(i:Int) = i2
 ·rw [if_pos h1] at h
  by_cases h2:(j:Int) = j2
  ·exact .inr ⟨by exact OD h1,by exact P9 h2⟩
  ·rw [if_neg h2] at h
   have:=of_decide_eq_false h
   exact .inr ⟨by exact OD h1,by exact Pq this⟩
 ·rw [if_neg h1] at h
  have:=of_decide_eq_false h
  exact .inl (by exact Q3 h1 this)
theorem GB {x1 y1 x2 y2:Int} (h:HT.c7 [x1,y1] [x2,y2] = true):HT.c7 [x2,y2] [x1,y1] = false:=by
 simp only [HT.c7] at h ⊢
 by_cases h1:x1 = x2
 ·rw [if_pos h1] at h
  rw [if_pos h1.symm]
  by_cases h2:y1 = y2
  ·rw [if_pos h2] at h;cases h
  ·rw [if_neg h2] at h
   have:=of_decide_eq_true h
   rw [if_neg (λz=>h2 z.symm)]
   exact decide_eq_false (by exact OX this)
 ·rw [if_neg h1] at h
  have:=of_decide_eq_true h
  rw [if_neg (λz=>h1 z.symm)]
  exact decide_eq_false (by exact OX this)
theorem same_none {H:Hp}:aq H (hid (λ_=>False) H):=λb o h=>bL h (λz=>z)
structure Jk (t:gp) (K:PySem.W.Frag) (ms:List aC) (ns:List Int) (n m:Nat) (H:Hp) (a lm lr x dx lq:Addr) (rs:List Str) (Gs:List bF):Prop where
 sc:bf K (hid (λc=>c = x) H) a (ns.map V.int)
 lm:CW (hid (λc=>c = x) H) lm ms
 lr:hid (λc=>c = x) H lr = some (.lst (rs.map V.str))
 Ie:qA rs
 pos:rs ≠ []
 len:rs.length <= n
 sz:tot rs <= m
 ti:∃ a1 lg gs,cj t H x dx a1 lg gs ms Gs
 ch:Chain ms [0] rs Gs
 kp:KP (hid (λc=>c = x) H) lq Gs
theorem MF {f:Addr} {fd:FuncData} (F:bG K "law" "law" A0 f fd) (T:Txt K mg t):bC P w K mg base c6 10 f fd ["_law_script"] (BA K):=by
 refine F.ok cV ?_ ?_
 walk_at "i"
 ·obtain ⟨a,ns,rfl,hS,hl,q⟩:=h
  have szl:=sizeLine_eq
  refine @ao _ _ _ _ _ _ _ (aB (i:=1) cV.nd rfl (Or.inl rfl) (aM (LD T) (hr.mono (by decide)) rfl T.Lh T.zk.kp (T.zk.binds (by walk_at "2")) .nil aF (aa (pv 0) (aa ak af)))) ⟨_,rfl,a,ns,_,rfl,hS,hl,(by decide),(by decide),λms lm H4 L hL4 s1=>?_⟩
  obtain ⟨calm,B⟩:=L.b
  have hS4:=hS.same s1
  clear s1 hS
  show At _ _ _ [some (.ref a),some (.ref lm),none,none,none,none,none,none,none,none,none,none,none,none,none,none,none] H4
  refine @aG _ _ _ _ _ _ _ (λZ' H'=>∃ (rs:List Str) (lr:Addr),rs ≠ [] /\ rs.length <= 6 /\ qA rs /\ tot rs <= 48 /\ H' lr = some (.lst (rs.map V.str)) /\ Z' = [some (.ref a),some (.ref lm),some (.ref lr),none,none,none,none,none,none,none,none,none,none,none,none,none,none] /\ aq H4 H') (@BK _ 2 _ (az A0) _ ["_law_script","_law_modes_here","_law_rows","_law_text_here","_law_kept","_law_k","_law_base","_law_one","_law_other","_law_whole_here","_law_spots","_law_piece_here","_law_count_here","_law_many","_law_former","_law_behind","_law_fresh"] _ _ ("_law_k") _ _ _ _ [("_law_script",0)] _ _ cV.nd rfl (Or.inl rfl) (by walk_at "ck") (@dS _ _ _ _ _ _ rfl T.fE (@aa _ _ _ _ _ (@aK _ _ _ _ _ _ _ _ aY ak (@aM _ _ _ _ _ _ _ _ _ _ _ _ _ _ _ _ (dI T) (hr.mono (by decide)) rfl T.dM T.bY.kp (T.bY.binds (by walk_at "3")) .nil aF (@aa _ _ _ _ _ (pv 0) (@aa _ _ _ _ _ ak (@aa _ _ _ _ _ ak af (by left)) (by left)) (by left)) (by left) (by left) (by left))) af (by left)) (by left)) (λ_ _ _ _=>by exact (@aM _ _ _ _ _ _ _ _ _ _ _ _ _ _ _ _ (M8 T) (hr.mono (by decide)) rfl T.LN T.yg.kp (T.yg.binds (by walk_at "3")) .nil aF (@aa _ _ _ _ _ (pv 0) (@aa _ _ _ _ _ (@aK _ _ _ _ _ _ _ _ aY ak (@aK _ _ _ _ _ _ _ _ jY ak (pv 1))) (@aa _ _ _ _ _ ak af (by left)) (by left)) (by left)) (by left) (by left) (by left))) (by left) (by left) (by left) (by left) (by left) (by left)) ?_ ?_
  ·refine ⟨_,rfl,a,ns,_,_,rfl,hS4,(by decide),(by decide),(by decide),hl,λd H5 h0 h1 s5=>⟨_,_,rfl,rfl,?_⟩⟩
   refine ⟨1 + d,rfl,by exact PN h0 h1,by exact P0 h0 h1,jk (n:=(1 + d).toNat) (λj ys H6=>∃ rs:List Str,ys = rs.map V.str /\ qA rs /\ tot rs <= 8 * j /\ aq H4 H6) ⟨[],rfl,(λx hx=>by simp at hx),by show 0 <= _;exact PZ,s5⟩ (cZ (by exact Qi h0 h1)) ?_ ?_⟩
   ·rintro j ys H6 hj hyl ⟨rs,rfl,hrs,hrt,s6⟩
    refine ⟨_,rfl,_,rfl,_,_,rfl,rfl,.inl ⟨by decide,by decide⟩,_,_,rfl,rfl,a,ns,_,9,rfl,hS4.same s6,hl,(by exact Qg hyl),(by exact Q4 h0 h1 hj hyl),(by decide),(by decide),λz H7 z1 z2 s7=>dh hj hyl ⟨rs ++ [z],by rw [List.map_append];rfl,?_,?_,s6.trans s7⟩⟩
    ·intro x hx
     rcases List.mem_append.mp hx with hx | hx
     ·exact hrs x hx
     ·rw [List.mem_singleton.mp hx];exact z2
    ·rw [jn,lX]
     show tot rs + (z.length + 0) <= _
     exact QB hyl hrt z1
   ·rintro ys H6 hyl ⟨rs,rfl,hrs,hrt,s6⟩ D hD
    rw [List.length_map] at hyl
    exact ⟨rs,D,(λz=>by rw [z] at hyl;simp at hyl;exact PV h0 h1 hyl),by exact Rb h0 h1 hyl,hrs,by exact Qz h0 h1 hrt,ai,rfl,s6.to hD⟩
  rintro Z' H5 ⟨rs,lr,hne,hrl,hrs,hrt,hlr,rfl,s5⟩
  have hS5:=hS4.same s5
  have hL5:=hL4.same s5
  obtain ⟨Gs,hC⟩:=j0 L rs [0] 4 112 hrs (λr hr=>by have:=ju hr;exact Qf hrt this) (by decide) (QK B.pos) (w0 B.four) (by exact Pj hrl hrt)
  have hGl:=hC.len
  refine @ao _ _ _ _ _ _ _ (aB (i:=3) cV.nd rfl (Or.inl rfl) (eV T.mW (J1 T) (hr.mono (by decide)) rfl T.zT (T.A8.binds (by walk_at "3")) .nil aF (aa (aM (GQ T) (hr.mono (by decide)) rfl T.Ej T.pe.kp (T.pe.binds (by walk_at "1")) .nil aF (aa (aM (FO T) (hr.mono (by decide)) rfl T.DB T.qk.kp (T.qk.binds (by walk_at "1")) .nil aF (aa (pv 1) af)) af)) (aa (pv 2) af)))) ⟨_,rfl,lm,ms,calm,rfl,hL5,B,λH2 s2=>⟨itemsOf ms,rfl,B.items,(by have:=B.DG;exact Qo this),λr H3 hR s3=>?_⟩⟩
  rw [qH] at hR
  have s23:=s2.trans s3
  refine ⟨_,rfl,λx dx nx ndx ne=>⟨x,dx,r,lr,λ_=>False,ms,rs,Gs,rfl,ai,(λz=>z),Ex.none _,?_,B.mK,L.ring,bP nx ndx _ _ (s23 _ _ hlr),by exact PL hrl hGl,hC,λa1 lg gs H6 I6 f6 a6=>⟨rfl,?_⟩⟩⟩
  ·exact hR.same (zo (bP nx ndx) λb o e z=>z.elim (λz=>z) (λz=>aj e nx z))
  have s6:aq H3 H6:=λb o hb=>a6 b o (bP nx ndx _ _ hb) (aj hb nx)
  have I6:=I6.same aV
  have hlr3:=s23 _ _ hlr
  have hL3:=hL5.same s23
  have hS3:=hS5.same s23
  refine @ao _ _ _ _ _ _ _ (aB (i:=4) cV.nd rfl (Or.inl rfl) (aM (EO T) (hr.mono (by decide)) rfl T.FH T.pW.kp (T.pW.binds (by walk_at "2")) .nil aF (aa (pv 1) (aa (pv 2) af)))) ⟨_,rfl,_,rfl,λ_=>False,lm,lr,ms,rs,Gs,rfl,(λ_ z=>z.elim),hL3.same s6,L.wk,s6 _ _ hlr3,by exact Qv hrl hGl,hC,λlq H7 hK7 f7 s7=>?_⟩
  have hK7:=hK7.same aV
  have I7:=I6.same s7
  have s57:aq H3 (hid (λc=>c = x) H7):=zo (s6.trans s7) λb o e z=>aj e nx z
  have st0:Jk t K ms ns 6 48 H7 a lm lr x dx lq rs Gs:=⟨hS3.same s57,hL3.same s57,s57 _ _ hlr3,hrs,hne,hrl,hrt,⟨a1,lg,gs,I7⟩,hC,hK7.apart I7.ob⟩
  clear hS5 hL5 hS4 hL4 hS3 hL3 hR I6 I7 hK7 s57 s6 s5 s7 hlr hlr3 hrs hne hrl hrt hC hGl a6 f6 f7 s2 s3 s23
  refine @aG _ _ _ _ _ _ _ (λZ' H'=>True) (dj PassesOwn.never rfl (dS rfl T.fE (aa ak af)) (bJ (i:=5) cV.nd rfl (Or.inl rfl)) ay) ?_ ?_
  ·refine ⟨8,rfl,by decide,by decide,fX (n:=8) (λj Z' H'=>∃ lr lq rs Gs,(∃ x5 x6 x7 x8 x9 x10 x11 x12 x13 x14 x15 x16,Z' = [some (.ref a),some (.ref lm),some (.ref lr),some (.ref x),some (.ref lq),x5,x6,x7,x8,x9,x10,x11,x12,x13,x14,x15,x16]) /\ Jk t K ms ns (6 + 3 * j) (48 + 8 * j) H' a lm lr x dx lq rs Gs) ⟨lr,lq,rs,Gs,⟨_,_,_,_,_,_,_,_,_,_,_,_,rfl⟩,st0⟩ ?_ ?_⟩
   ·clear st0
    rintro j Z' H0 hj ⟨lr,lq,rs,Gs,⟨x5,x6,x7,x8,x9,x10,x11,x12,x13,x14,x15,x16,rfl⟩,St⟩
    obtain ⟨a1,lg,gs,I⟩:=St.ti
    have hS:=St.sc.same aV
    have hlr:=aV _ _ St.lr
    have hlen:=St.len
    have hsz:=St.sz
    have hC:=St.ch
    have hGl:=hC.len
    have hrow:=hC.rows
    have hp:=List.length_pos_iff.mpr St.pos
    have h1000:∀ x ∈ rs,x.length <= 1000:=λx hx=>by have:=ju hx;exact CA hj hsz this
    refine @aG _ _ _ _ _ _ _ (λZ' H'=>∃ bs:Int,0 <= bs /\ bs <= 2000 /\ H' = H0 /\ Z' = [some (.ref a),some (.ref lm),some (.ref lr),some (.ref x),some (.ref lq),some (.int (0 + (j:Int))),some (.int bs),x7,x8,x9,x10,x11,x12,x13,x14,x15,x16]) (aB (i:=6) cV.nd rfl (Or.inl rfl) (aK aY ak (aK jY ak (pv 5)))) ⟨_,rfl,_,_,rfl,rfl,.inl ⟨by decide,by decide⟩,_,_,rfl,rfl,_,(by exact Ri hj),(by exact Q7 hj),rfl,rfl⟩ ?_
    rintro Z' H' ⟨bs,hb0,hb1,eH,rfl⟩
    rw [eH]
    clear eH H'
    refine @aG _ _ _ _ _ _ _ (λZ' H'=>∃ (p1 p2:Addr) (i j1 i2 j2:Nat) (r r2:Str),H' p1 = some (.tup [.int i,.int j1]) /\ H' p2 = some (.tup [.int i2,.int j2]) /\ rs[i]? = some r /\ j1 <= r.length /\ rs[i2]? = some r2 /\ j2 <= r2.length /\ HT.c7 [(i:Int),j1] [(i2:Int),j2] = false /\ aq H0 H' /\ Z' = [some (.ref a),some (.ref lm),some (.ref lr),some (.ref x),some (.ref lq),some (.int (0 + (j:Int))),some (.int bs),some (.ref p1),some (.ref p2),x9,x10,x11,x12,x13,x14,x15,x16]) (o9 (aO vt (by rfl) T.qN (by decide +kernel) (aa (bH (aa (aM (GH T) (hr.mono (by decide)) rfl T.Ed T.pA.kp (T.pA.binds (by walk_at "3")) .nil aF (aa (pv 0) (aa (pv 6) (aa (pv 2) af)))) (aa (aM (GH T) (hr.mono (by decide)) rfl T.Ed T.pA.kp (T.pA.binds (by walk_at "3")) .nil aF (aa (pv 0) (aa (aK aY (pv 6) ak) (aa (pv 2) af)))) af))) af)) (IC rfl (cL (bJ (i:=7) cV.nd rfl (Or.inl rfl)) (cL (bJ (i:=8) cV.nd rfl (Or.inl rfl)) j7)))) ?_ ?_
    ·refine ⟨_,rfl,_,rfl,_,rfl,a,lr,ns,bs,rs,rfl,hS,hl,hb0,(by exact Qs hb0 hb1),hlr,St.pos,(by exact Hv hj hlen hGl),h1000,λp1 i1 j1 r1 H1 hr1 hj1 hp1 s1=>?_⟩
     refine ⟨_,rfl,_,rfl,_,_,rfl,rfl,_,rfl,a,lr,ns,_,rs,rfl,hS.same s1,hl,(by exact PR hb0 hb1),(by exact P4 hb0 hb1),s1 _ _ hlr,St.pos,(by exact Hv hj hlen hGl),h1000,λp2 i2 j2 r2 H2 hr2 hj2 hp2 s2=>?_⟩
     refine ⟨by show 2 <= sizeLine;decide,λl0 hl0=>⟨l0,p1,p2,i1,j1,i2,j2,rfl,bf.of ai,d8.of (aq.upd hl0 _ _ (s2 _ _ hp1)),d8.of (aq.upd hl0 _ _ hp2),λl1 g1=>?_⟩⟩
     have s3:aq H2 (upd (upd H2 l0 (.lst [.ref p1,.ref p2])) l1 (.lst (if HT.c7 [(i1:Int),(j1:Int)] [(i2:Int),(j2:Int)] = true then [.ref p2,.ref p1] else [.ref p1,.ref p2]))):=(aq.upd hl0).trans (aq.upd g1)
     have h3:=ai (H:=upd H2 l0 (.lst [.ref p1,.ref p2])) (a:=l1) (o:=.lst (if HT.c7 [(i1:Int),(j1:Int)] [(i2:Int),(j2:Int)] = true then [.ref p2,.ref p1] else [.ref p1,.ref p2]))
     by_cases hx:HT.c7 [(i1:Int),(j1:Int)] [(i2:Int),(j2:Int)] = true
     ·rw [if_pos hx] at s3 h3 ⊢
      exact ⟨l1,_,rfl,bf.of h3,rfl,_,_,rfl,_,_,rfl,rfl,p2,p1,i2,j2,i1,j1,r2,r1,s3 _ _ hp2,s3 _ _ (s2 _ _ hp1),hr2,hj2,hr1,hj1,GB hx,(s1.trans s2).trans s3,rfl⟩
     ·rw [if_neg hx] at s3 h3 ⊢
      exact ⟨l1,_,rfl,bf.of h3,rfl,_,_,rfl,_,_,rfl,rfl,p1,p2,i1,j1,i2,j2,r1,r2,s3 _ _ (s2 _ _ hp1),s3 _ _ hp2,hr1,hj1,hr2,hj2,Bool.eq_false_iff.mpr hx,(s1.trans s2).trans s3,rfl⟩
    rintro Z' H1 ⟨p1,p2,i,j1,i2,j2,r1,r2,hp1,hp2,hr1,hj1,hr2,hj2,hx,s1,rfl⟩
    have hxx:=Li hx
    have hi:=(List.getElem?_eq_some_iff.mp hr1).1
    have hi2:=(List.getElem?_eq_some_iff.mp hr2).1
    have ht1:=ju (List.mem_of_getElem? hr1)
    have ht2:=ju (List.mem_of_getElem? hr2)
    refine @aG _ _ _ _ _ _ _ (λZ' H'=>∃ wh:Str,wh.cps.toList = bI 10 (iR rs) /\ wh.length <= 1000 /\ H' = H1 /\ Z' = [some (.ref a),some (.ref lm),some (.ref lr),some (.ref x),some (.ref lq),some (.int (0 + (j:Int))),some (.int bs),some (.ref p1),some (.ref p2),some (.str wh),x10,x11,x12,x13,x14,x15,x16]) (aB (i:=9) cV.nd rfl (Or.inl rfl) (cH PySem.F.plainAttrs_str PySem.F.slot_str_join PySem.F.type_str_join jw aX (aa (pv 2) af))) ?_ ?_
    ·refine ⟨rfl,_,rfl,_,lr,rs,rfl,rfl,bf.of (s1 _ _ hlr),?_,?_⟩
     ·show tot rs + rs.length * 1 <= 16777216
      exact Pr hj hlen hsz hGl hp
     ·rw [join_eq,A4]
      refine ⟨_,dD _ _,?_,rfl,rfl⟩
      have e1:=mG (iR rs) (by unfold iR;intro z;exact St.pos (List.map_eq_nil_iff.mp z))
      rw [← m9,show (iR rs).length = rs.length from List.length_map _] at e1
      rw [← bq,dD]
      show (bI 10 (iR rs)).length <= 1000
      exact QF hj hlen hsz hGl hp e1
    rintro Z' H1' ⟨wh,hwh,hwl,rfl,rfl⟩
    refine @ao _ _ _ _ _ _ _ (aB (i:=10) cV.nd rfl (Or.inl rfl) (bH (aa (aM (DW T) (hr.mono (by decide)) rfl T.DP T.o5.kp (T.o5.binds (by walk_at "2")) .nil aF (aa (pv 2) (aa (pv 7) af))) (aa (aM (DW T) (hr.mono (by decide)) rfl T.DP T.o5.kp (T.o5.binds (by walk_at "2")) .nil aF (aa (pv 2) (aa (pv 8) af))) af)))) ⟨_,rfl,_,rfl,lr,p1,rs,i,j1,rfl,s1 _ _ hlr,hp1,(by exact Oi hGl hi),(by exact Hv hj hlen hGl),h1000,λH2 s2=>⟨_,rfl,_,rfl,lr,p2,rs,i2,j2,rfl,s2 _ _ (s1 _ _ hlr),s2 _ _ hp2,(by exact Oi hGl hi2),(by exact Hv hj hlen hGl),h1000,λH3 s3=>⟨by show 2 <= sizeLine;decide,λls hls=>?_⟩⟩⟩
    have s4:aq H1' (upd H3 ls (.lst [.int (cJ rs i j1:Nat),.int (cJ rs i2 j2:Nat)])):=(s2.trans s3).to hls
    have hls4:=ai (H:=H3) (a:=ls) (o:=.lst [.int (cJ rs i j1:Nat),.int (cJ rs i2 j2:Nat)])
    generalize upd H3 ls (.lst [.int (cJ rs i j1:Nat),.int (cJ rs i2 j2:Nat)]) = H4 at s4 hls4
    have hq1:=s4 _ _ hp1
    have hq2:=s4 _ _ hp2
    have s4:=s1.trans s4
    clear s2 s3 hls s1 hp1 hp2
    obtain ⟨G,hG,hGr⟩:∃ G,Gs[i]? = some G /\ G.row = r1:=by obtain ⟨G,g1,g2,_⟩:=rE hC hr1;exact ⟨G,g1,g2⟩
    obtain ⟨G2,hG2,hGr2⟩:∃ G,Gs[i2]? = some G /\ G.row = r2:=by obtain ⟨G,g1,g2,_⟩:=rE hC hr2;exact ⟨G,g1,g2⟩
    refine @aG _ _ _ _ _ _ _ (λZ' H'=>aq H4 H' /\ Z' = [some (.ref a),some (.ref lm),some (.ref lr),some (.ref x),some (.ref lq),some (.int (0 + (j:Int))),some (.int bs),some (.ref p1),some (.ref p2),some (.str wh),some (.ref ls),x11,x12,x13,x14,x15,x16]) (bx (aA lE (bA (pv 3) T.aN T.O2 (L5 T) (hr.mono (by decide)) (T.yk.binds (by walk_at "5")) .nil aF (aa (aL bw (pv 7) ak (λ_ _=>rfl)) (aa (aL bw (pv 7) ak (λ_ _=>rfl)) (aa (aL bw (pv 8) ak (λ_ _=>rfl)) (aa (aL bw (pv 8) ak (λ_ _=>rfl)) af))))) (bT gw (pv 9) (bR (aL aS (pv 10) ak (λ_ _=>rfl))) (bR (aL aS (pv 10) ak (λ_ _=>rfl)))) (aI _)) ay ay) ?_ ?_
    ·refine ⟨_,rfl,x,dx,_,rfl,(I.same s4).ob,rfl,_,rfl,_,_,_,_,rfl,rfl,d8.of hq1,aQ (j:=0) rfl,_,rfl,_,_,_,_,rfl,rfl,d8.of hq1,aQ (j:=1) rfl,_,rfl,_,_,_,_,rfl,rfl,d8.of hq2,aQ (j:=0) rfl,_,rfl,_,_,_,_,rfl,rfl,d8.of hq2,aQ (j:=1) rfl,x,dx,a1,lg,gs,ms,Gs,G,G2,i,j1,i2,j2,wh,rfl,I.same s4,hG,(by rw [hGr];exact hj1),(by rw [hGr];exact CA hj hsz ht1),hG2,(by rw [hGr2];exact hj2),(by rw [hGr2];exact CA hj hsz ht2),hx,hxx,(by exact QY hj hlen hGl),(by rw [hrow];exact hwh),(by exact Qw hwl),λH5 s5=>?_⟩
     refine ⟨_,rfl,_,rfl,_,_,_,_,rfl,rfl,bf.of (s5 _ _ hls4),aQ (j:=0) rfl,_,rfl,_,rfl,_,_,_,_,rfl,rfl,bf.of (s5 _ _ hls4),aQ (j:=1) rfl,_,rfl,_,rfl,(by exact Gk szl hwl),?_⟩
     refine ⟨rfl,_,rfl,g7 (λh=>absurd ?_ h) (λ_=>aZ ⟨s5,rfl⟩)⟩
     rw [hrow]
    rintro Z' H5 ⟨s5,rfl⟩
    have hq1:=s5 _ _ hq1
    have hq2:=s5 _ _ hq2
    have hls5:=s5 _ _ hls4
    have s5:=s4.trans s5
    clear s4 hls4
    have I5:=I.same s5
    have hlr5:=s5 _ _ hlr
    refine @aG _ _ _ _ _ _ _ (λZ' H'=>∃ (x11:Option V) (w':Str) (k c ah bk:Nat) (fs:List Str) (Gm Gs':List bF) (lg':Addr) (gs':List Addr),PySem.Txt.split w' (Str.ofString "\n") = rs.take i ++ fs ++ rs.drop (i + k) /\ w'.length <= 3000 /\ qA (rs.take i ++ fs ++ rs.drop (i + k)) /\ (rs.take i ++ fs ++ rs.drop (i + k)).length <= rs.length + 3 /\ tot (rs.take i ++ fs ++ rs.drop (i + k)) <= tot rs + 8 /\ fs ≠ [] /\ fs.length <= 4 /\ i + k <= rs.length /\ Chain ms [0] (rs.take i ++ fs ++ rs.drop (i + k)) Gs' /\ ah = cN ((rs.drop i).take k) fs /\ bk = cN (((rs.drop i).take k).drop ah).reverse (fs.drop ah).reverse /\ Gm.length = fs.length - bk - ah /\ c = eX (Gs'.drop (i + fs.length - bk)) (Gs.drop (i + k - bk)) /\ cj t H' x dx a1 lg' gs' ms Gs' /\ iS H5 H' x /\ Z' = [some (.ref a),some (.ref lm),some (.ref lr),some (.ref x),some (.ref lq),some (.int (0 + (j:Int))),some (.int bs),some (.ref p1),some (.ref p2),some (.str w'),some (.ref ls),x11,some (.int ((Gm.length + c:Nat):Int)),some (.int k),x14,x15,x16]) (bx (aA i6 (aM (dI T) (hr.mono (by decide)) rfl T.dM T.bY.kp (T.bY.binds (by walk_at "3")) .nil aF (aa (pv 0) (aa (aK aY (pv 6) ak) (aa ak af)))) ak (aI _)) ay ay) ?_ ?_
    ·refine ⟨_,rfl,_,rfl,_,_,rfl,rfl,a,ns,_,_,rfl,hS.same s5,(by exact QU hb0 hb1),(by exact QN hb0 hb1),(by decide),hl,λd H6 h0 h1 s6=>⟨_,_,rfl,rfl,_,rfl,dJ (λh=>?_) (λh=>?_)⟩⟩
     ·refine @ao _ _ _ _ _ _ _ (aB (i:=11) cV.nd rfl (Or.inl rfl) (aM (MJ T) (hr.mono (by decide)) rfl T.M9 T.vX.kp (T.vX.binds (by walk_at "2")) .nil aF (aa (pv 0) (aa (aK aY (pv 6) ak) af)))) ⟨_,rfl,_,rfl,_,_,rfl,rfl,a,ns,_,rfl,hS.same (s5.trans s6),hl,(by exact QE hb0 hb1),(by exact Pu hb0 hb1),λz H7 hz s7=>?_⟩
      have s7:=s6.trans s7
      obtain ⟨o1,o2,o3,o4⟩:=Ng hr1 hj1 St.Ie hz
      have hfl:=hz.few
      have hzl:=hz.le
      obtain ⟨Gs',hC'⟩:=j0 L (iQ rs i j1 r1 z) [0] 4 112 o1 (λr hr=>by have:=ju hr;exact PF hj hsz o3 this) (by decide) (QK B.pos) (w0 B.four) (by exact QG hj hlen hsz hGl hp o2 o3)
      obtain ⟨ah,bk,Gm,c,CH,ea,eb,eGm,ec,b1,b2⟩:=pG (k:=1) hC (by exact Ot hGl hi) hC'
      have I7:=I5.same s7
      refine @ao _ _ _ _ _ _ _ (aB (i:=12) cV.nd rfl (Or.inl rfl) (bA (pv 3) T.aN T.NT (Mp T) (hr.mono (by decide)) (T.xw.binds (by walk_at "4")) .nil aF (aa (aL bw (pv 7) ak (λ_ _=>rfl)) (aa (aL bw (pv 7) ak (λ_ _=>rfl)) (aa (pv 11) af))))) ⟨_,rfl,x,dx,_,rfl,I7.ob,rfl,_,rfl,_,_,_,_,rfl,rfl,d8.of (s7 _ _ hq1),aQ (j:=0) rfl,_,rfl,_,_,_,_,rfl,rfl,d8.of (s7 _ _ hq1),aQ (j:=1) rfl,_,rfl,λ_=>False,x,dx,a1,lg,gs,ms,Gs,G,i,j1,z,Al (mZ r1 j1 z),ah,bk,Gm,c,Gs',rfl,Ex.none _,I7.same same_none,B.mK,hG,(by rw [hGr];exact hj1),(by rw [hGr];exact CA hj hsz ht1),(by exact Qy hfl hzl),(by rw [hGr];exact Cc _),(by exact Oe hj hlen hGl),(by exact Q8 o4),rZ _,CH,λlg' gs' H8 I8 f8 a8=>?_⟩
      have I8:=I8.same aV
      have nls:ls ≠ x:=cA (s7 _ _ hls5) I7.ob (by intro y;cases y)
      have hls8:=a8 _ _ (s7 _ _ hls5) nls
      have b1':=PySem.Txt.slice_le wh none (some (cJ rs i j1:Int))
      have b2':=PySem.Txt.slice_le wh (some (cJ rs i j1:Int)) none
      have l1':(PySem.Txt.slice wh none (some (cJ rs i j1:Int)) ++ z).length <= 1011:=by rw [PySem.strLen_append];exact P7 hwl hfl hzl b1'
      refine @ao _ _ _ _ _ _ _ (aB (i:=9) cV.nd rfl (Or.inl rfl) (aK eK (aK eK (bT gw (pv 9) cY (bR (aL aS (pv 10) ak (λ_ _=>rfl)))) (pv 11)) (bT gw (pv 9) (bR (aL aS (pv 10) ak (λ_ _=>rfl))) cY))) ⟨_,rfl,_,rfl,_,_,_,_,rfl,rfl,bf.of hls8,aQ (j:=0) rfl,_,rfl,_,rfl,(by exact Gk szl hwl),_,rfl,_,_,rfl,rfl,(by exact PY szl hwl hfl hzl b1'),_,rfl,_,rfl,_,_,_,_,rfl,rfl,bf.of hls8,aQ (j:=0) rfl,_,rfl,_,rfl,(by exact Gk szl hwl),_,_,rfl,rfl,(by exact P8 szl hwl b2' l1'),?_⟩
      refine @av _ _ _ _ _ _ (aB (i:=13) cV.nd rfl (Or.inl rfl) ak) ⟨_,_,1,c,ah,bk,Al (mZ r1 j1 z),Gm,Gs',lg',gs',Cs hr1 hj1 St.Ie.Oa hwh,?_,o1,o2,o3,rZ _,o4,(by exact Ot hGl hi),hC',ea,eb,eGm,ec,I8,λb o hb nb=>a8 b o (s7 _ _ hb) nb,rfl⟩
      rw [PySem.strLen_append]
      exact Qp hwl b2' l1'
     ·obtain ⟨o1,o2,o3⟩:=JZ hr1 hj1 hr2 hj2 hxx St.Ie
      obtain ⟨k,hk⟩:∃ k,i2 + 1 = i + k:=⟨i2 + 1 - i,by exact QI hGl hxx hi2 o2⟩
      have hk':i2 - i + 1 = k:=by exact P1 hGl hxx hi2 o2 hk
      unfold ie at o1 o2 o3
      rw [hk] at o1 o2 o3
      obtain ⟨Gs',hC'⟩:=j0 L _ [0] 4 112 o1 (λr hr=>by have:=ju hr;exact Qu hj hsz o3 this) (by decide) (QK B.pos) (w0 B.four) (by exact Q0 hj hlen hsz hGl hp hi2 o3 o2 hk hk')
      obtain ⟨ah,bk,Gm,c,CH,ea,eb,eGm,ec,b1,b2⟩:=pG (k:=k) hC (by exact O1 hGl hi2 o2 hk hk') hC'
      have I7:=I5.same s6
      refine @ao _ _ _ _ _ _ _ (aB (i:=12) cV.nd rfl (Or.inl rfl) (bA (pv 3) T.aN T.NZ (K5 T) (hr.mono (by decide)) (T.xP.binds (by walk_at "5")) .nil aF (aa (aL bw (pv 7) ak (λ_ _=>rfl)) (aa (aL bw (pv 7) ak (λ_ _=>rfl)) (aa (aL bw (pv 8) ak (λ_ _=>rfl)) (aa (aL bw (pv 8) ak (λ_ _=>rfl)) af)))))) ⟨_,rfl,x,dx,_,rfl,I7.ob,rfl,_,rfl,_,_,_,_,rfl,rfl,d8.of (s6 _ _ hq1),aQ (j:=0) rfl,_,rfl,_,_,_,_,rfl,rfl,d8.of (s6 _ _ hq1),aQ (j:=1) rfl,_,rfl,_,_,_,_,rfl,rfl,d8.of (s6 _ _ hq2),aQ (j:=0) rfl,_,rfl,_,_,_,_,rfl,rfl,d8.of (s6 _ _ hq2),aQ (j:=1) rfl,λ_=>False,x,dx,a1,lg,gs,ms,Gs,G,G2,i,j1,i2,j2,ah,bk,Gm,c,Gs',rfl,Ex.none _,I7.same same_none,B.mK,hG,(by rw [hGr];exact hj1),(by rw [hGr];exact CA hj hsz ht1),hG2,(by rw [hGr2];exact hj2),(by rw [hGr2];exact CA hj hsz ht2),hx,(by exact Px o2 hk hk'),(by exact Oe hj hlen hGl),(by rw [hGr,hGr2,hk'];exact CH),λlg' gs' H8 I8 f8 a8=>?_⟩
      have I8:=I8.same aV
      have nls:ls ≠ x:=cA (s6 _ _ hls5) I7.ob (by intro y;cases y)
      have np1:p1 ≠ x:=cA (s6 _ _ hq1) I7.ob (by intro y;cases y)
      have np2:p2 ≠ x:=cA (s6 _ _ hq2) I7.ob (by intro y;cases y)
      have hls8:=a8 _ _ (s6 _ _ hls5) nls
      have h18:=a8 _ _ (s6 _ _ hq1) np1
      have h28:=a8 _ _ (s6 _ _ hq2) np2
      have b1':=PySem.Txt.slice_le wh none (some (cJ rs i j1:Int))
      have b2':=PySem.Txt.slice_le wh (some (cJ rs i2 j2:Int)) none
      refine @ao _ _ _ _ _ _ _ (aB (i:=9) cV.nd rfl (Or.inl rfl) (aK eK (bT gw (pv 9) cY (bR (aL aS (pv 10) ak (λ_ _=>rfl)))) (bT gw (pv 9) (bR (aL aS (pv 10) ak (λ_ _=>rfl))) cY))) ⟨_,rfl,_,rfl,_,_,_,_,rfl,rfl,bf.of hls8,aQ (j:=0) rfl,_,rfl,_,rfl,(by exact Gk szl hwl),_,rfl,_,rfl,_,_,_,_,rfl,rfl,bf.of hls8,aQ (j:=1) rfl,_,rfl,_,rfl,(by exact Gk szl hwl),_,_,rfl,rfl,(by exact Ql szl hwl b1' b2'),?_⟩
      refine @av _ _ _ _ _ _ (aB (i:=13) cV.nd rfl (Or.inl rfl) (aK aY (aK dR (aL bw (pv 8) ak (λ_ _=>rfl)) (aL bw (pv 7) ak (λ_ _=>rfl))) ak)) ⟨_,rfl,_,_,_,_,rfl,rfl,d8.of h28,aQ (j:=0) rfl,_,rfl,_,_,_,_,rfl,rfl,d8.of h18,aQ (j:=0) rfl,_,_,rfl,rfl,_,_,rfl,rfl,?_⟩
      have ek:((i2:Int) - (i:Int) + 1) = (k:Int):=by exact QC o2 hk
      have es:=CI hr1 hj1 hr2 hj2 St.Ie.Oa hwh
      unfold ie at es
      rw [hk] at es
      refine ⟨x11,_,k,c,ah,bk,[sN r1 j1 r2 j2],Gm,Gs',lg',gs',es,?_,o1,(by rw [o2];exact P6 hGl hi2 o2 hk hk' ea eb b2),(by exact Qe o3),(by simp),(by show 1 <= 4;decide),(by exact O1 hGl hi2 o2 hk hk'),hC',ea,eb,eGm,ec,I8,λb o hb nb=>a8 b o (s6 _ _ hb) nb,?_⟩
      ·rw [PySem.strLen_append]
       exact P5 hwl b1' b2'
      ·rw [← ek];rfl
    rintro Z' H6 ⟨x11',w',k,c,ah,bk,fs,Gm,Gs',lg',gs',hsp,hwl',hfine,hnl0,htt,hfne,hf4,hik,hC',ea,eb,eGm,ec,I6,a6,rfl⟩
    have hnl:(rs.take i ++ fs ++ rs.drop (i + k)).length = i + fs.length + (rs.length - (i + k)):=by rw [List.length_append,List.length_append,List.length_take,List.length_drop];exact Py hGl hi hik
    have hGl':=hC'.len
    rw [hnl] at hGl'
    have sX:aq (hid (λc=>c = x) H0) (hid (λc=>c = x) H6):=λb o hb=>bL (a6 _ _ (s5 _ _ (aV _ _ hb)) (eO (S:=λc=>c = x) hb)) (eO (S:=λc=>c = x) hb)
    have hlr6:=aV _ _ (sX _ _ St.lr)
    have hL6:=(St.lm.same sX).same aV
    have np1:p1 ≠ x:=cA hq1 I5.ob (by intro y;cases y)
    have hp6:=a6 _ _ hq1 np1
    refine @ao _ _ _ _ _ _ _ (aB (i:=14) cV.nd rfl (Or.inl rfl) (pv 4)) ⟨_,rfl,?_⟩
    refine @aG _ _ _ _ _ _ _ (λZ' H'=>H' = H6 /\ Z' = [some (.ref a),some (.ref lm),some (.ref lr),some (.ref x),some (.ref lq),some (.int (0 + (j:Int))),some (.int bs),some (.ref p1),some (.ref p2),some (.str w'),some (.ref ls),x11',some (.int ((Gm.length + c:Nat):Int)),some (.int k),some (.ref lq),some (.int ((rs.length - (i + k):Nat):Int)),x16]) (aB (i:=15) cV.nd rfl (Or.inl rfl) (aK dR (aK dR (aO aR (by rfl) T.bK (by decide +kernel) (aa (pv 2) af)) (aL bw (pv 7) ak (λ_ _=>rfl))) (pv 13))) ⟨_,rfl,_,_,rfl,.inl (bf.of hlr6),_,rfl,_,_,_,_,rfl,rfl,d8.of hp6,aQ (j:=0) rfl,_,_,rfl,rfl,_,rfl,_,_,rfl,rfl,rfl,?_⟩ ?_
    ·have:((rs.length - (i + k):Nat):Int) = ((rs.map V.str).length:Int) - (i:Int) - (k:Int):=by rw [List.length_map];exact Qj hGl hik hnl hGl'
     rw [this];rfl
    rintro Z' H6' ⟨rfl,rfl⟩
    refine @ao _ _ _ _ _ _ _ (aB (i:=2) cV.nd rfl (Or.inl rfl) (cH PySem.F.plainAttrs_str PySem.F.slot_str_split PySem.F.type_str_split jJ (pv 9) (aa aX af))) ⟨_,rfl,rfl,w',Str.ofString "\n",rfl,rfl,rfl,(by exact Pw szl hwl'),λlr' fp=>?_⟩
    rw [hsp]
    have s7:aq H6' (upd H6' lr' (.lst ((rs.take i ++ fs ++ rs.drop (i + k)).map V.str))):=aq.upd fp
    have hlr7:=ai (H:=H6') (a:=lr') (o:=.lst ((rs.take i ++ fs ++ rs.drop (i + k)).map V.str))
    generalize upd H6' lr' (.lst ((rs.take i ++ fs ++ rs.drop (i + k)).map V.str)) = H7 at s7 hlr7
    refine @ao _ _ _ _ _ _ _ (aB (i:=4) cV.nd rfl (Or.inl rfl) (aM (EO T) (hr.mono (by decide)) rfl T.FH T.pW.kp (T.pW.binds (by walk_at "2")) .nil aF (aa (pv 1) (aa (pv 2) af)))) ⟨_,rfl,_,rfl,λ_=>False,lm,lr',ms,_,Gs',rfl,(λ_ z=>z.elim),hL6.same s7,L.wk,hlr7,by exact QJ hj hlen hGl hp hnl0 hnl hGl',hC',λlq' H8 hK8 f8 s8=>?_⟩
    have hK8:=hK8.same aV
    have s78:=s7.trans s8
    have hlr8:=s8 _ _ hlr7
    have ecut:cG ((rs.take i ++ fs ++ rs.drop (i + k)).map V.str) (some (i:Int)) (some (((rs.take i ++ fs ++ rs.drop (i + k)).map V.str).length - ((rs.length - (i + k):Nat):Int))) = fs.map V.str:=by
     rw [show ((((rs.take i ++ fs ++ rs.drop (i + k)).map V.str).length:Int) - ((rs.length - (i + k):Nat):Int)) = ((i + fs.length:Nat):Int) by rw [List.length_map,hnl];exact QO,oO (by rw [List.length_map,hnl];exact oq9) (by exact oq8 hf4),← List.map_drop,← List.map_take]
     congr 1
     rw [List.append_assoc,List.drop_append_of_le_length (by rw [List.length_take];exact oq7 hGl hi hnl hGl'),List.drop_of_length_le (by rw [List.length_take];exact oq6 hGl hi hnl hGl'),List.nil_append,show i + fs.length - i = fs.length by exact oq5 hf4,List.take_left']
     rfl
    refine @aG _ _ _ _ _ _ _ (λZ' H'=>∃ lf,H' lf = some (.lst (fs.map V.str)) /\ aq H8 H' /\ Z' = [some (.ref a),some (.ref lm),some (.ref lr'),some (.ref x),some (.ref lq'),some (.int (0 + (j:Int))),some (.int bs),some (.ref p1),some (.ref p2),some (.str w'),some (.ref ls),x11',some (.int ((Gm.length + c:Nat):Int)),some (.int k),some (.ref lq),some (.int ((rs.length - (i + k):Nat):Int)),some (.ref lf)]) (aB (i:=16) cV.nd rfl (Or.inl rfl) (bT gq (pv 2) (bR (aL bw (pv 7) ak (λ_ _=>rfl))) (bR (aK dR (aO aR (by rfl) T.bK (by decide +kernel) (aa (pv 2) af)) (pv 15))))) ⟨_,rfl,_,rfl,_,_,_,_,rfl,rfl,d8.of (s78 _ _ hp6),aQ (j:=0) rfl,_,rfl,_,rfl,_,_,rfl,.inl (bf.of hlr8),_,rfl,_,_,rfl,rfl,_,rfl,lr',_,rfl,bf.of hlr8,λlf gf=>⟨lf,?_,aq.upd gf,rfl⟩⟩ ?_
    ·rw [ai]
     exact congrArg (λl=>some (HO.lst l)) ecut
    rintro Z' H9 ⟨lf,hlf,s9,rfl⟩
    have s79:=s78.trans s9
    have hk6:=(St.kp.same sX).same aV
    refine @aG _ _ _ _ _ _ _ (λZ' H'=>H' = H9 /\ Z' = [some (.ref a),some (.ref lm),some (.ref lr'),some (.ref x),some (.ref lq'),some (.int (0 + (j:Int))),some (.int bs),some (.ref p1),some (.ref p2),some (.str w'),some (.ref ls),x11',some (.int ((Gm.length + c:Nat):Int)),some (.int k),some (.ref lq),some (.int ((rs.length - (i + k):Nat):Int)),some (.ref lf)]) (bx (PW.pt (jy (aA lE (pv 12) (aM (LX T) (hr.mono (by decide)) rfl T.Nf T.zl.kp (T.zl.binds (by walk_at "5")) .nil aF (aa (pv 14) (aa (pv 4) (aa (aL bw (pv 7) ak (λ_ _=>rfl)) (aa (pv 13) (aa (pv 16) af)))))) (aI _)) (i8 (i9 (aO G9 (by rfl) T.jv (by decide +kernel) (aa (pv 12) (aa (IA (v:=V.ty "bool") (u:=Value.type "bool") rfl T.zI (by decide +kernel) rfl) af))))))) ay ay) ?_ ?_
    ·refine ⟨_,rfl,_,rfl,_,rfl,_,rfl,_,_,_,_,rfl,rfl,d8.of (s79 _ _ hp6),aQ (j:=0) rfl,_,rfl,_,rfl,lq,lq',lf,Gs,Gs',fs,_,i,k,ah,bk,rfl,hk6.same s79,hK8.same s9,hlf,(by exact oq4 hGl hik hnl hGl'),by rw [hGl',hGl],(by rw [hrow]),ea,eb,rfl,_,rfl,g7 (λh=>absurd ?_ h) (λ_=>?_)⟩
     ·rw [eGm,ec]
     ·exact ⟨_,rfl,_,_,_,_,false,rfl,.inl rfl,.int _,T.jG,false,rfl,uE (aZ ⟨rfl,rfl⟩)⟩
    rintro Z' H9' ⟨rfl,rfl⟩
    have I9:=I6.same s79
    refine @av _ _ _ _ _ _ (bx (mX (i9 (aM (JM T) (hr.mono (by decide)) rfl T.JO T.wI.kp (T.wI.binds (by walk_at "2")) .nil aF (aa (pv 3) (aa (pv 4) af))))) ay ay) ⟨_,rfl,_,rfl,x,dx,a1,lg',lq',gs',ms,Gs',rfl,I9,hK8.same s9,by exact oq3 hj hlen hGl hp hnl0 hnl hGl',λH10 s10=>⟨true,rfl,uE (aZ ?_)⟩⟩
    have s0:aq (hid (λc=>c = x) H0) (hid (λc=>c = x) H10):=λb o e=>bL (s10 _ _ (s79 _ _ (aV _ _ (sX _ _ e)))) (eO (S:=λc=>c = x) e)
    have I10:=I9.same s10
    refine ⟨lr',lq',_,Gs',⟨_,_,_,_,_,_,_,_,_,_,_,_,rfl⟩,⟨St.sc.same s0,St.lm.same s0,bL (s10 _ _ (s9 _ _ hlr8)) (Ne.symm (aj I6.ob fp)),hfine,?_,by exact oq2 hlen hGl hnl0 hnl hGl',by exact oq1 hsz htt,⟨a1,lg',gs',I10⟩,hC',((hK8.same s9).same s10).apart I10.ob⟩⟩
    intro e
    rw [e] at hnl
    have h0:i + fs.length + (rs.length - (i + k)) = 0:=by rw [← hnl];rfl
    exact hfne (List.length_eq_zero_iff.mp (by exact oq0 hf4 hnl hGl' h0))
   ·intros;trivial
  rintro Z' H8 _
  exact @av _ _ _ _ _ _ (aJ jh) (q H8)
end
theorem all_mk {l:W.OpenLaw} {w:World} {K:W.Frag} {h:Heap} {mg:Str -> Option Value} {fa iU j9 oN kj iD b8 cT br b9 dz bO dG cM bZ cR bg aH bu tD jf nP lW mw nN l9 lC oi k9 lZ nC lV lJ vh uF lY lU om nh ny nZ nE nF nG nT nJ nA nU nR nj nS nu ni nW oq nQ oh nq zy xM yd xZ wz wZ w6 wU pL pX qi rW rF pQ qa qc r8 rP rL q8 qE r9 qO pB qC qT rX ql pK qD qh sE q9 o6 sD qP oV qx sA qU qF qK qG rY rK f_law fk iY jr i7:Addr} {B3 pN wc tF uh vH sU uy yN uC tV yE uq tQ Cb CU tH uv yX yK xX wo xE v8 yF xB yG yc xF xT xR wA yP zB yh yV wG v7 vR EE FI FG EU DM Ea Fv EZ zx wK wV yS v9 zC xV yD yj vJ wO yb xG zm vP xW yY vV yW vL xH yM wM yi yL zD wY yQ yJ zd yp xD ze zq xS wH wX d_law:FuncData} {u_LETTERS u_LONGEST_NAME u_START u_SIGNS u_MOST_MODES u_MOST_RULES u0_PATTERNS u1_PATTERNS u2_PATTERNS u3_PATTERNS u4_PATTERNS u5_PATTERNS u6_PATTERNS u0_DEEDS u1_DEEDS u2_DEEDS u3_DEEDS u0_GOING u1_GOING u0_FOLDS u1_FOLDS:Tok} {od_PATTERNS od_DEEDS od_GOING od_FOLDS:Option Addr} {n_PATTERNS n_DEEDS n_GOING n_FOLDS:Nat} {sl_PATTERNS sl_DEEDS sl_GOING sl_FOLDS:Array (Option Value)} (X:K.In h) (G:h.Ns mainGlobals mg) (hfa:mg "law" = some (.ref fa))
  (a_TintError:W.nsIn K mainGlobals "TintError" = some (some (.ref iU)))
  (a_NoRules:W.nsIn K mainGlobals "NoRules" = some (some (.ref j9)))
  (a_Rings:W.nsIn K mainGlobals "Rings" = some (some (.ref oN)))
  (a_NoPlace:W.nsIn K mainGlobals "NoPlace" = some (some (.ref kj)))
  (a_Pattern:W.nsIn K mainGlobals "Pattern" = some (some (.ref iD)))
  (a_Word:W.nsIn K mainGlobals "Word" = some (some (.ref b8)))
  (a_One:W.nsIn K mainGlobals "One" = some (some (.ref cT)))
  (a_Without:W.nsIn K mainGlobals "Without" = some (some (.ref br)))
  (a_Many:W.nsIn K mainGlobals "Many" = some (some (.ref b9)))
  (a_Any:W.nsIn K mainGlobals "Any" = some (some (.ref dz)))
  (a_Still:W.nsIn K mainGlobals "Still" = some (some (.ref bO)))
  (a_End:W.nsIn K mainGlobals "End" = some (some (.ref dG)))
  (a_Rule:W.nsIn K mainGlobals "Rule" = some (some (.ref cM)))
  (a_Mode:W.nsIn K mainGlobals "Mode" = some (some (.ref bZ)))
  (a_Rules:W.nsIn K mainGlobals "Rules" = some (some (.ref cR)))
  (a_GoneRow:W.nsIn K mainGlobals "GoneRow" = some (some (.ref bg)))
  (a_Tinted:W.nsIn K mainGlobals "Tinted" = some (some (.ref aH)))
  (a_Cursor:W.nsIn K mainGlobals "Cursor" = some (some (.ref bu)))
  (a_q20:W.findIn K (.ref iD) "eaten" = some (some (.ref tD)))
  (i_q20:W.isFn K (.ref tD) = true)
  (Jp:bG K "eaten" "Pattern.eaten" ER tD B3)
  (a_q21:W.findIn K (.ref iD) "eats" = some (some (.ref jf)))
  (i_q21:W.isFn K (.ref jf) = true)
  (rG:bG K "eats" "Pattern.eats" FE jf pN)
  (a_q46:W.findIn K (.ref b8) "__init__" = some (some (.ref nP)))
  (i_q46:W.isFn K (.ref nP) = true)
  (BP:bG K "__init__" "Word.__init__" G8 nP wc)
  (a_q47:W.findIn K (.ref b8) "eaten" = some (some (.ref lW)))
  (i_q47:W.isFn K (.ref lW) = true)
  (yo:bG K "eaten" "Word.eaten" Er lW tF)
  (a_q48:W.findIn K (.ref b8) "eats" = some (some (.ref mw)))
  (i_q48:W.isFn K (.ref mw) = true)
  (xx:bG K "eats" "Word.eats" EG mw uh)
  (a_q17:W.findIn K (.ref cT) "__init__" = some (some (.ref nN)))
  (i_q17:W.isFn K (.ref nN) = true)
  (BI:bG K "__init__" "One.__init__" Gr nN vH)
  (a_q18:W.findIn K (.ref cT) "eaten" = some (some (.ref l9)))
  (i_q18:W.isFn K (.ref l9) = true)
  (yq:bG K "eaten" "One.eaten" En l9 sU)
  (a_q19:W.findIn K (.ref cT) "eats" = some (some (.ref lC)))
  (i_q19:W.isFn K (.ref lC) = true)
  (wJ:bG K "eats" "One.eats" FP lC uy)
  (a_q43:W.findIn K (.ref br) "__init__" = some (some (.ref oi)))
  (i_q43:W.isFn K (.ref oi) = true)
  (Bv:bG K "__init__" "Without.__init__" Et oi yN)
  (a_q44:W.findIn K (.ref br) "eaten" = some (some (.ref k9)))
  (i_q44:W.isFn K (.ref k9) = true)
  (vI:bG K "eaten" "Without.eaten" Hj k9 uC)
  (a_q45:W.findIn K (.ref br) "eats" = some (some (.ref lZ)))
  (i_q45:W.isFn K (.ref lZ) = true)
  (wD:bG K "eats" "Without.eats" GC lZ tV)
  (a_q12:W.findIn K (.ref b9) "__init__" = some (some (.ref nC)))
  (i_q12:W.isFn K (.ref nC) = true)
  (A1:bG K "__init__" "Many.__init__" Gg nC yE)
  (a_q13:W.findIn K (.ref b9) "eaten" = some (some (.ref lV)))
  (i_q13:W.isFn K (.ref lV) = true)
  (vU:bG K "eaten" "Many.eaten" DE lV uq)
  (a_q14:W.findIn K (.ref b9) "eats" = some (some (.ref lJ)))
  (i_q14:W.isFn K (.ref lJ) = true)
  (zG:bG K "eats" "Many.eats" Du lJ tQ)
  (a_q0:W.findIn K (.ref dz) "eaten" = some (some (.ref vh)))
  (i_q0:W.isFn K (.ref vh) = true)
  (DS:bG K "eaten" "Any.eaten" K4 vh Cb)
  (a_q1:W.findIn K (.ref dz) "eats" = some (some (.ref uF)))
  (i_q1:W.isFn K (.ref uF) = true)
  (Ff:bG K "eats" "Any.eats" KW uF CU)
  (a_q25:W.findIn K (.ref bO) "eaten" = some (some (.ref lY)))
  (i_q25:W.isFn K (.ref lY) = true)
  (zc:bG K "eaten" "Still.eaten" EK lY tH)
  (a_q10:W.findIn K (.ref dG) "eaten" = some (some (.ref lU)))
  (i_q10:W.isFn K (.ref lU) = true)
  (xo:bG K "eaten" "End.eaten" Eu lU uv)
  (a_q23:W.findIn K (.ref cM) "__init__" = some (some (.ref om)))
  (i_q23:W.isFn K (.ref om) = true)
  (wj:bG K "__init__" "Rule.__init__" EX om yX)
  (a_q15:W.findIn K (.ref bZ) "__init__" = some (some (.ref nh)))
  (i_q15:W.isFn K (.ref nh) = true)
  (wQ:bG K "__init__" "Mode.__init__" CY nh yK)
  (a_q24:W.findIn K (.ref cR) "__init__" = some (some (.ref ny)))
  (i_q24:W.isFn K (.ref ny) = true)
  (yr:bG K "__init__" "Rules.__init__" F4 ny xX)
  (a_q11:W.findIn K (.ref bg) "__init__" = some (some (.ref nZ)))
  (i_q11:W.isFn K (.ref nZ) = true)
  (xQ:bG K "__init__" "GoneRow.__init__" Hi nZ wo)
  (a_q26:W.findIn K (.ref aH) "__init__" = some (some (.ref nE)))
  (i_q26:W.isFn K (.ref nE) = true)
  (A8:bG K "__init__" "Tinted.__init__" F6 nE xE)
  (a_q42:W.findIn K (.ref aH) "rows" = some (some (.ref nF)))
  (i_q42:W.isFn K (.ref nF) = true)
  (qZ:bG K "rows" "Tinted.rows" BW nF v8)
  (a_q31:W.findIn K (.ref aH) "begin" = some (some (.ref nG)))
  (i_q31:W.isFn K (.ref nG) = true)
  (xr:bG K "begin" "Tinted.begin" F5 nG yF)
  (a_q33:W.findIn K (.ref aH) "colours" = some (some (.ref nT)))
  (i_q33:W.isFn K (.ref nT) = true)
  (yH:bG K "colours" "Tinted.colours" D3 nT xB)
  (a_q38:W.findIn K (.ref aH) "marks" = some (some (.ref nJ)))
  (i_q38:W.isFn K (.ref nJ) = true)
  (vQ:bG K "marks" "Tinted.marks" DK nJ yG)
  (a_q32:W.findIn K (.ref aH) "change" = some (some (.ref nA)))
  (i_q32:W.isFn K (.ref nA) = true)
  (sS:bG K "change" "Tinted.change" EB nA yc)
  (a_q41:W.findIn K (.ref aH) "put" = some (some (.ref nU)))
  (i_q41:W.isFn K (.ref nU) = true)
  (xw:bG K "put" "Tinted.put" Ew nU xF)
  (a_q34:W.findIn K (.ref aH) "cut" = some (some (.ref nR)))
  (i_q34:W.isFn K (.ref nR) = true)
  (xP:bG K "cut" "Tinted.cut" DY nR xT)
  (a_q40:W.findIn K (.ref aH) "part" = some (some (.ref nj)))
  (i_q40:W.isFn K (.ref nj) = true)
  (yk:bG K "part" "Tinted.part" DF nj xR)
  (a_q36:W.findIn K (.ref aH) "go_over" = some (some (.ref nS)))
  (i_q36:W.isFn K (.ref nS) = true)
  (t7:bG K "go_over" "Tinted.go_over" Dm nS wA)
  (a_q35:W.findIn K (.ref aH) "go_on" = some (some (.ref nu)))
  (i_q35:W.isFn K (.ref nu) = true)
  (zA:bG K "go_on" "Tinted.go_on" Gd nu yP)
  (a_q39:W.findIn K (.ref aH) "modes_ahead" = some (some (.ref ni)))
  (i_q39:W.isFn K (.ref ni) = true)
  (oS:bG K "modes_ahead" "Tinted.modes_ahead" Gb ni zB)
  (a_q37:W.findIn K (.ref aH) "gone_row" = some (some (.ref nW)))
  (i_q37:W.isFn K (.ref nW) = true)
  (qQ:bG K "gone_row" "Tinted.gone_row" Ec nW yh)
  (a_q29:W.findIn K (.ref aH) "ask_row" = some (some (.ref oq)))
  (i_q29:W.isFn K (.ref oq) = true)
  (ur:bG K "ask_row" "Tinted.ask_row" D7 oq yV)
  (a_q27:W.findIn K (.ref aH) "ask_place" = some (some (.ref nQ)))
  (i_q27:W.isFn K (.ref nQ) = true)
  (rH:bG K "ask_place" "Tinted.ask_place" EH nQ wG)
  (a_q28:W.findIn K (.ref aH) "ask_places" = some (some (.ref oh)))
  (i_q28:W.isFn K (.ref oh) = true)
  (uA:bG K "ask_places" "Tinted.ask_places" Eh oh v7)
  (a_q30:W.findIn K (.ref aH) "ask_taken" = some (some (.ref nq)))
  (i_q30:W.isFn K (.ref nq) = true)
  (xg:bG K "ask_taken" "Tinted.ask_taken" Fd nq vR)
  (a_q2:W.findIn K (.ref bu) "__init__" = some (some (.ref zy)))
  (i_q2:W.isFn K (.ref zy) = true)
  (HY:bG K "__init__" "Cursor.__init__" M4 zy EE)
  (a_q4:W.findIn K (.ref bu) "more" = some (some (.ref xM)))
  (i_q4:W.isFn K (.ref xM) = true)
  (zu:bG K "more" "Cursor.more" KO xM FI)
  (a_q5:W.findIn K (.ref bu) "peek" = some (some (.ref yd)))
  (i_q5:W.isFn K (.ref yd) = true)
  (qb:bG K "peek" "Cursor.peek" My yd FG)
  (a_q3:W.findIn K (.ref bu) "ask" = some (some (.ref xZ)))
  (i_q3:W.isFn K (.ref xZ) = true)
  (sP:bG K "ask" "Cursor.ask" MH xZ EU)
  (a_q6:W.findIn K (.ref bu) "take" = some (some (.ref wz)))
  (i_q6:W.isFn K (.ref wz) = true)
  (Av:bG K "take" "Cursor.take" Mc wz DM)
  (a_q7:W.findIn K (.ref bu) "take_choice" = some (some (.ref wZ)))
  (i_q7:W.isFn K (.ref wZ) = true)
  (zz:bG K "take_choice" "Cursor.take_choice" K3 wZ Ea)
  (a_q8:W.findIn K (.ref bu) "take_name" = some (some (.ref w6)))
  (i_q8:W.isFn K (.ref w6) = true)
  (za:bG K "take_name" "Cursor.take_name" Lr w6 Fv)
  (a_q9:W.findIn K (.ref bu) "take_signs" = some (some (.ref wU)))
  (i_q9:W.isFn K (.ref wU) = true)
  (Hg:bG K "take_signs" "Cursor.take_signs" Kq wU EZ)
  (a_q74:W.nsIn K mainGlobals "is_name" = some (some (.ref pL)))
  (zf:bG K "is_name" "is_name" A9 pL zx)
  (a_q69:W.nsIn K mainGlobals "copied_rules" = some (some (.ref pX)))
  (yy:bG K "copied_rules" "copied_rules" B4 pX wK)
  (a_q67:W.nsIn K mainGlobals "copied_mode" = some (some (.ref qi)))
  (yI:bG K "copied_mode" "copied_mode" BD qi wV)
  (a_q68:W.nsIn K mainGlobals "copied_rule" = some (some (.ref rW)))
  (xu:bG K "copied_rule" "copied_rule" E5 rW yS)
  (a_q71:W.nsIn K mainGlobals "first_rule" = some (some (.ref rF)))
  (qL:bG K "first_rule" "first_rule" EC rF v9)
  (a_q70:W.nsIn K mainGlobals "do_deed" = some (some (.ref pQ)))
  (su:bG K "do_deed" "do_deed" Fp pQ zC)
  (a_q66:W.nsIn K mainGlobals "ask_rings" = some (some (.ref qa)))
  (vO:bG K "ask_rings" "ask_rings" FW qa xV)
  (a_q82:W.nsIn K mainGlobals "ring_of" = some (some (.ref qc)))
  (p9:bG K "ring_of" "ring_of" Bp qc yD)
  (a_q85:W.nsIn K mainGlobals "short_rows" = some (some (.ref r8)))
  (wN:bG K "short_rows" "short_rows" DJ r8 yj)
  (a_q81:W.nsIn K mainGlobals "ring_from" = some (some (.ref rP)))
  (sj:bG K "ring_from" "ring_from" Dr rP vJ)
  (a_q73:W.nsIn K mainGlobals "idle_rule" = some (some (.ref rL)))
  (oW:bG K "idle_rule" "idle_rule" DL rL wO)
  (a_q72:W.nsIn K mainGlobals "gone_over" = some (some (.ref q8)))
  (zF:bG K "gone_over" "gone_over" Ey q8 yb)
  (a_q83:W.nsIn K mainGlobals "same_ahead" = some (some (.ref qE)))
  (pH:bG K "same_ahead" "same_ahead" E2 qE xG)
  (a_q84:W.nsIn K mainGlobals "same_back" = some (some (.ref r9)))
  (we:bG K "same_back" "same_back" CZ r9 zm)
  (a_q80:W.nsIn K mainGlobals "read_rules" = some (some (.ref qO)))
  (pe:bG K "read_rules" "read_rules" Fe qO vP)
  (a_q75:W.nsIn K mainGlobals "mode_numbers" = some (some (.ref pB)))
  (zp:bG K "mode_numbers" "mode_numbers" Ek pB xW)
  (a_q77:W.nsIn K mainGlobals "read_mode" = some (some (.ref qC)))
  (xh:bG K "read_mode" "read_mode" AY qC yY)
  (a_q79:W.nsIn K mainGlobals "read_rule" = some (some (.ref qT)))
  (yT:bG K "read_rule" "read_rule" C0 qT vV)
  (a_q78:W.nsIn K mainGlobals "read_pattern" = some (some (.ref rX)))
  (yZ:bG K "read_pattern" "read_pattern" E4 rX yW)
  (a_q76:W.nsIn K mainGlobals "read_goal" = some (some (.ref ql)))
  (xy:bG K "read_goal" "read_goal" FN ql vL)
  (a_q51:W.nsIn K mainGlobals "_law_draw" = some (some (.ref pK)))
  (bY:bG K "_law_draw" "_law_draw" Eb pK xH)
  (a_q62:W.nsIn K mainGlobals "_law_signs" = some (some (.ref qD)))
  (vY:bG K "_law_signs" "_law_signs" BL qD yM)
  (a_q60:W.nsIn K mainGlobals "_law_rule" = some (some (.ref qh)))
  (yU:bG K "_law_rule" "_law_rule" EY qh wM)
  (a_q56:W.nsIn K mainGlobals "_law_modes" = some (some (.ref sE)))
  (pR:bG K "_law_modes" "_law_modes" Gh sE yi)
  (a_q64:W.nsIn K mainGlobals "_law_text" = some (some (.ref q9)))
  (qk:bG K "_law_text" "_law_text" G6 q9 yL)
  (a_q55:W.nsIn K mainGlobals "_law_let_by" = some (some (.ref o6)))
  (zk:bG K "_law_let_by" "_law_let_by" Fz o6 zD)
  (a_q52:W.nsIn K mainGlobals "_law_eaten" = some (some (.ref sD)))
  (rq:bG K "_law_eaten" "_law_eaten" Di sD wY)
  (a_q53:W.nsIn K mainGlobals "_law_first" = some (some (.ref qP)))
  (qo:bG K "_law_first" "_law_first" FQ qP yQ)
  (a_q50:W.nsIn K mainGlobals "_law_deed" = some (some (.ref oV)))
  (xm:bG K "_law_deed" "_law_deed" Ez oV yJ)
  (a_q54:W.nsIn K mainGlobals "_law_gone" = some (some (.ref qx)))
  (vG:bG K "_law_gone" "_law_gone" DI qx zd)
  (a_q59:W.nsIn K mainGlobals "_law_row" = some (some (.ref sA)))
  (yg:bG K "_law_row" "_law_row" Be sA yp)
  (a_q65:W.nsIn K mainGlobals "_law_whole" = some (some (.ref qU)))
  (pW:bG K "_law_whole" "_law_whole" Dq qU xD)
  (a_q61:W.nsIn K mainGlobals "_law_shows" = some (some (.ref qF)))
  (wI:bG K "_law_shows" "_law_shows" A2 qF ze)
  (a_q49:W.nsIn K mainGlobals "_law_count" = some (some (.ref qK)))
  (zl:bG K "_law_count" "_law_count" Ei qK zq)
  (a_q58:W.nsIn K mainGlobals "_law_place" = some (some (.ref qG)))
  (pA:bG K "_law_place" "_law_place" Df qG xS)
  (a_q63:W.nsIn K mainGlobals "_law_spot" = some (some (.ref rY)))
  (o5:bG K "_law_spot" "_law_spot" Bm rY wH)
  (a_q57:W.nsIn K mainGlobals "_law_piece" = some (some (.ref rK)))
  (vX:bG K "_law_piece" "_law_piece" BF rK wX)
  (a_law:W.nsIn K mainGlobals "law" = some (some (.ref f_law)))
  (F_law:bG K "law" "law" A0 f_law d_law)
  (pg_Word:W.plainGet K b8 Str.empty = true)
  (hd_Word:W.hasDictIn K b8 = true)
  (po_Word:W.plainOver K b8 = true)
  (sa_Word:W.findIn K (.ref b8) "__setattr__" = some (some (.builtin "object.__setattr__")))
  (vd:W.makesIn K b8 = true)
  (kc_Word:W.keepIn K (.ref b8) = true)
  (fK:W.findIn K (.ref b8) "wanted" = some none)
  (pg_One:W.plainGet K cT Str.empty = true)
  (hd_One:W.hasDictIn K cT = true)
  (po_One:W.plainOver K cT = true)
  (sa_One:W.findIn K (.ref cT) "__setattr__" = some (some (.builtin "object.__setattr__")))
  (Ab:W.makesIn K cT = true)
  (kc_One:W.keepIn K (.ref cT) = true)
  (iW:W.findIn K (.ref cT) "signs" = some none)
  (pg_Without:W.plainGet K br Str.empty = true)
  (hd_Without:W.hasDictIn K br = true)
  (po_Without:W.plainOver K br = true)
  (sa_Without:W.findIn K (.ref br) "__setattr__" = some (some (.builtin "object.__setattr__")))
  (kY:W.makesIn K br = true)
  (kc_Without:W.keepIn K (.ref br) = true)
  (fS:W.findIn K (.ref br) "signs" = some none)
  (pg_Many:W.plainGet K b9 Str.empty = true)
  (hd_Many:W.hasDictIn K b9 = true)
  (po_Many:W.plainOver K b9 = true)
  (sa_Many:W.findIn K (.ref b9) "__setattr__" = some (some (.builtin "object.__setattr__")))
  (uR:W.makesIn K b9 = true)
  (kc_Many:W.keepIn K (.ref b9) = true)
  (iz:W.findIn K (.ref b9) "signs" = some none)
  (pg_Any:W.plainGet K dz Str.empty = true)
  (hd_Any:W.hasDictIn K dz = true)
  (po_Any:W.plainOver K dz = true)
  (sa_Any:W.findIn K (.ref dz) "__setattr__" = some (some (.builtin "object.__setattr__")))
  (zR:W.makesIn K dz = true)
  (kc_Any:W.keepIn K (.ref dz) = true)
  (oi_Any:W.findIn K (.ref dz) "__init__" = some (some (.builtin "object.__init__")))
  (pg_Still:W.plainGet K bO Str.empty = true)
  (hd_Still:W.hasDictIn K bO = true)
  (po_Still:W.plainOver K bO = true)
  (sa_Still:W.findIn K (.ref bO) "__setattr__" = some (some (.builtin "object.__setattr__")))
  (qg:W.makesIn K bO = true)
  (kc_Still:W.keepIn K (.ref bO) = true)
  (oi_Still:W.findIn K (.ref bO) "__init__" = some (some (.builtin "object.__init__")))
  (h_Still_eats:W.findIn K (.ref bO) "eats" = some (some (.ref jf)))
  (pg_End:W.plainGet K dG Str.empty = true)
  (hd_End:W.hasDictIn K dG = true)
  (po_End:W.plainOver K dG = true)
  (sa_End:W.findIn K (.ref dG) "__setattr__" = some (some (.builtin "object.__setattr__")))
  (Ad:W.makesIn K dG = true)
  (kc_End:W.keepIn K (.ref dG) = true)
  (oi_End:W.findIn K (.ref dG) "__init__" = some (some (.builtin "object.__init__")))
  (h_End_eats:W.findIn K (.ref dG) "eats" = some (some (.ref jf)))
  (pg_Rule:W.plainGet K cM Str.empty = true)
  (hd_Rule:W.hasDictIn K cM = true)
  (po_Rule:W.plainOver K cM = true)
  (sa_Rule:W.findIn K (.ref cM) "__setattr__" = some (some (.builtin "object.__setattr__")))
  (oB:W.makesIn K cM = true)
  (kc_Rule:W.keepIn K (.ref cM) = true)
  (cW:W.findIn K (.ref cM) "pattern" = some none)
  (fH:W.findIn K (.ref cM) "colour" = some none)
  (d9:W.findIn K (.ref cM) "deed" = some none)
  (gh:W.findIn K (.ref cM) "goal" = some none)
  (fZ:W.findIn K (.ref cM) "fold" = some none)
  (pg_Mode:W.plainGet K bZ Str.empty = true)
  (hd_Mode:W.hasDictIn K bZ = true)
  (po_Mode:W.plainOver K bZ = true)
  (sa_Mode:W.findIn K (.ref bZ) "__setattr__" = some (some (.builtin "object.__setattr__")))
  (oE:W.makesIn K bZ = true)
  (kc_Mode:W.keepIn K (.ref bZ) = true)
  (gg:W.findIn K (.ref bZ) "name" = some none)
  (fN:W.findIn K (.ref bZ) "colour" = some none)
  (dF:W.findIn K (.ref bZ) "rules" = some none)
  (pg_Rules:W.plainGet K cR Str.empty = true)
  (hd_Rules:W.hasDictIn K cR = true)
  (po_Rules:W.plainOver K cR = true)
  (sa_Rules:W.findIn K (.ref cR) "__setattr__" = some (some (.builtin "object.__setattr__")))
  (lS:W.makesIn K cR = true)
  (kc_Rules:W.keepIn K (.ref cR) = true)
  (cB:W.findIn K (.ref cR) "modes" = some none)
  (pg_Cursor:W.plainGet K bu Str.empty = true)
  (hd_Cursor:W.hasDictIn K bu = true)
  (po_Cursor:W.plainOver K bu = true)
  (sa_Cursor:W.findIn K (.ref bu) "__setattr__" = some (some (.builtin "object.__setattr__")))
  (mH:W.makesIn K bu = true)
  (kc_Cursor:W.keepIn K (.ref bu) = true)
  (iA:W.findIn K (.ref bu) "row" = some none)
  (e9:W.findIn K (.ref bu) "words" = some none)
  (fj:W.findIn K (.ref bu) "at" = some none)
  (pg_GoneRow:W.plainGet K bg Str.empty = true)
  (hd_GoneRow:W.hasDictIn K bg = true)
  (po_GoneRow:W.plainOver K bg = true)
  (sa_GoneRow:W.findIn K (.ref bg) "__setattr__" = some (some (.builtin "object.__setattr__")))
  (jm:W.makesIn K bg = true)
  (kc_GoneRow:W.keepIn K (.ref bg) = true)
  (cy:W.findIn K (.ref bg) "signs" = some none)
  (dW:W.findIn K (.ref bg) "before" = some none)
  (fT:W.findIn K (.ref bg) "tints" = some none)
  (d7:W.findIn K (.ref bg) "behind" = some none)
  (fu:W.findIn K (.ref bg) "folded" = some none)
  (pg_Tinted:W.plainGet K aH Str.empty = true)
  (hd_Tinted:W.hasDictIn K aH = true)
  (po_Tinted:W.plainOver K aH = true)
  (sa_Tinted:W.findIn K (.ref aH) "__setattr__" = some (some (.builtin "object.__setattr__")))
  (mW:W.makesIn K aH = true)
  (kc_Tinted:W.keepIn K (.ref aH) = true)
  (fh:W.findIn K (.ref aH) "rules" = some none)
  (aP:W.findIn K (.ref aH) "gone_rows" = some none)
  (cg:W.specialIn K (.builtin "object.__class__") "__get__" = some (some (.builtin "getset_descriptor.__get__")))
  (ct:W.takesIn K (.builtin "object.__class__") = some true)
  (uD:W.findIn K (.ref b8) "__class__" = some (some (.builtin "object.__class__")))
  (uP:W.mroIn K b8 (.type "object") = some true)
  (AR:W.findIn K (.ref cT) "__class__" = some (some (.builtin "object.__class__")))
  (zV:W.mroIn K cT (.type "object") = some true)
  (kL:W.findIn K (.ref br) "__class__" = some (some (.builtin "object.__class__")))
  (kN:W.mroIn K br (.type "object") = some true)
  (uT:W.findIn K (.ref b9) "__class__" = some (some (.builtin "object.__class__")))
  (uK:W.mroIn K b9 (.type "object") = some true)
  (Ao:W.findIn K (.ref dz) "__class__" = some (some (.builtin "object.__class__")))
  (AH:W.mroIn K dz (.type "object") = some true)
  (pO:W.findIn K (.ref bO) "__class__" = some (some (.builtin "object.__class__")))
  (rR:W.mroIn K bO (.type "object") = some true)
  (zX:W.findIn K (.ref dG) "__class__" = some (some (.builtin "object.__class__")))
  (Aj:W.mroIn K dG (.type "object") = some true)
  (kE:W.kitOne K (.ref b8) (.ref b8) = some true)
  (nM:W.kitOne K (.ref cT) (.ref cT) = some true)
  (ir:W.kitOne K (.ref br) (.ref br) = some true)
  (kI:W.kitOne K (.ref b9) (.ref b9) = some true)
  (nO:W.kitOne K (.ref dz) (.ref dz) = some true)
  (jz:W.kitOne K (.ref bO) (.ref bO) = some true)
  (oj:W.kitOne K (.ref dG) (.ref dG) = some true)
  (qy:W.kitOne K (.type "int") (.type "int") = some true)
  (jG:W.kitOne K (.type "int") (.type "bool") = some false)
  (v_LETTERS:W.nsIn K mainGlobals "LETTERS" = some (some (.str "abcdefghijklmnopqrstuvwxyz" u_LETTERS)))
  (v_LONGEST_NAME:W.nsIn K mainGlobals "LONGEST_NAME" = some (some (.int 8 u_LONGEST_NAME)))
  (v_START:W.nsIn K mainGlobals "START" = some (some (.int 0 u_START)))
  (v_SIGNS:W.nsIn K mainGlobals "SIGNS" = some (some (.str " !\"#$&'()*+,-./0123456789:;<=>?@ABCDEFGHIJKLMNOPQRSTUVWXYZ[\\]^_`abcdefghijklmnopqrstuvwxyz{|}~" u_SIGNS)))
  (v_MOST_MODES:W.nsIn K mainGlobals "MOST_MODES" = some (some (.int 12 u_MOST_MODES)))
  (v_MOST_RULES:W.nsIn K mainGlobals "MOST_RULES" = some (some (.int 12 u_MOST_RULES)))
  (v_PATTERNS:W.nsIn K mainGlobals "PATTERNS" = some (some (.ref fk)))
  (o_PATTERNS:K.lookup fk = some ⟨.type "tuple",od_PATTERNS,.seq #[.str "word" u0_PATTERNS,.str "one" u1_PATTERNS,.str "none" u2_PATTERNS,.str "many" u3_PATTERNS,.str "any" u4_PATTERNS,.str "still" u5_PATTERNS,.str "end" u6_PATTERNS] n_PATTERNS,sl_PATTERNS⟩)
  (v_DEEDS:W.nsIn K mainGlobals "DEEDS" = some (some (.ref iY)))
  (o_DEEDS:K.lookup iY = some ⟨.type "tuple",od_DEEDS,.seq #[.str "stay" u0_DEEDS,.str "push" u1_DEEDS,.str "pop" u2_DEEDS,.str "into" u3_DEEDS] n_DEEDS,sl_DEEDS⟩)
  (v_GOING:W.nsIn K mainGlobals "GOING" = some (some (.ref jr)))
  (o_GOING:K.lookup jr = some ⟨.type "tuple",od_GOING,.seq #[.str "push" u0_GOING,.str "into" u1_GOING] n_GOING,sl_GOING⟩)
  (v_FOLDS:W.nsIn K mainGlobals "FOLDS" = some (some (.ref i7)))
  (o_FOLDS:K.lookup i7 = some ⟨.type "tuple",od_FOLDS,.seq #[.str "open" u0_FOLDS,.str "close" u1_FOLDS] n_FOLDS,sl_FOLDS⟩)
  (EL:W.nsIn K mainGlobals "all" = some none)
  (zI:W.nsIn K mainGlobals "bool" = some none)
  (iX:W.nsIn K mainGlobals "enumerate" = some none)
  (uB:W.nsIn K mainGlobals "int" = some none)
  (jv:W.nsIn K mainGlobals "isinstance" = some none)
  (bK:W.nsIn K mainGlobals "len" = some none)
  (iO:W.nsIn K mainGlobals "list" = some none)
  (fE:W.nsIn K mainGlobals "range" = some none)
  (jj:W.nsIn K mainGlobals "reversed" = some none)
  (qN:W.nsIn K mainGlobals "sorted" = some none)
  (ED:W.nsIn K mainGlobals "sum" = some none)
  (AZ:W.nsIn K mainGlobals "tuple" = some none)
  (EA:W.nsIn K mainGlobals "zip" = some none)
  : ∃ fd:FuncData,(∀ (s:Shared) (v:Value),BindsTo s fd ⟨[v],[]⟩ [("_law_script",v)]) /\ ∀ base:Heap,K.In base -> base.Ns mainGlobals mg -> bC l.prog w K mg base c6 10 fa fd ["_law_script"] (BA K):=by
 have e:=hfa.symm.trans (W.mg_of X G a_law)
 cases e
 let t:gp:=⟨iU,j9,oN,kj,iD,b8,cT,br,b9,dz,bO,dG,cM,bZ,cR,bg,aH,bu,tD,B3,jf,pN,nP,wc,lW,tF,mw,uh,nN,vH,l9,sU,lC,uy,oi,yN,k9,uC,lZ,tV,nC,yE,lV,uq,lJ,tQ,vh,Cb,uF,CU,lY,tH,lU,uv,pL,zx,om,yX,nh,yK,ny,xX,pX,wK,qi,wV,rW,yS,rF,v9,pQ,zC,qa,xV,qc,yD,r8,yj,rP,vJ,rL,wO,q8,yb,nZ,wo,nE,xE,nF,v8,nG,yF,nT,xB,nJ,yG,nA,yc,nU,xF,nR,xT,nj,xR,nS,wA,nu,yP,ni,zB,nW,yh,oq,yV,nQ,wG,oh,v7,nq,vR,qE,xG,r9,zm,zy,EE,xM,FI,yd,FG,xZ,EU,wz,DM,wZ,Ea,w6,Fv,wU,EZ,qO,vP,pB,xW,qC,yY,qT,vV,rX,yW,ql,vL,pK,xH,qD,yM,qh,wM,sE,yi,q9,yL,o6,zD,sD,wY,qP,yQ,oV,yJ,qx,zd,sA,yp,qU,xD,qF,ze,qK,zq,qG,xS,rY,wH,rK,wX,fk,iY,jr,i7⟩
 have T:Txt K mg t:=⟨W.mg_of X G a_TintError,W.mg_of X G a_NoRules,W.mg_of X G a_Rings,W.mg_of X G a_NoPlace,W.mg_of X G a_Pattern,W.mg_of X G a_Word,W.mg_of X G a_One,W.mg_of X G a_Without,W.mg_of X G a_Many,W.mg_of X G a_Any,W.mg_of X G a_Still,W.mg_of X G a_End,W.mg_of X G a_Rule,W.mg_of X G a_Mode,W.mg_of X G a_Rules,W.mg_of X G a_GoneRow,W.mg_of X G a_Tinted,W.mg_of X G a_Cursor,Jp,rG,BP,yo,xx,BI,yq,wJ,Bv,vI,wD,A1,vU,zG,DS,Ff,zc,xo,wj,wQ,yr,xQ,A8,qZ,xr,yH,vQ,sS,xw,xP,yk,t7,zA,oS,qQ,ur,rH,uA,xg,HY,zu,qb,sP,Av,zz,za,Hg,zf,W.mg_of X G a_q74,yy,W.mg_of X G a_q69,yI,W.mg_of X G a_q67,xu,W.mg_of X G a_q68,qL,W.mg_of X G a_q71,su,W.mg_of X G a_q70,vO,W.mg_of X G a_q66,p9,W.mg_of X G a_q82,wN,W.mg_of X G a_q85,sj,W.mg_of X G a_q81,oW,W.mg_of X G a_q73,zF,W.mg_of X G a_q72,pH,W.mg_of X G a_q83,we,W.mg_of X G a_q84,pe,W.mg_of X G a_q80,zp,W.mg_of X G a_q75,xh,W.mg_of X G a_q77,yT,W.mg_of X G a_q79,yZ,W.mg_of X G a_q78,xy,W.mg_of X G a_q76,bY,W.mg_of X G a_q51,vY,W.mg_of X G a_q62,yU,W.mg_of X G a_q60,pR,W.mg_of X G a_q56,qk,W.mg_of X G a_q64,zk,W.mg_of X G a_q55,rq,W.mg_of X G a_q52,qo,W.mg_of X G a_q53,xm,W.mg_of X G a_q50,vG,W.mg_of X G a_q54,yg,W.mg_of X G a_q59,pW,W.mg_of X G a_q65,wI,W.mg_of X G a_q61,zl,W.mg_of X G a_q49,pA,W.mg_of X G a_q58,o5,W.mg_of X G a_q63,vX,W.mg_of X G a_q57,⟨pg_Word,hd_Word,po_Word,sa_Word⟩,⟨vd,a_q46,i_q46,kc_Word⟩,fK,⟨a_q47,i_q47,yo.kp⟩,⟨a_q48,i_q48,xx.kp⟩,⟨pg_One,hd_One,po_One,sa_One⟩,⟨Ab,a_q17,i_q17,kc_One⟩,iW,⟨a_q18,i_q18,yq.kp⟩,⟨a_q19,i_q19,wJ.kp⟩,⟨pg_Without,hd_Without,po_Without,sa_Without⟩,⟨kY,a_q43,i_q43,kc_Without⟩,fS,⟨a_q44,i_q44,vI.kp⟩,⟨a_q45,i_q45,wD.kp⟩,⟨pg_Many,hd_Many,po_Many,sa_Many⟩,⟨uR,a_q12,i_q12,kc_Many⟩,iz,⟨a_q13,i_q13,vU.kp⟩,⟨a_q14,i_q14,zG.kp⟩,⟨pg_Any,hd_Any,po_Any,sa_Any⟩,⟨zR,oi_Any,kc_Any⟩,⟨a_q0,i_q0,DS.kp⟩,⟨a_q1,i_q1,Ff.kp⟩,⟨pg_Still,hd_Still,po_Still,sa_Still⟩,⟨qg,oi_Still,kc_Still⟩,⟨a_q25,i_q25,zc.kp⟩,⟨h_Still_eats,i_q21,rG.kp⟩,⟨pg_End,hd_End,po_End,sa_End⟩,⟨Ad,oi_End,kc_End⟩,⟨a_q10,i_q10,xo.kp⟩,⟨h_End_eats,i_q21,rG.kp⟩,⟨pg_Rule,hd_Rule,po_Rule,sa_Rule⟩,⟨oB,a_q23,i_q23,kc_Rule⟩,cW,fH,d9,gh,fZ,⟨pg_Mode,hd_Mode,po_Mode,sa_Mode⟩,⟨oE,a_q15,i_q15,kc_Mode⟩,gg,fN,dF,⟨pg_Rules,hd_Rules,po_Rules,sa_Rules⟩,⟨lS,a_q24,i_q24,kc_Rules⟩,cB,⟨pg_Cursor,hd_Cursor,po_Cursor,sa_Cursor⟩,⟨mH,a_q2,i_q2,kc_Cursor⟩,iA,e9,fj,⟨a_q4,i_q4,zu.kp⟩,⟨a_q5,i_q5,qb.kp⟩,⟨a_q3,i_q3,sP.kp⟩,⟨a_q6,i_q6,Av.kp⟩,⟨a_q7,i_q7,zz.kp⟩,⟨a_q8,i_q8,za.kp⟩,⟨a_q9,i_q9,Hg.kp⟩,⟨pg_GoneRow,hd_GoneRow,po_GoneRow,sa_GoneRow⟩,⟨jm,a_q11,i_q11,kc_GoneRow⟩,cy,dW,fT,d7,fu,⟨pg_Tinted,hd_Tinted,po_Tinted,sa_Tinted⟩,⟨mW,a_q26,i_q26,kc_Tinted⟩,fh,aP,⟨a_q42,i_q42,qZ.kp⟩,⟨a_q31,i_q31,xr.kp⟩,⟨a_q33,i_q33,yH.kp⟩,⟨a_q38,i_q38,vQ.kp⟩,⟨a_q32,i_q32,sS.kp⟩,⟨a_q41,i_q41,xw.kp⟩,⟨a_q34,i_q34,xP.kp⟩,⟨a_q40,i_q40,yk.kp⟩,⟨a_q36,i_q36,t7.kp⟩,⟨a_q35,i_q35,zA.kp⟩,⟨a_q39,i_q39,oS.kp⟩,⟨a_q37,i_q37,qQ.kp⟩,⟨a_q29,i_q29,ur.kp⟩,⟨a_q27,i_q27,rH.kp⟩,⟨a_q28,i_q28,uA.kp⟩,⟨a_q30,i_q30,xg.kp⟩,cg,ct,uD,uP,AR,zV,kL,kN,uT,uK,Ao,AH,pO,rR,zX,Aj,kE,nM,ir,kI,nO,jz,oj,qy,jG,⟨_,W.mg_of X G v_LETTERS,⟨_,rfl⟩⟩,⟨_,W.mg_of X G v_LONGEST_NAME,⟨_,rfl⟩⟩,⟨_,W.mg_of X G v_START,⟨_,rfl⟩⟩,⟨_,W.mg_of X G v_SIGNS,⟨_,rfl⟩⟩,⟨_,W.mg_of X G v_MOST_MODES,⟨_,rfl⟩⟩,⟨_,W.mg_of X G v_MOST_RULES,⟨_,rfl⟩⟩,W.mg_of X G v_PATTERNS,λH=>.inr ⟨_,_,_,o_PATTERNS,rfl,rfl,by show 7 <= sizeLine;decide,.cons ⟨_,rfl⟩ (.cons ⟨_,rfl⟩ (.cons ⟨_,rfl⟩ (.cons ⟨_,rfl⟩ (.cons ⟨_,rfl⟩ (.cons ⟨_,rfl⟩ (.cons ⟨_,rfl⟩ (.nil)))))))⟩,W.mg_of X G v_DEEDS,λH=>.inr ⟨_,_,_,o_DEEDS,rfl,rfl,by show 4 <= sizeLine;decide,.cons ⟨_,rfl⟩ (.cons ⟨_,rfl⟩ (.cons ⟨_,rfl⟩ (.cons ⟨_,rfl⟩ (.nil))))⟩,W.mg_of X G v_GOING,λH=>.inr ⟨_,_,_,o_GOING,rfl,rfl,by show 2 <= sizeLine;decide,.cons ⟨_,rfl⟩ (.cons ⟨_,rfl⟩ (.nil))⟩,W.mg_of X G v_FOLDS,λH=>.inr ⟨_,_,_,o_FOLDS,rfl,rfl,by show 2 <= sizeLine;decide,.cons ⟨_,rfl⟩ (.cons ⟨_,rfl⟩ (.nil))⟩,W.mg_none_of X G EL,W.mg_none_of X G zI,W.mg_none_of X G iX,W.mg_none_of X G uB,W.mg_none_of X G jv,W.mg_none_of X G bK,W.mg_none_of X G iO,W.mg_none_of X G fE,W.mg_none_of X G jj,W.mg_none_of X G qN,W.mg_none_of X G ED,W.mg_none_of X G AZ,W.mg_none_of X G EA⟩
 exact ⟨d_law,(by obtain ⟨_,_,_,_,_,_,_,_,_,e,_⟩:=F_law.ex;rw [e];exact λs v=>.of_eq rfl),λbase _ _=>MF F_law T⟩
theorem walk {l:W.OpenLaw} {q:Program} {loose:List Str} {XP:(Str -> Option Value) -> Heap -> Prop} {YP:World -> Heap -> Prop} {d:DefRec} {K:Params -> W.Frag} (hn:l.most = some 63) (hdf:d.params.defaults = [])
  (hY:∀ (w:World) (h:Heap),YP w h -> (K w.params).In h)
  (F:∀ (w:World) (mg:Str -> Option Value) (fa:Addr) (h:Heap),(K w.params).In h -> h.Ns mainGlobals mg -> mg d.name = some (.ref fa) ->
   ∃ fd:FuncData,(∀ (s:Shared) (u:Value),BindsTo s fd ⟨[u],[]⟩ [("_law_script",u)]) /\ ∀ base:Heap,(K w.params).In base -> base.Ns mainGlobals mg -> bC l.prog w (K w.params) mg base c6 10 fa fd ["_law_script"] (BA (K w.params))) :
  W.WalkO q loose XP YP l.row.toRowW d [] (λf vs=>PySem.call f vs) :=
 L2.Ic (n:=63) (k:=10) (x:="_law_script") (CX:=λ_=>c6) (sp:=λw=>BA (K w.params)) hn (by decide) hdf ⟨rfl,by decide,by decide⟩ hY F (λ_ _ a ns hl _ hS=>⟨a,ns,rfl,hS,hl,λ_=>rfl⟩) λ_ _ _ _ _ z=>z
end K33
open PySem PySem.W PyProof.Rows
set_option maxRecDepth 100000 in
set_option maxHeartbeats 0 in
theorem PySem.Challenge.cw_tintrow_k33_whole_put_and_cut_holds : PySem.Challenge.rw_tintrow_k33_whole_put_and_cut.Holds := by
 w_on;o_law;k_head;(case hw=>w_witness2)
 k_fill
 refine K33.walk (l:=PySem.Challenge.rw_tintrow_k33_whole_put_and_cut) rfl rfl (λw h Y=>PySem.W.kIn_of Y) ?F
 case F =>
  intro w mg fa h KX G hmg
  apply K33.all_mk KX G hmg
  all_goals first | (show PySem.W.kitOne _ _ _ = _;kit_is) | k_is | (apply L2.JN <;> k_is) | k_exc | kernel_rfl
