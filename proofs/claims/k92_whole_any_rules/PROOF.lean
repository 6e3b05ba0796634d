import PyProof.Rows.All
import Wide.All
import OpenK.AllK
import Wide.FinOn
import PyProof.EqAt
import PyProof.EqKinds
import PyProof.TupleCall
import PyProof.ListStr
import PyProof.EnumFor
import PyProof.EnumMake
import PyProof.EnumStmt
import PyProof.StrLawsTight
import PyProof.StrLawsReplace
import PyProof.StrCalls6
import PyProof.ToksMono
import PyProof.CompMap
import KE.KListMore
import PyProof.StationsW
import PyProof.RulesTry
import PyProof.ExcInit
import PyProof.ExcClass3
import OpenK.KOwn
import PyProof.ExcBaseAll.ValueError
import PyProof.RulesAs
import PyProof.NsDelKeeps
import KE.KIsAll
import PyProof.ExcArgsOwn
import PyProof.InstStoreFacts
import KE.KIntText
import PyProof.FString
import PyProof.ListRange
import PySem.Challenge.RW_tintrow_k92_whole_any_rules
set_option Elab.async false
set_option linter.all false
set_option maxRecDepth 100000
namespace L2
open PySem PySem.Spec PyProof.Rows
abbrev Key:=Sum Int Str
def qL:Key -> Value -> Bool
 | .inl k,v=>Value.isInt k v
 | .inr x,v=>Value.isStrOf x v
def MJ (w:World):Key -> Int
 | .inl k=>hashInt k
 | .inr x=>hashStr w x
theorem dj:∀ {k:Key} {v:Value},qL k v = true -> (∃ i t,k = Sum.inl i /\ v = Value.int i t) ∨ (∃ x t,k = Sum.inr x /\ v = Value.str x t)
 | .inl i,v,h=>by
  obtain ⟨t,e⟩:=Value.isInt_shape (k:=i) (v:=v) h
  exact .inl ⟨i,t,rfl,e⟩
 | .inr x,v,h=>by
  obtain ⟨t,e⟩:=Value.isStrOf_shape (x:=x) (v:=v) h
  exact .inr ⟨x,t,rfl,e⟩
theorem Af (i:Int) (t:Tok):qL (.inl i) (.int i t) = true:=by simp [qL,Value.isInt]
theorem Ba (x:Str) (t:Tok):qL (.inr x) (.str x t) = true:=by simp [qL,Value.isStrOf]
theorem Jx (a b:Int):decide ((Sum.inl a:Key) = Sum.inl b) = (a == b):=by
 by_cases e:a = b
 ·subst e;simp
 ·have h:¬ (Sum.inl a:Key) = Sum.inl b:=λq=>e (Sum.inl.inj q)
  rw [decide_eq_false h]
  exact (beq_eq_false_iff_ne.mpr e).symm
theorem Ip (a b:Str):decide ((Sum.inr a:Key) = Sum.inr b) = decide (a = b):=by
 by_cases e:a = b
 ·subst e;simp
 ·have h:¬ (Sum.inr a:Key) = Sum.inr b:=λq=>e (Sum.inr.inj q)
  rw [decide_eq_false h,decide_eq_false e]
theorem Ib (a:Int) (b:Str):decide ((Sum.inl a:Key) = Sum.inr b) = false:=decide_eq_false (λq=>nomatch q)
theorem Im (a:Str) (b:Int):decide ((Sum.inr a:Key) = Sum.inl b) = false:=decide_eq_false (λq=>nomatch q)
def dI (prog:Program) (w:World):PySem.KeyKind prog w Key where
 is:=qL
 hash:=MJ w
 inj:=λv a b ha hb=>by
  rcases dj ha with ⟨i,t,rfl,rfl⟩ | ⟨x,t,rfl,rfl⟩
  ·rcases dj hb with ⟨j,u,rfl,e⟩ | ⟨y,u,rfl,e⟩
   ·injection e with e1 _;rw [e1]
   ·exact nomatch e
  ·rcases dj hb with ⟨j,u,rfl,e⟩ | ⟨y,u,rfl,e⟩
   ·exact nomatch e
   ·injection e with e1 _;rw [e1]
 byValue:=λk v h=>by
  rcases dj h with ⟨i,t,rfl,rfl⟩ | ⟨x,t,rfl,rfl⟩ <;> rfl
 pyHash:=λhv h=>by
  rcases dj hv with ⟨i,t,rfl,rfl⟩ | ⟨x,t,rfl,rfl⟩
  ·exact wpAny_pyHash_int h
  ·exact wpAny_pyHash_str h
 eqBool:=λhu hv h=>by
  rcases dj hu with ⟨i,t,rfl,rfl⟩ | ⟨x,t,rfl,rfl⟩
  ·rcases dj hv with ⟨j,u,rfl,rfl⟩ | ⟨y,u,rfl,rfl⟩
   ·rw [Jx] at h;exact wpAny_eqBool_int h
   ·rw [Ib] at h;exact SeqAt.EqAt.int_str i t y u _ _ _ _ h
  ·rcases dj hv with ⟨j,u,rfl,rfl⟩ | ⟨y,u,rfl,rfl⟩
   ·rw [Im] at h;exact SeqAt.EqAt.str_int x t j u _ _ _ _ h
   ·rw [Ip] at h;exact wpAny_eqBool_str h
 «strs»:=λk x t v h=>by
  rcases dj h with ⟨i,u,rfl,e⟩ | ⟨y,u,rfl,e⟩
  ·exact nomatch e
  ·injection e with e1 _
   subst e1
   cases v <;> rfl
theorem vc (prog:Program) (w:World) (i:Int) (t:Tok):(dI prog w).is (.inl i) (.int i t) = true:=Af i t
theorem wL (prog:Program) (w:World) (x:Str) (t:Tok):(dI prog w).is (.inr x) (.str x t) = true:=Ba x t
end L2
namespace L2
open PySem PySem.Spec PyProof.Rows
inductive V where
 | cL | bl (b:Bool) | int (i:Int) | str (x:Str) | byt (b:Array UInt8) | flt (b:UInt64) | ref (a:Addr) | ty (n:String)
 deriving DecidableEq
def RelV:V -> Value -> Prop
 | .cL,u=>u = Value.none
 | .bl b,u=>u = Value.bool b
 | .int i,u=>∃ t,u = Value.int i t
 | .str x,u=>∃ t,u = Value.str x t
 | .byt b,u=>∃ t,u = Value.bytes b t
 | .flt b,u=>∃ t,u = Value.float b t
 | .ref a,u=>u = Value.ref a
 | .ty n,u=>u = Value.type n
abbrev Vals:List V -> List Value -> Prop:=Paired RelV
theorem Vals.length {xs:List V} {us:List Value} (r:Vals xs us):xs.length = us.length:=Paired.length r
theorem Vals.get:∀ {xs:List V} {us:List Value} {i:Nat} {x:V},Vals xs us -> xs[i]? = some x -> ∃ u,us[i]? = some u /\ RelV x u
 | _,_,_,_,.nil,e=>by simp at e
 | _,_,0,_,.cons r _,e=>by simp at e;subst e;exact ⟨_,rfl,r⟩
 | _,_,i + 1,x,.cons _ t,e=>by
  obtain ⟨u,h1,h2⟩:=Vals.get (i:=i) (x:=x) t (by simpa using e)
  exact ⟨u,by simpa using h1,h2⟩
theorem Vals.set {x:V} {u:Value} (r:RelV x u):∀ {xs:List V} {us:List Value} (i:Nat),Vals xs us -> Vals (xs.set i x) (us.set i u)
 | _,_,_,.nil=>.nil
 | _,_,0,.cons _ t=>.cons r t
 | _,_,i + 1,.cons q t=>.cons q (Vals.set r i t)
theorem Vals.append:∀ {xs ys:List V} {us ws:List Value},Vals xs us -> Vals ys ws -> Vals (xs ++ ys) (us ++ ws)
 | _,_,_,_,.nil,s=>s
 | _,_,_,_,.cons r t,s=>.cons r (Vals.append t s)
theorem Vals.take:∀ {xs:List V} {us:List Value} (n:Nat),Vals xs us -> Vals (xs.take n) (us.take n)
 | _,_,0,_=>.nil
 | _,_,_ + 1,.nil=>.nil
 | _,_,n + 1,.cons r t=>.cons r (Vals.take n t)
theorem Vals.drop:∀ {xs:List V} {us:List Value} (n:Nat),Vals xs us -> Vals (xs.drop n) (us.drop n)
 | _,_,0,r=>r
 | _,_,_ + 1,.nil=>.nil
 | _,_,n + 1,.cons _ t=>Vals.drop n t
def jh:Option V -> Option Value -> Prop
 | some v,some u=>RelV v u
 | none,none=>True
 | _,_=>False
def KV {κ:Type}:List (κ × V) -> List (κ × Value) -> Prop:=Paired λ(p:κ × V) (q:κ × Value)=>p.1 = q.1 /\ RelV p.2 q.2
def kV:Key -> V
 | .inl i=>.int i
 | .inr x=>.str x
inductive HO where
  | lst (xs:List V)
  | tup (xs:List V)
  | dK (kvs:List (Key × V)) | dT (kvs:List (List Key × V))
  | set (S:Int -> Bool) (n:Nat)
  | ins (C dx:Addr) (fs:List (Str × V))
  | own (x:Addr)
  | xd (fs:List (Str × V))
  | met (f x:Addr)
  | LW (lo hi:Int)
  | Dg (o:Obj) (u:HO)
  | Gv (ps:Array Value)
  | ext (φ:Heap -> Prop)
abbrev Hp:=Addr -> Option HO
def upd (H:Hp) (a:Addr) (o:HO):Hp:=λb=>if b = a then some o else H b
theorem af {H:Hp} {a:Addr} {o:HO}:upd H a o a = some o:=by unfold upd;rw [if_pos rfl]
theorem ai {H:Hp} {a b:Addr} {o:HO} (h:b ≠ a):upd H a o b = H b:=by unfold upd;rw [if_neg h]
theorem gX {H:Hp} {a:Addr} {o u:HO}:upd (upd H a o) a u = upd H a u:=by
 funext b;unfold upd;split <;> rfl
theorem cP {H:Hp} {a b:Addr} {o u:HO} (h:H a = some o) (h':H b = some u) (d:o ≠ u):a ≠ b:=by
 intro e;subst e;rw [h] at h';exact d (Option.some.inj h')
theorem aj {H:Hp} {a b:Addr} {o:HO} (h:H a = some o) (h':H b = none):a ≠ b:=by
 intro e;subst e;rw [h] at h';cases h'
section
variable (P:Program) (w:World)
def cS (H:Hp) (h:Heap) (a:Addr):HO -> Prop
 | .lst xs=>xs.length <= sizeLine /\ ∃ (its:List Value) (n:Nat),Vals xs its /\ h.get? a = some { cls:=.type "list",data:=.seq its.toArray n }
 | .tup xs=>xs.length <= sizeLine /\ ∃ its:List Value,Vals xs its /\ IsTup h a its.toArray
 | .dK kvs=>kvs.length <= sizeLine /\ (a == sysModules) = false /\ ∃ vs,KV kvs vs /\ h.DictOf (dI P w) a vs
 | .dT kvs=>kvs.length <= sizeLine /\ (a == sysModules) = false /\ ∃ xs:List (List Key × Addr × Value),
   Paired (λ(p:List Key × V) (q:List Key × Addr × Value)=>p.1 = q.1 /\ H q.2.1 = some (.tup (p.1.map kV)) /\ RelV p.2 q.2.2) kvs xs /\
   ∃ o es ep,h.get? a = some o /\ o.ExactDict /\ o.data = .dict es ep /\ es.toList = xs.map (entryOfKey (tupleKind (dI P w))) /\ (xs.map (·.1)).Nodup
 | .set S n=>h.SetOf (intKind P w) a S n
 | .ins C dx fs=>H dx = some (.own a) /\ fs.length <= 1000 /\ dx ≠ a /\ h.get? a = some (PySem.W.instObj C dx) /\
   ∃ mA,h.Ns1 dx mA /\ (∀ f,jh (fs.lookup f) (mA f)) /\ PySem.Within mA (fs.map (·.1))
 | .own _=>∃ o,h.get? a = some o
 | .xd fs=>∃ mA,h.Ns1 a mA /\ ∀ f,jh (fs.lookup f) (mA f)
 | .LW lo hi=>∃ t u v,h.get? a = some { cls:=.type "range",data:=.fields #[.int lo t,.int hi u,.int 1 v] }
 | .Dg o u=>h.get? a = some o /\ cS H h a u
 | .Gv ps=>h.get? a = some { cls:=.none,data:=.fields ps }
 | .met f x=>h.get? a = some (PySem.W.methodObj (.ref f) (.ref x))
 | .ext φ=>φ h /\ (∃ o,h.get? a = some o) /\ ∀ h1 h2:Heap,φ h1 -> (∀ o,h1.get? a = some o -> h2.get? a = some o) -> φ h2
def jr (H:Hp) (h:Heap):Prop:=∀ a o,H a = some o -> cS P w H h a o
end
section
variable {P:Program} {w:World} {H H':Hp} {h h':Heap} {a:Addr} {o:HO}
theorem cS.lt (x:cS P w H h a o):a < h.objs.size:=by
 cases o with
 | lst xs=>obtain ⟨_,_,_,_,e⟩:=x;exact Heap.lt_size e
 | tup xs=>obtain ⟨_,_,_,p⟩:=x;exact p.lt
 | dK kvs=>obtain ⟨_,_,_,_,o,_,_,e,_⟩:=x;exact Heap.lt_size e
 | dT kvs=>obtain ⟨_,_,_,_,o,_,_,e,_⟩:=x;exact Heap.lt_size e
 | set S n=>obtain ⟨o,_,_,_,e,_⟩:=x;exact Heap.lt_size e
 | ins C dx fs=>obtain ⟨_,_,_,e,_⟩:=x;exact Heap.lt_size e
 | own y=>obtain ⟨_,e⟩:=x;exact Heap.lt_size e
 | xd fs=>obtain ⟨_,⟨_,_,_,e,_⟩,_⟩:=x;exact Heap.lt_size e
 | LW lo hi=>obtain ⟨_,_,_,e⟩:=x;exact Heap.lt_size e
 | Dg ob u=>obtain ⟨e,_⟩:=x;exact Heap.lt_size e
 | Gv ps=>exact Heap.lt_size (show h.get? a = some _ from x)
 | met f y=>exact Heap.lt_size (show h.get? a = some _ from x)
 | ext φ=>obtain ⟨_,⟨_,e⟩,_⟩:=x;exact Heap.lt_size e
theorem Paired.Iw {α β:Type} {F G:α -> β -> Prop}:∀ {l₁:List α} {l₂:List β},Paired F l₁ l₂ -> (∀ a b,F a b -> G a b) -> Paired G l₁ l₂
 | _,_,.nil,_=>.nil
 | _,_,.cons r t,f=>.cons (f _ _ r) (Paired.Iw t f)
theorem cS.stay (x:cS P w H h a o) (k:∀ b u,(b = a ∨ H b = some (.own a)) -> h.get? b = some u -> h'.get? b = some u)
  (ho:∀ b,H b = some (.own a) -> H' b = some (.own a)) (ht:∀ b xs,H b = some (.tup xs) -> H' b = some (.tup xs)):cS P w H' h' a o:=by
 induction o with
 | lst xs=>obtain ⟨z,its,n,r,e⟩:=x;exact ⟨z,its,n,r,k _ _ (.inl rfl) e⟩
 | tup xs=>obtain ⟨z,its,r,ob,e,c⟩:=x;exact ⟨z,its,r,ob,k _ _ (.inl rfl) e,c⟩
 | dK kvs=>obtain ⟨z,y,vs,r,ob,es,ep,e,c⟩:=x;exact ⟨z,y,vs,r,ob,es,ep,k _ _ (.inl rfl) e,c⟩
 | dT kvs =>
  obtain ⟨z,y,xs,r,ob,es,ep,e,c⟩:=x
  exact ⟨z,y,xs,Paired.Iw r λp q z=>⟨z.1,ht _ _ z.2.1,z.2.2⟩,ob,es,ep,k _ _ (.inl rfl) e,c⟩
 | set S n=>obtain ⟨ob,es,ep,t,e,c⟩:=x;exact ⟨ob,es,ep,t,k _ _ (.inl rfl) e,c⟩
 | ins C dx fs =>
  obtain ⟨d,z,ne,e,mA,⟨od,es,ep,e2,c⟩,r⟩:=x
  exact ⟨ho _ d,z,ne,k _ _ (.inl rfl) e,mA,⟨od,es,ep,k _ _ (.inr d) e2,c⟩,r⟩
 | own y=>obtain ⟨ob,e⟩:=x;exact ⟨ob,k _ _ (.inl rfl) e⟩
 | xd fs=>obtain ⟨mA,⟨od,es,ep,e,c⟩,r⟩:=x;exact ⟨mA,⟨od,es,ep,k _ _ (.inl rfl) e,c⟩,r⟩
 | LW lo hi=>obtain ⟨t,u,v,e⟩:=x;exact ⟨t,u,v,k _ _ (.inl rfl) e⟩
 | Dg ob u ih=>obtain ⟨e,q⟩:=x;exact ⟨k _ _ (.inl rfl) e,ih q⟩
 | Gv ps =>
  have e:h.get? a = some { cls:=.none,data:=.fields ps }:=x
  show h'.get? a = some { cls:=.none,data:=.fields ps }
  exact k a _ (.inl rfl) e
 | met f y =>
  have e:h.get? a = some (PySem.W.methodObj (.ref f) (.ref y)):=x
  show h'.get? a = some (PySem.W.methodObj (.ref f) (.ref y))
  exact k a _ (.inl rfl) e
 | ext φ=>obtain ⟨p,⟨o,e⟩,st⟩:=x;exact ⟨st _ _ p λo q=>k _ _ (.inl rfl) q,⟨o,k _ _ (.inl rfl) e⟩,st⟩
theorem jr.lt (x:jr P w H h) (e:H a = some o):a < h.objs.size:=(x a o e).lt
theorem jr.fresh (x:jr P w H h) (e:h.objs.size <= a):H a = none:=by
 cases q:H a with
 | none=>rfl
 | some u=>exact absurd (Nat.lt_of_lt_of_le (x.lt q) e) (Nat.lt_irrefl _)
theorem jr.kept (x:jr P w H h) (k:∀ b u,h.get? b = some u -> h'.get? b = some u):jr P w H h':=λa o e =>
 (x a o e).stay (λb u _ q=>k b u q) (λ_ q=>q) λ_ _ q=>q
theorem jr.laid (x:jr P w H h) (k:∀ b u,h.get? b = some u -> h'.get? b = some u) (hp:h.objs.size <= a) (new:cS P w (upd H a o) h' a o):jr P w (upd H a o) h':=λb u e=>by
 have hn:=x.fresh hp
 by_cases hb:b = a
 ·subst hb;rw [af] at e;cases e;exact new
 ·rw [ai hb] at e
  exact (x b u e).stay (λc v _ q=>k c v q) (λc q=>by rw [ai (aj q hn)];exact q) λc xs q=>by rw [ai (aj q hn)];exact q
end
def Rd (H:Hp) (a:Addr) (u:HO):Prop:=H a = some u ∨ ∃ o,H a = some (.Dg o u)
theorem Rd.ok {P:Program} {w:World} {H:Hp} {h:Heap} {a:Addr} {u:HO} (r:Rd H a u) (x:jr P w H h):cS P w H h a u:=by
 rcases r with r | ⟨o,r⟩
 ·exact x a u r
 ·obtain ⟨_,q⟩:=x a _ r
  exact q
def Lw:Option HO -> Prop
 | some (.lst _)=>True
 | some (.dK _)=>True
 | some (.dT _)=>True
 | some (.set _ _)=>True
 | some (.ins _ _ _)=>True
 | some (.ext _)=>True
 | _=>False
section
variable {P:Program} {w:World} {H:Hp} {h h':Heap} {x e:Addr} {o':HO}
theorem jr.write (ok:jr P w H h) (mu:Lw (H x)) (he:e = x ∨ H e = some (.own x)) (k:∀ b u,b ≠ e -> h.get? b = some u -> h'.get? b = some u) (heo:∃ u,h'.get? e = some u)
  (new:cS P w (upd H x o') h' x o'):jr P w (upd H x o') h':=λb u q=>by
 have nown:∀ c y,H c = some (.own y) -> c ≠ x:=λc y r z=>by subst z;rw [r] at mu;exact mu
 have ntup:∀ c xs,H c = some (.tup xs) -> c ≠ x:=λc xs r z=>by subst z;rw [r] at mu;exact mu
 by_cases hb:b = x
 ·subst hb;rw [af] at q;cases q;exact new
 ·rw [ai hb] at q
  by_cases hbe:b = e
  ·have q':H b = some (.own x):=by
    rcases he with z | z
    ·exact absurd (hbe.trans z) hb
    ·rw [hbe];exact z
   rw [q] at q';cases q'
   obtain ⟨v,hv⟩:=heo
   exact ⟨v,by rw [hbe];exact hv⟩
  ·refine (ok b u q).stay (λc v hc r=>k c v ?_ r) (λc r=>by rw [ai (nown c b r)];exact r) λc xs r=>by rw [ai (ntup c xs r)];exact r
   rcases hc with rfl | hc
   ·exact hbe
   ·rintro rfl
    rcases he with z | z
    ·exact nown c b hc z
    ·rw [hc] at z;cases z;exact hb rfl
end
structure Un (fs ex:List Addr) (H H':Hp) (h h':Heap):Prop where
 keep:∀ b o,h.get? b = some o -> H b = none -> b ∉ fs -> b ∉ ex -> h'.get? b = some o
 slot:∀ b o,h.get? b = some o -> H b = none -> b ∈ fs -> b ∉ ex -> ∃ sl,h'.get? b = some { o with slots:=sl }
 free:∀ b o,h.get? b = some o -> H b = none -> b ∉ ex -> H' b = none
 there:∀ b o,h.get? b = some o -> b ∉ ex -> ∃ o',h'.get? b = some o'
 tups:∀ b xs,H b = some (.tup xs) -> H' b = some (.tup xs)
 nD:∀ b o u,H b = some (.Dg o u) -> H' b = some (.Dg o u)
 pJ:∀ b ps,H b = some (.Gv ps) -> ∃ more,H' b = some (.Gv (ps ++ more))
section
variable {fs fs' ex ex':List Addr} {H H1 H2:Hp} {h h1 h2 h':Heap} {a x e:Addr} {o:HO}
theorem Un.any (u:Un fs ex H H1 h h1) {b:Addr} {ob:Obj} (q:h.get? b = some ob) (n:H b = none) (hx:b ∉ ex):∃ sl,h1.get? b = some { ob with slots:=sl }:=by
 by_cases hb:b ∈ fs
 ·exact u.slot b ob q n hb hx
 ·exact ⟨ob.slots,u.keep b ob q n hb hx⟩
theorem Un.kept (k:∀ b u,h.get? b = some u -> h'.get? b = some u):Un fs ex H H h h' :=
 ⟨λb ob q _ _ _=>k b ob q,λb ob q _ _ _=>⟨ob.slots,k b ob q⟩,λ_ _ _ n _=>n,λb ob q _=>⟨ob,k b ob q⟩,λ_ _ q=>q,λ_ _ _ q=>q,λ_ ps q=>⟨#[],by rw [q];simp⟩⟩
theorem Un.refl:Un fs ex H H h h:=Un.kept λ_ _ q=>q
theorem Un.laid (k:∀ b u,h.get? b = some u -> h'.get? b = some u) (hp:h.objs.size <= a) (hn:H a = none):Un fs ex H (upd H a o) h h' where
 keep:=λb u q _ _ _=>k b u q
 slot:=λb u q _ _ _=>⟨u.slots,k b u q⟩
 free:=λb u q n _=>by rw [ai (Nat.ne_of_lt (Nat.lt_of_lt_of_le (Heap.lt_size q) hp))];exact n
 there:=λb u q _=>⟨u,k b u q⟩
 tups:=λb xs q=>by rw [ai (aj q hn)];exact q
 nD:=λb u xs q=>by rw [ai (aj q hn)];exact q
 pJ:=λb ps q=>⟨#[],by rw [ai (aj q hn),q];simp⟩
theorem Un.write (mu:Lw (H x)) (he:e = x ∨ H e = some (.own x)) (k:∀ b u,b ≠ e -> h.get? b = some u -> h'.get? b = some u) (heo:∃ u,h'.get? e = some u):Un fs ex H (upd H x o) h h':=by
 have hx:∀ b,H b = none -> b ≠ x:=λb n z=>by subst z;rw [n] at mu;exact mu
 have hb:∀ b,H b = none -> b ≠ e:=λb n z=>by
  subst z
  rcases he with r | r
  ·exact hx b n r
  ·rw [n] at r;cases r
 have hm:∀ b u,H b = some u -> ¬ Lw (some u) -> b ≠ x:=λb u q nm z=>by subst z;rw [q] at mu;exact nm mu
 refine ⟨λb u q n _ _=>k b u (hb b n) q,λb u q n _ _=>⟨u.slots,k b u (hb b n) q⟩,λb u q n _=>by rw [ai (hx b n)];exact n,λb u q _=>?_,
  λb xs q=>by rw [ai (hm b _ q λz=>z)];exact q,λb u xs q=>by rw [ai (hm b _ q λz=>z)];exact q,λb ps q=>⟨#[],by rw [ai (hm b _ q λz=>z),q];simp⟩⟩
 by_cases hbe:b = e
 ·subst hbe;exact heo
 ·exact ⟨u,k b u hbe q⟩
end
def LV (h:Heap) (H:Hp):List Addr:=(List.range h.objs.size).filter λa=>(H a).isSome
def tK (h:Heap) (H:Hp):Heap:=PySem.W.hideAll h (LV h H)
theorem AF (h:Heap) (H:Hp):(tK h H).objs.size = h.objs.size:=PySem.W.hideAll_size _ _
theorem Cb {h:Heap} {H:Hp} {b:Addr} {o:Obj} (e:h.get? b = some o) (n:H b = none):(tK h H).get? b = some o :=
 PySem.W.hideAll_get _ e λhm=>by
  have q:(H b).isSome = true:=(List.mem_filter.mp hm).2
  rw [n] at q;simp at q
theorem Fv {h:Heap} {H:Hp} {b:Addr} {o:Obj} (e:(tK h H).get? b = some o):h.get? b = some o /\ H b = none:=by
 have e':h.get? b = some o:=PySem.W.of_hideAll (LV h H) e
 refine ⟨e',?_⟩
 cases q:H b with
 | none=>rfl
 | some x =>
  have hm:b ∈ LV h H:=List.mem_filter.mpr ⟨List.mem_range.mpr (Heap.lt_size e'),by simp [q]⟩
  have z:(tK h H).get? b = none:=PySem.W.hideAll_none (LV h H) hm
  rw [z] at e;cases e
end L2
namespace L2
open PySem PySem.Spec PyProof.Rows
structure Mod (K:PySem.W.Frag) (mg:Str -> Option Value) (base:Heap):Prop where
 ug:K.In base
 glob:base.Ns mainGlobals mg
 blt:∃ mb,base.Ns builtinsNs mb /\ ∀ x:Str,x ≠ "__name__" -> mb x = bootBuiltins x
 nolimit:base.NoLimit
structure Cx where
 prog:Program
 w:World
 K:PySem.W.Frag
 mg:Str -> Option Value
 base:Heap
 A:Around
 N:List Str
 s₀:Shared
 H₀:Hp
 env:Env
 outer:List Env
 stack:List Env
 ex:List Addr
 fn:Str -> Bool
 calm:Bool
 pn:List (Addr × Obj)
 xe:Value -> Shared -> Prop
def frs (l:List Env):List Addr:=l.filterMap (·.frame)
abbrev Cx.fs (X:Cx):List Addr:=frs X.outer
def Lj (sc:Scope) (x:Str):Prop:=sc.names.lookup x = some .local ∨ sc.names.lookup x = some .cell ∨ sc.names.lookup x = some .free
def Loc (sc:Scope) (x:Str):Prop:=sc.names.lookup x = some .local ∨ sc.names.lookup x = some .cell
def Look (env:Env) (h:Heap) (m:Str -> Option Value) (x:Str) (u:Value):Prop :=
 (env.kindOf x = some .local /\ m x = some u) ∨ ((env.kindOf x = some .cell ∨ env.kindOf x = some .free) /\ ∃ c,env.cells.lookup x = some c /\ h.IsCell c (some u))
structure Cx.Ok (X:Cx):Prop where
 mod:Mod X.K X.mg X.base
 kind:X.env.scope.kind = .function
 glob:X.env.globals = mainGlobals
 blt:X.env.builtins = builtinsNs
 above:X.s₀.heap.objs.size <= X.env.locals
 inj:∀ x y c,X.env.cells.lookup x = some c -> X.env.cells.lookup y = some c -> x = y
 has:∀ x,(X.env.kindOf x = some .cell ∨ X.env.kindOf x = some .free) -> ∃ c,X.env.cells.lookup x = some c
 Kf:∀ x c,X.fn x = true -> X.env.cells.lookup x = some c -> X.s₀.heap.objs.size <= c
 hd:X.calm = true -> X.A.handled = none
 frames:X.A.frames = some X.stack
 stk:X.stack = X.outer ∨ (X.stack = X.env :: X.outer /\ X.env.frame = some X.env.locals)
 MI:∀ b ∈ X.ex,b ≠ X.env.locals /\ ∀ x c,X.env.cells.lookup x = some c -> c ≠ b
 bs:∀ b o,X.base.get? b = some o -> X.s₀.heap.get? b = some o /\ X.H₀ b = none
 Fw:X.base.objs.size <= X.s₀.heap.objs.size
 Ay:∀ b o,X.base.get? b = some o -> b ∉ X.ex
 BC:∀ b ∈ X.ex,b ∉ X.fs
 lW:X.s₀.heap.FunFrames X.base X.outer
 FW:∀ b ∈ X.fs,X.H₀ b = none
structure Inv (X:Cx) (pins:List (Addr × Obj)) (Z:List (Option V)) (H:Hp) (s:Shared):Prop where
 ok:X.Ok
 os:s.os = X.s₀.os
 bare:AllBare s.gens
 base:Un X.fs X.ex X.H₀ H X.s₀.heap s.heap
 loc:∃ m,s.heap.Ns X.env.locals m /\ ∀ (i:Nat) (x:Str) (v:V),X.N[i]? = some x -> Z[i]? = some (some v) -> Lj X.env.scope x -> ∃ u,RelV v u /\ Look X.env s.heap m x u
 cell:∀ x c,X.env.cells.lookup x = some c -> ∃ v,s.heap.IsCell c v
 free:H X.env.locals = none
 iu:∀ x c,X.env.cells.lookup x = some c -> H c = none
 pin:∀ p ∈ X.pn ++ pins,s.heap.get? p.1 = some p.2 /\ H p.1 = none /\ p.1 ≠ X.env.locals /\ p.1 ∉ X.fs /\ ∀ v,p.2.data ≠ .cell v
 hok:jr X.prog X.w H s.heap
 len:Z.length = X.N.length
section
variable {X:Cx} {pins:List (Addr × Obj)} {Z:List (Option V)} {H H':Hp} {s:Shared} {h':Heap}
theorem Cx.Ok.Mh (ok:X.Ok) {b:Addr} {o:Obj} (e:X.base.get? b = some o):b ∉ X.fs:=λhb=>by
 have:=(ok.lW.mem hb).1
 rw [e] at this;cases this
theorem Inv.bs (I:Inv X pins Z H s):∀ b o,X.base.get? b = some o -> s.heap.get? b = some o /\ H b = none:=λb o e =>
 ⟨I.base.keep b o (I.ok.bs b o e).1 (I.ok.bs b o e).2 (I.ok.Mh e) (I.ok.Ay b o e),I.base.free b o (I.ok.bs b o e).1 (I.ok.bs b o e).2 (I.ok.Ay b o e)⟩
theorem Inv.bk (I:Inv X pins Z H s):∀ b o,X.base.get? b = some o -> s.heap.get? b = some o:=λb o e=>(I.bs b o e).1
theorem Inv.mod (I:Inv X pins Z H s):Mod X.K X.mg X.base:=I.ok.mod
theorem Inv.jB (I:Inv X pins Z H s):X.K.In s.heap:=I.ok.mod.ug.keeps I.bk
theorem Inv.lt (I:Inv X pins Z H s):X.env.locals < s.heap.objs.size:=let ⟨_,hn,_⟩:=I.loc;hn.lt
theorem Inv.sz (I:Inv X pins Z H s):X.s₀.heap.objs.size <= s.heap.objs.size:=Nat.le_trans I.ok.above (Nat.le_of_lt I.lt)
theorem Inv.Lv (I:Inv X pins Z H s) {a:Addr} (h:s.heap.objs.size <= a):a ∉ X.fs:=λhb=>by
 obtain ⟨_,o,ho,_⟩:=I.ok.lW.mem hb
 exact absurd (Nat.lt_of_lt_of_le (Heap.lt_size ho) (Nat.le_trans I.sz h)) (Nat.lt_irrefl _)
theorem Inv.Cp (I:Inv X pins Z H s):∀ x c,X.env.cells.lookup x = some c -> c ≠ X.env.locals:=λx c e z=>by
 obtain ⟨v,o,ho,hd⟩:=I.cell x c e
 obtain ⟨m,⟨o',es,ep,ho',hd',_⟩,_⟩:=I.loc
 rw [z,ho'] at ho;cases ho;rw [hd'] at hd;cases hd
theorem Inv.lW (I:Inv X pins Z H s):s.heap.FunFrames X.base X.outer:=by
 have all:∀ (l:List Env),(∀ b ∈ frs l,b ∈ X.fs) -> X.s₀.heap.FunFrames X.base l -> s.heap.FunFrames X.base l:=by
  intro l
  induction l with
  | nil=>intro _ _;trivial
  | cons env r ih =>
   intro hs hl
   obtain ⟨hk,⟨L,o,hf,hn,ho,hd⟩,hr⟩:=hl
   have hL:L ∈ X.fs:=hs L (by unfold frs;rw [List.filterMap_cons,hf];exact List.mem_cons_self)
   obtain ⟨sl,e⟩:=I.base.slot L o ho (I.ok.FW L hL) hL λz=>I.ok.BC L z hL
   exact ⟨hk,⟨L,_,hf,hn,e,hd⟩,ih (λb hb=>hs b (by unfold frs;rw [List.filterMap_cons,hf];exact List.mem_cons_of_mem _ hb)) hr⟩
 exact all X.outer (λ_ hb=>hb) I.ok.lW
theorem Inv.stack (I:Inv X pins Z H s):s.heap.FunFrames X.base X.stack:=by
 rcases I.ok.stk with e | ⟨e,hf⟩
 ·rw [e];exact I.lW
 ·rw [e]
  obtain ⟨m,hn,_⟩:=I.loc
  refine .cons (by rw [I.ok.kind];decide) hf hn ?_ I.lW
  exact Heap.get?_none_of_le (Nat.le_trans I.ok.Fw I.ok.above)
theorem Inv.kP (I:Inv X pins Z H s):∀ b ∈ frs X.stack,b ∈ X.env.locals :: X.fs:=λb hb=>by
 rcases I.ok.stk with e | ⟨e,hf⟩
 ·rw [e] at hb;exact List.mem_cons_of_mem _ hb
 ·rw [e] at hb
  unfold frs at hb
  rw [List.filterMap_cons,hf] at hb
  exact hb
theorem Inv.nF (I:Inv X pins Z H s):∀ b ∈ frs X.stack,H b = none:=λb hb=>by
 rcases List.mem_cons.mp (I.kP b hb) with e | hb
 ·rw [e];exact I.free
 ·obtain ⟨_,o,ho,_⟩:=I.ok.lW.mem hb
  exact I.base.free b o ho (I.ok.FW b hb) λz=>I.ok.BC b z hb
theorem Inv.step {g':Array GenState} {t':Nat} {d':Drawn} {ch:List Addr} (I:Inv X pins Z H s)
  (hch:∀ b ∈ ch,(b ∈ X.ex ∨ X.s₀.heap.objs.size <= b) /\ b ≠ X.env.locals /\ (∀ x c,X.env.cells.lookup x = some c -> c ≠ b) /\ ∀ p ∈ X.pn ++ pins,p.1 ≠ b)
  (keep:∀ b o,b ≠ X.env.locals -> b ∉ X.fs -> b ∉ ch -> s.heap.get? b = some o -> H b = none -> h'.get? b = some o)
  (slot:∀ b o,b ≠ X.env.locals -> b ∈ X.fs -> b ∉ ch -> s.heap.get? b = some o -> H b = none -> ∃ sl,h'.get? b = some { o with slots:=sl }) (free:∀ b o,b ∉ ch -> s.heap.get? b = some o -> H b = none -> H' b = none)
  (there:∀ b o,b ∉ ch -> s.heap.get? b = some o -> ∃ o',h'.get? b = some o')
  (tups:∀ b xs,H b = some (.tup xs) -> H' b = some (.tup xs)) (nD:∀ b o u,H b = some (.Dg o u) -> H' b = some (.Dg o u)) (pJ:∀ b ps,H b = some (.Gv ps) -> ∃ more,H' b = some (.Gv (ps ++ more)))
  (ns:∀ m,s.heap.Ns X.env.locals m -> h'.Ns X.env.locals m) (hok:jr X.prog X.w H' h') (hg:AllBare g') :
  Inv X pins Z H' { s with heap:=h',gens:=g',drawn:=d',toks:=t' }:=by
 have neL:∀ b o,X.s₀.heap.get? b = some o -> b ≠ X.env.locals:=λb o e=>Nat.ne_of_lt (Nat.lt_of_lt_of_le (Heap.lt_size e) I.ok.above)
 have neC:∀ b o,X.s₀.heap.get? b = some o -> b ∉ X.ex -> b ∉ ch:=λb o e hx hb=>by
  rcases (hch b hb).1 with z | z
  ·exact hx z
  ·exact absurd (Nat.lt_of_lt_of_le (Heap.lt_size e) z) (Nat.lt_irrefl _)
 have cellK:∀ x c,X.env.cells.lookup x = some c -> ∀ v,s.heap.IsCell c v -> h'.IsCell c v:=λx c e v ⟨o,ho,hd⟩=>by
  have nch:c ∉ ch:=λz=>(hch c z).2.2.1 x c e rfl
  by_cases hc:c ∈ X.fs
  ·obtain ⟨sl,q⟩:=slot c o (I.Cp x c e) hc nch ho (I.iu x c e)
   exact ⟨_,q,hd⟩
  ·exact ⟨o,keep c o (I.Cp x c e) hc nch ho (I.iu x c e),hd⟩
 refine ⟨I.ok,I.os,hg,⟨λb o e n hb hx=>?_,λb o e n hb hx=>?_,λb o e n hx=>?_,λb o e hx=>?_,λb xs e=>tups b xs (I.base.tups b xs e),λb o xs e=>nD b o xs (I.base.nD b o xs e),λb ps e=>?_⟩,?_,λx c e=>?_,?_,λx c e=>?_,λp hp=>?_,hok,I.len⟩
 ·exact keep b o (neL b o e) hb (neC b o e hx) (I.base.keep b o e n hb hx) (I.base.free b o e n hx)
 ·obtain ⟨sl,e1⟩:=I.base.slot b o e n hb hx
  obtain ⟨sl',e2⟩:=slot b _ (neL b o e) hb (neC b o e hx) e1 (I.base.free b o e n hx)
  exact ⟨sl',e2⟩
 ·obtain ⟨o',e1⟩:=I.base.there b o e hx
  exact free b o' (neC b o e hx) e1 (I.base.free b o e n hx)
 ·obtain ⟨o',e1⟩:=I.base.there b o e hx
  exact there b o' (neC b o e hx) e1
 ·obtain ⟨m1,e1⟩:=I.base.pJ b ps e
  obtain ⟨m2,e2⟩:=pJ b _ e1
  exact ⟨m1 ++ m2,by rw [e2,Array.append_assoc]⟩
 ·obtain ⟨m,hn,hl⟩:=I.loc
  refine ⟨m,ns m hn,λi x v e1 e2 e3=>?_⟩
  obtain ⟨u,r,l⟩:=hl i x v e1 e2 e3
  refine ⟨u,r,?_⟩
  rcases l with l | ⟨k,c,e,z⟩
  ·exact .inl l
  ·exact .inr ⟨k,c,e,cellK x c e _ z⟩
 ·obtain ⟨v,z⟩:=I.cell x c e
  exact ⟨v,cellK x c e v z⟩
 ·obtain ⟨m,⟨o,_,_,ho,_⟩,_⟩:=I.loc
  exact free _ o (λz=>(hch _ z).2.1 rfl) ho I.free
 ·obtain ⟨v,o,ho,hd⟩:=I.cell x c e
  exact free c o (λz=>(hch c z).2.2.1 x c e rfl) ho (I.iu x c e)
 ·obtain ⟨e,n,ne,nf,d⟩:=I.pin p hp
  have nch:p.1 ∉ ch:=λz=>(hch p.1 z).2.2.2 p hp rfl
  exact ⟨keep p.1 p.2 ne nf nch e n,free p.1 p.2 nch e n,ne,nf,d⟩
theorem Inv.un {t':Nat} (I:Inv X pins Z H s) (u:Un X.fs [] H H' s.heap h') (hok:jr X.prog X.w H' h'):Inv X pins Z H' { s with heap:=h',toks:=t' }:=by
 obtain ⟨m,⟨o,es,ep,ho,r⟩,_⟩:=id I.loc
 obtain ⟨sl,hL⟩:=u.any ho I.free (by simp)
 exact I.step (g':=s.gens) (d':=s.drawn) (ch:=[]) (λ_ z=>nomatch z) (λb o _ hb _ e n=>u.keep b o e n hb (by simp)) (λb o _ hb _ e n=>u.slot b o e n hb (by simp)) (λb o _ e n=>u.free b o e n (by simp)) (λb o _ e=>u.there b o e (by simp)) u.tups u.nD u.pJ (λm' hm=>by
  obtain ⟨o',es',ep',ho',r'⟩:=hm
  rw [ho] at ho';cases ho'
  exact ⟨_,es',ep',hL,r'⟩) hok I.bare
theorem Inv.call {g':Array GenState} {t':Nat} {d':Drawn} {ch:List Addr} (I:Inv X pins Z H s) (u:Un (frs X.stack) ch H H' s.heap h') (hok:jr X.prog X.w H' h') (hg:AllBare g')
  (hch:∀ b ∈ ch,(b ∈ X.ex ∨ X.s₀.heap.objs.size <= b) /\ b ≠ X.env.locals /\ (∀ x c,X.env.cells.lookup x = some c -> c ≠ b) /\ ∀ p ∈ X.pn ++ pins,p.1 ≠ b) :
  Inv X pins Z H' { s with heap:=h',gens:=g',drawn:=d',toks:=t' }:=by
 obtain ⟨m,⟨o,es,ep,ho,r⟩,_⟩:=id I.loc
 obtain ⟨sl,hL⟩:=u.any ho I.free λz=>(hch _ z).2.1 rfl
 exact I.step (ch:=ch) hch (λb o hL hb hc e n=>u.keep b o e n (λz=>(List.mem_cons.mp (I.kP b z)).elim hL hb) hc) (λb o _ _ hc e n=>u.any e n hc) (λb o hc e n=>u.free b o e n hc) (λb o hc e=>u.there b o e hc) u.tups u.nD u.pJ (λm' hm=>by
  obtain ⟨o',es',ep',ho',r'⟩:=hm
  rw [ho] at ho';cases ho'
  exact ⟨_,es',ep',hL,r'⟩) hok hg
theorem Inv.turned {t':Nat} {it:Addr} (I:Inv X pins Z H s) (k:∀ b o,b ≠ it -> s.heap.get? b = some o -> h'.get? b = some o) (hn:H it = none) (hL:it ≠ X.env.locals)
  (h1:it ∈ X.ex ∨ X.s₀.heap.objs.size <= it) (h2:∀ x c,X.env.cells.lookup x = some c -> c ≠ it) (h3:∀ p ∈ X.pn ++ pins,p.1 ≠ it):Inv X pins Z H { s with heap:=h',toks:=t' }:=by
 have nit:∀ b u,H b = some u -> b ≠ it:=λb u e z=>by rw [z,hn] at e;cases e
 refine I.step (g':=s.gens) (d':=s.drawn) (ch:=[it]) (λb hb=>?_) (λb o _ _ hc e _=>k b o (λz=>hc (by simp [z])) e) (λb o _ _ hc e _=>⟨o.slots,k b o (λz=>hc (by simp [z])) e⟩) (λ_ _ _ _ n=>n)
  (λb o hc e=>⟨o,k b o (λz=>hc (by simp [z])) e⟩) (λ_ _ e=>e) (λ_ _ _ e=>e) (λb ps e=>⟨#[],by rw [e];simp⟩) (λm hm=>?_) (λb u e=>?_) I.bare
 ·have e:b = it:=by simpa using hb
  subst e
  exact ⟨h1,hL,h2,h3⟩
 ·obtain ⟨o,es,ep,ho,r⟩:=hm
  exact ⟨o,es,ep,k _ o (Ne.symm hL) ho,r⟩
 ·refine (I.hok b u e).stay (λc v hc q=>k c v ?_ q) (λ_ q=>q) λ_ _ q=>q
  rcases hc with z | z
  ·rw [z];exact nit b u e
  ·exact nit c _ z
theorem Inv.tok (I:Inv X pins Z H s) (t:Nat):Inv X pins Z H { s with toks:=t }:=I.un (h':=s.heap) (t':=t) Un.refl I.hok
theorem Inv.kept {t':Nat} (I:Inv X pins Z H s) (k:∀ b u,s.heap.get? b = some u -> h'.get? b = some u):Inv X pins Z H { s with heap:=h',toks:=t' }:=I.un (Un.kept k) (I.hok.kept k)
theorem Inv.laid {a:Addr} {o:HO} {t':Nat} (I:Inv X pins Z H s) (k:∀ b u,s.heap.get? b = some u -> h'.get? b = some u) (hp:s.heap.objs.size <= a) (new:cS X.prog X.w (upd H a o) h' a o) :
  Inv X pins Z (upd H a o) { s with heap:=h',toks:=t' }:=I.un (Un.laid k hp (I.hok.fresh hp)) (I.hok.laid k hp new)
theorem Inv.write {x e:Addr} {o:HO} {t':Nat} (I:Inv X pins Z H s) (mu:Lw (H x)) (he:e = x ∨ H e = some (.own x)) (k:∀ b u,b ≠ e -> s.heap.get? b = some u -> h'.get? b = some u) (heo:∃ u,h'.get? e = some u)
  (new:cS X.prog X.w (upd H x o) h' x o):Inv X pins Z (upd H x o) { s with heap:=h',toks:=t' }:=I.un (Un.write mu he k heo) (I.hok.write mu he k heo new)
theorem Inv.dS {pins':List (Addr × Obj)} (I:Inv X pins Z H s) (h:∀ p ∈ pins',s.heap.get? p.1 = some p.2 /\ H p.1 = none /\ p.1 ≠ X.env.locals /\ p.1 ∉ X.fs /\ ∀ v,p.2.data ≠ .cell v):Inv X pins' Z H s :=
 ⟨I.ok,I.os,I.bare,I.base,I.loc,I.cell,I.free,I.iu,λp hp=>(List.mem_append.mp hp).elim (λz=>I.pin p (List.mem_append_left _ z)) (h p),I.hok,I.len⟩
theorem qh {N:List Str} (hN:N.Nodup) {i j:Nat} {x:Str} (a:N[i]? = some x) (b:N[j]? = some x):i = j:=by
 obtain ⟨h1,e1⟩:=List.getElem?_eq_some_iff.mp a
 obtain ⟨h2,e2⟩:=List.getElem?_eq_some_iff.mp b
 exact (List.getElem_inj hN).mp (e1.trans e2.symm)
theorem A6 {M:Model} {A:Around} {E:Value -> Shared -> Prop} {i:Nat} {x:Str} {v:V} {u:Value} {Q:Unit -> Shared -> Prop} (I:Inv X pins Z H s) (hN:X.N.Nodup) (hi:X.N[i]? = some x) (hx:Loc X.env.scope x) (r:RelV v u)
  (h:∀ s',Inv X pins (Z.set i (some v)) H s' -> (∃ a,Heap.SameBut a s.heap s'.heap /\ (a = X.env.locals ∨ X.env.cells.lookup x = some a)) -> Q () s') (hf:X.fn x = true ∨ X.env.scope.names.lookup x = some .local:=by first | exact .inl rfl | exact .inr rfl | assumption):wpAny M A (storeName X.env x u) Q E s:=by
 obtain ⟨m,hn,hl⟩:=id I.loc
 have hcls:(X.env.scope.kind == .class || (X.env.scope.kind == .module && X.env.locals != X.env.globals)) = false:=by rw [I.ok.kind];rfl
 have hiZ:i < Z.length:=by rw [I.len];exact (List.getElem?_eq_some_iff.mp hi).1
 have Cp:=I.Cp
 have tracked:∀ {a:Addr} {h':Heap},(∃ o,s.heap.get? a = some o /\ H a = none) -> Heap.SameBut a s.heap h' -> jr X.prog X.w H h':=λ{a h'} ha hs b ob e=>by
  obtain ⟨_,_,hfree⟩:=ha
  refine (I.hok b ob e).stay (λc w' hc q=>(hs.2 c ?_).trans q) (λ_ q=>q) λ_ _ q=>q
  rintro rfl
  rcases hc with rfl | hc
  ·rw [hfree] at e;cases e
  ·rw [hfree] at hc;cases hc
 rcases hx with hk | hk
 ·refine wpAny_storeName_local hk hn (λh' hn' hs=>?_) hcls
  obtain ⟨oL,_,_,hoL,_⟩:=id hn
  refine h _ ⟨I.ok,I.os,I.bare,⟨λb o e n hb hx=>?_,λb o e n hb hx=>?_,I.base.free,λb o e hx=>?_,I.base.tups,I.base.nD,I.base.pJ⟩,⟨_,hn',λj y v' e1 e2 e3=>?_⟩,λy c e=>?_,I.free,I.iu,λp hp=>?_,tracked ⟨oL,hoL,I.free⟩ hs,by simpa using I.len⟩ ⟨_,hs,.inl rfl⟩
  ·exact (hs.2 b (Nat.ne_of_lt (Nat.lt_of_lt_of_le (Heap.lt_size e) I.ok.above))).trans (I.base.keep b o e n hb hx)
  ·obtain ⟨sl,e1⟩:=I.base.slot b o e n hb hx
   exact ⟨sl,(hs.2 b (Nat.ne_of_lt (Nat.lt_of_lt_of_le (Heap.lt_size e) I.ok.above))).trans e1⟩
  ·obtain ⟨o',e1⟩:=I.base.there b o e hx
   exact ⟨o',(hs.2 b (Nat.ne_of_lt (Nat.lt_of_lt_of_le (Heap.lt_size e) I.ok.above))).trans e1⟩
  ·by_cases hj:j = i
   ·subst hj
    rw [hi] at e1;cases e1
    rw [List.getElem?_set_self hiZ] at e2
    cases e2
    exact ⟨u,r,.inl ⟨hk,by simp⟩⟩
   ·rw [List.getElem?_set_ne (Ne.symm hj)] at e2
    obtain ⟨u',r',q⟩:=hl j y v' e1 e2 e3
    refine ⟨u',r',?_⟩
    rcases q with ⟨k,e⟩ | ⟨k,c,e,z⟩
    ·refine .inl ⟨k,?_⟩
     have:y ≠ x:=λe=>hj (qh hN e1 (e ▸ hi))
     simp [this,e]
    ·exact .inr ⟨k,c,e,z.sameBut hs (Cp y c e)⟩
  ·obtain ⟨w',z⟩:=I.cell y c e
   exact ⟨w',z.sameBut hs (Cp y c e)⟩
  ·obtain ⟨e,n,ne,nf,d⟩:=I.pin p hp
   exact ⟨(hs.2 p.1 ne).trans e,n,ne,nf,d⟩
 ·have hfn:X.fn x = true:=by
   rcases hf with z | z
   ·exact z
   ·rw [z] at hk;cases hk
  obtain ⟨c,hc⟩:=I.ok.has x (.inl hk)
  obtain ⟨w',z⟩:=I.cell x c hc
  refine wpAny_storeName_cell I.ok.kind hk hc z (λh' hc' hs=>?_)
  obtain ⟨oc,hoc,hocd⟩:=id z
  refine h { s with heap:=h' } ⟨I.ok,I.os,I.bare,⟨λb o e n hb hx=>?_,λb o e n hb hx=>?_,I.base.free,λb o e hx=>?_,I.base.tups,I.base.nD,I.base.pJ⟩,⟨m,hn.sameBut hs (Ne.symm (Cp x c hc)),λj y v' e1 e2 e3=>?_⟩,λy c' e=>?_,I.free,I.iu,λp hp=>?_,tracked ⟨oc,hoc,I.iu x c hc⟩ hs,by simpa using I.len⟩ ⟨c,hs,.inr hc⟩
  ·exact (hs.2 b (Nat.ne_of_lt (Nat.lt_of_lt_of_le (Heap.lt_size e) (I.ok.Kf x c hfn hc)))).trans (I.base.keep b o e n hb hx)
  ·obtain ⟨sl,e1⟩:=I.base.slot b o e n hb hx
   exact ⟨sl,(hs.2 b (Nat.ne_of_lt (Nat.lt_of_lt_of_le (Heap.lt_size e) (I.ok.Kf x c hfn hc)))).trans e1⟩
  ·obtain ⟨o',e1⟩:=I.base.there b o e hx
   exact ⟨o',(hs.2 b (Nat.ne_of_lt (Nat.lt_of_lt_of_le (Heap.lt_size e) (I.ok.Kf x c hfn hc)))).trans e1⟩
  ·by_cases hj:j = i
   ·subst hj
    rw [hi] at e1;cases e1
    rw [List.getElem?_set_self hiZ] at e2
    cases e2
    exact ⟨u,r,.inr ⟨.inl hk,c,hc,hc'⟩⟩
   ·rw [List.getElem?_set_ne (Ne.symm hj)] at e2
    obtain ⟨u',r',q⟩:=hl j y v' e1 e2 e3
    refine ⟨u',r',?_⟩
    rcases q with q | ⟨k,c',e,z'⟩
    ·exact .inl q
    ·refine .inr ⟨k,c',e,z'.sameBut hs ?_⟩
     rintro rfl
     exact hj (qh hN e1 (I.ok.inj _ _ _ e hc ▸ hi))
  ·by_cases hcc:c' = c
   ·subst hcc;exact ⟨_,hc'⟩
   ·obtain ⟨w2,z2⟩:=I.cell y c' e
    exact ⟨w2,z2.sameBut hs hcc⟩
  ·obtain ⟨e,n,ne,nf,d⟩:=I.pin p hp
   refine ⟨(hs.2 p.1 ?_).trans e,n,ne,nf,d⟩
   intro q
   rw [q,hoc] at e
   have q':oc = p.2:=Option.some.inj e
   exact d w' (by rw [← q'];exact hocd)
theorem lR {M:Model} {A:Around} {E:Value -> Shared -> Prop} {i:Nat} {x:Str} {v:V} {u:Value} {Q:Unit -> Shared -> Prop} (I:Inv X pins Z H s) (hN:X.N.Nodup) (hi:X.N[i]? = some x) (hx:Loc X.env.scope x) (r:RelV v u)
  (h:∀ s',Inv X pins (Z.set i (some v)) H s' -> Q () s') (hf:X.fn x = true ∨ X.env.scope.names.lookup x = some .local:=by first | exact .inl rfl | exact .inr rfl | assumption):wpAny M A (storeName X.env x u) Q E s :=
 A6 I hN hi hx r (λs' I' _=>h s' I') hf
theorem Inv.wC {s':Shared} {ch:List Addr} (I:Inv X pins Z H s) (ho:s'.os = s.os) (u:Un (frs X.stack) ch H H' s.heap s'.heap) (hok:jr X.prog X.w H' s'.heap) (hg:AllBare s'.gens)
  (hch:∀ b ∈ ch,(b ∈ X.ex ∨ X.s₀.heap.objs.size <= b) /\ b ≠ X.env.locals /\ (∀ x c,X.env.cells.lookup x = some c -> c ≠ b) /\ ∀ p ∈ X.pn ++ pins,p.1 ≠ b):Inv X pins Z H' s':=by
 obtain ⟨h',g',d',t',o'⟩:=s'
 have e:o' = s.os:=ho
 subst e
 exact I.call (g':=g') (t':=t') (d':=d') u hok hg hch
end
abbrev XK:=Value -> Option Addr -> Hp -> Prop
abbrev St:=List (Option V)
abbrev VK:=V -> Hp -> Prop
abbrev TE:=St -> Hp -> VK -> Prop
abbrev TT:=St -> Hp -> (Bool -> Hp -> Prop) -> Prop
abbrev TA:=St -> Hp -> (List V -> Hp -> Prop) -> Prop
structure Ends where
 nx:St -> Hp -> Prop
 rt:VK
 bk:St -> Hp -> Prop:=λ_ _=>False
 ct:St -> Hp -> Prop:=λ_ _=>False
abbrev TS:=Ends -> St -> Hp -> Prop
def EP (X:Cx) (pins:List (Addr × Obj)) (Z:St) (Q:VK) (u:Value) (s':Shared):Prop:=∃ v H',Inv X pins Z H' s' /\ RelV v u /\ Q v H'
def TP (X:Cx) (pins:List (Addr × Obj)) (Z:St) (Q:Bool -> Hp -> Prop) (b:Bool) (s':Shared):Prop:=∃ H',Inv X pins Z H' s' /\ Q b H'
def AP (X:Cx) (pins:List (Addr × Obj)) (Z:St) (Q:List V -> Hp -> Prop) (us:List Value) (s':Shared):Prop:=∃ vs H',Inv X pins Z H' s' /\ Vals vs us /\ Q vs H'
def SP (X:Cx) (pins:List (Addr × Obj)) (D:Ends) (f:Flow) (s':Shared):Prop :=
 match f with
 | .next=>∃ Z' H',Inv X pins Z' H' s' /\ D.nx Z' H'
 | .brk=>∃ Z' H',Inv X pins Z' H' s' /\ D.bk Z' H'
 | .cont=>∃ Z' H',Inv X pins Z' H' s' /\ D.ct Z' H'
 | .ret u=>∃ v Z' H',Inv X pins Z' H' s' /\ RelV v u /\ D.rt v H'
def PE (X:Cx) (e:Expr) (t:TE):Prop :=
 ∀ (pins:List (Addr × Obj)) (s:Shared) (Z:St) (H:Hp) (Q:VK),Inv X pins Z H s -> t Z H Q -> wpAny (model X.prog X.w) X.A (eval e X.env) (EP X pins Z Q) X.xe s
def PT (X:Cx) (e:Expr) (t:TT):Prop :=
 ∀ (pins:List (Addr × Obj)) (s:Shared) (Z:St) (H:Hp) (Q:Bool -> Hp -> Prop),Inv X pins Z H s -> t Z H Q -> wpAny (model X.prog X.w) X.A (isTrue e X.env (eval e X.env)) (TP X pins Z Q) X.xe s
def PW (X:Cx) (e:Expr) (t:TT):Prop :=
 ∀ (whole:Sem Value) (pins:List (Addr × Obj)) (s:Shared) (Z:St) (H:Hp) (Q:Bool -> Hp -> Prop),Inv X pins Z H s -> t Z H Q -> wpAny (model X.prog X.w) X.A (isTrue e X.env whole) (TP X pins Z Q) X.xe s
theorem PW.pt {X:Cx} {e:Expr} {t:TT} (h:PW X e t):PT X e t:=h _
def PA (X:Cx) (es:List Expr) (t:TA):Prop :=
 ∀ (pos:Pos) (pins:List (Addr × Obj)) (s:Shared) (Z:St) (H:Hp) (Q:List V -> Hp -> Prop),Inv X pins Z H s -> t Z H Q -> wpAny (model X.prog X.w) X.A (spliced (backTo pos (starEach es X.env))) (AP X pins Z Q) X.xe s
def PS (X:Cx) (st:Stmt) (t:TS):Prop :=
 ∀ (pins:List (Addr × Obj)) (s:Shared) (Z:St) (H:Hp) (D:Ends),Inv X pins Z H s -> t D Z H -> wpAny (model X.prog X.w) X.A (exec st X.env) (SP X pins D) X.xe s
def xZ (X:Cx) (st:List Stmt) (t:TS):Prop :=
 ∀ (pins:List (Addr × Obj)) (s:Shared) (Z:St) (H:Hp) (D:Ends),Inv X pins Z H s -> t D Z H -> wpAny (model X.prog X.w) X.A (execs st X.env) (SP X pins D) X.xe s
theorem cZ {α:Type} {t:Sem α} {Q Q':α -> Shared -> Prop} {M:Model} {A:Around} {E:Value -> Shared -> Prop} {s:Shared} (h:wpAny M A t Q E s) (hQ:∀ a s,Q a s -> Q' a s):wpAny M A t Q' E s:=wpAny_mono h hQ λ_ _ x=>x
end L2
namespace L2
open PySem PySem.Spec PyProof.Rows
section
variable {X:Cx}
def Fy (i:Nat):TE:=λZ H Q=>∃ v,Z[i]? = some (some v) /\ Q v H
def tC (v:V):TE:=λ_ H Q=>Q v H
theorem Hh {i:Nat} {x:Str} {pos:Pos} (hN:X.N[i]? = some x) (hv:Lj X.env.scope x) (hd:(x == ("__debug__" : Str)) = false:=by decide) (hcd:(x == ("__classdict__" : Str)) = false:=by decide):PE X (.Name x pos) (Fy i):=by
 intro pins s Z H Q I h
 obtain ⟨v,e,h⟩:=h
 obtain ⟨m,hn,hl⟩:=I.loc
 obtain ⟨u,r,l⟩:=hl i x v hN e hv
 have fin:EP X pins Z Q u s:=⟨v,H,I,r,h⟩
 rcases l with ⟨hk,hm⟩ | ⟨hk,c,hc,hcell⟩
 ·exact wpAny_Name (wpAny_loadName_local I.ok.kind hk hn hm fin) hd
 ·rcases hk with hk | hk
  ·exact wpAny_Name (wpAny_loadName_cell I.ok.kind hk hc hcell fin) hd
  ·exact wpAny_Name (wpAny_loadName_free I.ok.kind hk hc hcell fin hcd) hd
theorem ao {i j pos}:PE X (.Constant (.int i) j pos) (tC (.int i)):=λ_ _ _ H _ I h=>wpAny_Constant_int ⟨.int i,H,I.tok _,⟨_,rfl⟩,h⟩
theorem jq {b j pos}:PE X (.Constant (.bool b) j pos) (tC (.bl b)):=λ_ _ _ H _ I h=>Constant_bool ⟨.bl b,H,I,rfl,h⟩
theorem cy {j pos}:PE X (.Constant .none j pos) (tC .cL):=λ_ _ _ H _ I h=>Constant_none ⟨.cL,H,I,rfl,h⟩
theorem aN {x j pos}:PE X (.Constant (.str x) j pos) (tC (.str x)):=λ_ _ _ H _ I h=>Calls.Constant_str ⟨.str x,H,I.tok _,⟨_,rfl⟩,h⟩
def Gl (X:Cx) (x:Str):Prop:=X.env.kindOf x = some .globalImplicit
theorem gZ {E:Value -> Shared -> Prop} {pins:List (Addr × Obj)} {s:Shared} {Z:St} {H:Hp} {x:Str} {u:Value} {pos:Pos} {Q:Value -> Shared -> Prop} (I:Inv X pins Z H s) (hg:Gl X x) (hm:X.mg x = some u) (h:Q u s)
  (hd:(x == ("__debug__" : Str)) = false:=by decide):wpAny (model X.prog X.w) X.A (eval (.Name x pos) X.env) Q E s :=
 Calls.Name_function_global I.ok.kind hg (Calls.loadGlobal_global (by rw [I.ok.glob];exact I.mod.glob.keeps I.bk) hm h) hd
theorem tL {E:Value -> Shared -> Prop} {pins:List (Addr × Obj)} {s:Shared} {Z:St} {H:Hp} {x:Str} {u:Value} {pos:Pos} {Q:Value -> Shared -> Prop} (I:Inv X pins Z H s) (hg:Gl X x) (hm:X.mg x = none) (hv:bootBuiltins x = some u) (h:Q u s)
  (hn:x ≠ "__name__" := by decide) (hd:(x == ("__debug__" : Str)) = false:=by decide):wpAny (model X.prog X.w) X.A (eval (.Name x pos) X.env) Q E s:=by
 obtain ⟨mb,h1,h2⟩:=I.mod.blt
 exact Calls.Name_function_global I.ok.kind hg (Calls.loadGlobal_builtin (by rw [I.ok.glob];exact I.mod.glob.keeps I.bk) hm (by rw [I.ok.blt];exact h1.keeps I.bk) ((h2 x hn).trans hv) h) hd
theorem jS {x:Str} {v:V} {u:Value} {pos:Pos} (hg:Gl X x) (hm:X.mg x = some u) (r:RelV v u) (hd:(x == ("__debug__" : Str)) = false:=by decide):PE X (.Name x pos) (tC v) :=
 λ_ _ _ H _ I h=>gZ I hg hm ⟨v,H,I,r,h⟩ hd
variable {a b:Expr} {ta tb:TE} {pos:Pos}
def PC (X:Cx) (op:CmpOp) (a b:Expr) (t:TE):Prop :=
 ∀ (pins:List (Addr × Obj)) (s:Shared) (Z:St) (H:Hp) (Q:VK),Inv X pins Z H s -> t Z H Q ->
  wpAny (model X.prog X.w) X.A (eval a X.env) (λv s₁=>wpAny (model X.prog X.w) X.A (eval b X.env) (λu s₂=>wpAny (model X.prog X.w) X.A (compareOp op v u) (EP X pins Z Q) X.xe s₂) X.xe s₁) X.xe s
theorem tS (b:Expr) {op:CmpOp} (h:op ≠ .In) (h2:op ≠ .NotIn):behindInMarks op b = false:=by
 have e1:(op == CmpOp.In) = false:=by cases op <;> first | rfl | exact absurd rfl h
 have e2:(op == CmpOp.NotIn) = false:=by cases op <;> first | rfl | exact absurd rfl h2
 cases b <;> simp [behindInMarks,e1,e2]
def tB (t:TE):TT:=λZ H Q=>t Z H λx H1=>∃ c,x = .bl c /\ Q c H1
theorem J4 {op:CmpOp} {t:TE} (h:PC X op a b t) (h1:behindInMarks op b = false:=by first | exact tS _ (by decide) (by decide) | rfl):PT X (.Compare a [op] [b] pos) (tB t):=by
 intro pins s Z H Q I hw
 refine wpAny_isTrue_Compare1 (cZ (h pins s Z H _ I hw) λv s1 h1=>cZ h1 λu s2 h2=>cZ h2 λc s3 ⟨x,H1,I1,r1,q1⟩=>?_) h1
 obtain ⟨d,rfl,q⟩:=q1
 cases r1
 exact wpAny_truthy_bool ⟨H1,I1,q⟩
theorem ji {e:Expr} {t:TE} (h:PE X e t) (he:∀ whole,isTrue e X.env whole = (do let v ← whole;standAt e.pos;holding [v] (truthy v)):=by intro _;rfl):PT X e (tB t):=by
 intro pins s Z H Q I hw
 refine isTrue_plain (cZ (h pins s Z H _ I hw) λv s1 ⟨x,H1,I1,r1,q1⟩=>?_) (he _)
 obtain ⟨d,rfl,q⟩:=q1
 cases r1
 exact wpAny_truthy_bool ⟨H1,I1,q⟩
variable {tA tB':TT} {rest:List Expr}
def Lz (t u:TT):TT:=λZ H Q=>t Z H λc H1=>if c = true then u Z H1 Q else Q false H1
def tOr (t u:TT):TT:=λZ H Q=>t Z H λc H1=>if c = true then Q true H1 else u Z H1 Q
def KZ (t:TT):TT:=λZ H Q=>t Z H λc H1=>Q (!c) H1
theorem gi (ha:PT X a tA):PW X (.BoolOp .And [a] pos) tA:=by
 intro wh pins s Z H Q I h
 refine isTrue_and (cZ (ha pins s Z H Q I h) λc s1 e=>?_)
 cases c with
 | true=>exact isTrue_and_nil e
 | false=>exact e
theorem iN (ha:PT X a tA):PW X (.BoolOp .Or [a] pos) tA:=by
 intro wh pins s Z H Q I h
 refine isTrue_or (cZ (ha pins s Z H Q I h) λc s1 e=>?_)
 cases c with
 | false=>exact isTrue_or_nil e
 | true=>exact e
theorem gw (ha:PT X a tA) (hb:PW X (.BoolOp .And (b :: rest) pos) tB'):PW X (.BoolOp .And (a :: b :: rest) pos) (Lz tA tB'):=by
 intro wh pins s Z H Q I h
 refine isTrue_and (cZ (ha pins s Z H _ I h) λc s1 ⟨H1,I1,q1⟩=>?_)
 cases c with
 | true=>exact hb wh pins s1 Z H1 Q I1 q1
 | false=>exact ⟨H1,I1,q1⟩
theorem jM (ha:PT X a tA) (hb:PW X (.BoolOp .Or (b :: rest) pos) tB'):PW X (.BoolOp .Or (a :: b :: rest) pos) (tOr tA tB'):=by
 intro wh pins s Z H Q I h
 refine isTrue_or (cZ (ha pins s Z H _ I h) λc s1 ⟨H1,I1,q1⟩=>?_)
 cases c with
 | true=>exact ⟨H1,I1,q1⟩
 | false=>exact hb wh pins s1 Z H1 Q I1 q1
theorem sA (ha:PT X a tA):PT X (.UnaryOp .Not a pos) (KZ tA):=by
 intro pins s Z H Q I h
 exact isTrue_not (ha pins s Z H (λc H1=>Q (!c) H1) I h)
def F3 (ta tb:TE):TE:=λZ H Q=>ta Z H λx H1=>∃ c,x = .bl c /\ if c = true then tb Z H1 Q else Q (.bl false) H1
def MT (ta tb:TE):TE:=λZ H Q=>ta Z H λx H1=>∃ c,x = .bl c /\ if c = true then Q (.bl true) H1 else tb Z H1 Q
def F6 (ta:TE):TE:=λZ H Q=>ta Z H λx H1=>∃ c,x = .bl c /\ Q (.bl (!c)) H1
theorem yR {op} {t:TE} (h:PE X a t):PE X (.BoolOp op [a] pos) t:=λpins s Z H Q I hw=>BoolOp_one (h pins s Z H Q I hw)
theorem yT (ha:PE X a ta) (hb:PE X (.BoolOp .And (b :: rest) pos) tb):PE X (.BoolOp .And (a :: b :: rest) pos) (F3 ta tb):=by
 intro pins s Z H Q I h
 refine BoolOp_and (cZ (ha pins s Z H _ I h) λv s1 ⟨x,H1,I1,r1,q1⟩=>?_)
 obtain ⟨c,rfl,q1⟩:=q1
 cases r1
 refine wpAny_truthy_bool ?_
 cases c with
 | true=>exact hb pins s1 Z H1 Q I1 q1
 | false=>exact ⟨.bl false,H1,I1,rfl,q1⟩
theorem DX (ha:PE X a ta):PE X (.UnaryOp .Not a pos) (F6 ta):=by
 intro pins s Z H Q I h
 refine UnaryOp_ (cZ (ha pins s Z H _ I h) λv s1 ⟨x,H1,I1,r1,q1⟩=>?_)
 obtain ⟨c,rfl,q1⟩:=q1
 cases r1
 exact not_of (wpAny_truthy_bool ⟨.bl (!c),H1,I1,rfl,q1⟩)
def tIf (t:TT) (ta tb:TE):TE:=λZ H Q=>t Z H λc H1=>if c = true then ta Z H1 Q else tb Z H1 Q
theorem bZ {c:Expr} (hc:PT X c tA) (ha:PE X a ta) (hb:PE X b tb):PE X (.IfExp c a b pos) (tIf tA ta tb):=by
 intro pins s Z H Q I h
 refine wpAny_IfExp (cZ (hc pins s Z H _ I h) λd s1 ⟨H1,I1,q1⟩=>?_)
 cases d with
 | true=>exact ha pins s1 Z H1 Q I1 q1
 | false=>exact hb pins s1 Z H1 Q I1 q1
end
end L2
namespace L2
open PySem PySem.Spec PyProof.Rows
def aP (K:PySem.W.Frag) (H:Hp) (a:Addr) (xs:List V):Prop :=
 Rd H a (.lst xs) ∨
  ∃ (o:Obj) (its:Array Value) (n:Nat),K.lookup a = some o /\ o.cls = .type "list" /\ o.dict = none /\ o.data = .seq its n /\ its.size <= sizeLine /\ Vals xs its.toList
def fL (K:PySem.W.Frag) (H:Hp) (a:Addr) (xs:List V):Prop :=
 Rd H a (.tup xs) ∨
  ∃ (o:Obj) (its:Array Value) (n:Nat),K.lookup a = some o /\ o.cls = .type "tuple" /\ o.data = .seq its n /\ its.size <= sizeLine /\ Vals xs its.toList
def MS:Value -> Option V
 | .none=>some .cL
 | .bool b=>some (.bl b)
 | .int i _=>some (.int i)
 | .str x _=>some (.str x)
 | .bytes b _=>some (.byt b)
 | .float b _=>some (.flt b)
 | .ref a=>some (.ref a)
 | .type n=>some (.ty n)
 | _=>none
theorem RelV.abs {x:V} {u:Value} (r:RelV x u):MS u = some x:=by
 cases x with
 | cL=>cases r;rfl
 | bl _=>cases r;rfl
 | int _=>obtain ⟨t,rfl⟩:=r;rfl
 | str _=>obtain ⟨t,rfl⟩:=r;rfl
 | byt _=>obtain ⟨t,rfl⟩:=r;rfl
 | flt _=>obtain ⟨t,rfl⟩:=r;rfl
 | ref _=>cases r;rfl
 | ty _=>cases r;rfl
theorem RelV.inj {x y:V} {u:Value} (r:RelV x u) (q:RelV y u):x = y:=Option.some.inj (r.abs.symm.trans q.abs)
theorem Vals.inj:∀ {xs ys:List V} {us:List Value},Vals xs us -> Vals ys us -> xs = ys
 | _,_,_,.nil,.nil=>rfl
 | _,_,_,.cons r t,.cons r' t'=>by rw [r.inj r',Vals.inj t t']
section
variable {X:Cx} {pins:List (Addr × Obj)} {Z:St} {H:Hp} {s:Shared} {a:Addr} {xs ys:List V}
theorem aP.of {K:PySem.W.Frag} (h:H a = some (.lst xs)):aP K H a xs:=.inl (.inl h)
theorem fL.of {K:PySem.W.Frag} (h:H a = some (.tup xs)):fL K H a xs:=.inl (.inl h)
theorem Inv.list (I:Inv X pins Z H s) (h:aP X.K H a xs):∃ its:List Value,Vals xs its /\ PlainL s.heap a its.toArray /\ xs.length <= sizeLine:=by
 rcases h with h | ⟨o,its,n,hk,hc,hd,hs,hz,r⟩
 ·obtain ⟨z,its,n,r,e⟩:=h.ok I.hok
  exact ⟨its,r,⟨_,n,e,rfl,rfl,rfl⟩,z⟩
 ·refine ⟨its.toList,r,⟨o,n,I.jB a o hk,hc,hd,by simpa using hs⟩,?_⟩
  have e:=r.length
  simp only [Array.length_toList] at e
  omega
theorem Inv.tuple (I:Inv X pins Z H s) (h:fL X.K H a xs):∃ its:List Value,Vals xs its /\ IsTup s.heap a its.toArray /\ xs.length <= sizeLine:=by
 rcases h with h | ⟨o,its,n,hk,hc,hs,hz,r⟩
 ·obtain ⟨z,its,r,p⟩:=h.ok I.hok
  exact ⟨its,r,p,z⟩
 ·refine ⟨its.toList,r,⟨o,I.jB a o hk,hc,n,by simpa using hs⟩,?_⟩
  have e:=r.length
  simp only [Array.length_toList] at e
  omega
theorem Inv.tX (I:Inv X pins Z H s) (h:aP X.K H a xs) (h':aP X.K H a ys):xs = ys:=by
 obtain ⟨its,r,⟨o,n,e,_,_,d⟩,_⟩:=I.list h
 obtain ⟨its',r',⟨o',n',e',_,_,d'⟩,_⟩:=I.list h'
 rw [e] at e';cases e'
 rw [d] at d'
 injection d' with d1 _
 have:its = its':=by simpa using congrArg Array.toList d1
 subst this
 exact r.inj r'
end
abbrev Cx.qC (X:Cx) (E:Value -> Shared -> Prop):Cx:={ X with xe:=E }
abbrev Cx.L6 (X:Cx):Cx:=X.qC λ_ _=>False
theorem Cx.Ok.qC {X:Cx} (ok:X.Ok) (E:Value -> Shared -> Prop):(X.qC E).Ok :=
 ⟨ok.mod,ok.kind,ok.glob,ok.blt,ok.above,ok.inj,ok.has,ok.Kf,ok.hd,ok.frames,ok.stk,ok.MI,ok.bs,ok.Fw,ok.Ay,ok.BC,ok.lW,ok.FW⟩
theorem Cx.Ok.jC {X:Cx} {E:Value -> Shared -> Prop} (ok:(X.qC E).Ok):X.Ok :=
 ⟨ok.mod,ok.kind,ok.glob,ok.blt,ok.above,ok.inj,ok.has,ok.Kf,ok.hd,ok.frames,ok.stk,ok.MI,ok.bs,ok.Fw,ok.Ay,ok.BC,ok.lW,ok.FW⟩
section
variable {X:Cx} {pins:List (Addr × Obj)} {Z:St} {H:Hp} {s:Shared} {E:Value -> Shared -> Prop}
theorem Inv.qC (I:Inv X pins Z H s) (E:Value -> Shared -> Prop):Inv (X.qC E) pins Z H s:=⟨I.ok.qC E,I.os,I.bare,I.base,I.loc,I.cell,I.free,I.iu,I.pin,I.hok,I.len⟩
theorem Inv.jC (I:Inv (X.qC E) pins Z H s):Inv X pins Z H s:=⟨I.ok.jC,I.os,I.bare,I.base,I.loc,I.cell,I.free,I.iu,I.pin,I.hok,I.len⟩
theorem SP.jC {D:Ends} {f:Flow} {s':Shared} (h:SP (X.qC E) pins D f s'):SP X pins D f s':=by
 cases f with
 | next=>obtain ⟨Z',H',I,q⟩:=h;exact ⟨Z',H',I.jC,q⟩
 | brk=>obtain ⟨Z',H',I,q⟩:=h;exact ⟨Z',H',I.jC,q⟩
 | cont=>obtain ⟨Z',H',I,q⟩:=h;exact ⟨Z',H',I.jC,q⟩
 | ret u=>obtain ⟨v,Z',H',I,r,q⟩:=h;exact ⟨v,Z',H',I.jC,r,q⟩
theorem xZ.L6 {st:List Stmt} {t:TS} (h:xZ X.L6 st t):xZ X st t:=λpins s Z H D I hw =>
 wpAny_mono (h pins s Z H D (I.qC _) hw) (λ_ _ q=>q.jC) λ_ _ z=>False.elim z
end
section
variable {X:Cx} {st:Stmt} {rest:List Stmt} {t u:TS} {e:Expr} {te:TE} {pos:Pos}
def Lx:TS:=λD Z H=>D.nx Z H
def LG (t u:TS):TS:=λD Z H=>t { D with nx:=u D } Z H
theorem wj (h1:PS X st t) (h2:xZ X rest u):xZ X (st :: rest) (LG t u):=by
 intro pins s Z H D I h
 refine wpAny_execs_cons (cZ (h1 pins s Z H { D with nx:=u D } I h) λf s1 q=>?_)
 cases f with
 | next =>
  obtain ⟨Z',H',I',q⟩:=q
  exact h2 pins s1 Z' H' D I' q
 | ret v=>exact q
 | brk=>exact q
 | cont=>exact q
theorem EV (h1:PS X st t):xZ X [st] t:=by
 intro pins s Z H D I h
 refine wpAny_execs_cons (cZ (h1 pins s Z H D I h) λf s1 q=>?_)
 cases f with
 | next=>exact wpAny_execs_nil q
 | ret v=>exact q
 | brk=>exact q
 | cont=>exact q
theorem Inv.quiet {pins:List (Addr × Obj)} {Z:St} {H:Hp} {s:Shared} (I:Inv X pins Z H s):interactive X.env = false:=by simp [interactive,I.ok.kind]
def Gg (te:TE):TS:=λD Z H=>te Z H λ_ H1=>D.nx Z H1
theorem bq (he:PE X e te) (hs:swapsWith e none pos.line X.env = pure false:=by rfl):PS X (.Expr e pos) (Gg te):=by
 intro pins s Z H D I h
 exact wpAny_Expr_any (cZ (he pins s Z H _ I h) λv s1 ⟨x,H1,I1,r1,q1⟩=>⟨Z,H1,I1,q1⟩) I.quiet hs
def IF (te:TE):TS:=λD Z H=>te Z H D.rt
theorem aH (he:PE X e te):PS X (.Return (some e) pos) (IF te):=by
 intro pins s Z H D I h
 exact wpAny_Return_some (cZ (he pins s Z H _ I h) λv s1 ⟨x,H1,I1,r1,q1⟩=>⟨x,Z,H1,I1,r1,q1⟩)
def K7 (c:TT) (t u:TS):TS:=λD Z H=>c Z H λb H1=>if b = true then t D Z H1 else u D Z H1
theorem bA {c:Expr} {a b:List Stmt} {tc:TT} (hc:PT X c tc) (ha:xZ X a t) (hb:xZ X b u):PS X (.If c a b pos) (K7 tc t u):=by
 intro pins s Z H D I h
 refine wpAny_If (cZ (hc pins s Z H _ I h) λd s1 ⟨H1,I1,q1⟩=>?_)
 cases d with
 | true=>exact ha pins s1 Z H1 D I1 q1
 | false=>exact hb pins s1 Z H1 D I1 q1
end
abbrev TG:=V -> St -> Hp -> (St -> Hp -> Prop) -> Prop
abbrev Hl:=List V -> St -> Hp -> (St -> Hp -> Prop) -> Prop
def PG (X:Cx) (target:Expr) (t:TG):Prop :=
 ∀ (pins:List (Addr × Obj)) (s:Shared) (Z:St) (H:Hp) (v:V) (u:Value) (Q:St -> Hp -> Prop),Inv X pins Z H s -> RelV v u -> t v Z H Q ->
  wpAny (model X.prog X.w) X.A (assign target X.env u) (λ_ s'=>∃ Z' H',Inv X pins Z' H' s' /\ Q Z' H') X.xe s
def LZ (X:Cx) (ts:List Expr) (t:Hl):Prop :=
 ∀ (pins:List (Addr × Obj)) (s:Shared) (Z:St) (H:Hp) (vs:List V) (us:List Value) (Q:St -> Hp -> Prop),Inv X pins Z H s -> Vals vs us -> t vs Z H Q ->
  wpAny (model X.prog X.w) X.A (assignInOrder ((assignEach ts X.env).map (·.2)) us) (λ_ s'=>∃ Z' H',Inv X pins Z' H' s' /\ Q Z' H') X.xe s
abbrev Iq:=V -> V -> V -> Hp -> (Hp -> Prop) -> Prop
def LF (X:Cx) (t:Iq):Prop :=
 ∀ (pins:List (Addr × Obj)) (s:Shared) (Z:St) (H:Hp) (o i v:V) (ov iv u:Value) (Q:Hp -> Prop),Inv X pins Z H s -> RelV o ov -> RelV i iv -> RelV v u -> t o i v H Q ->
  wpAny (model X.prog X.w) X.A (setItem ov iv u) (λ_ s'=>∃ H',Inv X pins Z H' s' /\ Q H') X.xe s
abbrev LY:=V -> V -> Hp -> VK -> Prop
def PIp (X:Cx) (op:Operator) (t:LY):Prop :=
 ∀ (pins:List (Addr × Obj)) (s:Shared) (Z:St) (H:Hp) (x y:V) (v u:Value) (Q:VK),Inv X pins Z H s -> RelV x v -> RelV y u -> t x y H Q ->
  wpAny (model X.prog X.w) X.A (inplaceOp op v u) (EP X pins Z Q) X.xe s
section
variable {X:Cx} {pos:Pos}
def nW (i:Nat):TG:=λv Z H Q=>Q (Z.set i (some v)) H
theorem b9 {i:Nat} {x:Str} (hN:X.N.Nodup) (hi:X.N[i]? = some x) (hx:Loc X.env.scope x) (hf:X.fn x = true ∨ X.env.scope.names.lookup x = some .local:=by first | exact .inl rfl | exact .inr rfl | assumption):PG X (.Name x pos) (nW i):=by
 intro pins s Z H v u Q I r h
 exact wpAny_assign_Name (lR I hN hi hx r (λs' I'=>⟨_,H,I',h⟩) hf)
def MW:Hl:=λvs Z H Q=>vs = [] /\ Q Z H
def KJ (t:TG) (u:Hl):Hl:=λvs Z H Q=>∃ v r,vs = v :: r /\ t v Z H λZ' H'=>u r Z' H' Q
theorem tO:LZ X [] MW:=by
 intro pins s Z H vs us Q I r h
 obtain ⟨e,h⟩:=h
 subst e
 cases r
 exact assignInOrder_nil ⟨Z,H,I,h⟩
theorem iT {e:Expr} {es:List Expr} {t:TG} {u:Hl} (h1:PG X e t) (h2:LZ X es u)
  (hs:(assignEach (e :: es) X.env).map (·.2) = assign e X.env :: (assignEach es X.env).map (·.2):=by rfl):LZ X (e :: es) (KJ t u):=by
 intro pins s Z H vs us Q I r h
 obtain ⟨v,vr,e1,h⟩:=h
 subst e1
 cases r with
 | cons r rr =>
  rw [hs]
  refine assignInOrder_cons (cZ (h1 pins s Z H _ _ _ I r h) λ_ s1 ⟨Z1,H1,I1,q1⟩=>?_)
  exact h2 pins s1 Z1 H1 _ _ Q I1 rr q1
def MC (K:PySem.W.Frag) (n:Nat) (t:Hl):TG:=λv Z H Q=>∃ a xs,v = .ref a /\ fL K H a xs /\ xs.length = n /\ t xs Z H Q
theorem yJ {es:List Expr} {k:Nat} {t:Hl} {n:Nat} (hc:X.calm = true) (h:LZ X es t)
  (hn:(assignEach es X.env).length = n:=by rfl) (hst:(assignEach es X.env).findIdx? (·.1) = none:=by rfl):PG X (.Tuple es k pos) (MC X.K n t):=by
 intro pins s Z H v u Q I r hw
 obtain ⟨a,xs,e1,hq,hl,hw⟩:=hw
 subst e1
 cases r
 obtain ⟨its,rv,ht,hz⟩:=I.tuple hq
 refine assign_Tuple_tuple (I.ok.hd hc) ht (by simp [hn,← hl,rv.length]) hst λh' hx=>?_
 have I1:Inv X pins Z H { s with heap:=h' }:=I.kept (t':=s.toks) λb o e=>hx b o (Nat.ne_of_lt (Heap.lt_size e)) e
 exact h pins _ Z H xs _ Q I1 (by simpa using rv) hw
def Ms (to ti:TE) (t:Iq):TG:=λv Z H Q=>to Z H λo H1=>ti Z H1 λi H2=>t o i v H2 λH3=>Q Z H3
theorem J0 {o i:Expr} {to ti:TE} {t:Iq} (ho:PE X o to) (hi:PE X i ti) (hs:LF X t)
  (ha:∀ v,assign (.Subscript o i pos) X.env v = (do
   let ov ← holding [v] (eval o X.env)
   let iv ← holding [v,ov] (eval i X.env)
   standAt pos
   holding [v,ov,iv] (setItem ov iv v)
   release [v,ov,iv] []):=by intro _;rfl):PG X (.Subscript o i pos) (Ms to ti t):=by
 intro pins s Z H v u Q I r h
 rw [ha]
 refine wpAny_bind (wpAny_holding (cZ (ho pins s Z H _ I h) λov s1 ⟨x,H1,I1,r1,q1⟩=>?_))
 refine wpAny_bind (wpAny_holding (cZ (hi pins s1 Z H1 _ I1 q1) λiv s2 ⟨y,H2,I2,r2,q2⟩=>?_))
 refine wpAny_bind (wpAny_standAt (wpAny_bind (wpAny_holding (cZ (hs pins s2 Z H2 x y v ov iv u _ I2 r1 r2 r q2) λ_ s3 ⟨H3,I3,q3⟩=>?_))))
 exact wpAny_release ⟨Z,H3,I3,q3⟩
def FT (te:TE) (g:TG):TS:=λD Z H=>te Z H λx H1=>g x Z H1 D.nx
theorem CO {tg e:Expr} {te:TE} {g:TG} (he:PE X e te) (hg:PG X tg g) (hs:swapsWithSole [tg] e pos.line X.env = pure false:=by rfl) (hw:swappedStores [tg] e X.env = pure none:=by rfl)
  (h1:(assignEach [tg] X.env).map (·.2) = [assign tg X.env]:=by rfl):PS X (.Assign [tg] e pos) (FT te g):=by
 intro pins s Z H D I h
 refine wpAny_Assign_stores (cZ (he pins s Z H _ I h) λv s1 ⟨x,H1,I1,r1,q1⟩=>?_) hs hw
 rw [h1]
 exact cZ (hg pins s1 Z H1 x v _ I1 r1 q1) λ_ s2 q=>q
theorem aF {i:Nat} {x:Str} {e:Expr} {te:TE} {pos':Pos} (hN:X.N.Nodup) (hi:X.N[i]? = some x) (hx:Loc X.env.scope x) (he:PE X e te) (hs:swapsWith e (some (.Name x pos')) pos.line X.env = pure false:=by rfl) (hf:X.fn x = true ∨ X.env.scope.names.lookup x = some .local:=by first | exact .inl rfl | exact .inr rfl | assumption) :
  PS X (.Assign [.Name x pos'] e pos) (FT te (nW i)):=by
 intro pins s Z H D I h
 refine wpAny_Assign_Name (cZ (he pins s Z H _ I h) λv s1 ⟨y,H1,I1,r1,q1⟩=>?_) hs
 exact lR I1 hN hi hx r1 (λs2 I2=>⟨_,H1,I2,q1⟩) hf
def LO (i:Nat) (te:TE) (ti:LY):TS:=λD Z H=>∃ x,Z[i]? = some (some x) /\ te Z H λy H1=>ti x y H1 λz H2=>D.nx (Z.set i (some z)) H2
theorem Jw {i:Nat} {x:Str} {e:Expr} {te:TE} {op:Operator} {ti:LY} {pos':Pos} (hN:X.N.Nodup) (hi:X.N[i]? = some x) (hx:Loc X.env.scope x) (he:PE X e te) (ho:PIp X op ti) (hf:X.fn x = true ∨ X.env.scope.names.lookup x = some .local:=by first | exact .inl rfl | exact .inr rfl | assumption) :
  PS X (.AugAssign (.Name x pos') op e pos) (LO i te ti):=by
 intro pins s Z H D I h
 obtain ⟨v,e1,h⟩:=h
 obtain ⟨m,hn,hl⟩:=I.loc
 have vis:Lj X.env.scope x:=by rcases hx with k | k;exact .inl k;exact .inr (.inl k)
 obtain ⟨u,r,l⟩:=hl i x v hi e1 vis
 refine wpAny_AugAssign_Name ?_
 have go:wpAny (model X.prog X.w) X.A (eval e X.env) (λw s₂=>wpAny (model X.prog X.w) X.A (inplaceOp op u w) (λr s₃=>wpAny (model X.prog X.w) X.A (storeName X.env x r) (λ_=>SP X pins D .next) X.xe s₃) X.xe s₂) X.xe s:=by
  refine cZ (he pins s Z H _ I h) λw s1 ⟨y,H1,I1,r1,q1⟩=>?_
  refine cZ (ho pins s1 Z H1 v y u w _ I1 r r1 q1) λz s2 ⟨zv,H2,I2,r2,q2⟩=>?_
  exact lR I2 hN hi hx r2 (λs3 I3=>⟨_,H2,I3,q2⟩) hf
 rcases l with ⟨hk,hm⟩ | ⟨hk,c,hc,hcell⟩
 ·exact wpAny_loadName_local I.ok.kind hk hn hm go
 ·rcases hk with hk | hk
  ·exact wpAny_loadName_cell I.ok.kind hk hc hcell go
  ·rcases hx with k | k
   ·have:X.env.scope.names.lookup x = some .free:=hk
    rw [k] at this;cases this
   ·have:X.env.scope.names.lookup x = some .free:=hk
    rw [k] at this;cases this
def ipI (f:Int -> Int -> Int):LY:=λx y H Q=>∃ i j,x = .int i /\ y = .int j /\ Q (.int (f i j)) H
theorem G7:PIp X .Add (ipI λi j=>i + j):=by
 intro pins s Z H x y v u Q I r1 r2 h
 obtain ⟨i,j,e1,e2,q⟩:=h
 subst e1;subst e2
 obtain ⟨t,rfl⟩:=r1
 obtain ⟨t',rfl⟩:=r2
 exact iadd_int ⟨.int _,H,I.tok _,⟨_,rfl⟩,q⟩
end
section
variable {X:Cx} {pos:Pos}
def Hu (c:TT) (tb:TS):TS:=λD Z H=>∃ W:Nat -> St -> Hp -> Prop,(∃ m,W m Z H) /\ ∀ m Z H,W m Z H ->
 c Z H λb H1=>if b = true then ∃ N:St -> Hp -> Prop,(∀ Z' H',N Z' H' -> ∃ m',m' < m /\ W m' Z' H') /\ tb { D with nx:=N,ct:=N,bk:=D.nx } Z H1 else D.nx Z H1
theorem ly {c:Expr} {body:List Stmt} {tc:TT} {tb:TS} (hp:PassesOwn (model X.prog X.w) X.A X.env X.xe) (hc:PT X c tc) (hb:xZ X body tb):PS X (.While c body [] pos) (Hu tc tb):=by
 intro pins s Z H D I h
 obtain ⟨W,⟨m0,w0⟩,turn⟩:=h
 refine wpAny_While (codeAny_whileLoop (λn s'=>∃ Z' H',Inv X pins Z' H' s' /\ W n Z' H') ?_ m0 ⟨Z,H,I,w0⟩)
 rintro n s1 ⟨Z1,H1,I1,w1⟩
 refine wpAny_passesOwn hp (cZ (hc pins s1 Z1 H1 _ I1 (turn n Z1 H1 w1)) λb s2 ⟨H2,I2,q2⟩=>?_)
 cases b with
 | true =>
  obtain ⟨N,hN,q2⟩:=q2
  rw [if_pos rfl]
  refine wpAny_passesOwn hp (cZ (hb pins s2 Z1 H2 _ I2 q2) λf s3 q3=>?_)
  cases f with
  | next =>
   obtain ⟨Z3,H3,I3,n3⟩:=q3
   obtain ⟨m',hm,w3⟩:=hN Z3 H3 n3
   exact ⟨m',hm,Z3,H3,I3,w3⟩
  | cont =>
   obtain ⟨Z3,H3,I3,n3⟩:=q3
   obtain ⟨m',hm,w3⟩:=hN Z3 H3 n3
   exact ⟨m',hm,Z3,H3,I3,w3⟩
  | brk=>exact q3
  | ret v=>exact q3
 | false =>
  rw [if_neg Bool.false_ne_true]
  exact wpAny_execs_nil ⟨Z1,H2,I2,q2⟩
end
structure It where
 go:Nat -> Hp -> Prop
 IP:Nat -> Hp -> V -> Hp -> Prop
 stop:Nat -> Hp -> Prop
def oG (X:Cx) (pins:List (Addr × Obj)) (H:Hp) (b:Addr):Prop :=
 H b = none /\ b ≠ X.env.locals /\ b ∉ X.fs /\ (b ∈ X.ex ∨ X.s₀.heap.objs.size <= b) /\ (∀ x c,X.env.cells.lookup x = some c -> c ≠ b) /\ ∀ p ∈ X.pn ++ pins,p.1 ≠ b
theorem Inv.E5 {X:Cx} {pins:List (Addr × Obj)} {Z:St} {H H':Hp} {s:Shared} {b:Addr} (I:Inv X pins Z H s) (hb:s.heap.objs.size <= b) (hn:H' b = none):oG X pins H' b:=by
 refine ⟨hn,Nat.ne_of_gt (Nat.lt_of_lt_of_le I.lt hb),I.Lv hb,.inr (Nat.le_trans I.sz hb),λx c e z=>?_,λp hp z=>?_⟩
 ·obtain ⟨v,q⟩:=I.cell x c e
  exact absurd (Nat.lt_of_lt_of_le q.lt (by rw [z];exact hb)) (Nat.lt_irrefl _)
 ·exact absurd (Nat.lt_of_lt_of_le (Heap.lt_size (I.pin p hp).1) (by rw [z];exact hb)) (Nat.lt_irrefl _)
structure Turn (P:Program) (w:World) (K:PySem.W.Frag) (tg:Expr) (J:It) (fp:List Addr) (it:Addr) (tn:Nat -> Heap -> Prop):Prop where
 mem:it ∈ fp
 obj:∀ i h,tn i h -> ∀ b ∈ fp,∃ o,h.get? b = some o /\ ∀ v,o.data ≠ .cell v
 keep:∀ i h h',tn i h -> (∀ b ∈ fp,∀ o,h.get? b = some o -> h'.get? b = some o) -> tn i h'
 item:∀ (X:Cx),X.prog = P -> X.w = w -> X.K = K -> X.calm = true -> ∀ (i:Nat) (pins:List (Addr × Obj)) (s:Shared) (Z:St) (H:Hp) (E:Value -> Shared -> Prop),Inv X pins Z H s -> (∀ b ∈ fp,oG X pins H b) -> tn i s.heap -> J.go i H ->
  wpAny (model P w) X.A (pyNext (.ref it)) (λr s1=>∃ u,r = some u /\
   wpAny (model P w) X.A (letOwnedTupleGo tg (.ref it) u) (λ_ s2=>∃ x H',Inv X pins Z H' s2 /\ RelV x u /\ J.IP i H x H' /\ tn (i + 1) s2.heap /\ ∀ b ∈ fp,H' b = none) E s1) E s
 done:∀ (X:Cx),X.prog = P -> X.w = w -> X.K = K -> X.calm = true -> ∀ (i:Nat) (pins:List (Addr × Obj)) (s:Shared) (Z:St) (H:Hp) (E:Value -> Shared -> Prop),Inv X pins Z H s -> (∀ b ∈ fp,oG X pins H b) -> tn i s.heap -> J.stop i H ->
  wpAny (model P w) X.A (pyNext (.ref it)) (λr s1=>r = none /\ Inv X pins Z H s1) E s
 self:∀ (A:Around) (i:Nat) (s:Shared) (Q:Value -> Shared -> Prop) (E:Value -> Shared -> Prop),tn i s.heap -> Q (.ref it) s -> wpAny (model P w) A (pyIter (.ref it)) Q E s
abbrev TI:=St -> Hp -> (It -> Hp -> Prop) -> Prop
def L8 (X:Cx) (pins:List (Addr × Obj)) (Z:St) (tg:Expr) (R:It -> Hp -> Prop) (itv:Value) (s2:Shared):Prop :=
 ∃ (it:Addr) (fp:List Addr) (tn:Nat -> Heap -> Prop) (J:It) (H':Hp),itv = .ref it /\ Inv X pins Z H' s2 /\ Turn X.prog X.w X.K tg J fp it tn /\ tn 0 s2.heap /\ (∀ b ∈ fp,oG X pins H' b) /\ R J H'
def PI (X:Cx) (tg iter:Expr) (wi:TI):Prop :=
 ∀ (pins:List (Addr × Obj)) (s:Shared) (Z:St) (H:Hp) (R:It -> Hp -> Prop),Inv X pins Z H s -> wi Z H R ->
  wpAny (model X.prog X.w) X.A (eval iter X.env) (λv s1=>wpAny (model X.prog X.w) X.A (pyIter v) (L8 X pins Z tg R) X.xe s1) X.xe s
theorem Gw {M:Model} {A:Around} {E:Value -> Shared -> Prop} {s:Shared} {tg:Expr} {it:Addr} {u:Value} {o:Obj} {n:String} {vs:Array Value} {Q:Unit -> Shared -> Prop} (ho:s.heap.get? it = some o) (hc:o.cls = .type n) (hd:o.data = .fields vs)
  (hn:["enumerate","zip","dict_itemiterator","dict_reverseitemiterator","odict_iterator","itertools.zip_longest","itertools.pairwise"].contains n = false) (hQ:Q () s):wpAny M A (letOwnedTupleGo tg (.ref it) u) Q E s:=by
 unfold letOwnedTupleGo
 cases tg <;> first
  | exact wpAny_pure hQ
  | (cases u <;> first
    | exact wpAny_pure hQ
    | (refine wpAny_bind (wpAny_load ho ?_)
       rw [hc,hd]
       show wpAny M A (if (["enumerate","zip","dict_itemiterator","dict_reverseitemiterator","odict_iterator","itertools.zip_longest","itertools.pairwise"].contains n && vs[0]? == some (rawInt _)) = true then _ else _) Q E s
       rw [if_neg (by intro h;rw [hn,Bool.false_and] at h;cases h)]
       exact wpAny_pure hQ))
def Gn (K:PySem.W.Frag) (a:Addr):It :=
 ⟨λi H=>∃ xs x,aP K H a xs /\ xs[i]? = some x,λi H x H'=>H' = H /\ ∀ xs,aP K H a xs -> xs[i]? = some x,λi H=>∃ xs,aP K H a xs /\ xs.length <= i⟩
def EG (lo:Int) (n:Nat):It:=⟨λi _=>i < n,λi H x H'=>H' = H /\ x = .int (lo + i),λi _=>n <= i⟩
theorem AJ {P:Program} {w:World} {K:PySem.W.Frag} {tg:Expr} (a it:Addr):Turn P w K tg (Gn K a) [it] it (λi h=>h.IsListIter it a i) where
 mem:=by simp
 obj:=λi h st b hb=>by
  have e:b = it:=by simpa using hb
  subst e
  obtain ⟨o,e,c,d⟩:=st
  exact ⟨o,e,λv z=>by rw [d] at z;cases z⟩
 keep:=λi h h' st k=>st.at λo e=>k it (by simp) o e
 item:=by
  intro X hP hw hK hc i pins s Z H E I hf st hg
  subst hP hw hK
  obtain ⟨xs,x,hq,hx⟩:=hg
  obtain ⟨its,rv,p,hz⟩:=I.list hq
  obtain ⟨u,hu,ru⟩:=rv.get hx
  obtain ⟨f0,f1,f2,f3,f4,f5⟩:=hf it (by simp)
  refine wpAny_pyNext_list_item st p.isList (x:=u) (by simpa using hu) λh' st' sb=>?_
  have I1:Inv X pins Z H { s with heap:=h' }:=I.turned (t':=s.toks) (λb o hb e=>(sb.2 b hb).trans e) f0 f1 f3 f4 f5
  obtain ⟨o,e,c,d⟩:=id st'
  exact ⟨u,rfl,Gw (s:={ s with heap:=h' }) e c d (by decide) ⟨x,H,I1,ru,⟨rfl,λys hy=>by rw [I.tX hy hq];exact hx⟩,st',λb hb=>(hf b hb).1⟩⟩
 done:=by
  intro X hP hw hK hc i pins s Z H E I hf st hg
  subst hP hw hK
  obtain ⟨xs,hq,hx⟩:=hg
  obtain ⟨its,rv,p,hz⟩:=I.list hq
  obtain ⟨f0,f1,f2,f3,f4,f5⟩:=hf it (by simp)
  have hl:=rv.length
  exact wpAny_pyNext_list_end (I.ok.hd hc) st p.isList (by simp;omega) λh' eb=>⟨rfl,I.turned (t':=s.toks) (λb o hb e=>eb b o hb e) f0 f1 f3 f4 f5⟩
 self:=λ_ _ _ _ _ st h=>wpAny_pyIter_listiter st h
theorem xX {P:Program} {w:World} {K:PySem.W.Frag} {tg:Expr} (it:Addr) (lo:Int) (n:Nat):Turn P w K tg (EG lo n) [it] it (λi h=>IsRangeIter h it (lo + (i:Nat) * 1) ((n:Int) - (i:Nat)) 1) where
 mem:=by simp
 obj:=λi h st b hb=>by
  have e:b = it:=by simpa using hb
  subst e
  exact ⟨_,st,λv z=>by
   have z':Data.fields _ = Data.cell v:=z
   cases z'⟩
 keep:=λi h h' st k=>k it (by simp) _ st
 item:=by
  intro X hP hw hK hc i pins s Z H E I hf st hg
  subst hP hw hK
  obtain ⟨f0,f1,f2,f3,f4,f5⟩:=hf it (by simp)
  have W:=Walks.range (prog:=X.prog) (w:=X.w) (I.ok.hd hc) it lo 1 n
  refine W.item i s _ _ hg st λv h' tk hv st' kk=>?_
  obtain ⟨t,rfl⟩:=hv
  have I1:Inv X pins Z H { s with heap:=h',toks:=tk }:=I.turned (λb o hb e=>kk b o (by simpa using hb) e) f0 f1 f3 f4 f5
  refine ⟨_,rfl,Gw (s:={ s with heap:=h',toks:=tk }) (n:="range_iterator") st' rfl rfl (by decide) ⟨.int (lo + i),H,I1,⟨t,?_⟩,⟨rfl,rfl⟩,st',λb hb=>(hf b hb).1⟩⟩
  rw [Int.mul_one]
 done:=by
  intro X hP hw hK hc i pins s Z H E I hf st hg
  subst hP hw hK
  obtain ⟨f0,f1,f2,f3,f4,f5⟩:=hf it (by simp)
  exact wpAny_pyNext_range_end (I.ok.hd hc) st (by have:n <= i:=hg;omega) λh' eb=>⟨rfl,I.turned (t':=s.toks) (λb o hb e=>eb b o hb e) f0 f1 f3 f4 f5⟩
 self:=λ_ _ _ _ _ st h=>wpAny_pyIter_rangeiter st h
end L2
namespace L2
open PySem PySem.Spec PyProof.Rows
section
variable {X:Cx} {tg:Expr}
def Kw (K:PySem.W.Frag) (tl:TE):TI:=λZ H R=>tl Z H λx H1=>∃ a,x = .ref a /\ (∃ xs,aP K H1 a xs) /\ R (Gn K a) H1
theorem cH {l:Expr} {tl:TE} (hl:PE X l tl):PI X tg l (Kw X.K tl):=by
 intro pins s Z H R I h
 refine cZ (hl pins s Z H _ I h) λv s1 ⟨x,H1,I1,r1,q1⟩=>?_
 obtain ⟨a,e,⟨xs,hq⟩,q⟩:=q1
 subst e
 cases r1
 obtain ⟨its,rv,p,hz⟩:=I1.list hq
 refine wpAny_pyIter_list p.isList ?_
 refine ⟨s1.heap.objs.size,[s1.heap.objs.size],_,_,H1,rfl,I1.kept (t':=s1.toks) λb o e=>Heap.get?_push_of_some _ e,AJ a _,⟨_,Heap.get?_push_size _ rfl,rfl,rfl⟩,λb hb=>?_,q⟩
 have e:b = s1.heap.objs.size:=by simpa using hb
 subst e
 exact I1.E5 (Nat.le_refl _) (I1.hok.fresh (Nat.le_refl _))
theorem B3 {pins:List (Addr × Obj)} {Z:St} {H:Hp} {s:Shared} {R:It -> Hp -> Prop} {E:Value -> Shared -> Prop} {lo hi:Int} {t u v:Tok} {tk:Nat} (I:Inv X pins Z H s) (h1:-(2 ^ 62) <= lo) (h2:lo < 2 ^ 62) (h3:-(2 ^ 62) <= hi) (h4:hi < 2 ^ 62)
  (q:R (EG lo (hi - lo).toNat) H):wpAny (model X.prog X.w) X.A (pyIter (.ref s.heap.objs.size)) (L8 X pins Z tg R) E { s with heap:=s.heap.push { cls:=.type "range",data:=.fields #[.int lo t,.int hi u,.int 1 v] },toks:=tk }:=by
 refine wpAny_pyIter_range (IsRange.new ..) (small_one h1 h2 h3 h4) ?_
 have I1:Inv X pins Z H { s with heap:=s.heap.push { cls:=.type "range",data:=.fields #[.int lo t,.int hi u,.int 1 v] },toks:=tk }:=I.kept λb o e=>Heap.get?_push_of_some _ e
 refine ⟨(s.heap.push { cls:=.type "range",data:=.fields #[.int lo t,.int hi u,.int 1 v] }).objs.size,[(s.heap.push { cls:=.type "range",data:=.fields #[.int lo t,.int hi u,.int 1 v] }).objs.size],_,_,H,rfl,
  I1.kept (t':=tk) λb o e=>Heap.get?_push_of_some _ e,xX _ lo (hi - lo).toNat,?_,λb hb=>?_,q⟩
 ·have e1:lo + ((0:Nat):Int) * 1 = lo:=by simp
  have e2:(((hi - lo).toNat:Nat):Int) - ((0:Nat):Int) = Builtin.Range.rangeSize lo hi 1:=by rw [rangeSize_one];split <;> omega
  show IsRangeIter _ _ (lo + ((0:Nat):Int) * 1) ((((hi - lo).toNat:Nat):Int) - ((0:Nat):Int)) 1
  rw [e1,e2]
  exact Heap.get?_push_size _ rfl
 ·have e:b = (s.heap.push { cls:=.type "range",data:=.fields #[.int lo t,.int hi u,.int 1 v] }).objs.size:=by simpa using hb
  subst e
  exact I1.E5 (Nat.le_refl _) (I1.hok.fresh (Nat.le_refl _))
def LJ (ta:TA):TI:=λZ H R=>ta Z H λvs H1=>∃ j:Int,vs = [.int j] /\ -(2 ^ 62) <= j /\ j < 2 ^ 62 /\ R (EG 0 j.toNat) H1
theorem eV {a:Expr} {ta:TA} {p pos:Pos} (hg:Gl X "range") (hm:X.mg "range" = none) (ha:PA X [a] ta) (hs:starEach [a] X.env = [(false,eval a X.env)]:=by rfl):PI X tg (.Call (.Name "range" p) [a] [] pos) (LJ ta):=by
 intro pins s Z H R I h
 refine Call_ (tL I hg hm boot_range (PyProof.Rows.callWith_type1 (cZ (ha pos pins s Z H _ I h) λus s1 ⟨vs,H1,I1,r1,q1⟩=>?_) hs rfl))
 obtain ⟨j,e,q1,q2,q⟩:=q1
 subst e
 cases r1 with
 | cons r rr =>
  cases rr
  obtain ⟨t,rfl⟩:=r
  exact call_range_1 (B3 I1 (by omega) (by omega) q1 q2 (by simpa using q))
def My (wi:TI) (g:TG) (tb:TS):TS:=λD Z H=>wi Z H λJ H1=>∃ W:Nat -> Nat -> St -> Hp -> Prop,(∃ m,W 0 m Z H1) /\ ∀ i m Z H,W i m Z H ->
 (J.stop i H /\ D.nx Z H) ∨ (J.go i H /\ ∃ N:St -> Hp -> Prop,(∀ Z' H',N Z' H' -> ∃ m',m' < m /\ W (i + 1) m' Z' H') /\ ∀ x H',J.IP i H x H' -> g x Z H' λZ2 H2=>tb { D with nx:=N,ct:=N,bk:=D.nx } Z2 H2)
def iO (fp:List Addr) (h:Heap):List (Addr × Obj):=fp.filterMap λb=>(h.get? b).map λo=>(b,o)
theorem cJ {fp:List Addr} {h:Heap} {b:Addr} {o:Obj} (hb:b ∈ fp) (e:h.get? b = some o):(b,o) ∈ iO fp h:=List.mem_filterMap.mpr ⟨b,hb,by rw [e];rfl⟩
theorem j0 {fp:List Addr} {h:Heap} {p:Addr × Obj} (hp:p ∈ iO fp h):p.1 ∈ fp /\ h.get? p.1 = some p.2:=by
 obtain ⟨b,hb,e⟩:=List.mem_filterMap.mp hp
 cases q:h.get? b with
 | none=>rw [q] at e;cases e
 | some o =>
  rw [q] at e
  have e':(b,o) = p:=Option.some.inj e
  subst e'
  exact ⟨hb,q⟩
theorem Inv.pinned {pins:List (Addr × Obj)} {Z:St} {H:Hp} {s:Shared} {fp:List Addr} (I:Inv X pins Z H s) (hf:∀ b ∈ fp,oG X pins H b) (ho:∀ b ∈ fp,∃ o,s.heap.get? b = some o /\ ∀ v,o.data ≠ .cell v):Inv X (pins ++ iO fp s.heap) Z H s :=
 I.dS λp hp=>(List.mem_append.mp hp).elim (λz=>I.pin p (List.mem_append_right _ z)) λz=>by
  obtain ⟨hb,e⟩:=j0 z
  obtain ⟨f0,f1,f2,_⟩:=hf p.1 hb
  obtain ⟨o,e',d⟩:=ho p.1 hb
  rw [e] at e';cases e'
  exact ⟨e,f0,f1,f2,d⟩
theorem Inv.ql {pins pl:List (Addr × Obj)} {Z:St} {H:Hp} {s:Shared} (I:Inv X (pins ++ pl) Z H s):Inv X pins Z H s:=I.dS λp hp=>I.pin p (List.mem_append_right _ (List.mem_append_left _ hp))
theorem JI {iter:Expr} {body:List Stmt} {wi:TI} {g:TG} {tb:TS} {pos:Pos} (hp:PassesOwn (model X.prog X.w) X.A X.env X.xe) (hc:X.calm = true) (hi:PI X tg iter wi) (hg:PG X tg g) (hb:xZ X body tb)
  (hs:∀ x,foldedSetIterable iter X.env x = pure x:=by intro _;rfl):PS X (.For tg iter body [] pos) (My wi g tb):=by
 intro pins s Z H D I h
 refine wpAny_For (cZ (hi pins s Z H _ I h) λv s1 h1=>cZ h1 λitv s2 h2=>?_) hs
 obtain ⟨it,fp,tn,J,H2,e,I2,T,st2,f2,W,⟨m0,w0⟩,turn⟩:=h2
 subst e
 have stat:∀ {H':Hp},(∀ b ∈ fp,H' b = none) -> ∀ b ∈ fp,oG X pins H' b:=λhn b hb=>⟨hn b hb,(f2 b hb).2⟩
 refine codeAny_forLoop_any (λn s'=>∃ i Z' H',Inv X pins Z' H' s' /\ tn i s'.heap /\ (∀ b ∈ fp,H' b = none) /\ W i n Z' H') ?_ m0 ⟨0,Z,H2,I2,st2,λb hb=>(f2 b hb).1,w0⟩
 rintro n s3 ⟨i,Z3,H3,I3,st3,fr3,w3⟩
 rcases turn i n Z3 H3 w3 with ⟨stop,qn⟩ | ⟨go,N,hN,step⟩
 ·refine wpAny_passesOwn hp (cZ (T.done X rfl rfl rfl hc i pins s3 Z3 H3 X.xe I3 (stat fr3) st3 stop) λr s4 ⟨hr,I4⟩=>?_)
  subst hr
  exact wpAny_execs_nil ⟨Z3,H3,I4,qn⟩
 ·refine wpAny_passesOwn hp (cZ (T.item X rfl rfl rfl hc i pins s3 Z3 H3 X.xe I3 (stat fr3) st3 go) λr s4 ⟨u,hr,h4⟩=>?_)
  subst hr
  refine wpAny_passesOwn hp (cZ h4 λ_ s5 ⟨x,H5,I5,r5,y5,st5,fr5⟩=>?_)
  have I5':=I5.pinned (stat fr5) (T.obj _ _ st5)
  refine wpAny_passesOwn hp (cZ (hg _ s5 Z3 H5 x u _ I5' r5 (step x H5 y5)) λ_ s6 ⟨Z6,H6,I6,q6⟩=>?_)
  refine wpAny_passesOwn hp (cZ (hb _ s6 Z6 H6 _ I6 q6) λf s7 q7=>?_)
  have again:∀ {Z7:St} {H7:Hp},Inv X (pins ++ iO fp s5.heap) Z7 H7 s7 -> N Z7 H7 -> ∃ m,m < n /\ ∃ i Z' H',Inv X pins Z' H' s7 /\ tn i s7.heap /\ (∀ b ∈ fp,H' b = none) /\ W i m Z' H':=λ{Z7 H7} I7 n7=>by
   obtain ⟨m',hm,w7⟩:=hN Z7 H7 n7
   refine ⟨m',hm,i + 1,Z7,H7,I7.ql,T.keep _ _ _ st5 λb hb o e=>(I7.pin (b,o) (List.mem_append_right _ (List.mem_append_right _ (cJ hb e)))).1,λb hb=>?_,w7⟩
   obtain ⟨o,e,d⟩:=T.obj _ _ st5 b hb
   exact (I7.pin (b,o) (List.mem_append_right _ (List.mem_append_right _ (cJ hb e)))).2.1
  cases f with
  | next=>obtain ⟨Z7,H7,I7,n7⟩:=q7;exact again I7 n7
  | cont=>obtain ⟨Z7,H7,I7,n7⟩:=q7;exact again I7 n7
  | brk=>obtain ⟨Z7,H7,I7,q7⟩:=q7;exact ⟨Z7,H7,I7.ql,q7⟩
  | ret v=>obtain ⟨x7,Z7,H7,I7,r7,q7⟩:=q7;exact ⟨x7,Z7,H7,I7.ql,r7,q7⟩
end
theorem Bp {K:PySem.W.Frag} {a:Addr} {xs:List V} {g:TG} {tb:TS} {D:Ends} {Z:St} {H:Hp} (Pv:Nat -> St -> Hp -> Prop) (h0:Pv 0 Z H) (hl:∀ i Z H,i <= xs.length -> Pv i Z H -> aP K H a xs)
  (hs:∀ i x Z H,xs[i]? = some x -> Pv i Z H -> g x Z H λZ2 H2=>tb { D with nx:=Pv (i + 1),ct:=Pv (i + 1),bk:=D.nx } Z2 H2) (hd:∀ Z H,Pv xs.length Z H -> D.nx Z H) :
  ∃ W:Nat -> Nat -> St -> Hp -> Prop,(∃ m,W 0 m Z H) /\ ∀ i m Z H,W i m Z H ->
   ((Gn K a).stop i H /\ D.nx Z H) ∨ ((Gn K a).go i H /\ ∃ N:St -> Hp -> Prop,(∀ Z' H',N Z' H' -> ∃ m',m' < m /\ W (i + 1) m' Z' H') /\ ∀ x H',(Gn K a).IP i H x H' -> g x Z H' λZ2 H2=>tb { D with nx:=N,ct:=N,bk:=D.nx } Z2 H2):=by
 refine ⟨λi m Z H=>m = xs.length - i /\ i <= xs.length /\ Pv i Z H,⟨xs.length,by simp,Nat.zero_le _,h0⟩,?_⟩
 rintro i m Z H ⟨rfl,hi,p⟩
 have q:=hl i Z H hi p
 by_cases hlt:i < xs.length
 ·refine .inr ⟨⟨xs,xs[i],q,by simp [hlt]⟩,Pv (i + 1),λZ' H' p'=>⟨xs.length - (i + 1),by omega,rfl,hlt,p'⟩,λx H' y=>?_⟩
  obtain ⟨e,y⟩:=y
  subst e
  exact hs i x Z _ (y xs q) p
 ·have e:i = xs.length:=by omega
  subst e
  exact .inl ⟨⟨xs,q,Nat.le_refl _⟩,hd Z H p⟩
theorem Bb {lo:Int} {n:Nat} {g:TG} {tb:TS} {D:Ends} {Z:St} {H:Hp} (Pv:Nat -> St -> Hp -> Prop) (h0:Pv 0 Z H)
  (hs:∀ i Z H,i < n -> Pv i Z H -> g (.int (lo + i)) Z H λZ2 H2=>tb { D with nx:=Pv (i + 1),ct:=Pv (i + 1),bk:=D.nx } Z2 H2) (hd:∀ Z H,Pv n Z H -> D.nx Z H) :
  ∃ W:Nat -> Nat -> St -> Hp -> Prop,(∃ m,W 0 m Z H) /\ ∀ i m Z H,W i m Z H ->
   ((EG lo n).stop i H /\ D.nx Z H) ∨ ((EG lo n).go i H /\ ∃ N:St -> Hp -> Prop,(∀ Z' H',N Z' H' -> ∃ m',m' < m /\ W (i + 1) m' Z' H') /\ ∀ x H',(EG lo n).IP i H x H' -> g x Z H' λZ2 H2=>tb { D with nx:=N,ct:=N,bk:=D.nx } Z2 H2):=by
 refine ⟨λi m Z H=>m = n - i /\ i <= n /\ Pv i Z H,⟨n,by simp,Nat.zero_le _,h0⟩,?_⟩
 rintro i m Z H ⟨rfl,hi,p⟩
 by_cases hlt:i < n
 ·refine .inr ⟨hlt,Pv (i + 1),λZ' H' p'=>⟨n - (i + 1),by omega,rfl,hlt,p'⟩,λx H' y=>?_⟩
  obtain ⟨e,y⟩:=y
  subst e y
  exact hs i Z _ hlt p
 ·have e:i = n:=by omega
  subst e
  exact .inl ⟨Nat.le_refl _,hd Z H p⟩
end L2
namespace L2
open PySem PySem.Spec PyProof.Rows
abbrev R2:=V -> V -> Hp -> VK -> Prop
def kX (X:Cx) (f:Value -> Value -> Sem Value) (r:R2):Prop :=
 ∀ (pins:List (Addr × Obj)) (s:Shared) (Z:St) (H:Hp) (x y:V) (v u:Value) (Q:VK),Inv X pins Z H s -> RelV x v -> RelV y u -> r x y H Q ->
  wpAny (model X.prog X.w) X.A (f v u) (EP X pins Z Q) X.xe s
def Mz (X:Cx) (f:Value -> Sem Value) (r:V -> Hp -> VK -> Prop):Prop :=
 ∀ (pins:List (Addr × Obj)) (s:Shared) (Z:St) (H:Hp) (x:V) (v:Value) (Q:VK),Inv X pins Z H s -> RelV x v -> r x H Q ->
  wpAny (model X.prog X.w) X.A (f v) (EP X pins Z Q) X.xe s
def jo (X:Cx) (f:Value) (r:List V -> Hp -> VK -> Prop):Prop :=
 ∀ (pins:List (Addr × Obj)) (s:Shared) (Z:St) (H:Hp) (xs:List V) (us:List Value) (Q:VK),Inv X pins Z H s -> Vals xs us -> r xs H Q ->
  wpAny (model X.prog X.w) X.A (call f us) (EP X pins Z Q) X.xe s
def Mw (X:Cx) (r:V -> Hp -> (Bool -> Hp -> Prop) -> Prop):Prop :=
 ∀ (pins:List (Addr × Obj)) (s:Shared) (Z:St) (H:Hp) (x:V) (v:Value) (Q:Bool -> Hp -> Prop),Inv X pins Z H s -> RelV x v -> r x H Q ->
  wpAny (model X.prog X.w) X.A (truthy v) (TP X pins Z Q) X.xe s
def Kh (r:R2) (ta tb:TE):TE:=λZ H Q=>ta Z H λx H1=>tb Z H1 λy H2=>r x y H2 Q
def tUn (r:V -> Hp -> VK -> Prop) (ta:TE):TE:=λZ H Q=>ta Z H λx H1=>r x H1 Q
def rI (C:Int -> Int -> Prop) (g:Int -> Int -> V):R2:=λx y H Q=>∃ i j,x = .int i /\ y = .int j /\ C i j /\ Q (g i j) H
def FY (g:Int -> Int -> V):R2:=λx y H Q=>∃ i j,x = .int i /\ y = .int j /\ Q (g i j) H
def rU (g:Int -> V):V -> Hp -> VK -> Prop:=λx H Q=>∃ i,x = .int i /\ Q (g i) H
section
variable {X:Cx} {a b c:Expr} {ta tb tc:TE} {pos:Pos}
theorem Jt (ha:PE X a ta) (hb:PE X b tb) {pins:List (Addr × Obj)} {s:Shared} {Z:St} {H:Hp} {R:V -> V -> Hp -> Prop} (I:Inv X pins Z H s)
  (h:ta Z H λx H1=>tb Z H1 λy H2=>R x y H2) {Q:Value -> Shared -> Prop} {f:Value -> Value -> Sem Value}
  (hf:∀ v u s2 x y H2,Inv X pins Z H2 s2 -> RelV x v -> RelV y u -> R x y H2 -> wpAny (model X.prog X.w) X.A (f v u) Q X.xe s2) :
  wpAny (model X.prog X.w) X.A (eval a X.env) (λv s₁=>wpAny (model X.prog X.w) X.A (eval b X.env) (λu s₂=>wpAny (model X.prog X.w) X.A (f v u) Q X.xe s₂) X.xe s₁) X.xe s:=by
 refine cZ (ha pins s Z H _ I h) λv s1 ⟨x,H1,I1,r1,q1⟩=>?_
 refine cZ (hb pins s1 Z H1 _ I1 q1) λu s2 ⟨y,H2,I2,r2,q2⟩=>?_
 exact hf v u s2 x y H2 I2 r1 r2 q2
theorem bz {op:Operator} {r:R2} (ho:kX X (binaryOp op) r) (ha:PE X a ta) (hb:PE X b tb):PE X (.BinOp a op b pos) (Kh r ta tb):=by
 intro pins s Z H Q I h
 exact wpAny_BinOp (Jt ha hb I h λv u s2 x y H2 I2 rx ry q=>ho pins s2 Z H2 x y v u Q I2 rx ry q)
theorem gT {op:UnaryOp} {r:V -> Hp -> VK -> Prop} (ho:Mz X (unaryOp op) r) (ha:PE X a ta):PE X (.UnaryOp op a pos) (tUn r ta):=by
 intro pins s Z H Q I h
 exact UnaryOp_ (cZ (ha pins s Z H _ I h) λv s1 ⟨x,H1,I1,r1,q1⟩=>ho pins s1 Z H1 x v Q I1 r1 q1)
theorem L4 {f:Value -> Value -> Sem Value} {C:Int -> Int -> Prop} {g:Int -> Int -> Int}
  (rule:∀ (i j:Int) (t u:Tok) (s:Shared) (Q:Value -> Shared -> Prop) (E:Value -> Shared -> Prop),C i j -> Q (.int (g i j) s.toks) { s with toks:=s.toks + 1 } -> wpAny (model X.prog X.w) X.A (f (.int i t) (.int j u)) Q E s) :
  kX X f (rI C λi j=>.int (g i j)):=by
 intro pins s Z H x y v u Q I rx ry h
 obtain ⟨i,j,rfl,rfl,hc,q⟩:=h
 obtain ⟨t,rfl⟩:=rx
 obtain ⟨t',rfl⟩:=ry
 exact rule i j t t' s _ _ hc ⟨.int (g i j),H,I.tok _,⟨_,rfl⟩,q⟩
theorem KN {f:Value -> Value -> Sem Value} {g:Int -> Int -> Int}
  (rule:∀ (i j:Int) (t u:Tok) (s:Shared) (Q:Value -> Shared -> Prop) (E:Value -> Shared -> Prop),Q (.int (g i j) s.toks) { s with toks:=s.toks + 1 } -> wpAny (model X.prog X.w) X.A (f (.int i t) (.int j u)) Q E s) :
  kX X f (FY λi j=>.int (g i j)):=by
 intro pins s Z H x y v u Q I rx ry h
 obtain ⟨i,j,rfl,rfl,q⟩:=h
 obtain ⟨t,rfl⟩:=rx
 obtain ⟨t',rfl⟩:=ry
 exact rule i j t t' s _ _ ⟨.int (g i j),H,I.tok _,⟨_,rfl⟩,q⟩
theorem JM {f:Value -> Value -> Sem Value} {g:Int -> Int -> Bool}
  (rule:∀ (i j:Int) (t u:Tok) (s:Shared) (Q:Value -> Shared -> Prop) (E:Value -> Shared -> Prop),Q (.bool (g i j)) s -> wpAny (model X.prog X.w) X.A (f (.int i t) (.int j u)) Q E s) :
  kX X f (FY λi j=>.bl (g i j)):=by
 intro pins s Z H x y v u Q I rx ry h
 obtain ⟨i,j,rfl,rfl,q⟩:=h
 obtain ⟨t,rfl⟩:=rx
 obtain ⟨t',rfl⟩:=ry
 exact rule i j t t' s _ _ ⟨.bl (g i j),H,I,rfl,q⟩
def Mu (i j:Int):Prop:=0 < j /\ j < 1073741824
def Kd (i j:Int):Prop:=(-(2 ^ 64) < i /\ i < 2 ^ 64) ∨ (-(2 ^ 64) < j /\ j < 2 ^ 64)
theorem Kd.ok {i j:Int} (h:Kd i j):IntMulOk i j:=by
 rcases h with ⟨h1,h2⟩ | ⟨h1,h2⟩
 ·exact .of_left (intBits_le_64 h1 h2)
 ·exact .of_right (intBits_le_64 h1 h2)
theorem yQ (k:Nat):(0:Int) <= 2 ^ k:=by
 rw [two_pow_cast]
 exact Int.natCast_nonneg _
theorem cT:kX X (binaryOp .Add) (FY λi j=>.int (i + j)):=KN λ_ _ _ _ _ _ _ q=>add_int q
theorem C9:kX X (binaryOp .Sub) (FY λi j=>.int (i - j)):=KN λ_ _ _ _ _ _ _ q=>sub_int q
theorem jK:kX X (binaryOp .Mult) (rI Kd λi j=>.int (i * j)):=L4 λ_ _ _ _ _ _ _ hc q=>mul_int q hc.ok
theorem FP:kX X (binaryOp .FloorDiv) (rI Mu λi j=>.int (i / j)):=L4 λi j _ _ _ _ _ hc q=>by
 have h1:(0:Int) < j:=hc.1
 have h2:j < 1073741824:=hc.2
 exact floordiv_int (by omega) (by rw [Int.fdiv_eq_ediv_of_nonneg i (by omega)];exact q) (.inl (PyProof.noPylong_small (by omega)))
theorem iP:kX X (binaryOp .Mod) (rI (λ_ j=>0 < j) λi j=>.int (i % j)):=L4 λi j _ _ _ _ _ hc q=>by
 have h1:(0:Int) < j:=hc
 exact mod_int' (by omega) (by rw [Int.fmod_eq_emod_of_nonneg i (by omega)];exact q)
theorem HS:kX X (binaryOp .RShift) (rI (λ_ j=>0 <= j) λi j=>.int (i / 2 ^ j.toNat)):=L4 λi j _ _ _ _ _ hc q =>
 rshift_int hc (by rw [Int.fdiv_eq_ediv_of_nonneg i (yQ _)];exact q)
theorem unI {f:Value -> Sem Value} {g:Int -> Int}
  (rule:∀ (i:Int) (t:Tok) (s:Shared) (Q:Value -> Shared -> Prop) (E:Value -> Shared -> Prop),Q (.int (g i) s.toks) { s with toks:=s.toks + 1 } -> wpAny (model X.prog X.w) X.A (f (.int i t)) Q E s) :
  Mz X f (rU λi=>.int (g i)):=by
 intro pins s Z H x v Q I rx h
 obtain ⟨i,rfl,q⟩:=h
 obtain ⟨t,rfl⟩:=rx
 exact rule i t s _ _ ⟨.int (g i),H,I.tok _,⟨_,rfl⟩,q⟩
theorem e9:Mz X (unaryOp .USub) (rU λi=>.int (-i)):=unI λ_ _ _ _ _ q=>neg_int q
end
def Lr:V -> V -> Bool
 | .cL,.cL=>true | .cL,.int _=>true | .int _,.cL=>true | .cL,.bl _=>true | .bl _,.cL=>true | .cL,.str _=>true | .str _,.cL=>true
 | .int _,.int _=>true | .bl _,.bl _=>true | .str _,.str _=>true | .byt _,.byt _=>true
 | .int _,.str _=>true | .str _,.int _=>true | .bl _,.str _=>true | .str _,.bl _=>true
 | _,_=>false
def rEq:R2:=λx y H Q=>Lr x y = true /\ Q (.bl (decide (x = y))) H
def rNe:R2:=λx y H Q=>Lr x y = true /\ Q (.bl (!decide (x = y))) H
theorem zY {i j:Int}:decide (V.int i = V.int j) = (i == j):=by
 rw [Bool.eq_iff_iff]
 simp
theorem DN {i j:Bool}:decide (V.bl i = V.bl j) = (i == j):=by
 rw [Bool.eq_iff_iff]
 simp
theorem zf {i j:Str}:decide (V.str i = V.str j) = (i == j):=by
 rw [Bool.eq_iff_iff]
 simp
theorem zX {i j:Array UInt8}:decide (V.byt i = V.byt j) = (i.toList == j.toList):=by
 rw [Bool.eq_iff_iff]
 cases i
 cases j
 simp
section
variable {X:Cx} {a b c:Expr} {ta tb tc:TE} {pos:Pos}
theorem bM {pins:List (Addr × Obj)} {Z:St} {H:Hp} {s:Shared} {Q:VK} {k k':Bool} (I:Inv X pins Z H s) (q:Q (.bl k) H) (e:k = k'):EP X pins Z Q (.bool k') s:=by
 subst e
 exact ⟨.bl k,H,I,rfl,q⟩
theorem cO:kX X (compareOp .Eq) rEq:=by
 intro pins s Z H x y v u Q I rx ry h
 obtain ⟨hs,q⟩:=h
 cases x with
 | cL =>
  cases rx
  cases y with
  | cL=>cases ry;exact PySem.EqNone.eq_none_none (bM I q (by simp))
  | bl j=>cases ry;exact PySem.EqNone.eq_none_bool (bM I q (by simp))
  | int j=>obtain ⟨t',rfl⟩:=ry;exact PySem.EqNone.eq_none_int (bM I q (by simp))
  | str j=>obtain ⟨t',rfl⟩:=ry;exact PySem.EqNone.eq_none_str (bM I q (by simp))
  | _=>exact absurd (show false = true from hs) Bool.false_ne_true
 | bl i =>
  cases rx
  cases y with
  | cL=>cases ry;exact PySem.EqNone.eq_bool_none (bM I q (by simp))
  | bl j=>cases ry;exact eq_bool (bM I q DN)
  | str j=>obtain ⟨t',rfl⟩:=ry;exact PySem.EqMixed.eq_bool_str (bM I q (by simp))
  | _=>exact absurd (show false = true from hs) Bool.false_ne_true
 | int i =>
  obtain ⟨t,rfl⟩:=rx
  cases y with
  | cL=>cases ry;exact PySem.EqNone.eq_int_none (bM I q (by simp))
  | int j=>obtain ⟨t',rfl⟩:=ry;exact eq_int (bM I q zY)
  | str j=>obtain ⟨t',rfl⟩:=ry;exact PySem.EqMixed.eq_int_str (bM I q (by simp))
  | _=>exact absurd (show false = true from hs) Bool.false_ne_true
 | str i =>
  obtain ⟨t,rfl⟩:=rx
  cases y with
  | cL=>cases ry;exact PySem.EqNone.eq_str_none (bM I q (by simp))
  | bl j=>cases ry;exact PySem.EqMixed.eq_str_bool (bM I q (by simp))
  | int j=>obtain ⟨t',rfl⟩:=ry;exact PySem.EqMixed.eq_str_int (bM I q (by simp))
  | str j=>obtain ⟨t',rfl⟩:=ry;exact eq_str (bM I q zf)
  | _=>exact absurd (show false = true from hs) Bool.false_ne_true
 | byt i =>
  obtain ⟨t,rfl⟩:=rx
  cases y with
  | byt j=>obtain ⟨t',rfl⟩:=ry;exact PySem.W.eq_bytes (bM I q zX)
  | _=>exact absurd (show false = true from hs) Bool.false_ne_true
 | _=>cases y <;> exact absurd (show false = true from hs) Bool.false_ne_true
theorem qa:kX X (compareOp .NotEq) rNe:=by
 intro pins s Z H x y v u Q I rx ry h
 obtain ⟨hs,q⟩:=h
 cases x with
 | cL =>
  cases rx
  cases y with
  | cL=>cases ry;exact PySem.EqNone.ne_none_none (bM I q (by simp))
  | bl j=>cases ry;exact PySem.EqNone.ne_none_bool (bM I q (by simp))
  | int j=>obtain ⟨t',rfl⟩:=ry;exact PySem.EqNone.ne_none_int (bM I q (by simp))
  | str j=>obtain ⟨t',rfl⟩:=ry;exact PySem.EqNone.ne_none_str (bM I q (by simp))
  | _=>exact absurd (show false = true from hs) Bool.false_ne_true
 | bl i =>
  cases rx
  cases y with
  | cL=>cases ry;exact PySem.EqNone.ne_bool_none (bM I q (by simp))
  | bl j=>cases ry;exact ne_bool (bM I q (congrArg not DN))
  | str j=>obtain ⟨t',rfl⟩:=ry;exact PySem.EqMixed.ne_bool_str (bM I q (by simp))
  | _=>exact absurd (show false = true from hs) Bool.false_ne_true
 | int i =>
  obtain ⟨t,rfl⟩:=rx
  cases y with
  | cL=>cases ry;exact PySem.EqNone.ne_int_none (bM I q (by simp))
  | int j=>obtain ⟨t',rfl⟩:=ry;exact ne_int (bM I q (congrArg not zY))
  | str j=>obtain ⟨t',rfl⟩:=ry;exact PySem.EqMixed.ne_int_str (bM I q (by simp))
  | _=>exact absurd (show false = true from hs) Bool.false_ne_true
 | str i =>
  obtain ⟨t,rfl⟩:=rx
  cases y with
  | cL=>cases ry;exact PySem.EqNone.ne_str_none (bM I q (by simp))
  | bl j=>cases ry;exact PySem.EqMixed.ne_str_bool (bM I q (by simp))
  | int j=>obtain ⟨t',rfl⟩:=ry;exact PySem.EqMixed.ne_str_int (bM I q (by simp))
  | str j=>obtain ⟨t',rfl⟩:=ry;exact ne_str (bM I q (congrArg not zf))
  | _=>exact absurd (show false = true from hs) Bool.false_ne_true
 | byt i =>
  obtain ⟨t,rfl⟩:=rx
  cases y with
  | byt j=>obtain ⟨t',rfl⟩:=ry;exact PySem.W.ne_bytes (bM I q (congrArg not zX))
  | _=>exact absurd (show false = true from hs) Bool.false_ne_true
 | _=>cases y <;> exact absurd (show false = true from hs) Bool.false_ne_true
theorem iQ:kX X (compareOp .Lt) (FY λi j=>.bl (decide (i < j))):=JM λ_ _ _ _ _ _ _ q=>lt_int q
theorem mG:kX X (compareOp .Gt) (FY λi j=>.bl (decide (j < i))):=JM λ_ _ _ _ _ _ _ q=>gt_int q
theorem Cr:kX X (compareOp .GtE) (FY λi j=>.bl (decide (j <= i))):=JM λ_ _ _ _ _ _ _ q=>ge_int q
theorem iS:kX X (compareOp .In) (λx y H Q=>∃ i j,x = .str i /\ y = .str j /\ Q (.bl (!(Builtin.Str.occurrences j i 0 j.length 1).isEmpty)) H):=by
 intro pins s Z H x y v u Q I rx ry h
 obtain ⟨i,j,rfl,rfl,q⟩:=h
 obtain ⟨t,rfl⟩:=rx
 obtain ⟨t',rfl⟩:=ry
 exact in_str (bM I q rfl)
theorem sW:kX X (compareOp .Is) (λx y H Q=>y = .cL /\ Q (.bl (decide (x = .cL))) H):=by
 intro pins s Z H x y v u Q I rx ry h
 obtain ⟨rfl,q⟩:=h
 cases ry
 refine is_none_gen (bM I q ?_)
 cases x <;> first
  | (cases rx;rfl)
  | (obtain ⟨t,rfl⟩:=rx;rfl)
theorem iJ:kX X (compareOp .IsNot) (λx y H Q=>y = .cL /\ Q (.bl (!decide (x = .cL))) H):=by
 intro pins s Z H x y v u Q I rx ry h
 obtain ⟨rfl,q⟩:=h
 cases ry
 refine isnot_none_gen (bM I q ?_)
 cases x <;> first
  | (cases rx;rfl)
  | (obtain ⟨t,rfl⟩:=rx;rfl)
theorem sL:kX X (compareOp .NotIn) (λx y H Q=>∃ i j,x = .str i /\ y = .str j /\ Q (.bl (!(!(Builtin.Str.occurrences j i 0 j.length 1).isEmpty))) H):=by
 intro pins s Z H x y v u Q I rx ry h
 obtain ⟨i,j,rfl,rfl,q⟩:=h
 obtain ⟨t,rfl⟩:=rx
 obtain ⟨t',rfl⟩:=ry
 exact notIn_str (bM I q rfl)
theorem aD (b:Expr) {op:CmpOp} (h:op ≠ .In:=by decide) (h2:op ≠ .NotIn:=by decide):behindInMarks op b = false:=by
 have e1:(op == CmpOp.In) = false:=by cases op <;> first | rfl | exact absurd rfl h
 have e2:(op == CmpOp.NotIn) = false:=by cases op <;> first | rfl | exact absurd rfl h2
 cases b <;> simp [behindInMarks,e1,e2]
theorem eu {op:CmpOp} {r:R2} (ho:kX X (compareOp op) r) (ha:PE X a ta) (hb:PE X b tb) (hm:behindInMarks op b = false):PE X (.Compare a [op] [b] pos) (Kh r ta tb):=by
 intro pins s Z H Q I h
 exact wpAny_Compare1 (Jt ha hb I h λv u s2 x y H2 I2 rx ry q=>ho pins s2 Z H2 x y v u Q I2 rx ry q) hm
def F0 (t:TE):TT:=λZ H Q=>t Z H λx H'=>∃ k,x = .bl k /\ Q k H'
theorem aA {op:CmpOp} {r:R2} (ho:kX X (compareOp op) r) (ha:PE X a ta) (hb:PE X b tb) (hm:behindInMarks op b = false):PT X (.Compare a [op] [b] pos) (F0 (Kh r ta tb)):=by
 intro pins s Z H Q I h
 refine wpAny_isTrue_Compare1 (cZ (ha pins s Z H _ I h) λv s1 ⟨x,H1,I1,r1,q1⟩=>cZ (hb pins s1 Z H1 _ I1 q1) λu s2 ⟨y,H2,I2,r2,q2⟩ =>
  cZ (ho pins s2 Z H2 x y v u _ I2 r1 r2 q2) λc s3 ⟨z,H3,I3,r3,k,e,q3⟩=>?_) hm
 subst e
 cases r3
 exact wpAny_truthy_bool ⟨H3,I3,q3⟩
def Le (K:PySem.W.Frag) (x:V) (H:Hp) (k:Bool):Prop :=
 match x with
 | .cL=>k = false
 | .bl b=>k = b
 | .int i=>k = (i != 0)
 | .str y=>y.length <= sizeLine /\ k = ((y.length:Int) != 0)
 | .byt y=>y.size <= sizeLine /\ k = ((y.size:Int) != 0)
 | .ref p=>(∃ xs,aP K H p xs /\ k = !xs.isEmpty) ∨ (∃ xs,fL K H p xs /\ k = !xs.isEmpty) ∨ ∃ kvs,H p = some (.dK kvs) /\ k = !kvs.isEmpty
 | _=>False
theorem xQ {κ:Type} {kvs:List (κ × V)} {vs:List (κ × Value)} (r:KV kvs vs):(!vs.isEmpty) = !kvs.isEmpty:=by
 cases r <;> rfl
theorem pF {xs:List V} {its:List Value} (r:Vals xs its):(!its.toArray.isEmpty) = !xs.isEmpty:=by
 cases r <;> simp
theorem kK:(sizeLine:Nat) < 2 ^ 63:=by rw [sizeLine_eq];decide
theorem IG:Mw X (λx H Q=>∃ k,Le X.K x H k /\ Q k H):=by
 intro pins s Z H x v Q I rx h
 obtain ⟨k,e,q⟩:=h
 have hl:=kK
 have hs:sizeLine = 16777216:=sizeLine_eq
 cases x with
 | cL =>
  cases rx
  have e':k = false:=e
  subst e'
  exact truthy_none ⟨H,I,q⟩
 | bl b =>
  cases rx
  have e':k = b:=e
  subst e'
  exact wpAny_truthy_bool ⟨H,I,q⟩
 | int i =>
  obtain ⟨t,rfl⟩:=rx
  have e':k = (i != 0):=e
  subst e'
  exact PySem.P.truthy_int ⟨H,I,q⟩
 | str y =>
  obtain ⟨t,rfl⟩:=rx
  obtain ⟨hy,e'⟩:y.length <= sizeLine /\ k = ((y.length:Int) != 0):=e
  subst e'
  exact PySem.P.truthy_str (by omega) ⟨H,I.tok _,q⟩
 | byt y =>
  obtain ⟨t,rfl⟩:=rx
  obtain ⟨hy,e'⟩:y.size <= sizeLine /\ k = ((y.size:Int) != 0):=e
  subst e'
  exact PySem.W.truthy_bytes (by omega) ⟨H,I.tok _,q⟩
 | ref p =>
  cases rx
  have e':(∃ xs,aP X.K H p xs /\ k = !xs.isEmpty) ∨ (∃ xs,fL X.K H p xs /\ k = !xs.isEmpty) ∨ ∃ kvs,H p = some (.dK kvs) /\ k = !kvs.isEmpty:=e
  rcases e' with ⟨xs,hx,e'⟩ | ⟨xs,hx,e'⟩ | ⟨kvs,hx,e'⟩
  ·subst e'
   obtain ⟨its,r,pl,hz⟩:=I.list hx
   have hlen:=r.length
   exact wpAny_truthy_list pl.isList (by simp only [List.size_toArray];omega) ⟨H,I.tok _,by rw [pF r];exact q⟩
  ·subst e'
   obtain ⟨its,r,pl,hz⟩:=I.tuple hx
   have hlen:=r.length
   exact truthy_tuple pl (by simp only [List.size_toArray];omega) ⟨H,I.tok _,by rw [pF r];exact q⟩
  ·subst e'
   obtain ⟨hz,hS,vs,r,m⟩:kvs.length <= sizeLine /\ (p == sysModules) = false /\ ∃ vs,KV kvs vs /\ s.heap.DictOf (dI X.prog X.w) p vs:=I.hok p _ hx
   have hlen:kvs.length = vs.length:=Paired.length r
   exact wpAny_truthy_dict hS m (by omega) ⟨H,I.tok _,by rw [xQ r];exact q⟩
 | _=>exact (show False from e).elim
theorem jE (ha:PE X a ta) (he:∀ whole,isTrue a X.env whole = (do let v ← whole;standAt a.pos;holding [v] (truthy v))) :
  PT X a (λZ H Q=>ta Z H λx H'=>∃ k,Le X.K x H' k /\ Q k H'):=by
 intro pins s Z H Q I h
 exact isTrue_plain (cZ (ha pins s Z H _ I h) λv s1 ⟨x,H1,I1,r1,q1⟩=>IG pins s1 Z H1 x v Q I1 r1 q1) (he _)
theorem ig:kX X (binaryOp .Add) (λx y H Q=>∃ i j,x = .str i /\ y = .str j /\ i.length + j.length <= sizeLine /\ Q (.str (i ++ j)) H):=by
 intro pins s Z H x y v u Q I rx ry h
 obtain ⟨i,j,rfl,rfl,hz,q⟩:=h
 obtain ⟨t,rfl⟩:=rx
 obtain ⟨t',rfl⟩:=ry
 exact add_str (λt' tk=>⟨.str (i ++ j),H,I.tok _,⟨_,rfl⟩,q⟩) hz
theorem vals1 {x:V} {us:List Value} (r:Vals [x] us):∃ u,us = [u] /\ RelV x u:=by
 cases r with
 | cons r1 r2=>cases r2;exact ⟨_,rfl,r1⟩
theorem vals2 {x y:V} {us:List Value} (r:Vals [x,y] us):∃ u w',us = [u,w'] /\ RelV x u /\ RelV y w':=by
 cases r with
 | cons r1 r2 =>
  cases r2 with
  | cons r3 r4=>cases r4;exact ⟨_,_,rfl,r1,r3⟩
theorem Ah (hc:X.calm = true):jo X (.builtin "max") (λxs H Q=>∃ i j,xs = [.int i,.int j] /\ Q (.int (if j > i then j else i)) H):=by
 intro pins s Z H xs us Q I r h
 obtain ⟨i,j,rfl,q⟩:=h
 obtain ⟨u,w',rfl,⟨t,rfl⟩,⟨t',rfl⟩⟩:=vals2 r
 refine max_two_ints (I.ok.hd hc) λh' tk k=>⟨_,H,I.kept k,?_,q⟩
 by_cases hj:j > i
 ·rw [if_pos hj,if_pos hj];exact ⟨_,rfl⟩
 ·rw [if_neg hj,if_neg hj];exact ⟨_,rfl⟩
theorem Bc:jo X (.type "int") (λxs H Q=>(∃ i,xs = [.int i] /\ Q (.int i) H) ∨ ∃ k,xs = [.bl k] /\ Q (.int (if k then 1 else 0)) H):=by
 intro pins s Z H xs us Q I r h
 rcases h with ⟨i,rfl,q⟩ | ⟨k,rfl,q⟩
 ·obtain ⟨u,rfl,t,rfl⟩:=vals1 r
  exact call_int_int ⟨.int i,H,I,⟨_,rfl⟩,q⟩
 ·obtain ⟨u,rfl,r1⟩:=vals1 r
  cases r1
  exact call_int_bool ⟨.int (if k then 1 else 0),H,I.tok _,⟨_,rfl⟩,q⟩
end
end L2
namespace L2
open PySem PySem.Spec PyProof.Rows
structure xE (h:Heap) (x dx C:Addr) (mA:Str -> Option Value):Prop where
 obj:h.get? x = some (PySem.W.instObj C dx)
 ns:h.Ns1 dx mA
 ne:dx ≠ x
theorem lZ {h:Heap} {dx:Addr} {mA:Str -> Option Value} (n:h.Ns1 dx mA):∃ od,h.get? dx = some od /\ ∀ name,PySem.W.lookIn name od = some (mA name):=by
 obtain ⟨o,es,ep,ho,hd,hk,_,hm⟩:=n
 refine ⟨o,ho,λname=>?_⟩
 have e:=hm name
 unfold nsFind findBy at e
 rw [← Array.find?_toList] at e
 unfold PySem.W.lookIn
 rw [hd]
 dsimp only
 split
 ·rename_i y q
  rw [q] at e
  exact congrArg some e
 ·rename_i q
  rw [q] at e
  have a:es.toList.any (·.refKey) = false:=by
   rw [List.any_eq_false]
   intro y hy
   obtain ⟨z,t,hkey⟩:=hk y (Array.mem_toList_iff.mp hy)
   simp [DictEntry.refKey,hkey]
  have a':¬ es.toList.any (·.refKey) = true:=by rw [a];exact Bool.false_ne_true
  rw [if_neg a']
  exact congrArg some e
theorem xE.look {h:Heap} {x dx C:Addr} {mA:Str -> Option Value} (I:xE h x dx C mA):∃ od,PySem.W.InstAt h x (PySem.W.instObj C dx) C (some od) /\ ∀ name,PySem.W.lookIn name od = some (mA name) :=
 let ⟨od,ho,hl⟩:=lZ I.ns
 ⟨od,⟨I.obj,rfl,rfl,ho⟩,hl⟩
section
variable {prog:Program} {w:World} {A:Around} {E:Value -> Shared -> Prop} {s:Shared} {K:PySem.W.Frag} {x dx C f:Addr} {mA:Str -> Option Value} {name:Str} {v:Value}
theorem get_map {expr:Bool} {Q:Value -> Shared -> Prop} (X:K.In s.heap) (I:xE s.heap x dx C mA) (hg:PySem.W.plainGet K C name = true) (hh:PySem.W.hasDictIn K C = true)
  (ha:PySem.W.findIn K (.ref C) name = some none) (hv:mA name = some v) (hv':PySem.W.handedIn v = true) (h:Q v { s with toks:=s.toks + 1 }) :
  wpAny (model prog w) A (getAttr (.ref x) name expr) Q E s:=by
 obtain ⟨od,J,hl⟩:=I.look
 exact PySem.W.get_value X J (PySem.W.plainGet_of hg).1 (PySem.W.findObj_own hh ha rfl (by rw [hl,hv])) hv' h
theorem Bd {pl:Sem Bool} {Q:Value × List Value -> Shared -> Prop} (X:K.In s.heap) (I:xE s.heap x dx C mA) (hg:PySem.W.plainGet K C name = true)
  (hf:PySem.W.findIn K (.ref C) name = some (some (.ref f))) (ht:PySem.W.isFn K (.ref f) = true) (hv:mA name = none) (h:Q (.ref f,[.ref x]) s) :
  wpAny (model prog w) A (getMethod (.ref x) name pl) Q E s:=by
 obtain ⟨od,J,hl⟩:=I.look
 exact PySem.W.method_fn X J (PySem.W.plainGet_of hg).1 (PySem.W.plainGet_of hg).2 hf (beq_iff_eq.mp ht) (by show (PySem.W.lookIn name od).map (·.isSome) = some false;rw [hl,hv];rfl) h
theorem ET {ns:List Str} {Q:Unit -> Shared -> Prop} (X:K.In s.heap) (I:xE s.heap x dx C mA)
  (hs:PySem.W.findIn K (.ref C) "__setattr__" = some (some (.builtin "object.__setattr__"))) (hp:PySem.W.plainOver K C = true) (ht:PySem.W.takerIn K C name = some none) (hh:PySem.W.hasDictIn K C = true)
  (hw:PySem.Within mA ns) (hsz:ns.length <= sizeLine)
  (h:∀ h',xE h' x dx C (λy=>if y = name then some v else mA y) -> Heap.SameBut dx s.heap h' -> Q () { s with heap:=h',toks:=s.toks + 2 }) :
  wpAny (model prog w) A (setAttr (.ref x) name v) Q E s:=by
 obtain ⟨od,J,hl⟩:=I.look
 refine PySem.W.set_plain X J hs (PySem.W.osa_open (s:={ s with toks:=s.toks + 1 }) (r:=none) X J hp ht λb=>?_)
 obtain ⟨cd,hc,hd'⟩:=PySem.W.any_some hh
 have hx:s.heap.get? x = some ⟨.ref C,some dx,.plain,#[]⟩:=I.obj
 refine wpAny_bind (wpAny_pure (wpAny_bind (wpAny_bind (wpAny_loadPart hx (wpAny_bind (PySem.W.Looks.here (s:={ s with toks:=s.toks + 1 }) (PySem.W.looks_clsIn X hc) ?_))))))
 rw [hd']
 refine wpAny_pure (a:=some dx) (wpAny_bind (wpAny_pure (wpAny_bind ?_)))
 refine wpAny_nsSet1 (s:={ s with toks:=s.toks + 1 }) I.ns λh' hn2 hs2=>?_
 obtain ⟨oD,esD,epD,hoD,hdD,hcD⟩:=hn2.count (PySem.Within.cons name v hw)
 refine wpAny_bind (wpAny_lookBehind hoD (by rw [hdD];exact pastItsLine_dict (Nat.le_trans hcD (by rw [List.length_cons];omega))) ?_)
 exact wpAny_pure (h _ ⟨(hs2.2 _ (Ne.symm I.ne)).trans I.obj,hn2,I.ne⟩ hs2)
theorem uT {R:Result -> Shared -> Prop} {vs:List Value} {kw:List (Str × Value)} (X:K.In s.heap) (hm:PySem.W.makesIn K C = true)
  (hi:PySem.W.findIn K (.ref C) "__init__" = some (some (.ref f))) (hf:PySem.W.typeIn K (.ref f) = some (.type "function"))
  (h:codeAny (model prog w) (A.under (.builtin "type.__call__" ⟨.ref C :: vs,kw⟩)) (.call (.ref f) ⟨.ref (s.heap.objs.size + 1) :: vs,kw⟩) (PySem.W.InitBack (s.heap.objs.size + 1) R)
   { s with heap:=(s.heap.push PySem.W.emptyDict).push (PySem.W.instObj C s.heap.objs.size) }) :
  codeAny (model prog w) A (.call (.ref C) ⟨vs,kw⟩) R s:=by
 obtain ⟨hh,g,d,t,os⟩:=s
 exact PySem.W.make_core (PySem.W.makes_of X hm) (PySem.W.looks_findIn X hi) (λself=>PySem.W.bind_fn X self hf) (.inl rfl) h
theorem Ax {R:Result -> Shared -> Prop} (X:K.In s.heap) (hm:PySem.W.makesIn K C = true)
  (hi:PySem.W.findIn K (.ref C) "__init__" = some (some (.builtin "object.__init__")))
  (hb:∀ self,PySem.W.Looks (model prog w) s.heap (bindSpecial (.builtin "object.__init__") self) (.builtin "object.__init__",[self]))
  (h:codeAny (model prog w) (A.under (.builtin "type.__call__" ⟨[.ref C],[]⟩)) (.call (.builtin "object.__init__") ⟨[.ref (s.heap.objs.size + 1)],[]⟩) (PySem.W.InitBack (s.heap.objs.size + 1) R)
   { s with heap:=(s.heap.push PySem.W.emptyDict).push (PySem.W.instObj C s.heap.objs.size) }) :
  codeAny (model prog w) A (.call (.ref C) ⟨[],[]⟩) R s:=by
 obtain ⟨hh,g,d,t,os⟩:=s
 exact PySem.W.make_core (PySem.W.makes_of X hm) (PySem.W.looks_findIn X hi) hb (.inr ⟨rfl,rfl⟩) h
end
def gO (f:Str) (v:V):List (Str × V) -> List (Str × V)
 | []=>[(f,v)]
 | (g,x) :: r=>if g = f then (g,v) :: r else (g,x) :: gO f v r
theorem ni (f g:Str) (v:V):∀ fs:List (Str × V),(gO f v fs).lookup g = if g = f then some v else fs.lookup g
 | []=>by
  show List.lookup g [(f,v)] = _
  by_cases h:g = f
  ·have hb:(g == f) = true:=beq_iff_eq.mpr h
   simp only [List.lookup,hb,if_pos h]
  ·have hb:(g == f) = false:=beq_eq_false_iff_ne.mpr h
   simp only [List.lookup,hb,if_neg h]
 | (k,x) :: r=>by
  have ih:=ni f g v r
  rw [show gO f v ((k,x) :: r) = (if k = f then (k,v) :: r else (k,x) :: gO f v r) from rfl]
  by_cases hk:k = f
  ·rw [if_pos hk]
   by_cases h:g = k
   ·have hb:(g == k) = true:=beq_iff_eq.mpr h
    simp only [List.lookup,hb,if_pos (h.trans hk)]
   ·have hb:(g == k) = false:=beq_eq_false_iff_ne.mpr h
    simp only [List.lookup,hb,if_neg (λe:g = f=>h (e.trans hk.symm))]
  ·rw [if_neg hk]
   by_cases h:g = k
   ·have hb:(g == k) = true:=beq_iff_eq.mpr h
    simp only [List.lookup,hb,if_neg (λe:g = f=>hk (h.symm.trans e))]
   ·have hb:(g == k) = false:=beq_eq_false_iff_ne.mpr h
    simp only [List.lookup,hb]
    exact ih
theorem mF (f:Str) (v:V):∀ fs:List (Str × V),f ∈ (gO f v fs).map (·.1) /\ ∀ g,g ∈ fs.map (·.1) -> g ∈ (gO f v fs).map (·.1)
 | []=>⟨by simp [gO],λg h=>by simp at h⟩
 | (k,x) :: r=>by
  obtain ⟨i1,i2⟩:=mF f v r
  rw [show gO f v ((k,x) :: r) = (if k = f then (k,v) :: r else (k,x) :: gO f v r) from rfl]
  by_cases hk:k = f
  ·rw [if_pos hk]
   subst hk
   exact ⟨by simp,λg h=>by simpa using h⟩
  ·rw [if_neg hk]
   refine ⟨?_,λg h=>?_⟩
   ·rw [List.map_cons]
    exact List.mem_cons_of_mem _ i1
   ·rw [List.map_cons] at h ⊢
    rcases List.mem_cons.mp h with e | e
    ·exact List.mem_cons.mpr (.inl e)
    ·exact List.mem_cons_of_mem _ (i2 g e)
theorem mP (f:Str) (v:V):∀ fs:List (Str × V),(gO f v fs).length <= fs.length + 1
 | []=>by simp [gO]
 | (k,x) :: r=>by
  have ih:=mP f v r
  rw [show gO f v ((k,x) :: r) = (if k = f then (k,v) :: r else (k,x) :: gO f v r) from rfl]
  by_cases hk:k = f
  ·rw [if_pos hk,List.length_cons,List.length_cons];omega
  ·rw [if_neg hk,List.length_cons,List.length_cons];omega
theorem jh.some_of {v:V} {o:Option Value} (r:jh (some v) o):∃ u,o = some u /\ RelV v u:=by
 cases o with
 | none=>exact (show False from r).elim
 | some u=>exact ⟨u,rfl,r⟩
theorem jh.none_of {o:Option Value} (r:jh none o):o = none:=by
 cases o with
 | none=>rfl
 | some u=>exact (show False from r).elim
theorem AR {v:V} {u:Value} (r:RelV v u):PySem.W.handedIn u = true:=by
 cases v with
 | cL=>cases (show u = Value.none from r);rfl
 | bl b=>cases (show u = Value.bool b from r);rfl
 | int i=>obtain ⟨t,e⟩:=(show ∃ t,u = Value.int i t from r);cases e;rfl
 | str x=>obtain ⟨t,e⟩:=(show ∃ t,u = Value.str x t from r);cases e;rfl
 | byt b=>obtain ⟨t,e⟩:=(show ∃ t,u = Value.bytes b t from r);cases e;rfl
 | flt b=>obtain ⟨t,e⟩:=(show ∃ t,u = Value.float b t from r);cases e;rfl
 | ref a=>cases (show u = Value.ref a from r);rfl
 | ty n=>cases (show u = Value.type n from r);rfl
section
variable {P:Program} {w:World} {H H':Hp} {h h':Heap} {a C dx:Addr} {fs fs':List (Str × V)}
theorem su (hok:jr P w H h) (e:H a = some (.ins C dx fs)):∃ mA,xE h a dx C mA /\ (∀ f,jh (fs.lookup f) (mA f)) /\ PySem.Within mA (fs.map (·.1)) /\ fs.length <= 1000 /\ H dx = some (.own a):=by
 obtain ⟨d,z,ne,ob,mA,n,r,q⟩:=(show cS P w H h a (.ins C dx fs) from hok a _ e)
 exact ⟨mA,⟨ob,n,ne⟩,r,q,z,d⟩
end
structure nB (K:PySem.W.Frag) (C:Addr):Prop where
 pg:PySem.W.plainGet K C Str.empty = true
 hd:PySem.W.hasDictIn K C = true
 po:PySem.W.plainOver K C = true
 sa:PySem.W.findIn K (.ref C) "__setattr__" = some (some (.builtin "object.__setattr__"))
theorem nB.get {K:PySem.W.Frag} {C:Addr} (c:nB K C) (f:Str):PySem.W.plainGet K C f = true:=c.pg
def bI (K:PySem.W.Frag) (C:Addr) (f:Str):Prop:=PySem.W.findIn K (.ref C) f = some none
theorem bI.LR {K:PySem.W.Frag} {C:Addr} {f:Str} (n:bI K C f):PySem.W.takerIn K C f = some none:=by
 unfold PySem.W.takerIn
 rw [show PySem.W.findIn K (.ref C) f = some none from n]
 rfl
structure Meth (K:PySem.W.Frag) (C:Addr) (m:Str) (f:Addr):Prop where
 at_:PySem.W.findIn K (.ref C) m = some (some (.ref f))
 fn:PySem.W.isFn K (.ref f) = true
 kp:PySem.W.keepIn K (.ref f) = true
section
variable {X:Cx} {pins:List (Addr × Obj)} {Z:St} {H:Hp} {s:Shared} {a C dx:Addr} {fs:List (Str × V)} {f:Str} {v:V} {A:Around} {E:Value -> Shared -> Prop}
theorem qc {b:Bool} {Q:Value -> Shared -> Prop} (I:Inv X pins Z H s) (e:H a = some (.ins C dx fs)) (c:nB X.K C) (n:bI X.K C f) (l:fs.lookup f = some v)
  (h:∀ u s',Inv X pins Z H s' -> RelV v u -> Q u s'):wpAny (model X.prog X.w) A (getAttr (.ref a) f b) Q E s:=by
 obtain ⟨mA,O,r,_,_,_⟩:=su I.hok e
 obtain ⟨u,hu,ru⟩:=jh.some_of (v:=v) (o:=mA f) (by rw [← l];exact r f)
 exact get_map I.jB O (c.get f) c.hd n hu (AR ru) (h u _ (I.tok _) ru)
theorem o7 {m:Str} {g:Addr} {pl:Sem Bool} {Q:Value × List Value -> Shared -> Prop} (I:Inv X pins Z H s) (e:H a = some (.ins C dx fs)) (c:nB X.K C) (k:Meth X.K C m g) (l:fs.lookup m = none)
  (h:Q (.ref g,[.ref a]) s):wpAny (model X.prog X.w) A (getMethod (.ref a) m pl) Q E s:=by
 obtain ⟨mA,O,r,_,_,_⟩:=su I.hok e
 have hn:mA m = none:=jh.none_of (by rw [← l];exact r m)
 exact Bd I.jB O (c.get m) k.at_ k.fn hn h
theorem n6 {y:V} {u:Value} {Q:Unit -> Shared -> Prop} (I:Inv X pins Z H s) (e:H a = some (.ins C dx fs)) (c:nB X.K C) (n:bI X.K C f) (hl:fs.length < 1000) (ry:RelV y u)
  (h:∀ s',Inv X pins Z (upd H a (.ins C dx (gO f y fs))) s' -> Q () s'):wpAny (model X.prog X.w) A (setAttr (.ref a) f u) Q E s:=by
 obtain ⟨mA,O,r,wi,_,ho⟩:=su I.hok e
 have hz:(fs.map (·.1)).length <= sizeLine:=by rw [List.length_map,sizeLine_eq];omega
 refine ET I.jB O c.sa c.po n.LR c.hd wi hz λh' O' sb=>h _ ?_
 have hd:∃ o,h'.get? dx = some o:=let ⟨o,_,_,e',_⟩:=O'.ns;⟨o,e'⟩
 refine I.write (x:=a) (e:=dx) (by rw [e];exact True.intro) (.inr ho) (λb q hb z=>(sb.2 b hb).trans z) hd ?_
 refine ⟨by rw [ai O.ne];exact ho,?_,O.ne,O'.obj,_,O'.ns,λg=>?_,λg hg=>?_⟩
 ·have:=mP f y fs;omega
 ·show jh ((gO f y fs).lookup g) (if g = f then some u else mA g)
  rw [ni]
  by_cases q:g = f
  ·rw [if_pos q,if_pos q];exact ry
  ·rw [if_neg q,if_neg q];exact r g
 ·by_cases q:g = f
  ·rw [q];exact (mF f y fs).1
  ·refine (mF f y fs).2 g (wi g λz=>hg ?_)
   show (if g = f then some u else mA g) = none
   rw [if_neg q];exact z
theorem Inv.made (I:Inv X pins Z H s):Inv X pins Z (upd (upd H s.heap.objs.size (.own (s.heap.objs.size + 1))) (s.heap.objs.size + 1) (.ins C s.heap.objs.size []))
  { s with heap:=(s.heap.push PySem.W.emptyDict).push (PySem.W.instObj C s.heap.objs.size) }:=by
 have e1:(s.heap.push PySem.W.emptyDict).get? s.heap.objs.size = some PySem.W.emptyDict:=Heap.get?_push_size s.heap rfl
 have e2:((s.heap.push PySem.W.emptyDict).push (PySem.W.instObj C s.heap.objs.size)).get? (s.heap.objs.size + 1) = some (PySem.W.instObj C s.heap.objs.size):=by
  have:=Heap.get?_push_size (s.heap.push PySem.W.emptyDict) (o:=PySem.W.instObj C s.heap.objs.size) rfl
  rwa [Heap.size_push] at this
 have e3:(s.heap.push PySem.W.emptyDict).Ns s.heap.objs.size (λ_=>none):=⟨PySem.W.emptyDict,#[],_,e1,rfl,(λe he=>absurd he (by simp)),λ_=>rfl⟩
 have I1:=I.laid (a:=s.heap.objs.size) (o:=.own (s.heap.objs.size + 1)) (h':=s.heap.push PySem.W.emptyDict) (t':=s.toks) (λb u q=>Heap.get?_push_of_some _ q) (Nat.le_refl _) ⟨_,e1⟩
 refine I1.laid (a:=s.heap.objs.size + 1) (o:=.ins C s.heap.objs.size []) (t':=s.toks) (λb u q=>Heap.get?_push_of_some _ q) (Nat.le_of_eq (Heap.size_push _ _)) ?_
 have ne:s.heap.objs.size ≠ s.heap.objs.size + 1:=Nat.ne_of_lt (Nat.lt_succ_self _)
 refine ⟨by rw [ai ne,af],Nat.zero_le _,ne,e2,λ_=>none,(Heap.Ns1.of_empty e3).at λo q=>Heap.get?_push_of_some _ q,λ_=>True.intro,λy hy=>absurd rfl hy⟩
theorem EN {prog:Program} {w:World} {env:Env} {e:Expr} {f:Str} {pos:Pos} {s:Shared} {Q:Value -> Shared -> Prop} (hb:attributeBase e f env (eval e env) = eval e env)
  (h:wpAny (model prog w) A (eval e env) (λo s₁=>wpAny (model prog w) A (getAttr o f true) Q E s₁) E s):wpAny (model prog w) A (eval (.Attribute e f pos) env) Q E s :=
 Attribute_any_ h (by rw [arm_eval_Attribute,hb])
end
def J3 (K:PySem.W.Frag) (ta:TE) (f:Str):TE:=λZ H Q=>ta Z H λx H1=>∃ a C dx fs v,x = .ref a /\ H1 a = some (.ins C dx fs) /\ nB K C /\ bI K C f /\ fs.lookup f = some v /\ Q v H1
def MO (K:PySem.W.Frag) (ta tv:TE) (f:Str):TS:=λD Z H=>tv Z H λy H1=>ta Z H1 λx H2=>∃ a C dx fs,x = .ref a /\ H2 a = some (.ins C dx fs) /\ nB K C /\ bI K C f /\ fs.length < 1000 /\
 D.nx Z (upd H2 a (.ins C dx (gO f y fs)))
def LH (X:Cx) (op:Operator) (rd:V -> V -> Hp -> VK -> Prop):Prop :=
 ∀ (pins:List (Addr × Obj)) (s:Shared) (Z:St) (H:Hp) (x y:V) (u v:Value) (Q:VK),Inv X pins Z H s -> RelV x u -> RelV y v -> rd x y H Q -> wpAny (model X.prog X.w) X.A (inplaceOp op u v) (EP X pins Z Q) X.xe s
def FH (K:PySem.W.Frag) (ta tv:TE) (rd:V -> V -> Hp -> VK -> Prop) (f:Str):TS:=λD Z H=>ta Z H λx H1=>∃ a C dx fs v,x = .ref a /\ H1 a = some (.ins C dx fs) /\ nB K C /\ bI K C f /\ fs.lookup f = some v /\
 tv Z H1 λy H2=>rd v y H2 λz H3=>∃ dx' fs',H3 a = some (.ins C dx' fs') /\ fs'.length < 1000 /\ D.nx Z (upd H3 a (.ins C dx' (gO f z fs')))
section
variable {X:Cx} {o e value:Expr} {f:Str} {pos pos' tpos:Pos} {ta tv:TE}
theorem aZ (he:PE X e ta) (hb:attributeBase e f X.env (eval e X.env) = eval e X.env):PE X (.Attribute e f pos) (J3 X.K ta f):=by
 intro pins s Z H Q I h
 refine EN hb (cZ (he pins s Z H _ I h) λu s1 ⟨x,H1,I1,rx,a,C,dx,fs,v,ex,ea,c,n,l,q⟩=>?_)
 subst ex
 obtain rfl:u = Value.ref a:=rx
 exact qc I1 ea c n l λu' s2 I2 ru=>⟨v,H1,I2,ru,q⟩
theorem cX (ha:PE X o ta) (hv:PE X value tv) (hs:swapsWith value (some (.Attribute o f pos')) pos.line X.env = pure false):PS X (.Assign [.Attribute o f pos'] value pos) (MO X.K ta tv f):=by
 intro pins s Z H D I h
 refine plainObj_wpAny_Assign_Attribute (cZ (hv pins s Z H _ I h) λu s1 ⟨y,H1,I1,ry,q⟩=>cZ (ha pins s1 Z H1 _ I1 q) λov s2 ⟨x,H2,I2,rx,a,C,dx,fs,ex,ea,c,n,l,q2⟩=>?_) hs
 subst ex
 obtain rfl:ov = Value.ref a:=rx
 exact n6 I2 ea c n l ry λs3 I3=>⟨Z,_,I3,q2⟩
theorem A4 {op:Operator} {rd:V -> V -> Hp -> VK -> Prop} (ha:PE X o ta) (hv:PE X value tv) (hop:LH X op rd):PS X (.AugAssign (.Attribute o f tpos) op value pos) (FH X.K ta tv rd f):=by
 intro pins s Z H D I h
 refine wpAny_AugAssign_AttributeAny (cZ (ha pins s Z H _ I h) λov s1 ⟨x,H1,I1,rx,a,C,dx,fs,v,ex,ea,c,n,l,q⟩=>?_)
 subst ex
 obtain rfl:ov = Value.ref a:=rx
 refine qc I1 ea c n l λu s2 I2 ru=>cZ (hv pins s2 Z H1 _ I2 q) λw3 s3 ⟨y,H2,I3,ry,q3⟩=>cZ (hop pins s3 Z H2 v y u w3 _ I3 ru ry q3) λw4 s4 ⟨z,H3,I4,rz,dx',fs',ea',l',q4⟩=>?_
 exact n6 I4 ea' c n l' rz λs5 I5=>⟨Z,_,I5,q4⟩
def Mt:V -> V -> Hp -> VK -> Prop:=λx y H Q=>∃ i j,x = .int i /\ y = .int j /\ Q (.int (i + j)) H
theorem Hr:LH X .Add Mt:=by
 rintro pins s Z H x y u v Q I rx ry ⟨i,j,rfl,rfl,q⟩
 obtain ⟨t,rfl⟩:=(show ∃ t,u = Value.int i t from rx)
 obtain ⟨t',rfl⟩:=(show ∃ t',v = Value.int j t' from ry)
 exact PyProof.Rows.iadd_int ⟨.int (i + j),H,I.tok _,⟨_,rfl⟩,q⟩
end
section
variable {X:Cx} {pins:List (Addr × Obj)} {Z:St} {H:Hp} {s:Shared} {A:Around} {E:Value -> Shared -> Prop} {Q:Value -> Shared -> Prop} {c:Value} {b:Bool}
end
end L2
namespace L2
open PySem PySem.Spec PyProof.Rows
structure fU (k:Nat) (A:Around):Prop where
 hd:A.handled = none
 dp:A.depth + 3 * k + 5 < recursionLimit
 un:A.units + 16 * k + 200 < cLine
theorem fU.mono {j k:Nat} {A:Around} (r:fU k A) (h:j <= k):fU j A:=⟨r.hd,by have:=r.dp;omega,by have:=r.un;omega⟩
theorem fU.deeper {k:Nat} {A:Around} (r:fU (k + 1) A) (env:Env):fU k (A.deeper env) :=
 ⟨r.hd,by have:=r.dp;show A.depth + 1 + 3 * k + 5 < _;omega,by have:=r.un;show A.units + 3 + 16 * k + 200 < _;omega⟩
theorem xN {A:Around} {C:Addr} {us:List Value} {kw:List (Str × Value)}:(A.under (.builtin "type.__call__" ⟨.ref C :: us,kw⟩)).depth = A.depth + 1:=by
 first | rfl | simp [Around.under,Code.weight,Code.isCreation,Code.isGuard,Code.isCaller,Code.frames,Code.isFrame,guardIds]
theorem za {A:Around} {C:Addr} {us:List Value} {kw:List (Str × Value)}:(A.under (.builtin "type.__call__" ⟨.ref C :: us,kw⟩)).units = A.units + 1:=by
 first | rfl | simp [Around.under,Code.cUnits,Code.frames,Code.isFrame]
theorem fU.make {k:Nat} {A:Around} (r:fU (k + 1) A) (C:Addr) (us:List Value) (kw:List (Str × Value)):fU k (A.under (.builtin "type.__call__" ⟨.ref C :: us,kw⟩)) :=
 ⟨r.hd,by have:=r.dp;rw [xN];omega,by have:=r.un;rw [za];omega⟩
theorem fU.depth {k:Nat} {A:Around} (r:fU k A):A.depth < recursionLimit:=by have:=r.dp;omega
theorem fU.units {k:Nat} {A:Around} (r:fU k A):A.units + 64 < cLine:=by have:=r.un;omega
def Ef:TA:=λ_ H Q=>Q [] H
def Cd (ta:TE) (tr:TA):TA:=λZ H Q=>ta Z H λx H1=>tr Z H1 λxs H2=>Q (x :: xs) H2
section
variable {X:Cx} {e:Expr} {es:List Expr} {te:TE} {t:TA} {pos:Pos}
theorem ah:PA X [] Ef:=λ_ _ _ _ H Q I h=>Calls.spliced_nil ⟨[],H,I,.nil,h⟩
theorem aa (ha:PE X e te) (hr:PA X es t) (hs:starEach (e :: es) X.env = (false,eval e X.env) :: starEach es X.env:=by rfl):PA X (e :: es) (Cd te t):=by
 intro pos pins s Z H Q I h
 rw [hs]
 show wpAny _ _ (spliced ((false,eval e X.env) :: backTo pos (starEach es X.env))) _ _ s
 refine Calls.spliced_cons (cZ (ha pins s Z H _ I h) λu s1 ⟨x,H1,I1,r1,q1⟩=>?_)
 exact cZ (hr pos pins s1 Z H1 _ I1 q1) λus s2 ⟨xs,H2,I2,r2,q2⟩=>⟨x :: xs,H2,I2,.cons r1 r2,q2⟩
def LB (t:TA):TE:=λZ H Q=>t Z H λxs H1=>xs.length <= sizeLine /\ ∀ p,H1 p = none -> Q (.ref p) (upd H1 p (.tup xs))
def LP (t:TA):TE:=λZ H Q=>t Z H λxs H1=>xs.length <= sizeLine /\ ∀ p,H1 p = none -> Q (.ref p) (upd H1 p (.lst xs))
theorem eE {x1} (h:PA X es t):PE X (.Tuple es x1 pos) (LB t):=by
 intro pins s Z H Q I hq
 refine wpAny_Tuple_spliced (cZ (h pos pins s Z H _ I hq) λus s1 ⟨xs,H1,I1,r,z,q⟩=>⟨by rw [← r.length];exact z,?_⟩)
 have hf:H1 s1.heap.objs.size = none:=I1.hok.fresh (Nat.le_refl _)
 refine ⟨.ref s1.heap.objs.size,upd H1 s1.heap.objs.size (.tup xs),I1.laid (t':=s1.toks) (λb u e=>Heap.get?_push_of_some _ e) (Nat.le_refl _) ?_,rfl,q _ hf⟩
 exact ⟨z,us,r,⟨_,Heap.get?_push_size _ rfl,rfl,_,rfl⟩⟩
theorem bf (h:PA X es t):PE X (.List es pos) (LP t):=by
 intro pins s Z H Q I hq
 refine wpAny_List_spliced (cZ (h pos pins s Z H _ I hq) λus s1 ⟨xs,H1,I1,r,z,q⟩=>⟨by rw [← r.length];exact z,?_⟩)
 have hf:H1 s1.heap.objs.size = none:=I1.hok.fresh (Nat.le_refl _)
 refine ⟨.ref s1.heap.objs.size,upd H1 s1.heap.objs.size (.lst xs),I1.laid (t':=s1.toks) (λb u e=>Heap.get?_push_of_some _ e) (Nat.le_refl _) ?_,rfl,q _ hf⟩
 exact ⟨z,us,0,r,Heap.get?_push_size _ rfl⟩
end
abbrev Sp:=List V -> Hp -> VK -> XK -> Prop
abbrev qw:=List Env -> Hp -> Shared -> XK -> Value -> Shared -> Prop
structure xS (P:Program) (w:World) (K:PySem.W.Frag) (mg:Str -> Option Value) (base:Heap) (A:Around) (outer:List Env) (s:Shared) (H:Hp):Prop where
 frames:A.frames = some outer
 mod:Mod K mg base
 bs:∀ b o,base.get? b = some o -> s.heap.get? b = some o /\ H b = none
 Fw:base.objs.size <= s.heap.objs.size
 lW:s.heap.FunFrames base outer
 FW:∀ b ∈ frs outer,H b = none
 hok:jr P w H s.heap
 bare:AllBare s.gens
def CE (outer:List Env) (P:Program) (w:World) (H:Hp) (s:Shared) (Q:VK) (u:Value) (s':Shared):Prop :=
 ∃ v H',s'.os = s.os /\ AllBare s'.gens /\ Un (frs outer) [] H H' s.heap s'.heap /\ jr P w H' s'.heap /\ RelV v u /\ Q v H'
def CR (CX:qw) (outer:List Env) (P:Program) (w:World) (H:Hp) (s:Shared) (Q:VK) (E:XK) (r:Result) (s':Shared):Prop :=
 match r with
 | .ok (.ret u)=>CE outer P w H s Q u s'
 | .ok _=>False
 | .error e=>CX outer H s E e s'
structure bu (P:Program) (w:World) (K:PySem.W.Frag) (mg:Str -> Option Value) (base:Heap) (CX:qw) (k:Nat) (f:Addr) (fd:FuncData) (ps:List Str) (sp:Sp):Prop where
 len:∀ vs H Q E,sp vs H Q E -> vs.length = ps.length
 run:∀ (A:Around) (outer:List Env) (s:Shared) (H:Hp) (args:Args) (us:List Value) (vs:List V) (Q:VK) (E:XK),fU k A -> xS P w K mg base A outer s H -> BindsTo s fd args (ps.zip us) -> Vals vs us -> sp vs H Q E ->
  codeAny (model P w) A (.call (.ref f) args) (CR CX outer P w H s Q E) s
theorem xS.make {P:Program} {w:World} {K:PySem.W.Frag} {mg:Str -> Option Value} {base:Heap} {A:Around} {outer:List Env} {s:Shared} {H:Hp} (e:xS P w K mg base A outer s H) (C:Addr) (us:List Value) (kw:List (Str × Value)) :
  xS P w K mg base (A.under (.builtin "type.__call__" ⟨.ref C :: us,kw⟩)) outer s H:=⟨by first | exact e.frames | (simpa [Around.under,Code.envs,Code.isFrame,pushEnvs] using e.frames),e.mod,e.bs,e.Fw,e.lW,e.FW,e.hok,e.bare⟩
section
variable {X:Cx} {pins:List (Addr × Obj)} {Z:St} {H:Hp} {s s':Shared}
theorem Inv.Ff (I:Inv X pins Z H s):xS X.prog X.w X.K X.mg X.base X.A X.stack s H :=
 ⟨I.ok.frames,I.ok.mod,I.bs,Nat.le_trans I.ok.Fw I.sz,I.stack,I.nF,I.hok,I.bare⟩
theorem Inv.after {Q:VK} {u:Value} (I:Inv X pins Z H s) (h:CE X.stack X.prog X.w H s Q u s'):EP X pins Z Q u s':=by
 obtain ⟨v,H',os,bare,un,hok,r,q⟩:=h
 obtain ⟨hh,g,d,t,os'⟩:=s'
 obtain rfl:os' = s.os:=os
 exact ⟨v,H',I.call (h':=hh) (g':=g) (d':=d) (t':=t) (ch:=[]) un hok bare (λb z=>absurd z (by simp)),r,q⟩
end
def De (sp:Sp) (dvs:List V) (E:XK) (t:TA):TE:=λZ H Q=>t Z H λvs H1=>sp (vs ++ dvs) H1 Q E
def Er (C:Addr) (m:Str) (sp:Sp) (dvs:List V) (E:XK) (ta:TE) (t:TA):TE:=λZ H Q=>ta Z H λx H1=>∃ a dx fs,x = .ref a /\ H1 a = some (.ins C dx fs) /\ fs.lookup m = none /\
 t Z H1 λvs H2=>sp (x :: (vs ++ dvs)) H2 Q E
def Gu (C:Addr) (sp:Sp) (dvs:List V) (E:XK) (t:TA):TE:=λZ H Q=>t Z H λvs H1=>∀ x dx,H1 x = none -> H1 dx = none -> dx ≠ x ->
 sp (.ref x :: (vs ++ dvs)) (upd (upd H1 dx (.own x)) x (.ins C dx [])) (λv H2=>v = .cL /\ Q (.ref x) H2) E
def Binds (K:PySem.W.Frag) (fd:FuncData) (ps:List Str) (ds:List Value):Prop :=
 ∀ (s:Shared) (us:List Value),K.In s.heap -> (us ++ ds).length = ps.length -> BindsTo s fd ⟨us,[]⟩ (ps.zip (us ++ ds))
theorem Binds.all {K:PySem.W.Frag} {fd:FuncData} {ps:List Str} (h:∀ us:List Value,us.length = ps.length -> bindArgs fd ⟨us,[]⟩ = pure (ps.zip us)):Binds K fd ps []:=λs us _ hl=>by
 rw [List.append_nil] at hl ⊢
 exact .of_eq (h us hl)
def Passes (CX:qw) (X:Cx) (E:XK):Prop:=∀ (pins:List (Addr × Obj)) (Z:St) (H:Hp) (s:Shared) (e:Value) (s':Shared),Inv X pins Z H s -> CX X.stack H s E e s' -> X.xe e s'
section
variable {X:Cx} {CX:qw} {k:Nat} {f C:Addr} {fd:FuncData} {ps:List Str} {sp:Sp} {dvs:List V} {ds:List Value} {E:XK} {x m:Str} {p pos apos:Pos} {e o:Expr} {es:List Expr} {ta:TE} {t:TA}
theorem tP {pins:List (Addr × Obj)} {Z:St} {H:Hp} {s:Shared} {Q:VK} {us:List Value} {vs:List V} (F:bu X.prog X.w X.K X.mg X.base CX k f fd ps sp) (hr:fU k X.A) (hb:Binds X.K fd ps ds) (hd:Vals dvs ds) (hx:Passes CX X E)
  (I:Inv X pins Z H s) (r:Vals vs us) (h:sp (vs ++ dvs) H Q E):wpAny (model X.prog X.w) X.A (call (.ref f) us) (EP X pins Z Q) X.xe s:=by
 have r2:Vals (vs ++ dvs) (us ++ ds):=r.append hd
 have hl:(us ++ ds).length = ps.length:=by rw [← r2.length];exact F.len _ _ _ _ h
 refine wpAny_call (codeAny_mono (F.run X.A X.stack s H ⟨us,[]⟩ (us ++ ds) (vs ++ dvs) Q E hr I.Ff (hb s us I.jB hl) r2 h) λr s' hq=>?_)
 cases r with
 | error e=>exact hx pins Z H s e s' I hq
 | ok fl =>
  cases fl with
  | ret u=>exact I.after hq
  | next=>exact False.elim hq
  | brk=>exact False.elim hq
  | cont=>exact False.elim hq
theorem aM (F:bu X.prog X.w X.K X.mg X.base CX k f fd ps sp) (hr:fU k X.A) (hg:Gl X x) (hm:X.mg x = some (.ref f)) (hk:PySem.W.keepIn X.K (.ref f) = true) (hb:Binds X.K fd ps ds) (hd:Vals dvs ds) (hx:Passes CX X E)
  (ha:PA X (e :: es) t) (hdb:(x == ("__debug__" : Str)) = false:=by decide) (he:starEach (e :: es) X.env = (false,eval e X.env) :: starEach es X.env:=by rfl) (hpl:(backTo pos (starEach es X.env)).any (·.1) = false:=by rfl) :
  PE X (.Call (.Name x p) (e :: es) [] pos) (De sp dvs E t):=by
 intro pins s Z H Q I h
 refine wpAny_Call_Name_kw (gZ I hg hm ?_ hdb)
 refine PySem.W.callWith_K (h₀:=X.base) I.ok.mod.ug hk (cZ (ha pos pins s Z H _ I h) λus s1 ⟨vs,H1,I1,r,q⟩=>⟨I1.jB,?_⟩) he hpl
 exact tP F hr hb hd hx I1 r q
theorem Bm (F:bu X.prog X.w X.K X.mg X.base CX k f fd ps sp) (hr:fU k X.A) (hg:Gl X x) (hm:X.mg x = some (.ref f)) (hk:PySem.W.keepIn X.K (.ref f) = true) (hb:Binds X.K fd ps ds) (hd:Vals dvs ds) (hx:Passes CX X E)
  (hdb:(x == ("__debug__" : Str)) = false:=by decide):PE X (.Call (.Name x p) [] [] pos) (De sp dvs E Ef):=by
 intro pins s Z H Q I h
 refine wpAny_Call_Name_kw (gZ I hg hm ?_ hdb)
 exact PySem.W.callWith_K0 I.jB hk (tP (us:=[]) F hr hb hd hx I .nil h)
theorem cj {pl:Sem Bool} (he:PE X o ta) (c:nB X.K C) (hm:Meth X.K C m f) (F:bu X.prog X.w X.K X.mg X.base CX k f fd ps sp) (hr:fU k X.A) (hb:Binds X.K fd ps ds) (hd:Vals dvs ds) (hx:Passes CX X E) (ha:PA X (e :: es) t)
  (hst:starEach (e :: es) X.env = (false,eval e X.env) :: starEach es X.env:=by rfl) (hpl:(backTo pos (starEach es X.env)).any (·.1) = false:=by rfl)
  (ht:eval (.Call (.Attribute o m apos) (e :: es) [] pos) X.env = (do
   let ov ← eval o X.env
   standAt apos.atName
   let (f,first) ← holding [ov] (getMethod ov m pl)
   callWith pos f first (backTo pos (starEach (e :: es) X.env)) (backToKw pos (keywordEach [] X.env))):=by rfl) :
  PE X (.Call (.Attribute o m apos) (e :: es) [] pos) (Er C m sp dvs E ta t):=by
 intro pins s Z H Q I h
 refine PySem.W.methodCall_KW (pl:=pl) (cZ (he pins s Z H _ I h) λu s1 ⟨x,H1,I1,rx,a,dx,fs,ex,ea,l,q⟩=>?_) ht
 subst ex
 obtain rfl:u = Value.ref a:=rx
 refine o7 I1 ea c hm l ?_
 refine PySem.W.callWith_K (first:=[.ref a]) (h₀:=X.base) I.ok.mod.ug hm.kp (cZ (ha pos pins s1 Z H1 _ I1 q) λus s2 ⟨vs,H2,I2,r,q2⟩=>⟨I2.jB,?_⟩) hst hpl
 exact tP (us:=.ref a :: us) (vs:=.ref a :: vs) F hr hb hd hx I2 (.cons rfl r) q2
theorem cu {pl:Sem Bool} (he:PE X o ta) (c:nB X.K C) (hm:Meth X.K C m f) (F:bu X.prog X.w X.K X.mg X.base CX k f fd ps sp) (hr:fU k X.A) (hb:Binds X.K fd ps ds) (hd:Vals dvs ds) (hx:Passes CX X E)
  (ht:eval (.Call (.Attribute o m apos) [] [] pos) X.env = (do
   let ov ← eval o X.env
   standAt apos.atName
   let (f,first) ← holding [ov] (getMethod ov m pl)
   callWith pos f first (backTo pos (starEach [] X.env)) (backToKw pos (keywordEach [] X.env))):=by rfl) :
  PE X (.Call (.Attribute o m apos) [] [] pos) (Er C m sp dvs E ta Ef):=by
 intro pins s Z H Q I h
 refine PySem.W.methodCall_KW (pl:=pl) (cZ (he pins s Z H _ I h) λu s1 ⟨x,H1,I1,rx,a,dx,fs,ex,ea,l,q⟩=>?_) ht
 subst ex
 obtain rfl:u = Value.ref a:=rx
 refine o7 I1 ea c hm l ?_
 exact PySem.W.callWith_K0 (first:=[.ref a]) I1.jB hm.kp (tP (us:=[.ref a]) (vs:=[.ref a]) F hr hb hd hx I1 (.cons rfl .nil) q)
structure Mk (K:PySem.W.Frag) (C f:Addr):Prop where
 makes:PySem.W.makesIn K C = true
 init:PySem.W.findIn K (.ref C) "__init__" = some (some (.ref f))
 fn:PySem.W.isFn K (.ref f) = true
 kp:PySem.W.keepIn K (.ref C) = true
theorem CG {pins:List (Addr × Obj)} {Z:St} {H:Hp} {s:Shared} {Q:VK} {us:List Value} {vs:List V} (M:Mk X.K C f) (F:bu X.prog X.w X.K X.mg X.base CX k f fd ps sp) (hr:fU (k + 1) X.A) (hb:Binds X.K fd ps ds) (hd:Vals dvs ds)
  (hx:Passes CX X E) (I:Inv X pins Z H s) (r:Vals vs us)
  (h:∀ x dx,H x = none -> H dx = none -> dx ≠ x -> sp (.ref x :: (vs ++ dvs)) (upd (upd H dx (.own x)) x (.ins C dx [])) (λv H2=>v = .cL /\ Q (.ref x) H2) E) :
  wpAny (model X.prog X.w) X.A (call (.ref C) us) (EP X pins Z Q) X.xe s:=by
 have hq:=h (s.heap.objs.size + 1) s.heap.objs.size (I.hok.fresh (Nat.le_succ _)) (I.hok.fresh (Nat.le_refl _)) (Nat.ne_of_lt (Nat.lt_succ_self _))
 have I2:=Inv.made (C:=C) I
 have r2:Vals (V.ref (s.heap.objs.size + 1) :: (vs ++ dvs)) (Value.ref (s.heap.objs.size + 1) :: (us ++ ds)):=.cons rfl (r.append hd)
 have hl:(Value.ref (s.heap.objs.size + 1) :: us ++ ds).length = ps.length:=by
  have e:=r2.length
  rw [F.len _ _ _ _ hq] at e
  exact e.symm
 refine wpAny_call (uT (f:=f) I.jB M.makes M.init (beq_iff_eq.mp M.fn) (codeAny_mono (F.run _ X.stack _ _ ⟨Value.ref (s.heap.objs.size + 1) :: us,[]⟩ (Value.ref (s.heap.objs.size + 1) :: (us ++ ds)) _ _ E (hr.make C us [])
  (I2.Ff.make C us []) (hb _ (Value.ref (s.heap.objs.size + 1) :: us) I2.jB hl) r2 hq) λr s' hq'=>?_))
 cases r with
 | error e=>exact hx pins Z _ _ e s' I2 hq'
 | ok fl =>
  cases fl with
  | ret u =>
   obtain ⟨v,H',I3,rv,ev,q3⟩:=I2.after hq'
   subst ev
   exact ⟨rv,⟨V.ref (s.heap.objs.size + 1),H',I3,rfl,q3⟩⟩
  | next=>exact False.elim hq'
  | brk=>exact False.elim hq'
  | cont=>exact False.elim hq'
theorem eT (M:Mk X.K C f) (F:bu X.prog X.w X.K X.mg X.base CX k f fd ps sp) (hr:fU (k + 1) X.A) (hg:Gl X x) (hm:X.mg x = some (.ref C)) (hb:Binds X.K fd ps ds) (hd:Vals dvs ds) (hx:Passes CX X E)
  (ha:PA X (e :: es) t) (hdb:(x == ("__debug__" : Str)) = false:=by decide) (he:starEach (e :: es) X.env = (false,eval e X.env) :: starEach es X.env:=by rfl) (hpl:(backTo pos (starEach es X.env)).any (·.1) = false:=by rfl) :
  PE X (.Call (.Name x p) (e :: es) [] pos) (Gu C sp dvs E t):=by
 intro pins s Z H Q I h
 refine wpAny_Call_Name_kw (gZ I hg hm ?_ hdb)
 refine PySem.W.callWith_K (h₀:=X.base) I.ok.mod.ug M.kp (cZ (ha pos pins s Z H _ I h) λus s1 ⟨vs,H1,I1,r,q⟩=>⟨I1.jB,?_⟩) he hpl
 exact CG M F hr hb hd hx I1 r q
end
section
variable {X:Cx} {CX:qw} {k:Nat} {f C:Addr} {fd:FuncData} {ps ks:List Str} {sp:Sp} {E:XK} {x m:Str} {p pos apos kpos:Pos} {e o:Expr} {es:List Expr} {kws:List Keyword} {te ta:TE} {t tk:TA} {nm:Option Str}
variable {g:List Value -> List Value -> List Value} {gV:List V -> List V -> List V}
end
structure aE (N P:List Str) (sc:Scope):Prop where
 kind:sc.kind = .function
 co:sc.isCoroutine = false
 gen:sc.isGenerator = false
 nd:N.Nodup
 pre:N.take P.length = P
 par:∀ x ∈ P,sc.names.lookup x = some .local ∨ sc.names.lookup x = some .cell
 JZ:∀ y ∈ sc.names,y.2 ≠ .free
theorem rM {kindOf:Str -> Option NameKind} {x:Str}:∀ {binds:List (Str × Value)} {m:Str -> Option Value},(∀ v,(x,v) ∉ binds) -> bindL kindOf binds m x = m x
 | [],_,_=>rfl
 | (n,v) :: r,m,h=>by
  unfold bindL
  rw [rM λw hw=>h w (List.mem_cons_of_mem _ hw)]
  split
  ·have:x ≠ n:=by rintro rfl;exact h v List.mem_cons_self
   simp [this]
  ·rfl
theorem r8 {kindOf:Str -> Option NameKind} {x:Str}:∀ {binds:List (Str × Value)} {m:Str -> Option Value},(∀ v,(x,v) ∉ binds) -> bindC kindOf binds m x = m x
 | [],_,_=>rfl
 | (n,v) :: r,m,h=>by
  unfold bindC
  rw [r8 λw hw=>h w (List.mem_cons_of_mem _ hw)]
  split
  ·rfl
  ·have:x ≠ n:=by rintro rfl;exact h v List.mem_cons_self
   simp [this]
theorem qI {kindOf:Str -> Option NameKind} {x:Str} {v:Value}:∀ {P:List Str} {vs:List Value} {i:Nat} {m:Str -> Option Value},P.Nodup -> P[i]? = some x -> vs[i]? = some v -> kindOf x = some .local ->
  bindL kindOf (P.zip vs) m x = some v
 | [],_,_,_,_,h,_,_=>by simp at h
 | _ :: _,[],_,_,_,_,h,_=>by simp at h
 | p :: P,w :: vs,0,m,nd,h1,h2,hk=>by
  simp at h1 h2;subst h1;subst h2
  show bindL kindOf ((p,w) :: P.zip vs) m p = _
  unfold bindL
  rw [rM λv hv=>(List.nodup_cons.mp nd).1 (List.of_mem_zip hv).1,if_pos hk]
  simp
 | p :: P,w :: vs,i + 1,m,nd,h1,h2,hk=>by
  show bindL kindOf ((p,w) :: P.zip vs) m x = _
  unfold bindL
  exact qI (i:=i) (List.nodup_cons.mp nd).2 (by simpa using h1) (by simpa using h2) hk
theorem qR {kindOf:Str -> Option NameKind} {x:Str} {v:Value}:∀ {P:List Str} {vs:List Value} {i:Nat} {m:Str -> Option Value},P.Nodup -> P[i]? = some x -> vs[i]? = some v -> kindOf x ≠ some .local ->
  bindC kindOf (P.zip vs) m x = some v
 | [],_,_,_,_,h,_,_=>by simp at h
 | _ :: _,[],_,_,_,_,h,_=>by simp at h
 | p :: P,w :: vs,0,m,nd,h1,h2,hk=>by
  simp at h1 h2;subst h1;subst h2
  show bindC kindOf ((p,w) :: P.zip vs) m p = _
  unfold bindC
  rw [r8 λv hv=>(List.nodup_cons.mp nd).1 (List.of_mem_zip hv).1,if_neg hk]
  simp
 | p :: P,w :: vs,i + 1,m,nd,h1,h2,hk=>by
  show bindC kindOf ((p,w) :: P.zip vs) m x = _
  unfold bindC
  exact qR (i:=i) (List.nodup_cons.mp nd).2 (by simpa using h1) (by simpa using h2) hk
def start (N:List Str) (vs:List V):St:=vs.map some ++ List.replicate (N.length - vs.length) none
def iB (CX:qw) (P:Program) (w:World) (K:PySem.W.Frag) (mg:Str -> Option Value) (base:Heap) (N:List Str) (qual:Str) (scope:Scope) (f:Addr) (cd:Value) (A:Around) (outer:List Env) (s:Shared) (H:Hp) (E:XK):Cx where
 prog:=P
 w:=w
 K:=K
 mg:=mg
 base:=base
 A:=A.deeper (envOfC qual scope s.heap.objs.size f cd)
 N:=N
 s₀:=s
 H₀:=H
 env:=envOfC qual scope s.heap.objs.size f cd
 outer:=outer
 stack:=envOfC qual scope s.heap.objs.size f cd :: outer
 ex:=[]
 calm:=true
 fn:=λ_=>true
 pn:=[]
 xe:=λe s'=>wpAny (model P w) (A.deeper (envOfC qual scope s.heap.objs.size f cd)) (leaving (envOfC qual scope s.heap.objs.size f cd) e) (λ_ s''=>CX outer H s E e s'') (λe' s''=>CX outer H s E e' s'') s'
theorem xo {sc:Scope} {n:Nat} {x:Str} (h:sc.names.lookup x = some .cell):∃ c,(cellsFrom n sc.names []).lookup x = some c:=by
 have q:=PySem.W.cellsFrom_some sc.names n [] (.inl h)
 exact Option.isSome_iff_exists.mp q
theorem A9 {CX:qw} {P:Program} {w:World} {K:PySem.W.Frag} {mg:Str -> Option Value} {base:Heap} {N ps:List Str} {qual:Str} {scope:Scope} {f:Addr} {cd:Value} {A:Around} {outer:List Env} {s s1:Shared} {H:Hp} {E:XK} {us:List Value} {vs:List V}
  (S:aE N ps scope) (hd:A.handled = none) (e0:xS P w K mg base A outer s H) (hl:vs.length = ps.length) (r:Vals vs us)
  (x:InCallC s s.heap.objs.size (bindL (envOfC qual scope s.heap.objs.size f cd).kindOf (ps.zip us) λ_=>none) (cellsFrom (s.heap.objs.size + 1) scope.names []) (bindC (envOfC qual scope s.heap.objs.size f cd).kindOf (ps.zip us) λ_=>none) s1) :
  Inv (iB CX P w K mg base N qual scope f cd A outer s H E) [] (start N vs) H s1:=by
 have hpl:ps.length <= N.length:=by have:=congrArg List.length S.pre;rw [List.length_take] at this;omega
 obtain ⟨h1,tk,rfl,hk⟩:=x.done
 have noA:∀ b:Addr,b ∉ (iB CX P w K mg base N qual scope f cd A outer s H E).ex:=λb z=>absurd (show b ∈ ([]:List Addr) from z) (by simp)
 refine ⟨⟨e0.mod,S.kind,rfl,rfl,Nat.le_refl _,λy z c h1 h2=>?_,λy hy=>?_,λy c _ h=>?_,λ_=>hd,Around.frames_deeper e0.frames,.inr ⟨rfl,rfl⟩,λb z=>absurd z (noA b),e0.bs,e0.Fw,λb _ _=>noA b,λb z=>absurd z (noA b),e0.lW,e0.FW⟩,
  rfl,e0.bare,Un.kept hk,⟨_,x.toInCall.ns,λi y v h1 h2 h3=>?_⟩,λy c h=>⟨_,x.cell y c h⟩,e0.hok.fresh (Nat.le_refl _),λy c h=>?_,λp hp=>absurd (show p ∈ ([]:List (Addr × Obj)) from hp) (by simp),e0.hok.kept hk,?_⟩
 ·exact name_of_addr x.apart (PySem.mem_of_lookup h1) (PySem.mem_of_lookup h2)
 ·have hy:scope.names.lookup y = some .cell ∨ scope.names.lookup y = some .free:=hy
  rcases hy with hy | hy
  ·exact xo hy
  ·exact absurd rfl (S.JZ _ (PySem.mem_of_lookup hy))
 ·exact Nat.le_of_lt (x.above y c (PySem.mem_of_lookup h))
 ·have hi:i < vs.length:=by
   unfold start at h2
   by_cases hi:i < vs.length
   ·exact hi
   ·rw [List.getElem?_append_right (by simpa using hi)] at h2
    rw [List.getElem?_replicate] at h2
    split at h2 <;> cases h2
  have ha:vs[i]? = some v:=by
   unfold start at h2
   rw [List.getElem?_append_left (by simpa using hi),List.getElem?_map] at h2
   cases e:vs[i]? with
   | none=>rw [e] at h2;cases h2
   | some a=>rw [e] at h2;cases h2;rfl
  obtain ⟨u,hu,rv⟩:=r.get ha
  have hp:ps[i]? = some y:=by
   rw [← S.pre,List.getElem?_take_of_lt (by omega)];exact h1
  have ndP:ps.Nodup:=by rw [← S.pre];exact S.nd.sublist (List.take_sublist _ _)
  refine ⟨u,rv,?_⟩
  rcases S.par y (List.mem_of_getElem? hp) with k | k
  ·exact .inl ⟨k,qI ndP hp hu k⟩
  ·obtain ⟨c,e⟩:=xo (n:=s.heap.objs.size + 1) k
   refine .inr ⟨.inl k,c,e,?_⟩
   have q:=x.cell y c e
   rw [qR ndP hp hu (by show scope.names.lookup y ≠ _;rw [k];decide)] at q
   exact q
 ·exact e0.hok.fresh (Nat.le_of_lt (x.above y c (PySem.mem_of_lookup h)))
 ·unfold start
  show _ = N.length
  rw [List.length_append,List.length_map,List.length_replicate]
  omega
theorem Gk {CX:qw} {P:Program} {w:World} {K:PySem.W.Frag} {mg:Str -> Option Value} {base:Heap} {k:Nat} {f:Addr} {name qual:Str} {params:Arguments} {body:List Stmt} {scope:Scope} {dV kV doc pm cdv ct oc:Value} {an od:Option Addr}
  {osl:Array (Option Value)} {N ps:List Str} {sp:Sp} (lk:K.lookup f = some ⟨oc,od,.func (PySem.W.fnOf name qual params body scope dV kV doc pm an cdv ct),osl⟩) (hcd:PySem.W.codeIn K cdv qual = true) (S:aE N ps scope)
  (len:∀ vs H Q E,sp vs H Q E -> vs.length = ps.length)
  (hbody:∀ (A:Around) (outer:List Env) (s:Shared) (H:Hp) (vs:List V) (Q:VK) (E:XK),fU k (A.deeper (envOfC qual scope s.heap.objs.size f cdv)) -> sp vs H Q E ->
   ∃ t,xZ (iB CX P w K mg base N qual scope f cdv A outer s H E) body t /\ t { nx:=λ_ H'=>Q .cL H',rt:=Q } (start N vs) H) :
  bu P w K mg base CX (k + 1) f (PySem.W.fnOf name qual params body scope dV kV doc pm an cdv ct) ps sp:=by
 refine ⟨len,λA outer s H args us vs Q E hr e0 hb r hsp=>?_⟩
 have hl:=len _ _ _ _ hsp
 have KX:K.In s.heap:=e0.mod.ug.keeps λb o e=>(e0.bs b o e).1
 have lim:s.heap.NoLimit:=e0.mod.nolimit.keeps λb o e=>(e0.bs b o e).1
 have hkind:∀ y ∈ ps.zip us,scope.names.lookup y.1 = some .local ∨ (scope.names.lookup y.1 = some .cell /\ ((cellsFrom (s.heap.objs.size + 1) scope.names []).lookup y.1).isSome = true):=λ⟨n,v⟩ hy=>by
  rcases S.par n (List.of_mem_zip hy).1 with q | q
  ·exact .inl q
  ·exact .inr ⟨q,PySem.W.cellsFrom_some _ _ _ (.inl q)⟩
 refine codeAny_call_function hr.depth (KX _ _ lk) rfl S.co S.gen rfl (PySem.W.codeRec_of KX hcd) (hb _ _ _ _ ?_)
 refine wpAny_newFunctionEnv_cells S.kind hkind λenv he s1 x=>?_
 subst he
 refine ⟨lim.keeps x.toInCall.keep,codeAny_func ?_⟩
 obtain ⟨t,ht,hq⟩:=hbody A outer s H vs Q E (hr.deeper _) hsp
 have I:Inv (iB CX P w K mg base N qual scope f cdv A outer s H E) [] (start N vs) H s1:=A9 S hr.hd e0 hl r x
 refine wpAny_mono (ht [] s1 (start N vs) H _ I hq) (λfl s' hs=>?_) λe s' hs=>hs
 have fin:∀ {Z':St} {H':Hp} {v:V} {u:Value},Inv (iB CX P w K mg base N qual scope f cdv A outer s H E) [] Z' H' s' -> RelV v u -> Q v H' -> CE outer P w H s Q u s' :=
  λ{Z' H' v u} J rv q=>⟨v,H',J.os,J.bare,J.base,J.hok,rv,q⟩
 cases fl with
 | ret u =>
  obtain ⟨v,Z',H',J,rv,q⟩:=hs
  exact fin J rv q
 | next =>
  obtain ⟨Z',H',J,q⟩:=hs
  exact fin (v:=V.cL) (u:=Value.none) J rfl q
 | brk =>
  obtain ⟨_,_,_,q⟩:=hs
  exact False.elim q
 | cont =>
  obtain ⟨_,_,_,q⟩:=hs
  exact False.elim q
end L2
namespace L2
open PySem PySem.Spec PyProof.Rows
section
variable {X:Cx} {x:Str} {p pos:Pos} {e:Expr} {es:List Expr} {t:TA} {id T:String} {r:List V -> Hp -> VK -> Prop}
def L7 (r:List V -> Hp -> VK -> Prop) (t:TA):TE:=λZ H Q=>t Z H λvs H1=>r vs H1 Q
theorem aO (hc:jo X (.builtin id) r) (hg:Gl X x) (hm:X.mg x = none) (hv:bootBuiltins x = some (.builtin id)) (ha:PA X (e :: es) t) (hn:x ≠ "__name__" := by decide) (hdb:(x == ("__debug__" : Str)) = false:=by decide)
  (he:starEach (e :: es) X.env = (false,eval e X.env) :: starEach es X.env:=by rfl) (hpl:(backTo pos (starEach es X.env)).any (·.1) = false:=by rfl):PE X (.Call (.Name x p) (e :: es) [] pos) (L7 r t):=by
 intro pins s Z H Q I h
 refine wpAny_Call_Name_kw (tL I hg hm hv ?_ hn hdb)
 exact PyProof.Rows.callWith_builtin1 (cZ (ha pos pins s Z H _ I h) λus s1 ⟨vs,H1,I1,r1,q1⟩=>hc pins s1 Z H1 vs us Q I1 r1 q1) he hpl
theorem cQ (hc:jo X (.type T) r) (hg:Gl X x) (hm:X.mg x = none) (hv:bootBuiltins x = some (.type T)) (ha:PA X (e :: es) t) (hn:x ≠ "__name__" := by decide) (hdb:(x == ("__debug__" : Str)) = false:=by decide)
  (he:starEach (e :: es) X.env = (false,eval e X.env) :: starEach es X.env:=by rfl) (hpl:(backTo pos (starEach es X.env)).any (·.1) = false:=by rfl):PE X (.Call (.Name x p) (e :: es) [] pos) (L7 r t):=by
 intro pins s Z H Q I h
 refine wpAny_Call_Name_kw (tL I hg hm hv ?_ hn hdb)
 exact PyProof.Rows.callWith_type1 (cZ (ha pos pins s Z H _ I h) λus s1 ⟨vs,H1,I1,r1,q1⟩=>hc pins s1 Z H1 vs us Q I1 r1 q1) he hpl
end
end L2
namespace HT
open PySem PyProof.Rows
section
open PySem.SeqAt
open PySem.AutoSeq1 (wpAny_loadPart')
open PySem.MeetsSeq PySem.MeetsSeq2 PySem.MeetsSeq3
end
section
variable {prog:Program} {w:World} {A:Around} {E:Value -> Shared -> Prop} {s:Shared}
def uz (n d:Nat):Option Int -> Nat
 | none=>d
 | some v=>if v < 0 then (v + (n:Int)).toNat else min v.toNat n
theorem Bs (n d:Nat):uz n d none = d:=rfl
theorem EM (n d k:Nat):uz n d (some (k:Int)) = min k n:=by
 show (if (k:Int) < 0 then ((k:Int) + (n:Int)).toNat else min (k:Int).toNat n) = min k n
 rw [if_neg (by omega),Int.toNat_natCast]
end
end HT
namespace L2
open PySem PySem.Spec PyProof.Rows
abbrev TO:=St -> Hp -> (Option Int -> Hp -> Prop) -> Prop
def PO (X:Cx) (e:Option Expr) (t:TO):Prop :=
 ∀ (pins:List (Addr × Obj)) (s:Shared) (Z:St) (H:Hp) (Q:Option Int -> Hp -> Prop),Inv X pins Z H s -> t Z H Q ->
  wpAny (model X.prog X.w) X.A (evalPart e X.env) (λu s'=>∃ o H',Inv X pins Z H' s' /\ IsPart u o /\ Q o H') X.xe s
def zq:TO:=λ_ H Q=>Q none H
def Gm (t:TE):TO:=λZ H Q=>t Z H λx H1=>∃ i,x = .int i /\ Q (some i) H1
section
variable {X:Cx} {e:Expr} {te:TE} {lo hi:Option Expr} {tl th:TO} {pos p2:Pos}
theorem FO:PO X none zq:=by
 intro pins s Z H Q I h
 rw [evalPart_none]
 exact wpAny_pure ⟨none,H,I,.none,h⟩
theorem sj (h:PE X e te):PO X (some e) (Gm te):=by
 intro pins s Z H Q I hw
 rw [evalPart_some]
 refine cZ (h pins s Z H _ I hw) λu s1 ⟨x,H1,I1,r1,q1⟩=>?_
 obtain ⟨i,rfl,q⟩:=q1
 obtain ⟨t,rfl⟩:=r1
 exact ⟨some i,H1,I1,.int i t,q⟩
def MM (X:Cx) (r:V -> Option Int -> Option Int -> Hp -> VK -> Prop):Prop :=
 ∀ (pins:List (Addr × Obj)) (s:Shared) (Z:St) (H:Hp) (x:V) (v vl vu:Value) (lo hi:Option Int) (sl:Addr) (Q:VK),Inv X pins Z H s -> RelV x v -> s.heap.IsSliceOf sl vl vu .none -> IsPart vl lo -> IsPart vu hi -> r x lo hi H Q ->
  ∃ T id,typeLookup (.type T) "__getitem__" = pure (some (.builtin id)) /\ s.TypeIs v T /\ wpAny (model X.prog X.w) X.A (getItem v (.ref sl)) (EP X pins Z Q) X.xe s
def tSl (r:V -> Option Int -> Option Int -> Hp -> VK -> Prop) (te:TE) (tl th:TO):TE:=λZ H Q=>te Z H λx H1=>tl Z H1 λl H2=>th Z H2 λu H3=>r x l u H3 Q
theorem wX {r:V -> Option Int -> Option Int -> Hp -> VK -> Prop} (hr:MM X r) (he:PE X e te) (hl:PO X lo tl) (hu:PO X hi th):PE X (.Subscript e (.Slice lo hi none p2) pos) (tSl r te tl th):=by
 intro pins s Z H Q I h
 refine Subscript_ (cZ (he pins s Z H _ I h) λv s1 ⟨x,H1,I1,r1,q1⟩=>?_)
 refine wpAny_Slice (cZ (hl pins s1 Z H1 _ I1 q1) λvl s2 ⟨l,H2,I2,pl,q2⟩=>cZ (hu pins s2 Z H2 _ I2 q2) λvu s3 ⟨u,H3,I3,pu,q3⟩=>?_)
 rw [evalPart_none]
 refine wpAny_pure ?_
 have I4:Inv X pins Z H3 { s3 with heap:=s3.heap.push { cls:=.type "slice",data:=.fields #[vl,vu,.none] } }:=I3.kept (t':=s3.toks) λb ob q=>Heap.get?_push_of_some _ q
 obtain ⟨T,id,hT,ht,hg⟩:=hr pins { s3 with heap:=s3.heap.push { cls:=.type "slice",data:=.fields #[vl,vu,.none] } } Z H3 x v vl vu l u s3.heap.objs.size Q I4 r1 (Heap.IsSliceOf.new ..) pl pu q3
 show wpAny (model X.prog X.w) X.A (subscriptTail e (.Slice lo hi none p2) v (.ref s3.heap.objs.size)) (EP X pins Z Q) X.xe { s3 with heap:=s3.heap.push { cls:=.type "slice",data:=.fields #[vl,vu,.none] } }
 exact tail_any (ops:=[.ref s3.heap.objs.size,v]) ht hT hg (by with_unfolding_all rfl)
def yu (xs:List V) (lo hi:Option Int):List V:=(xs.drop (HT.uz xs.length 0 lo)).take (HT.uz xs.length xs.length hi - HT.uz xs.length 0 lo)
theorem vS (xs:List V) (lo hi:Option Int):(yu xs lo hi).length <= xs.length:=by
 unfold yu
 rw [List.length_take,List.length_drop]
 omega
end
end L2
namespace L2
open PySem PySem.Spec PyProof.Rows
def Ez (n:Nat) (i:Int):Option Nat:=if 0 <= i then (if i < n then some i.toNat else none) else if -(n:Int) <= i then some (i + n).toNat else none
def qv {α:Type} (xs:List α) (i:Int):Option α:=(Ez xs.length i).bind λj=>xs[j]?
theorem zk {n:Nat} {i:Int} {j:Nat} (h:Ez n i = some j):seqIndex? i n = some j /\ j < n /\ -(n:Int) <= i /\ i < n:=by
 unfold Ez at h
 by_cases h0:0 <= i
 ·rw [if_pos h0] at h
  by_cases h1:i < n
  ·rw [if_pos h1] at h
   have e:i.toNat = j:=Option.some.inj h
   exact ⟨by rw [seqIndex_of h0 h1,e],by omega,by omega,h1⟩
  ·rw [if_neg h1] at h;cases h
 ·rw [if_neg h0] at h
  by_cases h1:-(n:Int) <= i
  ·rw [if_pos h1] at h
   have e:(i + n).toNat = j:=Option.some.inj h
   exact ⟨by rw [seqIndex_neg (by omega) h1,e],by omega,h1,by omega⟩
  ·rw [if_neg h1] at h;cases h
theorem tw {α:Type} {xs:List α} {i:Int} {v:α} (h:qv xs i = some v):∃ j,seqIndex? i xs.length = some j /\ xs[j]? = some v /\ j < xs.length /\ -(xs.length:Int) <= i /\ i < xs.length:=by
 unfold qv at h
 cases e:Ez xs.length i with
 | none=>rw [e] at h;cases h
 | some j =>
  rw [e] at h
  obtain ⟨h1,h2,h3,h4⟩:=zk e
  exact ⟨j,h1,h,h2,h3,h4⟩
theorem aS {α:Type} {xs:List α} {j:Nat} {v:α} (h:xs[j]? = some v):qv xs (j:Int) = some v:=by
 have hj:j < xs.length:=(List.getElem?_eq_some_iff.mp h).1
 have e:Ez xs.length (j:Int) = some j:=by
  unfold Ez
  rw [if_pos (by omega),if_pos (by omega)];simp
 unfold qv;rw [e];exact h
def FQ (b:Expr):Prop:=∀ o i,subscripted b false o i = operate [o,i] (getItem o i)
def Kl (X:Cx) (r:R2):Prop :=
 ∀ (value slice:Expr) (pins:List (Addr × Obj)) (s:Shared) (Z:St) (H:Hp) (x y:V) (v u:Value) (Q:VK),Inv X pins Z H s -> RelV x v -> RelV y u -> r x y H Q ->
  subscripted slice false v u = operate [v,u] (getItem v u) -> wpAny (model X.prog X.w) X.A (subscriptTail value slice v u) (EP X pins Z Q) X.xe s
def Kg (X:Cx) (id:String) (r:V -> List V -> Hp -> VK -> Prop):Prop :=
 ∀ (pins:List (Addr × Obj)) (s:Shared) (Z:St) (H:Hp) (x:V) (xs:List V) (v:Value) (us:List Value) (Q:VK),Inv X pins Z H s -> RelV x v -> Vals xs us -> r x xs H Q ->
  wpAny (model X.prog X.w) X.A (call (.builtin id) (v :: us)) (EP X pins Z Q) X.xe s
section
variable {X:Cx} {a b:Expr} {ta tb:TE} {pos:Pos}
theorem aK {r:R2} (hr:Kl X r) (ha:PE X a ta) (hb:PE X b tb) (hs:FQ b):PE X (.Subscript a b pos) (Kh r ta tb):=by
 intro pins s Z H Q I h
 exact Subscript_ (Jt ha hb I h λv u s2 x y H2 I2 rx ry q=>hr a b pins s2 Z H2 x y v u Q I2 rx ry q (hs _ _))
def GV (K:PySem.W.Frag):R2:=λx y H Q=>∃ p xs i v,x = .ref p /\ y = .int i /\ aP K H p xs /\ qv xs i = some v /\ Q v H
def JN (K:PySem.W.Frag):R2:=λx y H Q=>∃ p xs i v,x = .ref p /\ y = .int i /\ fL K H p xs /\ qv xs i = some v /\ Q v H
def K3:R2:=λx y H Q=>∃ z i c,x = .str z /\ y = .int i /\ z.length <= sizeLine /\ qv z.cps.toList i = some c /\ Q (.str ⟨#[c]⟩) H
theorem aQ:Kl X (GV X.K):=by
 intro value slice pins s Z H x y v u Q I rx ry h hs
 obtain ⟨p,xs,i,z,rfl,rfl,hq,he,q⟩:=h
 cases rx
 obtain ⟨t,rfl⟩:=ry
 obtain ⟨its,r,pl,hz⟩:=I.list hq
 obtain ⟨j,h1,h2,h3,h4,h5⟩:=tw he
 obtain ⟨w,ew,rw'⟩:=r.get h2
 have hl:=r.length
 have hn:=kK
 have fin:EP X pins Z Q w s:=⟨z,H,I,rw',q⟩
 by_cases h0:0 <= i
 ·have hj:i.toNat = j:=by
   rw [seqIndex_of h0 h5] at h1
   exact Option.some.inj h1
  exact item_listR pl.isList h0 (by omega) (by rw [hj];simpa using ew) fin hs
 ·have hj:(i + (its.toArray.size:Int)).toNat = j:=by
   rw [seqIndex_neg (by omega) h4] at h1
   rw [List.size_toArray,← hl]
   exact Option.some.inj h1
  exact subscriptTail_builtinR (x:=w) pl.isList.typeIs slot_list_getitem.lookup
   (wpAny_getItem_list_neg (Q:=λr s'=>r = w /\ EP X pins Z Q r s') pl.isList (by omega) (by rw [List.size_toArray] <;> omega) (by omega) (by rw [hj];simpa using ew) ⟨rfl,fin⟩) hs
theorem bR:Kl X (JN X.K):=by
 intro value slice pins s Z H x y v u Q I rx ry h hs
 obtain ⟨p,xs,i,z,rfl,rfl,hq,he,q⟩:=h
 cases rx
 obtain ⟨t,rfl⟩:=ry
 obtain ⟨its,r,pl,hz⟩:=I.tuple hq
 obtain ⟨j,h1,h2,h3,h4,h5⟩:=tw he
 obtain ⟨w,ew,rw'⟩:=r.get h2
 have hl:=r.length
 have hn:=kK
 have fin:EP X pins Z Q w s:=⟨z,H,I,rw',q⟩
 exact subscriptTail_builtinR (x:=w) pl.typeIs slot_tuple_getitem.lookup
  (getItem_tuple (j:=j) (Q:=λr s'=>r = w /\ EP X pins Z Q r s') pl (by omega) (by omega) (by rw [List.size_toArray,← hl];exact h1) (by simpa using ew) ⟨rfl,fin⟩) hs
theorem kM:Kl X K3:=by
 intro value slice pins s Z H x y v u Q I rx ry h hs
 obtain ⟨z,i,c,rfl,rfl,hz,he,q⟩:=h
 obtain ⟨t,rfl⟩:=rx
 obtain ⟨t',rfl⟩:=ry
 obtain ⟨j,h1,h2,h3,h4,h5⟩:=tw he
 have hl:z.cps.toList.length = z.length:=by simp [Str.length]
 rw [hl] at h1 h4 h5
 have hn:=kK
 exact tail_any (typeIs_str s z t) slot_str_getitem.lookup (getItem_str (c:=c) (by
  have e1:decide (i < -(2 ^ 63:Int)) = false:=decide_eq_false (by omega)
  have e2:decide (i ≥ 2 ^ 63) = false:=decide_eq_false (by omega)
  rw [e1,e2,Bool.or_false]) (by rw [h1];simpa using h2) ⟨.str ⟨#[c]⟩,H,I.tok _,⟨_,rfl⟩,q⟩) hs
theorem yo (its:List Value) (n j:Nat) (u:Value):Obj.mapSeq (·.setIfInBounds j u) { cls:=.type "list",data:=.seq its.toArray n } = { cls:=.type "list",data:=.seq (its.set j u).toArray n }:=by
 simp [Obj.mapSeq]
theorem Inv.lst {pins:List (Addr × Obj)} {Z:St} {H:Hp} {s:Shared} {p:Addr} {xs:List V} (I:Inv X pins Z H s) (h:H p = some (.lst xs)) :
  ∃ (its:List Value) (n:Nat),Vals xs its /\ s.heap.get? p = some { cls:=.type "list",data:=.seq its.toArray n } /\ xs.length <= sizeLine:=by
 obtain ⟨z,its,n,r,e⟩:=I.hok p _ h
 exact ⟨its,n,r,e,z⟩
theorem Inv.IZ {pins:List (Addr × Obj)} {Z:St} {H:Hp} {s:Shared} {p:Addr} {xs ys:List V} {its its':List Value} {n n':Nat} {f:Obj -> Obj} (I:Inv X pins Z H s) (h:H p = some (.lst xs))
  (ho:s.heap.get? p = some { cls:=.type "list",data:=.seq its.toArray n }) (hf:f { cls:=.type "list",data:=.seq its.toArray n } = { cls:=.type "list",data:=.seq its'.toArray n' }) (r:Vals ys its') (hz:ys.length <= sizeLine) (t:Nat) :
  Inv X pins Z (upd H p (.lst ys)) { s with heap:=s.heap.update p f,toks:=t }:=by
 have e:(s.heap.update p f).get? p = some { cls:=.type "list",data:=.seq its'.toArray n' }:=by
  rw [Heap.get?_update_self f ho (by rw [hf] <;> rfl),hf]
 refine I.write (x:=p) (e:=p) (by rw [h];trivial) (.inl rfl) (λb u hb q=>(Heap.get?_update_other _ _ (Ne.symm hb)).trans q) ⟨_,e⟩ ?_
 exact ⟨hz,its',n',r,e⟩
def KC:V -> V -> V -> Hp -> (Hp -> Prop) -> Prop:=λo i v H Q=>∃ p xs k j,o = .ref p /\ i = .int k /\ H p = some (.lst xs) /\ Ez xs.length k = some j /\ Q (upd H p (.lst (xs.set j v)))
theorem set_list:LF X KC:=by
 intro pins s Z H o i v ov iv u Q I ro ri rv h
 obtain ⟨p,xs,k,j,rfl,rfl,hp,hj,q⟩:=h
 cases ro
 obtain ⟨t,rfl⟩:=ri
 obtain ⟨its,n,r,ho,hz⟩:=I.lst hp
 obtain ⟨h1,h2,h3,h4⟩:=zk hj
 have hl:=r.length
 have hn:=kK
 have I':Inv X pins Z (upd H p (.lst (xs.set j v))) { s with heap:=s.heap.update p (Obj.mapSeq (·.setIfInBounds j u)) } :=
  I.IZ hp ho (yo its n j u) (r.set rv j) (by rw [List.length_set];exact hz) s.toks
 by_cases h0:0 <= k
 ·have hk:k.toNat = j:=by
   rw [seqIndex_of h0 h4] at h1
   exact Option.some.inj h1
  exact PySem.W.ki_setAt ho h0 (by omega) (by rw [List.size_toArray,← hl];exact h4) (by rw [hk];exact ⟨_,I',q⟩)
 ·have hk:(k + (its.toArray.size:Int)).toNat = j:=by
   rw [seqIndex_neg (by omega) h3] at h1
   rw [List.size_toArray,← hl]
   exact Option.some.inj h1
  exact PySem.W.ki_setBack ho (by omega) (by rw [List.size_toArray,← hl];exact h3) (by omega) (by rw [hk];exact ⟨_,I',q⟩)
theorem sR (lo hi:Option Int) (n:Nat):(sliceBounds lo hi none n).1 = ((HT.uz n 0 lo:Nat):Int) /\ (sliceBounds lo hi none n).2.1 = ((HT.uz n n hi:Nat):Int) /\ (sliceBounds lo hi none n).2.2 = 1:=by
 refine ⟨?_,?_,rfl⟩
 ·cases lo with
  | none=>simp [sliceBounds,HT.uz]
  | some i =>
   simp only [sliceBounds,HT.uz,Option.getD_none,show (1:Int) > 0 by decide,if_true]
   by_cases h:i < 0
   ·simp only [h,if_true] <;> omega
   ·simp only [h,if_false] <;> omega
 ·cases hi with
  | none=>simp [sliceBounds,HT.uz]
  | some i =>
   simp only [sliceBounds,HT.uz,Option.getD_none,show (1:Int) > 0 by decide,if_true]
   by_cases h:i < 0
   ·simp only [h,if_true] <;> omega
   ·simp only [h,if_false] <;> omega
theorem qz (its:List Value) (lo hi:Option Int):slicePick its.toArray lo hi none = ((its.drop (HT.uz its.length 0 lo)).take (HT.uz its.length its.length hi - HT.uz its.length 0 lo)).toArray:=by
 obtain ⟨h1,h2,h3⟩:=sR lo hi its.toArray.size
 unfold slicePick
 rw [h1,h2,h3]
 simp only [sliceRange_one,pick_run,List.size_toArray] <;> rfl
def MG (K:PySem.W.Frag):V -> Option Int -> Option Int -> Hp -> VK -> Prop:=λx lo hi H Q=>∃ a xs,x = .ref a /\ aP K H a xs /\ ∀ p,H p = none -> Q (.ref p) (upd H p (.lst (yu xs lo hi)))
theorem Fe:MM X (MG X.K):=by
 intro pins s Z H x v vl vu lo hi sl Q I rx hs pl pu h
 obtain ⟨a,xs,rfl,hx,q⟩:=h
 cases rx
 obtain ⟨its,r,ht,hz⟩:=I.list hx
 have hlen:=r.length
 refine ⟨"list",_,slot_list_getitem.lookup,ht.isList.typeIs,?_⟩
 refine wpAny_getItem_list_slice ht.isList hs pl pu .none (by simp) ?_ (by rw [List.size_toArray] <;> omega)
 rw [qz,← hlen]
 refine ⟨.ref s.heap.objs.size,_,I.laid (t':=s.toks) (o:=.lst (yu xs lo hi)) (λb ob q=>Heap.get?_push_of_some _ q) (Nat.le_refl _) ?_,rfl,q _ (I.hok.fresh (Nat.le_refl _))⟩
 exact ⟨Nat.le_trans (vS xs lo hi) hz,_,0,(r.drop (HT.uz xs.length 0 lo)).take (HT.uz xs.length xs.length hi - HT.uz xs.length 0 lo),Heap.get?_push_size _ rfl⟩
def gv:V -> Bool
 | .cL=>true
 | .bl _=>true
 | .int _=>true
 | .str _=>true
 | _=>false
def A8:V -> V -> Bool
 | .cL,.cL=>true
 | .bl a,.bl b=>a == b
 | .bl a,.int b=>(if a then 1 else 0) == b
 | .int a,.bl b=>a == (if b then 1 else 0)
 | .int a,.int b=>a == b
 | .str a,.str b=>a == b
 | _,_=>false
theorem xM {A:Around} {s:Shared} {y x:V} {u v:Value} (ry:RelV y u) (rx:RelV x v) (fy:gv y = true) (fx:gv x = true):SeqAt.EqAt A s u v (A8 y x):=by
 cases y with
 | cL =>
  cases ry
  cases x with
  | cL=>cases rx;exact SeqAt.EqAt.same _
  | bl b=>cases rx;exact SeqAt.EqAt.none_bool b
  | int b=>obtain ⟨t,rfl⟩:=rx;exact SeqAt.EqAt.none_int b t
  | str b=>obtain ⟨t,rfl⟩:=rx;exact SeqAt.EqAt.none_str b t
  | _=>exact absurd (show false = true from fx) Bool.false_ne_true
 | bl a =>
  cases ry
  cases x with
  | cL=>cases rx;exact SeqAt.EqAt.bool_none a
  | bl b=>cases rx;exact SeqAt.EqAt.bool_bool a b
  | int b=>obtain ⟨t,rfl⟩:=rx;exact SeqAt.EqAt.bool_int a b t
  | str b=>obtain ⟨t,rfl⟩:=rx;exact SeqAt.EqAt.bool_str a b t
  | _=>exact absurd (show false = true from fx) Bool.false_ne_true
 | int a =>
  obtain ⟨t',rfl⟩:=ry
  cases x with
  | cL=>cases rx;exact SeqAt.EqAt.int_none a t'
  | bl b=>cases rx;exact SeqAt.EqAt.int_bool a t' b
  | int b=>obtain ⟨t,rfl⟩:=rx;exact SeqAt.EqAt.int_int a t' b t
  | str b=>obtain ⟨t,rfl⟩:=rx;exact SeqAt.EqAt.int_str a t' b t
  | _=>exact absurd (show false = true from fx) Bool.false_ne_true
 | str a =>
  obtain ⟨t',rfl⟩:=ry
  cases x with
  | cL=>cases rx;exact SeqAt.EqAt.str_none a t'
  | bl b=>cases rx;exact SeqAt.EqAt.str_bool a t' b
  | int b=>obtain ⟨t,rfl⟩:=rx;exact SeqAt.EqAt.str_int a t' b t
  | str b=>obtain ⟨t,rfl⟩:=rx;exact SeqAt.EqAt.str_str a t' b t
  | _=>exact absurd (show false = true from fx) Bool.false_ne_true
 | _=>exact absurd (show false = true from fy) Bool.false_ne_true
def yr (x:V) (u:Value):Bool:=match u with
 | .none=>A8 .cL x
 | .bool b=>A8 (.bl b) x
 | .int i _=>A8 (.int i) x
 | .str z _=>A8 (.str z) x
 | _=>false
theorem Cu {x y:V} {u:Value} (r:RelV y u) (f:gv y = true):yr x u = A8 y x:=by
 cases y with
 | cL=>cases r;rfl
 | bl b=>cases r;rfl
 | int i=>obtain ⟨t,rfl⟩:=r;rfl
 | str z=>obtain ⟨t,rfl⟩:=r;rfl
 | _=>exact absurd (show false = true from f) Bool.false_ne_true
theorem kY {x:V}:∀ {xs:List V} {us:List Value},Vals xs us -> xs.all gv = true -> us.any (yr x) = xs.any λy=>A8 y x
 | _,_,.nil,_=>rfl
 | y :: xs,u :: us,.cons r t,f=>by
  rw [List.all_cons,Bool.and_eq_true] at f
  rw [List.any_cons,List.any_cons,Cu r f.1,kY t f.2]
theorem jA {A:Around} {s:Shared} {x:V} {v:Value} (rx:RelV x v) (fx:gv x = true):∀ {xs:List V} {us:List Value},Vals xs us -> xs.all gv = true -> ∀ u ∈ us,SeqAt.EqAt A s u v (yr x u)
 | _,_,.nil,_=>λu hu=>by cases hu
 | y :: xs,u :: us,.cons r t,f=>λu' hu=>by
  rw [List.all_cons,Bool.and_eq_true] at f
  rcases List.mem_cons.mp hu with rfl | hu
  ·rw [Cu r f.1];exact xM r rx f.1 fx
  ·exact jA rx fx t f.2 u' hu
def FG (x:V) (xs:List V):Bool:=xs.any λy=>A8 y x
def Mp (K:PySem.W.Frag) (neg:Bool):R2:=λx y H Q=>∃ p xs,y = .ref p /\ (aP K H p xs ∨ fL K H p xs) /\ gv x = true /\ xs.all gv = true /\ Q (.bl (if neg then !FG x xs else FG x xs)) H
theorem fP:kX X (compareOp .In) (Mp X.K false):=by
 intro pins s Z H x y v u Q I rx ry h
 obtain ⟨p,xs,rfl,hq,fx,fs,q⟩:=h
 cases ry
 rcases hq with hq | hq
 ·obtain ⟨its,r,pl,hz⟩:=I.list hq
  refine SeqAt.in_listAt (yr x) pl.isList (λw hw=>jA rx fx r fs w (by simpa using hw)) ⟨.bl _,H,I,rfl,?_⟩
  rw [show its.toArray.any (yr x) = its.any (yr x) by simp,kY r fs]
  exact q
 ·obtain ⟨its,r,pl,hz⟩:=I.tuple hq
  refine SeqAt.in_tupleAt (yr x) pl (λw hw=>jA rx fx r fs w (by simpa using hw)) ⟨.bl _,H,I,rfl,?_⟩
  rw [show its.toArray.any (yr x) = its.any (yr x) by simp,kY r fs]
  exact q
theorem k9:kX X (compareOp .NotIn) (Mp X.K true):=by
 intro pins s Z H x y v u Q I rx ry h
 obtain ⟨p,xs,rfl,hq,fx,fs,q⟩:=h
 cases ry
 rcases hq with hq | hq
 ·obtain ⟨its,r,pl,hz⟩:=I.list hq
  refine SeqAt.notIn_listAt (yr x) pl.isList (λw hw=>jA rx fx r fs w (by simpa using hw)) ⟨.bl _,H,I,rfl,?_⟩
  rw [show its.toArray.any (yr x) = its.any (yr x) by simp,kY r fs]
  exact q
 ·obtain ⟨its,r,pl,hz⟩:=I.tuple hq
  refine SeqAt.notIn_tupleAt (yr x) pl (λw hw=>jA rx fx r fs w (by simpa using hw)) ⟨.bl _,H,I,rfl,?_⟩
  rw [show its.toArray.any (yr x) = its.any (yr x) by simp,kY r fs]
  exact q
theorem bh:jo X (.builtin "len") (λxs H Q=>∃ p ys,xs = [.ref p] /\ (aP X.K H p ys ∨ fL X.K H p ys) /\ Q (.int ys.length) H):=by
 intro pins s Z H xs us Q I r h
 obtain ⟨p,ys,rfl,hq,q⟩:=h
 obtain ⟨u,rfl,rx⟩:=vals1 r
 cases rx
 have hn:=kK
 rcases hq with hq | hq
 ·obtain ⟨its,r',pl,hz⟩:=I.list hq
  have hlen:=r'.length
  exact Calls.call_len_list pl.isList (by simp only [List.size_toArray] <;> omega) ⟨.int ys.length,H,I.tok _,⟨s.toks + 1,by rw [List.size_toArray,hlen]⟩,q⟩
 ·obtain ⟨its,r',pl,hz⟩:=I.tuple hq
  have hlen:=r'.length
  exact len_tuple pl (by simp only [List.size_toArray] <;> omega) ⟨.int ys.length,H,I.tok _,⟨s.toks + 1,by rw [List.size_toArray,hlen]⟩,q⟩
theorem br:jo X (.builtin "len") (λxs H Q=>∃ z,xs = [.str z] /\ z.length <= sizeLine /\ Q (.int z.length) H):=by
 intro pins s Z H xs us Q I r h
 obtain ⟨z,rfl,hz,q⟩:=h
 obtain ⟨u,rfl,t,rfl⟩:=vals1 r
 have hn:=kK
 exact len_str (by omega) ⟨.int z.length,H,I.tok _,⟨_,rfl⟩,q⟩
theorem cG:jo X (.type "list") (λxs H Q=>∃ p ys,xs = [.ref p] /\ (aP X.K H p ys ∨ fL X.K H p ys) /\ ∀ l,H l = none -> Q (.ref l) (upd H l (.lst ys))):=by
 intro pins s Z H xs us Q I r h
 obtain ⟨p,ys,rfl,hq,q⟩:=h
 obtain ⟨u,rfl,rx⟩:=vals1 r
 cases rx
 have fin:∀ (its:List Value),Vals ys its -> ys.length <= sizeLine -> ∀ (h':Heap) (c':Nat),(∀ b o',s.heap.get? b = some o' -> h'.get? b = some o') ->
   h'.get? s.heap.objs.size = some { cls:=.type "list",dict:=none,data:=.seq its.toArray c',slots:=#[] } -> EP X pins Z Q (.ref s.heap.objs.size) { s with heap:=h' }:=λits r' hz h' c' kp e =>
  ⟨.ref s.heap.objs.size,_,I.laid (t':=s.toks) kp (Nat.le_refl _) (show cS X.prog X.w _ h' _ (.lst ys) from ⟨hz,its,c',r',e⟩),rfl,q _ (I.hok.fresh (Nat.le_refl _))⟩
 rcases hq with hq | hq
 ·obtain ⟨its,r',pl,hz⟩:=I.list hq
  have hlen:=r'.length
  obtain ⟨o,ho,hc,n,hd⟩:=pl.isList
  exact call_list_seq p (.inl rfl) ho hc hd (λh' c' kp e=>fin its r' hz h' c' kp e) (by simp only [List.size_toArray] <;> omega)
 ·obtain ⟨its,r',pl,hz⟩:=I.tuple hq
  have hlen:=r'.length
  obtain ⟨o,ho,hc,n,hd⟩:=pl
  exact call_list_seq p (.inr rfl) ho hc hd (λh' c' kp e=>fin its r' hz h' c' kp e) (by simp only [List.size_toArray] <;> omega)
theorem qy:jo X (.type "tuple") (λxs H Q=>∃ p ys,xs = [.ref p] /\ ((aP X.K H p ys /\ ∀ l,H l = none -> Q (.ref l) (upd H l (.tup ys))) ∨ (fL X.K H p ys /\ Q (.ref p) H))):=by
 intro pins s Z H xs us Q I r h
 obtain ⟨p,ys,rfl,h⟩:=h
 obtain ⟨u,rfl,rx⟩:=vals1 r
 cases rx
 rcases h with ⟨hq,q⟩ | ⟨hq,q⟩
 ·obtain ⟨its,r',pl,hz⟩:=I.list hq
  have hlen:=r'.length
  refine call_tuple_list pl.isList (λh' kp=>?_) (by simp only [List.size_toArray] <;> omega)
  have I1:Inv X pins Z H { s with heap:=h' }:=I.kept (t':=s.toks) kp
  have I2:Inv X pins Z (upd H h'.objs.size (.tup ys)) { s with heap:=h'.push { cls:=.type "tuple",data:=.seq its.toArray } } :=
   I1.laid (t':=s.toks) (λb o e=>Heap.get?_push_of_some _ e) (Nat.le_refl _) (show cS X.prog X.w _ _ _ (.tup ys) from ⟨hz,its,r',IsTup.new _ _⟩)
  exact ⟨.ref h'.objs.size,_,I2,rfl,q _ (I1.hok.fresh (Nat.le_refl _))⟩
 ·obtain ⟨its,r',pl,hz⟩:=I.tuple hq
  exact call_tuple_same pl ⟨.ref p,H,I,rfl,q⟩
def MP (K:PySem.W.Frag) (T:String) (x:V) (H:Hp):Prop:=match x with
 | .str _=>T = "str"
 | .int _=>T = "int"
 | .ref p=>(T = "list" /\ ∃ xs,aP K H p xs) ∨ (T = "tuple" /\ ∃ o,K.lookup p = some o /\ o.cls = .type "tuple" /\ o.dict = none) ∨
   (T = "dict" /\ ((∃ kvs,H p = some (.dK kvs)) ∨ ∃ kvs,H p = some (.dT kvs))) ∨ (T = "set" /\ ∃ S n,H p = some (.set S n))
 | _=>False
theorem Dp {pins:List (Addr × Obj)} {Z:St} {H:Hp} {s:Shared} {T:String} {x:V} {v:Value} (I:Inv X pins Z H s) (r:RelV x v) (ty:MP X.K T x H) :
  s.TypeIs v T /\ ∀ a,v = .ref a -> ∃ ob,s.heap.get? a = some ob /\ ob.dict = none:=by
 cases x with
 | str z =>
  obtain ⟨t,rfl⟩:=r
  cases (show T = "str" from ty)
  exact ⟨typeIs_str s z t,λ_ e=>nomatch e⟩
 | int i =>
  obtain ⟨t,rfl⟩:=r
  cases (show T = "int" from ty)
  exact ⟨typeIs_int s i t,λ_ e=>nomatch e⟩
 | ref p =>
  cases r
  rcases ty with ⟨rfl,xs,hq⟩ | ⟨rfl,o,hk,hc,hd⟩ | ⟨rfl,hk⟩ | ⟨rfl,S,n,hk⟩
  ·obtain ⟨its,_,pl,_⟩:=I.list hq
   refine ⟨pl.isList.typeIs,λa e=>?_⟩
   cases e
   obtain ⟨o,n,e,c,hd,_⟩:=pl
   exact ⟨o,e,hd⟩
  ·refine ⟨⟨o,I.jB p o hk,hc⟩,λa e=>?_⟩
   cases e
   exact ⟨o,I.jB _ o hk,hd⟩
  ·have z:∃ o,s.heap.get? p = some o /\ o.ExactDict:=by
    rcases hk with ⟨kvs,hk⟩ | ⟨kvs,hk⟩
    ·obtain ⟨_,_,_,_,o,_,_,e,ex,_⟩:=I.hok p _ hk
     exact ⟨o,e,ex⟩
    ·obtain ⟨_,_,_,_,o,_,_,e,ex,_⟩:=I.hok p _ hk
     exact ⟨o,e,ex⟩
   obtain ⟨o,e,ex⟩:=z
   refine ⟨⟨o,e,ex.1⟩,λa e2=>?_⟩
   cases e2
   exact ⟨o,e,ex.2.1⟩
  ·obtain ⟨o,_,_,_,e,ex,_⟩:=I.hok p _ hk
   refine ⟨⟨o,e,ex.1⟩,λa e2=>?_⟩
   cases e2
   exact ⟨o,e,ex.2.1⟩
 | _=>exact False.elim ty
def LA (K:PySem.W.Frag) (T:String) (r:V -> List V -> Hp -> VK -> Prop) (to:TE):TE:=λZ H Q=>to Z H λx H1=>MP K T x H1 /\ r x [] H1 Q
def tBM (K:PySem.W.Frag) (T:String) (r:V -> List V -> Hp -> VK -> Prop) (to:TE) (t:TA):TE:=λZ H Q=>to Z H λx H1=>MP K T x H1 /\ t Z H1 λxs H2=>r x xs H2 Q
variable {o e:Expr} {es:List Expr} {to:TE} {t:TA} {name:Str} {apos cpos:Pos} {T id:String} {r:V -> List V -> Hp -> VK -> Prop}
theorem DB (pa:PlainAttrs T) (slot:Slot T name id) (hty:typeOf (.builtin id) = pure (.type "method_descriptor")) (hm:Kg X id r) (ho:PE X o to)
  (hbase:attributeBase o name X.env (eval o X.env) = eval o X.env:=by rfl) (hline:(apos.endLine == cpos.line) = true:=by rfl):PE X (.Call (.Attribute o name apos) [] [] cpos) (LA X.K T r to):=by
 intro pins s Z H Q I h
 refine wpAny_Call_method0_late hbase hline (cZ (ho pins s Z H _ I h) λv s1 ⟨x,H1,I1,r1,ty,q1⟩=>?_)
 obtain ⟨h1,h2⟩:=Dp I1 r1 ty
 exact ⟨T,id,pa,slot,hty,h1,h2,Calls.callWith_builtin rfl (PySem.evalArgs_none (hm pins s1 Z H1 x [] v [] Q I1 r1 .nil q1))⟩
theorem dc (pa:PlainAttrs T) (slot:Slot T name id) (hty:typeOf (.builtin id) = pure (.type "method_descriptor")) (hm:Kg X id r) (ho:PE X o to) (ha:PA X (e :: es) t)
  (hbase:attributeBase o name X.env (eval o X.env) = eval o X.env:=by rfl)
  (hfew:((backTo cpos (starEach (e :: es) X.env)).all (λx=>!x.1) && (backToKw cpos (keywordEach [] X.env)).all (λx=>x.1.isSome)
   && decide ((e :: es).length + ([]:List Keyword).length + (if ([]:List Keyword).isEmpty then 0 else 1) < 30)) = true:=by rfl)
  (hline:(apos.endLine == cpos.line) = true:=by rfl) (hs:starEach (e :: es) X.env = (false,eval e X.env) :: starEach es X.env:=by rfl) (hplain:(backTo cpos (starEach es X.env)).any (·.1) = false:=by rfl) :
  PE X (.Call (.Attribute o name apos) (e :: es) [] cpos) (tBM X.K T r to t):=by
 intro pins s Z H Q I h
 refine wpAny_Call_method_late hbase hfew hline rfl (cZ (ho pins s Z H _ I h) λv s1 ⟨x,H1,I1,r1,ty,q1⟩=>?_)
 obtain ⟨h1,h2⟩:=Dp I1 r1 ty
 refine ⟨T,id,pa,slot,hty,h1,h2,?_⟩
 have hA:=ha cpos pins s1 Z H1 _ I1 q1
 rw [hs] at hA ⊢
 refine Calls.callWith_builtin (by show (false || (backTo cpos (starEach es X.env)).any (·.1)) = false;rw [hplain] <;> rfl) (Calls.evalArgs_plain ?_)
 exact cZ hA λus s2 ⟨vs,H2,I2,r2,q2⟩=>hm pins s2 Z H2 x vs v us Q I2 r1 r2 q2
end
end L2
namespace L2
open PySem PySem.Spec PyProof.Rows
def Ml (X:Cx) (id:String) (r:V -> List V -> Hp -> VK -> Prop):Prop :=
 ∀ (pins:List (Addr × Obj)) (s:Shared) (Z:St) (H:Hp) (x:V) (xs:List V) (v:Value) (us:List Value) (Q:VK),Inv X pins Z H s -> RelV x v -> Vals xs us -> r x xs H Q ->
  wpAny (model X.prog X.w) X.A (call (.builtin id) (v :: us)) (EP X pins Z Q) X.xe s
theorem Vals.one:∀ {x:V} {us:List Value},Vals [x] us -> ∃ u,us = [u] /\ RelV x u
 | _,_,.cons r .nil=>⟨_,rfl,r⟩
theorem Vals.two:∀ {x y:V} {us:List Value},Vals [x,y] us -> ∃ u v,us = [u,v] /\ RelV x u /\ RelV y v
 | _,_,_,.cons r (.cons q .nil)=>⟨_,_,rfl,r,q⟩
theorem Vals.zero:∀ {us:List Value},Vals [] us -> us = []
 | _,.nil=>rfl
theorem Vals.dropLast {xs:List V} {us:List Value} (h:Vals xs us):Vals xs.dropLast us.dropLast:=by
 induction h with
 | nil=>exact .nil
 | cons r t ih =>
  cases t with
  | nil=>exact .nil
  | cons q t'=>exact .cons r ih
theorem Vals.rep {xs:List V} {us:List Value} (h:Vals xs us):∀ k:Nat,Vals (List.replicate k xs).flatten (List.replicate k us).flatten
 | 0=>.nil
 | k + 1=>by
  rw [List.replicate_succ,List.replicate_succ,List.flatten_cons,List.flatten_cons]
  exact Vals.append h (Vals.rep h k)
theorem xG {α:Type} (l:List α):l.eraseIdx (l.length - 1) = l.dropLast:=by
 induction l with
 | nil=>rfl
 | cons a r ih =>
  cases r with
  | nil=>rfl
  | cons b r =>
   have e:(a :: b :: r).length - 1 = ((b :: r).length - 1) + 1:=by
    have h1:(a :: b :: r).length = r.length + 2:=rfl
    have h2:(b :: r).length = r.length + 1:=rfl
    omega
   rw [e,List.eraseIdx_cons_succ,ih]
   all_goals rfl
theorem foldl_rep (its:List Value):∀ (k:Nat) (acc:List Value),
  List.foldl (λx1 x2=>x1 ++ x2) acc.toArray (List.replicate k its.toArray) = (acc ++ (List.replicate k its).flatten).toArray
 | 0,acc=>by simp
 | k + 1,acc=>by
  have e:acc.toArray ++ its.toArray = (acc ++ its).toArray:=by simp
  have e2:(acc ++ its) ++ (List.replicate k its).flatten = acc ++ (List.replicate (k + 1) its).flatten:=by
   rw [List.replicate_succ,List.flatten_cons,List.append_assoc]
  rw [← e2,← foldl_rep its k (acc ++ its),← e,List.replicate_succ,List.foldl_cons]
section
variable {X:Cx} {pins:List (Addr × Obj)} {Z:St} {H:Hp} {s:Shared} {l b:Addr} {xs ys zs:List V}
theorem Inv.Hi {its its':List Value} {n:Nat} {f:Array Value -> Array Value} {t':Nat} (I:Inv X pins Z H s) (hH:H l = some (.lst xs))
  (e:s.heap.get? l = some { cls:=.type "list",data:=.seq its.toArray n }) (hf:f its.toArray = its'.toArray) (hv:Vals ys its') (hz:ys.length <= sizeLine) :
  Inv X pins Z (upd H l (.lst ys)) { s with heap:=s.heap.update l (Obj.mapSeq f),toks:=t' }:=by
 have q:=PySem.IsL.update e f
 rw [hf] at q
 refine I.write (x:=l) (e:=l) (by rw [hH];exact trivial) (.inl rfl) (λb' u hb hu=>(Heap.get?_update_other s.heap (Obj.mapSeq f) (Ne.symm hb)).trans hu) ⟨_,q⟩ ?_
 exact ⟨hz,its',_,hv,q⟩
theorem Inv.DH {its:List Value} {t':Nat} (I:Inv X pins Z H s) (hv:Vals ys its) (hz:ys.length <= sizeLine) :
  Inv X pins Z (upd H s.heap.objs.size (.lst ys)) { s with heap:=s.heap.push { cls:=.type "list",data:=.seq its.toArray },toks:=t' } :=
 I.laid (λ_ _ q=>Heap.get?_push_of_some _ q) (Nat.le_refl _) ⟨hz,its,0,hv,Heap.get?_push_size _ rfl⟩
theorem Inv.fresh (I:Inv X pins Z H s):H s.heap.objs.size = none:=I.hok.fresh (Nat.le_refl _)
theorem Inv.xV (I:Inv X pins Z H s) (hH:H l = some (.lst xs)):xs.length <= sizeLine /\ ∃ (its:List Value) (n:Nat),Vals xs its /\ xs.length = its.length /\ s.heap.get? l = some { cls:=.type "list",data:=.seq its.toArray n }:=by
 obtain ⟨z,its,n,r,e⟩:=I.hok l _ hH
 exact ⟨z,its,n,r,r.length,e⟩
theorem wM {n:Nat} (h:n <= sizeLine):Builtin.List.listTooLong n = false:=by
 unfold Builtin.List.listTooLong
 exact decide_eq_false (by omega)
end
section
variable {X:Cx}
def EH:V -> List V -> Hp -> VK -> Prop:=λx vs H Q=>∃ l xs y,x = .ref l /\ vs = [y] /\ H l = some (.lst xs) /\ xs.length < sizeLine /\ Q .cL (upd H l (.lst (xs ++ [y])))
theorem bF:Ml X "list.append" EH:=by
 intro pins s Z H x vs v us Q I rx rv h
 obtain ⟨l,xs,y,rfl,rfl,hH,hz,q⟩:=h
 cases rx
 obtain ⟨u,rfl,ru⟩:=rv.one
 obtain ⟨z,its,n,r,hl,e⟩:=I.xV hH
 refine call_meets F.slot_list_append ⟨_,e,rfl⟩ F.entry_list_append (F.args_list_append_2 _ _) (PySem.list_append l its.toArray n u (by rw [List.size_toArray];omega)) ⟨e,?_⟩
 refine ⟨.cL,_,I.Hi (its':=its ++ [u]) hH e (by simp) (r.append (.cons ru .nil)) ?_,rfl,q⟩
 rw [List.length_append,List.length_singleton]
 omega
def Fo:V -> List V -> Hp -> VK -> Prop:=λx vs H Q=>∃ l b xs zs,x = .ref l /\ vs = [.ref b] /\ H l = some (.lst xs) /\ H b = some (.lst zs) /\ xs.length + zs.length <= sizeLine /\ Q .cL (upd H l (.lst (xs ++ zs)))
theorem AK:Ml X "list.extend" Fo:=by
 intro pins s Z H x vs v us Q I rx rv h
 obtain ⟨l,b,xs,zs,rfl,rfl,hH,hB,hz,q⟩:=h
 cases rx
 obtain ⟨u,rfl,ru⟩:=rv.one
 cases ru
 obtain ⟨z,its,n,r,hl,e⟩:=I.xV hH
 obtain ⟨z2,its2,n2,r2,hl2,e2⟩:=I.xV hB
 have hsz:its.toArray.size + its2.toArray.size <= sizeLine:=by rw [List.size_toArray,List.size_toArray];omega
 have hlong:¬ (!its.toArray.isEmpty && Builtin.List.listTooLong (its.toArray.size + its2.toArray.size)) = true:=by
  rw [wM hsz,Bool.and_false]
  exact Bool.false_ne_true
 refine call_meets F.slot_list_extend ⟨_,e,rfl⟩ F.entry_list_extend (F.args_list_extend_2 _ _)
  (AutoSeq1.list_extend_list_list_0 l its.toArray n b its2.toArray n2 hlong (by rw [List.size_toArray];omega) (by omega)) ⟨e,e2,?_⟩
 refine ⟨.cL,_,I.Hi (its':=its ++ its2) hH e (by simp) (r.append r2) ?_,rfl,q⟩
 rw [List.length_append]
 omega
def Me:V -> List V -> Hp -> VK -> Prop:=λx vs H Q=>∃ l xs y,x = .ref l /\ vs = [] /\ H l = some (.lst xs) /\ xs[xs.length - 1]? = some y /\ Q y (upd H l (.lst xs.dropLast))
theorem BK:Ml X "list.pop" Me:=by
 intro pins s Z H x vs v us Q I rx rv h
 obtain ⟨l,xs,y,rfl,rfl,hH,hy,q⟩:=h
 cases rx
 have hus:=rv.zero
 subst hus
 obtain ⟨z,its,n,r,hl,e⟩:=I.xV hH
 obtain ⟨u,hu,ru⟩:=r.get hy
 have hy':its.toArray[its.toArray.size - 1]? = some u:=by
  show its.toArray[its.length - 1]? = some u
  rw [← Array.getElem?_toList,← hl]
  exact hu
 refine call_meets F.slot_list_pop ⟨_,e,rfl⟩ F.entry_list_pop (F.args_list_pop_1 _) (MeetsSeq.list_pop_last l its.toArray n u hy' (by rw [List.size_toArray];omega)) ⟨e,?_⟩
 refine ⟨y,_,I.Hi (its':=its.dropLast) hH e ?_ r.dropLast ?_,ru,q⟩
 ·show its.toArray.eraseIdxIfInBounds (its.toArray.size - 1) = its.dropLast.toArray
  rw [List.size_toArray,List.eraseIdxIfInBounds_toArray,xG]
 ·rw [List.length_dropLast]
  omega
def MV:R2:=λx y H Q=>∃ l b xs zs,x = .ref l /\ y = .ref b /\ H l = some (.lst xs) /\ H b = some (.lst zs) /\ xs.length + zs.length <= sizeLine /\ ∀ p,H p = none -> Q (.ref p) (upd H p (.lst (xs ++ zs)))
theorem kQ:kX X (binaryOp .Add) MV:=by
 intro pins s Z H x y v u Q I rx ry h
 obtain ⟨l,b,xs,zs,rfl,rfl,hH,hB,hz,q⟩:=h
 cases rx
 cases ry
 obtain ⟨z,its,n,r,hl,e⟩:=I.xV hH
 obtain ⟨z2,its2,n2,r2,hl2,e2⟩:=I.xV hB
 refine PySem.P.add_list e e2 ?_ (by rw [List.size_toArray,List.size_toArray];omega)
 have ea:its.toArray ++ its2.toArray = (its ++ its2).toArray:=by simp
 rw [ea]
 exact ⟨.ref _,_,I.DH (t':=s.toks) (r.append r2) (by rw [List.length_append];omega),rfl,q _ I.fresh⟩
def Mr:R2:=λx y H Q=>∃ l k xs,x = .ref l /\ y = .int k /\ H l = some (.lst xs) /\ -(2 ^ 63) <= k /\ k < 2 ^ 63 /\ xs.length * k.toNat <= sizeLine /\
 ∀ p,H p = none -> Q (.ref p) (upd H p (.lst (List.replicate k.toNat xs).flatten))
theorem len_rep {α:Type} (xs:List α) (k:Nat):(List.replicate k xs).flatten.length = k * xs.length:=by
 induction k with
 | zero=>simp
 | succ k ih=>rw [List.replicate_succ,List.flatten_cons,List.length_append,ih,Nat.succ_mul,Nat.add_comm]
theorem Be:kX X (binaryOp .Mult) Mr:=by
 intro pins s Z H x y v u Q I rx ry h
 obtain ⟨l,k,xs,rfl,rfl,hH,h1,h2,hz,q⟩:=h
 cases rx
 obtain ⟨t,rfl⟩:=ry
 obtain ⟨z,its,n,r,hl,e⟩:=I.xV hH
 have hlen:its.toArray.size * k.toNat <= sizeLine:=by rw [List.size_toArray,← hl];exact hz
 have hcap:¬ its.toArray.size * k.toNat > (2 ^ 63 - 1) / 8:=by
  have:(sizeLine:Nat) <= (2 ^ 63 - 1) / 8:=by decide
  omega
 have hfit:¬ (!Builtin.List.listFitsIndex k) = true:=by
  rw [fitsIndex_both h1 h2]
  exact Bool.false_ne_true
 have hlong:¬ Builtin.List.listTooLong (its.toArray.size * k.toNat) = true:=by
  rw [wM hlen]
  exact Bool.false_ne_true
 have hnew:List.foldl (λx1 x2=>x1 ++ x2) #[] (List.replicate (if its.toArray.isEmpty = true then 0 else k.toNat) its.toArray) = (List.replicate k.toNat its).flatten.toArray:=by
  have f0:∀ m:Nat,List.foldl (λx1 x2=>x1 ++ x2) #[] (List.replicate m its.toArray) = (List.replicate m its).flatten.toArray:=λm=>by
   have:=foldl_rep its m []
   rw [List.nil_append] at this
   exact this
  rw [f0]
  cases its with
  | nil=>simp
  | cons a r'=>rw [if_neg (by simp)]
 refine wpAny_binaryOp_repeat_ref (T:="list") (U:="int") (by decide) ⟨_,e,rfl⟩ (λs'=>typeIs_int s' k t) noFill_list_mul F.fills_int_mul F.slot_int_rmul repeat_list F.slot_int_index.lookup
  (call_meets F.slot_int_rmul (typeIs_int s k t) F.entry_int_rmul (F.args_int_rmul_2 _ _) (int___rmul___int_list k t l its.toArray n)
   ⟨e,rfl,⟨_,e,rfl⟩,call_meets F.slot_list_mul ⟨_,e,rfl⟩ F.entry_list_mul (F.args_list_mul_2 _ _) (AutoListH.list___mul___list_int_3 l its.toArray n k t hfit hcap hlong) ⟨e,?_⟩⟩)
 rw [hnew]
 exact ⟨.ref _,_,I.DH (t':=s.toks) (r.rep k.toNat) (by rw [len_rep,Nat.mul_comm];exact hz),rfl,q _ I.fresh⟩
end
section
variable {prog:Program} {w:World} {A:Around} {E:Value -> Shared -> Prop} {s:Shared}
set_option maxRecDepth 100000 in
end
section
variable {X:Cx}
end
end L2
namespace Att
open PySem PySem.W PySem.Calls PyProof.Rows
theorem nE {P:Params} {h:Heap}:∀ (ns:List Int) (vs:List Value),WellAll P h vs (ns.map WData.int) -> IntsAre vs ns:=by
 intro ns
 induction ns with
 | nil =>
  intro vs w
  rw [List.map_nil] at w
  cases w
  exact .nil
 | cons n ns ih =>
  intro vs w
  rw [List.map_cons] at w
  cases w with
  | cons a b =>
   cases a
   exact .cons _ _ (ih _ b)
theorem AV {l:OpenLaw} {n:Nat} (hn:l.most = some n) {P:Params} {h:Heap} {args:List WData} {vals:List Value}
  (hpre:l.row.toRowW.claim.pre args = true) (hwl:WellAll P h vals args) :
  ∃ a vs ns,vals = [Value.ref a] /\ args = [WData.list (ns.map WData.int)] /\ h.get? a = some { cls:=.type "list",data:=.seq vs.toArray } /\ IntsAre vs ns /\ ns.length <= n:=by
 have hsh:WShape.hasAll [] args [.list .int] = true:=(pre_splitW hpre).1
 have hc:l.pre.holds [] { args:=args } = true:=(pre_splitW hpre).2
 obtain ⟨d,r,rfl,h1,h2⟩:=hasAllW_cons hsh
 obtain rfl:=hasAllW_nil h2
 obtain ⟨xs,rfl,h3⟩:=hasW_list h1
 obtain ⟨ns,rfl⟩:=items_int h3
 have hlen:ns.length <= n:=by
  unfold OpenLaw.pre at hc
  have h4:(WTm.not (.lt (.lit (.int (n:Int))) (.len (.arg 0)))).holds [] { args:=[.list (ns.map .int)] } = true:=by
   have h4:=(holds_andW hc).1
   rw [hn] at h4
   exact h4
  have h5:=condW_of h4 (w_not (w_lt w_lit (w_len_list (w_arg rfl))))
  rw [List.length_map] at h5
  refine Nat.le_of_not_lt λq=>?_
  have q':(n:Int) < ((ns.length:Nat):Int):=by omega
  first
   | (rw [decide_eq_true q'] at h5;exact absurd h5 (by decide))
   | (simp at h5;omega)
 cases hwl with
 | cons w1 w2 =>
  cases w2
  cases w1 with
  | list ho hall=>exact ⟨_,_,ns,rfl,rfl,ho,nE ns _ hall,hlen⟩
theorem Ai (l:OpenLaw) (args:List WData):l.row.toRowW.claim.post args (.bool true) args = true :=
 postW_of (r:=l.row.toRowW) (X:=(true == true))
  (show WShape.has [] (.bool true) .bool = true by first | rfl | decide | simp [WShape.has,WShape.arms,WShape.armsAll])
  (show (WTm.eq .res (.lit (.bool true))).value [] { args:=args,res:=some (.bool true),after:=args } = some (.bool (true == true)) from w_eq_bool (w_res rfl) w_lit) rfl
theorem w5 {l:OpenLaw} {n:Nat} {q:Program} {loose:List Str} {XP:(Str -> Option Value) -> Heap -> Prop} {YP:World -> Heap -> Prop} {d:DefRec}
  (hn:l.most = some n) (hdf:d.params.defaults = [])
  (call:∀ (w:World) (s₀ s₁:Shared) (mg mb:Str -> Option Value) (fa:Addr) (o:Obj) (pm cd doc:Value) (a:Addr) (vs:List Value) (ns:List Int),
   Ground q loose [] XP w s₀ mg mb s₁.heap -> YP w s₁.heap ->
   s₁.heap.get? fa = some o -> o.data = .func (docDef d.name d.params d.body d.scope pm cd doc) -> s₁.heap.CodeRec cd d.name -> mg d.name = some (.ref fa) ->
   s₁.heap.get? a = some { cls:=.type "list",data:=.seq vs.toArray } -> IntsAre vs ns -> ns.length <= n -> s₁.gens = #[] ->
   codeAny (model l.prog w) callerA (.call (.ref fa) ⟨[.ref a],[]⟩) (λr s'=>r = .ok (.ret (.bool true)) /\ OldK s₁.heap s'.heap /\ s'.os = s₁.os /\ AllBare s'.gens) s₁) :
  WalkO q loose XP YP l.row.toRowW d [] (λf vs=>PySem.call f vs):=by
 intro w s₀ s₁ mg mb G Y fa o pm cd doc dV kV ho hd hcd hD hmg hg args vals as hpre hlay hrd hwl hlo
 obtain rfl:dV = .none:=Dflts.none hD hdf
 obtain rfl:kV = .none:=Dflts.noKw hD
 obtain ⟨a,vs,ns,rfl,rfl,hobj,hints,hlen⟩:=AV hn hpre hwl
 refine enter_call (codeAny_mono (call w s₀ s₁ mg mb fa o pm cd doc a vs ns G Y ho (fd_plain hd) hcd hmg hobj hints hlen hg) λr s' hq=>?_)
 obtain ⟨rfl,h2,h3,h4⟩:=hq
 exact ⟨.inl ⟨.bool true,.bool true,[],rfl,λ_=>rfl,.bool true,Ai l _,λ_=>⟨List.Pairwise.nil,λ_ hm=>(nomatch hm)⟩⟩,h2,h3,h4⟩
section
variable {prog:Program} {w:World} {A:Around} {E:Value -> Shared -> Prop} {s:Shared} {K:Frag}
end
end Att
namespace L2
open PySem PySem.Spec PyProof.Rows
theorem rN:∀ {vs:List Value} {ns:List Int},IntsAre vs ns -> Vals (ns.map V.int) vs
 | _,_,.nil=>.nil
 | _,_,.cons n t h=>.cons ⟨t,rfl⟩ (rN h)
def Je (H:Hp):Prop:=∀ b,H b = none ∨ ∃ o xs,H b = some (.Dg o (.lst xs))
theorem B6 {P:Program} {w:World} {K:PySem.W.Frag} {mg mb:Str -> Option Value} {CX:qw} {k:Nat} {fa a:Addr} {fd:FuncData} {x:Str} {sp:Sp} {s₁:Shared} {vs:List Value} {ns:List Int}
  (KX:K.In s₁.heap) (hns:s₁.heap.Ns mainGlobals mg) (hb:s₁.heap.Ns builtinsNs mb) (hbb:∀ x:Str,x ≠ "__name__" -> mb x = bootBuiltins x) (hlim:s₁.heap.NoLimit) (hg:s₁.gens = #[])
  (ha:s₁.heap.get? a = some { cls:=.type "list",data:=.seq vs.toArray }) (hi:IntsAre vs ns) (hl:ns.length <= sizeLine) (hr:fU k callerA)
  (F:∀ base:Heap,K.In base -> base.Ns mainGlobals mg -> bu P w K mg base CX k fa fd [x] sp) (hbind:∀ (s:Shared) (u:Value),BindsTo s fd ⟨[u],[]⟩ [(x,u)])
  (hsp:∀ H:Hp,Je H -> aP K H a (ns.map V.int) -> sp [.ref a] H (λv _=>v = .bl true) λ_ _ _=>False)
  (hCX:∀ H e s',CX [] H s₁ (λ_ _ _=>False) e s' -> False) :
  codeAny (model P w) callerA (.call (.ref fa) ⟨[.ref a],[]⟩) (λr s'=>r = .ok (.ret (.bool true)) /\ OldK s₁.heap s'.heap /\ s'.os = s₁.os /\ AllBare s'.gens) s₁:=by
 have rv:=rN hi
 have lenV:=hi.length
 have core:∀ H:Hp,Je H -> aP K H a (ns.map V.int) -> jr P w H s₁.heap -> (∀ b,H b ≠ none -> b = a) -> (H a ≠ none -> K.lookup a = none) ->
   codeAny (model P w) callerA (.call (.ref fa) ⟨[.ref a],[]⟩) (λr s'=>r = .ok (.ret (.bool true)) /\ OldK s₁.heap s'.heap /\ s'.os = s₁.os /\ AllBare s'.gens) s₁:=by
  intro H hO hS hok hA hK
  have base_of:∀ {b:Addr} {o:Obj},s₁.heap.get? b = some o -> H b = none -> (tK s₁.heap H).get? b = some o:=λe n=>Cb e n
  have noA:∀ {b:Addr} {o:Obj} {es:Array DictEntry} {ep:Nat},s₁.heap.get? b = some o -> o.data = .dict es ep -> H b = none:=λ{b o es ep} e d=>by
   cases q:H b with
   | none=>rfl
   | some u =>
    have e':b = a:=hA b (by rw [q];simp)
    subst e'
    rw [ha] at e;cases e
    have d':Data.seq vs.toArray _ = Data.dict es ep:=d
    cases d'
  have nsK:∀ {b:Addr} {m:Str -> Option Value},s₁.heap.Ns b m -> (tK s₁.heap H).Ns b m:=λ{b m} ⟨o,es,ep,e,d,r⟩=>⟨o,es,ep,base_of e (noA e d),d,r⟩
  have hKb:K.In (tK s₁.heap H):=λb o e=>base_of (KX b o e) (by
   cases q:H b with
   | none=>rfl
   | some u =>
    have e':b = a:=hA b (by rw [q];simp)
    subst e'
    rw [hK (by rw [q];simp)] at e;cases e)
  have hM:Mod K mg (tK s₁.heap H):=⟨hKb,nsK hns,⟨mb,nsK hb,hbb⟩,let ⟨mc,h1,h2⟩:=hlim;⟨mc,nsK h1,h2⟩⟩
  have e0:xS P w K mg (tK s₁.heap H) callerA [] s₁ H:=⟨rfl,hM,λb o e=>Fv e,Nat.le_of_eq (AF _ _),trivial,λb hb=>absurd (show b ∈ ([]:List Addr) from hb) (by simp),hok,.of_eq hg⟩
  refine codeAny_mono ((F _ hKb (nsK hns)).run callerA [] s₁ H ⟨[.ref a],[]⟩ [.ref a] [.ref a] _ _ hr e0 (hbind s₁ (.ref a)) (.cons rfl .nil) (hsp H hO hS)) λr s' h=>?_
  cases r with
  | error e=>exact (hCX H e s' h).elim
  | ok fl =>
   cases fl with
   | next=>exact False.elim h
   | brk=>exact False.elim h
   | cont=>exact False.elim h
   | ret u =>
    obtain ⟨v,H',os,bare,un,hok',r',q⟩:=h
    have q':v = .bl true:=q
    subst q'
    obtain rfl:u = Value.bool true:=r'
    refine ⟨rfl,OldK.of_keep λb o e=>?_,os,bare⟩
    cases q:H b with
    | none=>exact un.keep b o e q (by intro z;exact absurd (show b ∈ ([]:List Addr) from z) (by simp)) (by simp)
    | some u =>
     rcases hO b with z | ⟨ob,xs,z⟩
     ·rw [q] at z;cases z
     ·have z2:=un.nD b ob _ z
      obtain ⟨e1,_⟩:=hok b _ z
      obtain ⟨e2,_⟩:=hok' b _ z2
      rw [e] at e1;cases e1
      exact e2
 cases hk:K.lookup a with
 | some o =>
  have e:=KX a o hk
  rw [ha] at e
  cases e
  refine core (λ_=>none) (λ_=>.inl rfl) (.inr ⟨_,vs.toArray,_,hk,rfl,rfl,rfl,by rw [List.size_toArray,lenV];exact hl,by simpa using rv⟩) (λb u z=>by have z':(none:Option HO) = some u:=z;cases z') (λb z=>absurd rfl z) λz=>absurd rfl z
 | none =>
  refine core (λb=>if b = a then some (.Dg { cls:=.type "list",data:=.seq vs.toArray } (.lst (ns.map V.int))) else none) (λb=>?_) (.inl (.inr ⟨{ cls:=.type "list",data:=.seq vs.toArray },if_pos rfl⟩)) (λb u z=>?_) (λb z=>?_) λ_=>hk
  ·by_cases hb:b = a
   ·exact .inr ⟨_,_,if_pos hb⟩
   ·exact .inl (if_neg hb)
  ·by_cases hb:b = a
   ·have z':=(if_pos hb).symm.trans z
    cases z'
    subst hb
    exact ⟨ha,by rw [List.length_map];exact hl,vs,_,rv,ha⟩
   ·have z':=(if_neg hb).symm.trans z
    cases z'
  ·by_cases hb:b = a
   ·exact hb
   ·exact absurd (if_neg hb) z
end L2
namespace L2
open PySem PySem.Spec PyProof.Rows
theorem Fc {l:PySem.W.OpenLaw} {n k:Nat} {q:Program} {loose:List Str} {XP:(Str -> Option Value) -> Heap -> Prop} {YP:World -> Heap -> Prop} {d:DefRec} {K:Params -> PySem.W.Frag} {CX:World -> qw} {sp:World -> Sp} {x:Str}
  (hn:l.most = some n) (hn2:n <= sizeLine) (hdf:d.params.defaults = []) (hr:fU k callerA)
  (hY:∀ (w:World) (h:Heap),YP w h -> (K w.params).In h)
  (F:∀ (w:World) (mg:Str -> Option Value) (fa:Addr) (h:Heap),(K w.params).In h -> h.Ns mainGlobals mg -> mg d.name = some (.ref fa) ->
   ∃ fd:FuncData,(∀ (s:Shared) (u:Value),BindsTo s fd ⟨[u],[]⟩ [(x,u)]) /\
    ∀ base:Heap,(K w.params).In base -> base.Ns mainGlobals mg -> bu l.prog w (K w.params) mg base (CX w) k fa fd [x] (sp w))
  (hsp:∀ (w:World) (H:Hp) (a:Addr) (ns:List Int),ns.length <= n -> Je H -> aP (K w.params) H a (ns.map V.int) -> sp w [.ref a] H (λv _=>v = .bl true) λ_ _ _=>False)
  (hCX:∀ (w:World) (H:Hp) (s:Shared) (e:Value) (s':Shared),CX w [] H s (λ_ _ _=>False) e s' -> False) :
  PySem.W.WalkO q loose XP YP l.row.toRowW d [] (λf vs=>PySem.call f vs):=by
 refine Att.w5 hn hdf λw s₀ s₁ mg mb fa o pm cd doc a vs ns G Y ho hd hcd hmg hobj hints hlen hg=>?_
 have KX:=hY w _ Y
 obtain ⟨fd,hb,hF⟩:=F w mg fa _ KX G.T.g hmg
 exact B6 KX G.T.g G.T.b G.T.builtins G.T.nolimit hg hobj hints (Nat.le_trans hlen hn2) hr hF hb (λH hO hS=>hsp w H a ns hlen hO hS) λH e s'=>hCX w H s₁ e s'
end L2
namespace L2
open PySem PySem.Spec PyProof.Rows
noncomputable def inClass (s:Stmt) (j:Nat):Stmt:=match s with
 | .ClassDef _ _ _ body _ _ _ _ _ _ _=>body.getD j (.Pass ⟨0,0,0,0⟩)
 | _=>.Pass ⟨0,0,0,0⟩
def nK (s:Stmt):Arguments:=match s with
 | .FunctionDef _ a _ _ _ _ _ _ _ _=>a
 | _=>{ posonlyargs:=[],args:=[],vararg:=none,kwonlyargs:=[],kw_defaults:=[],kwarg:=none,defaults:=[] }
def j6 (s:Stmt):List Stmt:=match s with
 | .FunctionDef _ _ b _ _ _ _ _ _ _=>b
 | _=>[]
def aq (s:Stmt):Scope:=match s with
 | .FunctionDef _ _ _ _ _ _ sc _ _ _=>sc
 | _=>{ kind:=.function,names:=[],isGenerator:=false,isCoroutine:=false }
abbrev dZ:qw:=λ_ _ _ _ _ _=>False
abbrev E0:XK:=λ_ _ _=>False
theorem aG {X:Cx}:Passes dZ X E0:=λ_ _ _ _ _ _ _ h=>h.elim
structure bK (K:PySem.W.Frag) (x qual:Str) (st:Stmt) (f:Addr) (fd:FuncData):Prop where
 ex:∃ (oc:Value) (od:Option Addr) (kV doc pm:Value) (an:Option Addr) (cdv ct:Value) (osl:Array (Option Value)),
  fd = PySem.W.fnOf x qual (nK st) (j6 st) (aq st) .none kV doc pm an cdv ct /\ K.lookup f = some ⟨oc,od,.func fd,osl⟩ /\ PySem.W.codeIn K cdv qual = true
 kp:PySem.W.keepIn K (.ref f) = true
section
variable {P:Program} {w:World} {K:PySem.W.Frag} {mg:Str -> Option Value} {base:Heap}
theorem bK.ok {x qual:Str} {st:Stmt} {f:Addr} {fd:FuncData} {N ps:List Str} {k:Nat} {sp:Sp} (F:bK K x qual st f fd) (S:aE N ps (aq st)) (len:∀ vs H Q E,sp vs H Q E -> vs.length = ps.length)
  (hbody:∀ (cdv:Value) (A:Around) (outer:List Env) (s:Shared) (H:Hp) (vs:List V) (Q:VK) (E:XK),fU k (A.deeper (envOfC qual (aq st) s.heap.objs.size f cdv)) -> sp vs H Q E ->
   ∃ t,xZ (iB dZ P w K mg base N qual (aq st) f cdv A outer s H E).L6 (j6 st) t /\ t { nx:=λ_ H'=>Q .cL H',rt:=Q } (start N vs) H):bu P w K mg base dZ (k + 1) f fd ps sp:=by
 obtain ⟨oc,od,kV,doc,pm,an,cdv,ct,osl,rfl,lk,hcd⟩:=F.ex
 refine Gk lk hcd S len λA outer s H vs Q E hr hsp=>?_
 obtain ⟨t,h,q⟩:=hbody cdv A outer s H vs Q E hr hsp
 exact ⟨t,h.L6,q⟩
theorem bK.binds {x qual:Str} {st:Stmt} {f:Addr} {fd:FuncData} {ps:List Str} (F:bK K x qual st f fd)
  (h:∀ (kV doc pm:Value) (an:Option Addr) (cdv ct:Value) (us:List Value),us.length = ps.length -> bindArgs (PySem.W.fnOf x qual (nK st) (j6 st) (aq st) .none kV doc pm an cdv ct) ⟨us,[]⟩ = pure (ps.zip us)):Binds K fd ps []:=by
 obtain ⟨oc,od,kV,doc,pm,an,cdv,ct,osl,rfl,lk,hcd⟩:=F.ex
 exact .all (h kV doc pm an cdv ct)
theorem HW {x qual:Str} {st:Stmt} {f:Addr} {oc:Value} {od an:Option Addr} {osl:Array (Option Value)} {kV doc pm cdv ct:Value} (l:K.lookup f = some ⟨oc,od,.func (PySem.W.fnOf x qual (nK st) (j6 st) (aq st) .none kV doc pm an cdv ct),osl⟩)
  (c:PySem.W.codeIn K cdv qual = true) (k:PySem.W.keepIn K (.ref f) = true):bK K x qual st f (PySem.W.fnOf x qual (nK st) (j6 st) (aq st) .none kV doc pm an cdv ct):=⟨⟨oc,od,kV,doc,pm,an,cdv,ct,osl,rfl,l,c⟩,k⟩
end
theorem gH {A:Around} {k:Nat} (hr:fU k A):A.units + 1 < cLine:=Nat.lt_of_le_of_lt (Nat.add_le_add_left (by decide:1 <= 64) _) hr.units
section
variable {X:Cx}
theorem pv (i:Nat) {x:Str} {pos:Pos} (hN:X.N[i]? = some x:=by rfl) (hv:Lj X.env.scope x:=by first | exact Or.inl rfl | exact Or.inr (Or.inl rfl) | exact Or.inr (Or.inr rfl)) (hd:(x == ("__debug__" : Str)) = false:=by decide)
  (hcd:(x == ("__classdict__" : Str)) = false:=by decide):PE X (.Name x pos) (Fy i):=Hh hN hv hd hcd
end
theorem sq {A B:Prop} (h:B):if false = true then A else B:=by
 rw [if_neg Bool.false_ne_true]
 exact h
theorem xO {A B:Prop} (h:A):if true = true then A else B:=by
 rw [if_pos rfl]
 exact h
def ak (H H':Hp):Prop:=∀ b o,H b = some o -> H' b = some o
theorem ak.refl (H:Hp):ak H H:=λ_ _ h=>h
theorem ak.trans {H H1 H2:Hp} (a:ak H H1) (b:ak H1 H2):ak H H2:=λc o h=>b c o (a c o h)
theorem ak.free {H H':Hp} (e:ak H H') {l:Addr} (h:H' l = Option.none):H l = Option.none:=by
 cases q:H l with
 | none=>rfl
 | some o =>
  rw [e l o q] at h
  cases h
theorem ak.seq {K:PySem.W.Frag} {H H':Hp} {a:Addr} {xs:List V} (e:ak H H') (h:aP K H a xs):aP K H' a xs:=by
 rcases h with (h | ⟨o,h⟩) | h
 ·exact .inl (.inl (e _ _ h))
 ·exact .inl (.inr ⟨o,e _ _ h⟩)
 ·exact .inr h
end L2
set_option maxHeartbeats 4000000
namespace PySem.W.Fast
def tw4414047778787817353:=0
def tw4593438253154764487:=0
def tw6832539065921391434:=0
def tw2205617840681415352:=0
def tw17820715086429457293:=0
def tw2206753060917027266:=0
def tw6671509932373100817:=0
def tw3083837408416073237:=0
def tw15991894503738812559:=0
def tw12590353869345720972:=0
def tw8835619635101937851:=0
def tw7878223838561726835:=0
def tw16994560490098417540:=0
def tw17683088789513265294:=0
def tw12875769576487132115:=0
def tw17074662217912286862:=0
def tw1652319320163350549:=0
def tw13198507124668834358:=0
def tw8423449858938286957:=0
def tw12057812766099828709:=0
def tw18047601238293377609:=0
def tw3251386763858811473:=0
def tw15290343164633763357:=0
def tw16046383106063486612:=0
def tw4272096973170765645:=0
def tw5078807334324231398:=0
def tw236051902519687430:=0
def tw4117329624887761160:=0
def tw13531337862589405732:=0
def tw7142038315754431955:=0
def tw15785992968793538219:=0
def tw792771577911159122:=0
def tw5902218794532218098:=0
def tw5582955064654560889:=0
def tw1832550031426398389:=0
def tw5017359897474323778:=0
def tw14499091230472960131:=0
def tw10904026719528661025:=0
def tw9310105171975714672:=0
def tw788325148643241385:=0
def tw420677921080663299:=0
def tw17942775762408947666:=0
def tw13851479064656524344:=0
def tw8064124541365374080:=0
def tw1738984969265581511:=0
def tw7151315750711925048:=0
def tw7172759350233630707:=0
def tw8696450803989242990:=0
def tw11831287768734091761:=0
def tw15601801876462488640:=0
def tw4008017999059371524:=0
def tw1227603899490407893:=0
def tw13196762866423721776:=0
def tw9332371130778820335:=0
def tw8029114253102189641:=0
def tw11697329431848961441:=0
def tw9299527371423350593:=0
def tw7275447304707719862:=0
def tw6759356096019080327:=0
def tw4934279182185021951:=0
def tw3787645630008218098:=0
def tw7135859248276591369:=0
def tw4603382041053783490:=0
def tw1102838888544368668:=0
def tw16219460752399432126:=0
def tw12904718037203686211:=0
def tw6128013033426292296:=0
def tw3648429958903699364:=0
def tw8577049023043338327:=0
def tw3546267637929335262:=0
def tw7131497125666156648:=0
def tw3801214892129018104:=0
def tw1043540842500810213:=0
def tw14971986264077190846:=0
def tw13062782548545044458:=0
def tw16083133830784039038:=0
def tw19785904584010057:=0
def tw882210969392435708:=0
def tw382142439584432610:=0
def tw153393789550468336:=0
def tw10539182225647588248:=0
def tw6181406787478985246:=0
def tw3427004315147129794:=0
def tw3584833972310341998:=0
def tw18001267603612914512:=0
def tw4883016011815033059:=0
def tw1975502172348979411:=0
def tw6210808281008526830:=0
def tw6061406784615876137:=0
def tw15251675450928619369:=0
def tw18443400295760036100:=0
def tw16399920988645976569:=0
def tw18237618441467397882:=0
def tw4914947313669318522:=0
def tw728423351460967057:=0
def tw1045409908342045333:=0
def tw1150396277280009383:=0
def tw1083458977056059423:=0
def tw11625118829556494687:=0
def tw7237169688566822287:=0
def tw4457365438550617298:=0
def tw67744162295651437:=0
def tw5326910366599526024:=0
def tw11691204366386184453:=0
def tw13678641104864664851:=0
def tw3542358464194410236:=0
def tw6282425815034289317:=0
def tw17616148948802250954:=0
def tw11773894536312542509:=0
def tw13195270826371088639:=0
def tw5554563650507518601:=0
def tw16032357355437784627:=0
def tw3867190404562947637:=0
def tw1800691935576482365:=0
def tw15570455647972106880:=0
def tw5864781283036955044:=0
def tw16903103513400146434:=0
def tw11565680138589218973:=0
def tw5913157964555055994:=0
def tw1631259394945420021:=0
def tw546608621148662488:=0
def tw10385754832435740651:=0
def tw12058742979408983757:=0
def tw4493800602120144080:=0
def tw5508844664156717005:=0
def tw7938164640033958836:=0
def tw15702032248271433662:=0
def tw7035769446105453118:=0
def tw3648917834138015723:=0
def tw6070460056163615786:=0
def tw476376814194195131:=0
def tw11066528933433134870:=0
def tw7089914710810046553:=0
def tw16540429423012393586:=0
def tw13936845231337229701:=0
def tw2609468167245119827:=0
def tw12054178471149112287:=0
def tw13163135542310540461:=0
def tw11515837134425963268:=0
def tw3909140279517228856:=0
def tw17193355362423943406:=0
def tw5990834184841058315:=0
def tw11848809148560584592:=0
def tw16277944872958897135:=0
def tw3738141682352928243:=0
def tw8841712261052598122:=0
def tw11799143450124884635:=0
def tw670133921890592622:=0
def tw6106003424034880632:=0
def tw15515320053459155939:=0
def tw2191799636066990143:=0
def tw15600025620822652659:=0
def tw4155224842228590296:=0
def tw13730065229252474505:=0
def tw6928453408775814003:=0
def tw7510784064197389361:=0
def tw8741966223334064246:=0
def tw17954467818299746482:=0
def tw2216436247306567166:=0
def tw13869231977450340122:=0
def tw3968702640037914443:=0
def tw2287455217949916367:=0
def tw11620047074964039057:=0
def tw6964577474220255145:=0
def tw12966065728957489841:=0
def tw9341711069955375241:=0
def tw10682973109389764232:=0
def tw2364231116799446533:=0
def tw9011992532612167472:=0
def tw6790633535710186438:=0
def tw7562520111323952605:=0
def tw814337671186458089:=0
def tw8208310427602218319:=0
def tw14394281431477885231:=0
def tw7121393340151833621:=0
def tw11046382972473165147:=0
def tw5652102444415406672:=0
def tw13514473381767048965:=0
def tw4624670210115824436:=0
def tw13240355107321832284:=0
def tw10597869538473472689:=0
def tw10345013039754661660:=0
def tw2298704113128421554:=0
def tw16598338505023625133:=0
def tw4448584183124932902:=0
def tw11663849271741226695:=0
def tw9096601095354471914:=0
def tw10494911281316924595:=0
def tw8685846545683944975:=0
def tw6918727958602712665:=0
def tw17403924555092368589:=0
def tw17918991146280156125:=0
def tw14362333341396666550:=0
def tw5743026244210833449:=0
def tw17936251019981226366:=0
def tw516949069166374318:=0
def tw4809613858288957776:=0
def tw11929929965210966462:=0
def tw10620576278101181631:=0
def tw10444994162793635432:=0
def tw12162242494114645452:=0
def tw5464003626031753846:=0
def tw2635175987404546741:=0
def tw14794935532974651499:=0
def tw17201538717742075182:=0
def tw12040161672039907295:=0
def tw17751007575638100972:=0
def tw3030167794461916273:=0
def tw9850171416769185711:=0
def tw1533210163381593346:=0
def tw6552278578449263817:=0
def tw16675380761747527037:=0
def tw668809688483450647:=0
def tw15407549414609124831:=0
def tw17167869124227230392:=0
def tw1226411236057107277:=0
def tw5006259439415059428:=0
def tw6369037110542553420:=0
def tw15932491005409072823:=0
def tw17713284541260252936:=0
def tw17082631222707316355:=0
def tw10864057152211584614:=0
def tw12591560058145065168:=0
def tw16689968765940723415:=0
def tw1735592128277778779:=0
def tw14211140887835767894:=0
def tw8070481924352246059:=0
def tw974864490690071500:=0
def tw7721765650059133723:=0
def tw1179426450252240887:=0
def tw5941777702335833843:=0
def tw14558659347624049034:=0
def tw9837260572490964180:=0
def tw448797124212569773:=0
def tw13456831756084937097:=0
def tw14920266363428970766:=0
def tw6881046887847988824:=0
def tw9867489029307574487:=0
def tw15577061373214991156:=0
def tw17861046787866988688:=0
def tw16441791882936890349:=0
def tw14025994039667005616:=0
def tw16297772961438585539:=0
def tw7434839988084781575:=0
def tw17137770498434425311:=0
def tw15541066088140311729:=0
def tw18105764399859966290:=0
def tw5674832098618229626:=0
def tw1996691090625647243:=0
def tw10755111658834007007:=0
def tw13687455533574016643:=0
def tw4099816311527869408:=0
def tw3629431440707989478:=0
def tw1661336584262940202:=0
def tw13733377551326736174:=0
def tw1039864887332281580:=0
def tw17530429158284253745:=0
def tw15093333511755846019:=0
def tw9390207775979829931:=0
def tw114841922670928190:=0
def tw4710630163669354478:=0
def tw16935432437368031626:=0
def tw16973887447717149633:=0
def tw2456026553827137699:=0
def tw10747309580530587295:=0
def tw5562751520895313896:=0
def tw10005911029863703053:=0
def tw899803486150658611:=0
def tw265925534153178105:=0
def tw9838230218338829509:=0
def tw3540088789421104687:=0
def tw1178020728007762727:=0
def tw13786124962693700169:=0
def tw8612321438675738137:=0
def tw3035840840266306265:=0
def tw14340517216812482388:=0
def tw5601021141268866310:=0
def tw5514803045953755941:=0
def tw13684454903277853337:=0
def tw6860045814098136076:=0
def tw6572473332537062823:=0
def tw6500932466566920450:=0
def tw6958829512240474549:=0
def tw17411280375484006382:=0
def tw1766916387462440800:=0
def tw1121096441091904632:=0
end PySem.W.Fast
namespace L2
open PySem PySem.Spec PyProof.Rows
structure qo (sc csc:Scope) (N:List Str) (x:Str) (caps:List (Str × Nat)):Prop where
 cell:∀ p ∈ csc.names,p.2 ≠ .cell
 kind:csc.kind = .function
 loc:∀ p ∈ csc.names,p.2 = .local -> csc.names.lookup p.1 = some .local
 tg:csc.names.lookup x = some .local
 free:∀ p ∈ csc.names,p.2 = .free -> sc.names.lookup p.1 = some .cell
 cap:∀ p ∈ caps,N[p.2]? = some p.1 /\ csc.names.lookup p.1 = some .free
 nd:(caps.map (·.1) ++ [x]).Nodup
def eF (env:Env):List (Str × NameKind) -> List (Str × Addr) -> List (Str × Addr)
 | [],cs=>cs
 | (n,k) :: r,cs=>eF env r (if k == .free then (n,(env.cells.lookup n).getD 0) :: cs else cs)
theorem iM {env:Env} {sc:Scope} (h:∀ p ∈ sc.names,p.2 = .free -> ∃ c,env.cells.lookup p.1 = some c):closureFor sc env = pure (eF env sc.names []):=by
 obtain ⟨kind,names,g,c⟩:=sc
 simp only [closureFor]
 have aux:∀ (l:List (Str × NameKind)) (cs:List (Str × Addr)),(∀ p ∈ l,p.2 = .free -> ∃ c,env.cells.lookup p.1 = some c) ->
   (forIn l cs (λ(x:Str × NameKind) (r:List (Str × Addr))=>if (x.2 == NameKind.free) = true then (do let a ← cellOf env x.1;pure (ForInStep.yield ((x.1,a) :: r))) else pure (ForInStep.yield r)):Sem (List (Str × Addr))) = pure (eF env l cs):=by
  intro l
  induction l with
  | nil=>intro cs _;rfl
  | cons p r ih =>
   intro cs hp
   obtain ⟨n,k⟩:=p
   rw [List.forIn_cons]
   have ih':=λcs=>ih cs (λq hq=>hp q (List.mem_cons_of_mem _ hq))
   by_cases hk:(k == NameKind.free) = true
   ·obtain ⟨c,e⟩:=hp (n,k) List.mem_cons_self (by simpa using hk)
    simp only [hk,if_true,cellOf,e,eF,pure_bind,Option.getD_some]
    exact ih' _
   ·have hk':(k == NameKind.free) = false:=by simpa using hk
    simp only [hk',if_false,eF,pure_bind,Bool.false_eq_true]
    exact ih' _
 have:=aux names [] h
 first
  | (rw [this];rfl)
  | (simp only [bind_pure];exact this)
  | (refine Eq.trans (bind_pure _) this)
theorem fQ {env:Env}:∀ (l:List (Str × NameKind)) (cs:List (Str × Addr)),(∀ p ∈ l,p.2 = .free -> ∃ c,env.cells.lookup p.1 = some c) -> (∀ y c,cs.lookup y = some c -> env.cells.lookup y = some c) ->
  ∀ y c,(eF env l cs).lookup y = some c -> env.cells.lookup y = some c
 | [],_,_,h2=>h2
 | (n,k) :: r,cs,h1,h2=>by
  unfold eF
  refine fQ r _ (λq hq=>h1 q (List.mem_cons_of_mem _ hq)) ?_
  by_cases hk:(k == NameKind.free) = true
  ·obtain ⟨c,e⟩:=h1 (n,k) List.mem_cons_self (by simpa using hk)
   rw [if_pos hk]
   intro y c' h
   rw [e] at h
   rw [List.lookup_cons] at h
   cases hy:y == n with
   | true=>rw [hy] at h;simp at h;rw [eq_of_beq hy,← h];exact e
   | false=>rw [hy] at h;exact h2 y c' h
  ·rw [if_neg hk];exact h2
theorem kD {env:Env}:∀ (l:List (Str × NameKind)) (cs:List (Str × Addr)) (y:Str),((y,NameKind.free) ∈ l ∨ ∃ c,cs.lookup y = some c) -> ∃ c,(eF env l cs).lookup y = some c
 | [],_,_,h=>by
  rcases h with h | h
  ·cases h
  ·exact h
 | (n,k) :: r,cs,y,h=>by
  unfold eF
  refine kD r _ y ?_
  by_cases hk:(k == NameKind.free) = true
  ·rw [if_pos hk]
   by_cases hy:(y == n) = true
   ·exact .inr ⟨_,by rw [List.lookup_cons,hy]⟩
   ·have hy':(y == n) = false:=by simpa using hy
    rcases h with h | ⟨c,h⟩
    ·rcases List.mem_cons.mp h with z | z
     ·cases z;simp at hy
     ·exact .inl z
    ·exact .inr ⟨c,by rw [List.lookup_cons,hy'];exact h⟩
  ·rw [if_neg hk]
   rcases h with h | h
   ·rcases List.mem_cons.mp h with z | z
    ·cases z;simp at hk
    ·exact .inl z
   ·exact .inr h
abbrev bX (X:Cx) (N':List Str) (csc:Scope) (C:Addr) (s2:Shared) (H2:Hp) (fp:List Addr):Cx :=
 { X with N:=N',s₀:=s2,H₀:=H2,env:=compEnvC csc (eF X.env csc.names []) C X.env,outer:=X.stack,ex:=fp,fn:=λ_=>false,pn:=[],xe:=λ_ _=>False }
def gY (caps:List (Str × Nat)) (Z:St):St:=caps.map λp=>(Z[p.2]?).join
def zD (J:It) (caps:List (Str × Nat)) (te:TE) (Z:St) (H1:Hp) (Q:VK):Prop:=∃ W:Nat -> Nat -> List V -> Hp -> Prop,(∃ m,W 0 m [] H1) /\ ∀ i m ys H,W i m ys H ->
 (J.stop i H /\ ∀ D,H D = none -> Q (.ref D) (upd H D (.lst ys))) ∨ (J.go i H /\ ys.length < sizeLine /\ ∀ x H',J.IP i H x H' -> te (gY caps Z ++ [some x]) H' λy H2=>∃ m',m' < m /\ W (i + 1) m' (ys ++ [y]) H2)
def K8 (caps:List (Str × Nat)) (wi:TI) (te:TE):TE:=λZ H Q=>wi Z H λJ H1=>zD J caps te Z H1 Q
theorem jH {env:Env} (hk:env.scope.kind = .function):∀ {names:List (Str × NameKind)} {x:Str},(∀ p ∈ names,p.2 = .free -> env.kindOf p.1 = some .cell) -> names.lookup x = some .free ->
  (names.map λ(n,k)=>if (k == NameKind.free && env.scope.kind == .function && env.kindOf n == some .cell) then (n,NameKind.cell) else (n,k)).lookup x = some .cell
 | [],_,_,h=>by simp at h
 | (n,k) :: r,x,hf,h=>by
  have ih:=@jH env hk r x (λp hp=>hf p (List.mem_cons_of_mem _ hp))
  show List.lookup x ((if (k == NameKind.free && env.scope.kind == .function && env.kindOf n == some .cell) = true then (n,NameKind.cell) else (n,k)) :: _) = _
  cases hx:x == n with
  | true =>
   simp only [List.lookup_cons,hx] at h
   cases h
   have:=hf (n,.free) List.mem_cons_self rfl
   have hk':(env.scope.kind == ScopeKind.function) = true:=by rw [hk];rfl
   simp [List.lookup_cons,hx,this,hk']
  | false =>
   simp only [List.lookup_cons,hx] at h
   by_cases hc:(k == NameKind.free && env.scope.kind == .function && env.kindOf n == some .cell) = true
   ·rw [if_pos hc];simp only [List.lookup_cons,hx];exact ih h
   ·rw [if_neg hc];simp only [List.lookup_cons,hx];exact ih h
theorem fH {env:Env}:∀ {names:List (Str × NameKind)} {x:Str} {k':NameKind},
  (names.map λ(n,k)=>if (k == NameKind.free && env.scope.kind == .function && env.kindOf n == some .cell) then (n,NameKind.cell) else (n,k)).lookup x = some k' -> (k' = .cell ∨ k' = .free) -> (∀ p ∈ names,p.2 ≠ .cell) -> (x,NameKind.free) ∈ names
 | [],_,_,h,_,_=>by simp at h
 | (n,k) :: r,x,k',h,hk,hn=>by
  have ih:=@fH env r x k'
  have h:List.lookup x ((if (k == NameKind.free && env.scope.kind == .function && env.kindOf n == some .cell) = true then (n,NameKind.cell) else (n,k)) :: (r.map λ(n,k)=>if (k == NameKind.free && env.scope.kind == .function && env.kindOf n == some .cell) then (n,NameKind.cell) else (n,k))) = some k':=h
  cases hx:x == n with
  | true =>
   have e:x = n:=eq_of_beq hx
   subst e
   by_cases hc:(k == NameKind.free && env.scope.kind == .function && env.kindOf x == some .cell) = true
   ·have:k = .free:=by
     simp only [Bool.and_eq_true] at hc
     simpa using hc.1.1
    subst this
    exact List.mem_cons_self
   ·rw [if_neg hc] at h
    simp only [List.lookup_cons,hx] at h
    cases h
    rcases hk with z | z
    ·exact absurd z (hn _ List.mem_cons_self)
    ·subst z;exact List.mem_cons_self
  | false =>
   refine List.mem_cons_of_mem _ (ih ?_ hk λp hp=>hn p (List.mem_cons_of_mem _ hp))
   by_cases hc:(k == NameKind.free && env.scope.kind == .function && env.kindOf n == some .cell) = true
   ·rw [if_pos hc] at h;simp only [List.lookup_cons,hx] at h;exact h
   ·rw [if_neg hc] at h;simp only [List.lookup_cons,hx] at h;exact h
section
variable {X:Cx} {pins:List (Addr × Obj)} {Z:St} {H:Hp} {s:Shared}
theorem fz (caps:List (Str × Nat)) (Z:St):(gY caps Z).length = caps.length:=by simp [gY]
theorem kO {csc:Scope} {x:Str} {caps:List (Str × Nat)} {fp:List Addr} {h4:Heap} {t4:Nat} {C:Addr} {m0:Str -> Option Value} (I:Inv X pins Z H s) (ck:qo X.env.scope csc X.N x caps) (hf:∀ b ∈ fp,oG X pins H b)
  (hfs:∀ b ∈ fp,b < s.heap.objs.size) (hC:s.heap.objs.size <= C) (hk:∀ b o,s.heap.get? b = some o -> h4.get? b = some o) (hn:h4.Ns C m0) :
  Inv (bX X (caps.map (·.1) ++ [x]) csc C s H fp) [] (gY caps Z ++ [none]) H { s with heap:=h4,toks:=t4 }:=by
 have cellsOk:∀ p ∈ csc.names,p.2 = .free -> ∃ c,X.env.cells.lookup p.1 = some c:=λp hp e=>I.ok.has p.1 (.inl (ck.free p hp e))
 have inX:∀ y c,(eF X.env csc.names []).lookup y = some c -> X.env.cells.lookup y = some c:=fQ _ _ cellsOk (λy c h=>by simp at h)
 have kf:∀ p ∈ csc.names,p.2 = .free -> X.env.kindOf p.1 = some .cell:=ck.free
 refine ⟨⟨I.ok.mod,ck.kind,I.ok.glob,I.ok.blt,hC,λy z c h1 h2=>I.ok.inj y z c (inX y c h1) (inX z c h2),λy hy=>?_,λy c h=>(nomatch h),I.ok.hd,I.ok.frames,.inl rfl,λb hb=>⟨?_,λy c h=>?_⟩,?_,?_,?_,?_,I.stack,I.nF⟩,rfl,I.bare,Un.kept hk,⟨m0,hn,λi y v h1 h2 h3=>?_⟩,λy c h=>?_,I.hok.fresh hC,λy c h=>I.iu y c (inX y c h),λp hp=>absurd hp (by simp),I.hok.kept hk,?_⟩
 ·have hy':(csc.names.map λ(n,k)=>if (k == NameKind.free && X.env.scope.kind == .function && X.env.kindOf n == some .cell) then (n,NameKind.cell) else (n,k)).lookup y = some .cell ∨ (csc.names.map λ(n,k)=>if (k == NameKind.free && X.env.scope.kind == .function && X.env.kindOf n == some .cell) then (n,NameKind.cell) else (n,k)).lookup y = some .free:=hy
  refine kD _ _ y (.inl ?_)
  rcases hy' with z | z
  ·exact fH z (.inl rfl) ck.cell
  ·exact fH z (.inr rfl) ck.cell
 ·exact Nat.ne_of_lt (Nat.lt_of_lt_of_le (hfs b hb) hC)
 ·exact (hf b hb).2.2.2.2.1 y c (inX y c h)
 ·exact λb o e=>I.bs b o e
 ·exact Nat.le_trans I.ok.Fw I.sz
 ·intro b o e hb
  rcases (hf b hb).2.2.2.1 with z | z
  ·exact I.ok.Ay b o e z
  ·exact absurd (Nat.lt_of_lt_of_le (Heap.lt_size (I.ok.bs b o e).1) z) (Nat.lt_irrefl _)
 ·intro b hb z
  rcases List.mem_cons.mp (I.kP b z) with e | e
  ·exact (hf b hb).2.1 e
  ·exact (hf b hb).2.2.1 e
 ·have hi:i < caps.length:=by
   by_cases hi:i < caps.length
   ·exact hi
   ·rw [List.getElem?_append_right (by rw [fz];omega),fz] at h2
    cases q:i - caps.length with
    | zero=>rw [q] at h2;simp at h2
    | succ k=>rw [q] at h2;simp at h2
  rw [List.getElem?_append_left (by rw [List.length_map];exact hi),List.getElem?_map] at h1
  rw [List.getElem?_append_left (by rw [fz];exact hi)] at h2
  unfold gY at h2
  rw [List.getElem?_map] at h2
  cases e:caps[i]? with
  | none=>rw [e] at h1;cases h1
  | some p =>
   rw [e] at h1 h2
   simp only [Option.map_some,Option.some.injEq] at h1 h2
   subst h1
   obtain ⟨hN,hfr⟩:=ck.cap p (List.mem_of_getElem? e)
   have h2':Z[p.2]? = some (some v):=by
    cases q:Z[p.2]? with
    | none=>rw [q] at h2;cases h2
    | some w=>rw [q] at h2;simp at h2;rw [h2]
   have hcX:X.env.scope.names.lookup p.1 = some .cell:=ck.free (p.1,.free) (PySem.mem_of_lookup hfr) rfl
   obtain ⟨m,_,hl⟩:=I.loc
   obtain ⟨u,r,l⟩:=hl p.2 p.1 v hN h2' (.inr (.inl hcX))
   refine ⟨u,r,?_⟩
   rcases l with ⟨k,_⟩ | ⟨_,c,hc,z⟩
   ·have k':X.env.scope.names.lookup p.1 = some .local:=k
    rw [hcX] at k';cases k'
   ·obtain ⟨c',hc'⟩:=kD (env:=X.env) csc.names [] p.1 (.inl (PySem.mem_of_lookup hfr))
    have:c' = c:=by
     have:=inX p.1 c' hc'
     rw [hc] at this
     exact (Option.some.inj this).symm
    subst this
    refine .inr ⟨.inl (jH I.ok.kind kf hfr),c',hc',?_⟩
    obtain ⟨o,ho,hd⟩:=z
    exact ⟨o,hk _ _ ho,hd⟩
 ·obtain ⟨v,o,ho,hd⟩:=I.cell y c (inX y c h)
  exact ⟨v,o,hk _ _ ho,hd⟩
 ·rw [List.length_append,fz,List.length_append,List.length_map];rfl
end
end L2
namespace L2
open PySem PySem.Spec PyProof.Rows
theorem xw {prog:Program} {w:World} {A:Around} {R:Result -> Shared -> Prop} {s:Shared} {elt target iter:Expr} {scope:Scope} {pos:Pos} {it acc:Value} {env:Env} (J:Nat -> Shared -> Prop)
  (turn:∀ n s,J n s -> wpAny (model prog w) A (pyNext it) (λr s₁=>match r with
   | none=>R (.ok .next) s₁
   | some v=>wpAny (model prog w) A (letOwnedTupleGo target it v) (λ_ s₁=>wpAny (model prog w) A (assign target env v) (λ_ s₂=>wpAny (model prog w) A (eval elt env) (λx s₃ =>
     wpAny (model prog w) A (call (.builtin "list.append") [acc,x]) (λ_ s₄=>∃ m,m < n /\ J m s₄) (λ_ _=>False) s₃)
     (λ_ _=>False) s₂) (λ_ _=>False) s₁) (λ_ _=>False) s₁) (λ_ _=>False) s)
  (n:Nat) (h:J n s) :
  codeAny (model prog w) A (.compLoop (.ListComp elt [⟨target,iter,[],0⟩] scope pos) 0 it acc env) R s:=by
 refine codeAny_loop rfl J (λn s hI=>?_) n h
 show wpAny _ _ ((compTurn (.ListComp elt [⟨target,iter,[],0⟩] scope pos) 0 it acc env).onRaise (λx=>do noteFrame x env;theTreesLotGoes x)) _ _ s
 refine wpAny_noted ?_
 rw [compTurn_list1]
 refine wpAny_bind (wpAny_standAt (wpAny_bind (wpAny_mono (turn n s hI) (λr s₁ h₁=>?_) λ_ _ h'=>h'.elim)))
 cases r with
 | none=>exact wpAny_pure h₁
 | some v =>
  refine wpAny_bind (wpAny_mono h₁ (λ_ s₁' h₁=>?_) λ_ _ h'=>h'.elim)
  exact wpAny_bind (wpAny_mono h₁ (λ_ s₂ h₂=>wpAny_bind (wpAny_bind (wpAny_mono h₂ (λx s₃ h₃=>wpAny_bind (wpAny_mono h₃
   (λ_ s₄ h₄=>wpAny_pure (wpAny_pure ⟨rfl,h₄⟩)) λ_ _ h'=>h'.elim)) λ_ _ h'=>h'.elim))) λ_ _ h'=>h'.elim)
theorem zx {a b:Nat} (h:a < b):a ≠ b:=Nat.ne_of_lt h
theorem AB {a b:Nat} (h:a < b):a ≠ b + 1:=Nat.ne_of_lt (Nat.lt_succ_of_lt h)
theorem zo {a:Nat}:a ≠ a + 1:=Nat.ne_of_lt (Nat.lt_succ_self a)
section
variable {X:Cx}
theorem mw {csc:Scope} {N':List Str} {fp:List Addr} {C D:Addr} {pins pl:List (Addr × Obj)} {Z Z':St} {H H':Hp} {s s':Shared} {h':Heap} {ys:List V} {its:List Value} {n:Nat} (I:Inv X pins Z H s)
  (J:Inv (bX X N' csc C s H fp) pl Z' H' s') (hf:∀ b ∈ fp,oG X pins H b) (hC:s.heap.objs.size <= C) (hD:s.heap.objs.size <= D) (hDC:D ≠ C) (hs:Heap.SameBut C s'.heap h') (hv:Vals ys its) (hz:ys.length <= sizeLine)
  (hd:s'.heap.get? D = some { cls:=.type "list",data:=.seq its.toArray n }) (hDn:H' D = none):Inv X pins Z (upd H' D (.lst ys)) { s' with heap:=h' }:=by
 have ne:∀ b o,s.heap.get? b = some o -> b ≠ C /\ b ≠ D:=λb o e=>⟨Nat.ne_of_lt (Nat.lt_of_lt_of_le (Heap.lt_size e) hC),Nat.ne_of_lt (Nat.lt_of_lt_of_le (Heap.lt_size e) hD)⟩
 have u:Un (frs X.stack) fp H H' s.heap s'.heap:=J.base
 have nDt:∀ b o,H' b = some o -> b ≠ D:=λb o e=>aj e hDn
 refine I.wC (s':={ s' with heap:=h' }) (ch:=fp) J.os ?_ ?_ J.bare λb hb=>⟨(hf b hb).2.2.2.1,(hf b hb).2.1,(hf b hb).2.2.2.2.1,(hf b hb).2.2.2.2.2⟩
 ·refine ⟨λb o q n hb he=>?_,λb o q n hb he=>?_,λb o q n he=>?_,λb o q he=>?_,λb xs q=>?_,λb o xs q=>?_,λb ps q=>?_⟩
  ·exact (hs.2 b (ne b o q).1).trans (u.keep b o q n hb he)
  ·obtain ⟨sl,e⟩:=u.slot b o q n hb he
   exact ⟨sl,(hs.2 b (ne b o q).1).trans e⟩
  ·rw [ai (ne b o q).2];exact u.free b o q n he
  ·obtain ⟨o',e⟩:=u.there b o q he
   exact ⟨o',(hs.2 b (ne b o q).1).trans e⟩
  ·have:=u.tups b xs q
   rw [ai (nDt b _ this)];exact this
  ·have:=u.nD b o xs q
   rw [ai (nDt b _ this)];exact this
  ·obtain ⟨more,this⟩:=u.pJ b ps q
   exact ⟨more,by rw [ai (nDt b _ this)];exact this⟩
 ·intro b o e
  by_cases hb:b = D
  ·subst hb
   rw [af] at e;cases e
   exact ⟨hz,its,n,hv,(hs.2 b hDC).trans hd⟩
  ·rw [ai hb] at e
   refine (J.hok b o e).stay (λc v hc q=>(hs.2 c ?_).trans q) (λc q=>by rw [ai (nDt c _ q)];exact q) λc xs q=>by rw [ai (nDt c _ q)];exact q
   have hfree:H' C = none:=J.free
   rcases hc with z | z
   ·rw [z];exact aj e hfree
   ·exact aj z hfree
theorem eZ {sc csc:Scope} {N:List Str} {elt iter:Expr} {x:Str} {px pos:Pos} {caps:List (Str × Nat)} {wi:TI} {te:TE} (ck:qo sc csc N x caps) (hi:PI X (.Name x px) iter wi)
  (he:∀ C s2 H2 fp,PE (bX X (caps.map (·.1) ++ [x]) csc C s2 H2 fp) elt te) (hc:X.calm = true:=by rfl) (hsc:X.env.scope = sc:=by rfl) (hXN:X.N = N:=by rfl) (hs:∀ x,foldedSetIterable iter X.env x = pure x:=by intro _;rfl) :
  PE X (.ListComp elt [⟨.Name x px,iter,[],0⟩] csc pos) (K8 caps wi te):=by
 subst hsc hXN
 intro pins s Z H Q I h
 rw [eval_ListComp]
 have cellsOk:∀ p ∈ csc.names,p.2 = .free -> ∃ c,X.env.cells.lookup p.1 = some c:=λp hp e=>I.ok.has p.1 (.inl (ck.free p hp e))
 refine wpAny_comprehension_free (use:=none) rfl hs (iM cellsOk) ck.kind ck.loc (cZ (hi pins s Z H _ I h) λv s1 h1=>cZ h1 λitv s2 h2=>?_)
 obtain ⟨it,fp,tn,J,H2,e,I2,T,st2,f2,W,⟨m0,w0⟩,turn⟩:=h2
 subst e
 refine wpAny_newObj_type (wpAny_newFunctionEnv ck.cell (by intro y hy;simp at hy) (λh4 hns4 hsb4=>?_) ck.kind)
 dsimp only at hns4 hsb4 ⊢
 generalize hD:s2.heap.objs.size = D at hns4 hsb4 ⊢
 generalize hH2:s2.heap.push { cls:=.type "list",dict:=none,data:=.seq ([]:List Value).toArray } = G at hns4 hsb4 ⊢
 have hGs:G.objs.size = D + 1:=by rw [← hH2,Heap.size_push,hD]
 rw [hGs] at hns4 hsb4 ⊢
 have lt2:∀ b o,s2.heap.get? b = some o -> b < D:=λb o e=>hD ▸ Heap.lt_size e
 have old:∀ b o,s2.heap.get? b = some o -> b ≠ D + 1 /\ b ≠ D:=λb o e=>⟨AB (lt2 b o e),zx (lt2 b o e)⟩
 have leD:s2.heap.objs.size <= D:=Nat.le_of_eq hD
 have leD1:s2.heap.objs.size <= D + 1:=Nat.le_succ_of_le leD
 have keep4:∀ b o,s2.heap.get? b = some o -> h4.get? b = some o:=λb o e=>hsb4.extBut b o (old b o e).1 (Heap.get?_push_of_some _ (hH2 ▸ Heap.get?_push_of_some _ e))
 have hDo:h4.get? D = some { cls:=.type "list",data:=.seq ([]:List Value).toArray 0 }:=by
  refine hsb4.extBut D _ zo (Heap.get?_push_of_some _ ?_)
  rw [← hH2,← hD]
  exact Heap.get?_push_size _ rfl
 have fps:∀ b ∈ fp,b < s2.heap.objs.size:=λb hb=>by
  obtain ⟨o,e,_⟩:=T.obj _ _ st2 b hb
  exact Heap.lt_size e
 have I4:∀ t4,Inv (bX X (caps.map (·.1) ++ [x]) csc (D + 1) s2 H2 fp) [] (gY caps Z ++ [none]) H2 { s2 with heap:=h4,toks:=t4 }:=λt4=>kO (m0:=λx=>[].reverse.lookup x) I2 ck f2 fps leD1 keep4 hns4
 have cellsLt:∀ y c,(eF X.env csc.names []).lookup y = some c -> c < D:=λy c e=>by
  obtain ⟨v,o,ho,_⟩:=I2.cell y c (fQ _ _ cellsOk (λy c h=>by simp at h) y c e)
  exact lt2 c o ho
 have fsLt:∀ b ∈ frs X.stack,b < D:=λb hb=>by
  obtain ⟨_,o,ho,_⟩:=I2.stack.mem hb
  exact lt2 b o ho
 have fpC:∀ {pl:List (Addr × Obj)} {H':Hp},(∀ p ∈ pl,p.1 = D) -> (∀ b ∈ fp,H' b = none) -> ∀ b ∈ fp,oG (bX X (caps.map (·.1) ++ [x]) csc (D + 1) s2 H2 fp) pl H' b:=λ{pl H'} hpl hn b hb=>by
  have hb':b < D:=hD ▸ fps b hb
  refine ⟨hn b hb,AB hb',?_,.inl hb,λy c e=>?_,λp hp=>?_⟩
  ·intro z
   rcases List.mem_cons.mp (I2.kP b z) with e | e
   ·exact (f2 b hb).2.1 e
   ·exact (f2 b hb).2.2.1 e
  ·exact (f2 b hb).2.2.2.2.1 y c (fQ _ _ cellsOk (λy c h=>by simp at h) y c e)
  ·have:p.1 = D:=hpl p (by simpa using hp)
   rw [this];exact λz=>zx hb' z.symm
 have loop:∀ t4,codeAny (model X.prog X.w) X.A (.compLoop (.ListComp elt [⟨.Name x px,iter,[],0⟩] csc pos) 0 (.ref it) (.ref D) (compEnvC csc (eF X.env csc.names []) (D + 1) X.env))
   (compPost (model X.prog X.w) X.A X.xe none (EP X pins Z Q) (.ref D) (D + 1)) { s2 with heap:=h4,toks:=t4 }:=by
  intro t4
  refine xw (λn s'=>∃ (i:Nat) (ys:List V) (its:List Value) (k:Nat) (Z':St) (H':Hp),Inv (bX X (caps.map (·.1) ++ [x]) csc (D + 1) s2 H2 fp) [(D,{ cls:=.type "list",data:=.seq its.toArray k })] Z' H' s' /\ tn i s'.heap /\ (∀ b ∈ fp,H' b = none) /\ Vals ys its /\ ys.length <= sizeLine /\ W i n ys H' /\ (∃ z,Z' = gY caps Z ++ [z])) ?_ m0 ?_
  ·rintro n s3 ⟨i,ys,its,k,Z3,H3,I3,st3,fr3,hv,hz,w3,z3,rfl⟩
   have pl1:∀ p ∈ [((D,{ cls:=.type "list",data:=.seq its.toArray k }):Addr × Obj)],p.1 = D:=λp hp=>by rw [List.mem_singleton.mp hp]
   rcases turn i n ys H3 w3 with ⟨stop,qn⟩ | ⟨go,hlt,step⟩
   ·refine wpAny_mono (T.done (bX X (caps.map (·.1) ++ [x]) csc (D + 1) s2 H2 fp) rfl rfl rfl hc i _ s3 _ H3 (λ_ _=>False) I3 (fpC pl1 fr3) st3 stop) (λr s4 ⟨hr,I4'⟩=>?_) λ_ _ f=>f.elim
    subst hr
    obtain ⟨m,hn,_⟩:=id I4'.loc
    have pD:=I4'.pin (D,{ cls:=.type "list",data:=.seq its.toArray k }) (by simp)
    refine ⟨m,hn,λh' hs'=>⟨.ref D,_,mw I2 I4' f2 leD1 leD zo hs' hv hz pD.1 pD.2.1,rfl,qn D pD.2.1⟩⟩
   ·refine wpAny_mono (T.item (bX X (caps.map (·.1) ++ [x]) csc (D + 1) s2 H2 fp) rfl rfl rfl hc i _ s3 _ H3 (λ_ _=>False) I3 (fpC pl1 fr3) st3 go) (λr s4 ⟨u,hr,h4'⟩=>?_) λ_ _ f=>f.elim
    subst hr
    refine wpAny_mono h4' (λ_ s4 ⟨xv,H5,I5,r5,y5,st5,fr5⟩=>?_) λ_ _ f=>f.elim
    have I5':=I5.pinned (fpC pl1 fr5) (T.obj _ _ st5)
    have hiN:(caps.map (·.1) ++ [x])[caps.length]? = some x:=by rw [List.getElem?_append_right (by simp)];simp
    refine wpAny_mono (b9 (X:=bX X (caps.map (·.1) ++ [x]) csc (D + 1) s2 H2 fp) (i:=caps.length) ck.nd hiN (.inl (lookup_relabel_local ck.tg)) (.inr (lookup_relabel_local ck.tg)) _ s4 _ H5 xv u _ I5' r5 (show nW caps.length xv _ H5 (λZ6 H6=>Z6 = gY caps Z ++ [some xv] /\ H6 = H5) from ⟨?_,rfl⟩)) (λ_ s6 ⟨Z6,H6,I6,hZ,hH⟩=>?_) λ_ _ f=>f.elim
    ·rw [List.set_append_right _ _ (by rw [fz];exact Nat.le_refl _),fz,Nat.sub_self];rfl
    subst hZ hH
    refine wpAny_mono (he (D + 1) s2 H2 fp _ s6 _ H6 _ I6 (step xv H6 y5)) (λw7 s7 ⟨y,H7,I7,r7,m',hm,w8⟩=>?_) λ_ _ f=>f.elim
    have pD:=I7.pin (D,{ cls:=.type "list",data:=.seq its.toArray k }) (by simp)
    have hll:=hv.length
    refine call_meets F.slot_list_append ⟨_,pD.1,rfl⟩ F.entry_list_append (F.args_list_append_2 _ _) (PySem.list_append D its.toArray k w7 (by rw [List.size_toArray];omega)) ⟨pD.1,?_⟩
    have q:=PySem.IsL.update pD.1 (·.push w7)
    have hpush:its.toArray.push w7 = (its ++ [w7]).toArray:=by simp
    rw [hpush] at q
    obtain ⟨k',q⟩:∃ k',(s7.heap.update D (Obj.mapSeq (·.push w7))).get? D = some { cls:=.type "list",data:=.seq (its ++ [w7]).toArray k' }:=⟨_,q⟩
    have I7u:Inv (bX X (caps.map (·.1) ++ [x]) csc (D + 1) s2 H2 fp) (iO fp s4.heap) _ H7 s7:=I7.dS λp hp=>I7.pin p (List.mem_append_right _ (List.mem_append_right _ hp))
    have pfp:∀ p ∈ iO fp s4.heap,p.1 < D:=λp hp=>hD ▸ fps p.1 (j0 hp).1
    have I8:=I7u.turned (h':=s7.heap.update D (Obj.mapSeq (·.push w7))) (t':=s7.toks) (it:=D) (λb o hb e=>(Heap.get?_update_other s7.heap _ (Ne.symm hb)).trans e) pD.2.1 zo (.inr leD) (λy c e=>zx (cellsLt y c e)) (λp hp=>zx (pfp p (by simpa using hp)))
    refine ⟨m',hm,i + 1,ys ++ [y],its ++ [w7],k',_,H7,I8.dS λp hp=>?_,T.keep _ _ _ st5 λb hb o e=>(I8.pin (b,o) (List.mem_append_right _ (cJ hb e))).1,λb hb=>?_,hv.append (.cons r7 .nil),?_,w8,_,rfl⟩
    ·rw [List.mem_singleton.mp hp]
     exact ⟨q,pD.2.1,pD.2.2.1,pD.2.2.2.1,λv=>by simp⟩
    ·obtain ⟨o,e,d⟩:=T.obj _ _ st5 b hb
     exact (I8.pin (b,o) (List.mem_append_right _ (cJ hb e))).2.1
    ·rw [List.length_append,List.length_singleton];omega
  ·refine ⟨0,[],[],0,_,H2,(I4 t4).dS λp hp=>?_,T.keep _ _ _ st2 λb hb o e=>keep4 b o e,λb hb=>(f2 b hb).1,.nil,Nat.zero_le _,w0,_,rfl⟩
   rw [List.mem_singleton.mp hp]
   refine ⟨hDo,I2.hok.fresh leD,zo,λz=>absurd (fsLt D z) (Nat.lt_irrefl _),λv=>by simp⟩
 exact codeAny_compStart_list (loop _) (T.self _ 0 _ _ _ (T.keep _ _ _ st2 λb hb o e=>keep4 b o e) (loop _))
end
end L2
namespace L2
open PySem PySem.Spec PyProof.Rows
section
variable {X:Cx}
theorem yK {ys:List Str}:∀ {us:List Value},Vals (ys.map V.str) us -> StrsAre us ys:=by
 induction ys with
 | nil=>intro us r;cases r;exact .nil
 | cons y r ih =>
  intro us h
  cases h with
  | cons h t =>
   obtain ⟨k,rfl⟩:=h
   exact .cons _ _ (ih t)
def rJoin (K:PySem.W.Frag):V -> List V -> Hp -> VK -> Prop:=λx vs H Q=>∃ z p ys,x = .str z /\ vs = [.ref p] /\ aP K H p (ys.map V.str) /\ (ys.map (·.length)).sum + ys.length * z.length <= 16777216 /\ Q (.str (Txt.join z ys)) H
theorem tF:Kg X "str.join" (rJoin X.K):=by
 intro pins s Z H x vs v us Q I rx rv h
 obtain ⟨z,p,ys,rfl,rfl,hq,hz,q⟩:=h
 obtain ⟨t,rfl⟩:=rx
 obtain ⟨u,rfl,ru⟩:=rv.one
 cases ru
 obtain ⟨its,r,pl,_⟩:=I.list hq
 exact PyProof.Rows.join_list pl.isList (by simpa using yK r) hz λt' k=>⟨.str _,H,I.tok _,⟨_,rfl⟩,q⟩
def uh:V -> List V -> Hp -> VK -> Prop:=λx vs H Q=>∃ a b i,x = .str a /\ vs = [.str b,.int i] /\ Q (.bl (fromIndex a.length i + b.length <= a.length && Builtin.Str.subAt a b (fromIndex a.length i))) H
theorem yc:Kg X "str.startswith" uh:=by
 intro pins s Z H x vs v us Q I rx rv h
 obtain ⟨a,b,i,rfl,rfl,q⟩:=h
 obtain ⟨t,rfl⟩:=rx
 obtain ⟨u,w',rfl,ru,rw'⟩:=rv.two
 obtain ⟨t1,rfl⟩:=ru
 obtain ⟨t2,rfl⟩:=rw'
 exact call_gives F.slot_str_startswith (typeIs_str _ _ _) F.entry_str_startswith (F.args_str_startswith_3 _ _ _) (gives_str_startswith_from a b i t t1 t2) ⟨.bl _,H,I,rfl,q⟩
def vX:V -> List V -> Hp -> VK -> Prop:=λx vs H Q=>∃ a b,x = .str a /\ vs = [.str b] /\ Q (.bl (0 + b.length <= a.length && Builtin.Str.subAt a b 0)) H
theorem yS:Kg X "str.startswith" vX:=by
 intro pins s Z H x vs v us Q I rx rv h
 obtain ⟨a,b,rfl,rfl,q⟩:=h
 obtain ⟨t,rfl⟩:=rx
 obtain ⟨u,rfl,ru⟩:=rv.one
 obtain ⟨t1,rfl⟩:=ru
 exact call_gives F.slot_str_startswith (typeIs_str _ _ _) F.entry_str_startswith (F.args_str_startswith_2 _ _) (gives_str_startswith a b t t1) ⟨.bl _,H,I,rfl,q⟩
def oW (z:Str):List V:=z.cps.toList.map λc=>V.str ⟨#[c]⟩
theorem yI {z:Str} {acc:Array Value} (h:ItemsOf (SignAt z) acc z.cps.size):Vals (oW z) acc.toList:=by
 obtain ⟨hs,hi⟩:=h
 have aux:∀ (cs:List Nat) (us:List Value),us.length = cs.length -> (∀ (i:Nat) (v:Value),us[i]? = some v -> ∃ c u,cs[i]? = some c /\ v = Value.str ⟨#[c]⟩ u) -> Vals (cs.map λc=>V.str ⟨#[c]⟩) us:=by
  intro cs
  induction cs with
  | nil=>intro us hl _;cases us with
   | nil=>exact .nil
   | cons _ _=>cases hl
  | cons c r ih =>
   intro us hl h
   cases us with
   | nil=>cases hl
   | cons u r' =>
    refine .cons ?_ (ih r' (by simpa using hl) λi v e=>h (i + 1) v (by simpa using e))
    obtain ⟨c',t,e,z⟩:=h 0 u rfl
    simp at e
    subst e
    exact ⟨t,z⟩
 refine aux _ _ (by simp [hs]) λi v e=>?_
 obtain ⟨c,u,e1,e2⟩:=hi i v (by simpa using e)
 exact ⟨c,u,by simpa using e1,e2⟩
theorem yH (hc:X.calm = true):jo X (.type "list") (λxs H Q=>∃ z:Str,xs = [.str z] /\ z.length <= sizeLine /\ ∀ l,H l = none -> Q (.ref l) (upd H l (.lst (oW z)))):=by
 intro pins s Z H xs us Q I r h
 obtain ⟨z,rfl,hz,q⟩:=h
 obtain ⟨u,rfl,rx⟩:=vals1 r
 obtain ⟨t,rfl⟩:=rx
 refine PySem.call_list_str (I.ok.hd hc) z t (λh' tk acc' c' kp e hi=>?_) hz
 have hv:=yI hi
 exact ⟨.ref s.heap.objs.size,_,I.laid (t':=tk) kp (Nat.le_refl _) (show cS X.prog X.w _ h' _ (.lst (oW z)) from ⟨by simp only [oW,List.length_map,Array.length_toList];exact hz,acc'.toList,c',hv,by simpa using e⟩),rfl,q _ (I.hok.fresh (Nat.le_refl _))⟩
end
end L2
namespace L2
open PySem PySem.Spec PyProof.Rows
def At (X:Cx) (D:Ends) (sts:List Stmt) (Z:St) (H:Hp):Prop:=∀ (pins:List (Addr × Obj)) (s:Shared),Inv X pins Z H s -> wpAny (model X.prog X.w) X.A (execs sts X.env) (SP X pins D) X.xe s
section
variable {X:Cx} {D:Ends} {st:Stmt} {rest sts:List Stmt} {t:TS} {Z:St} {H:Hp}
theorem av:xZ X sts (λD Z H=>At X D sts Z H):=λpins s Z H D I h=>h pins s I
theorem bx (h:D.nx Z H):At X D [] Z H:=λ_ _ I=>wpAny_execs_nil ⟨Z,H,I,h⟩
theorem ay (h:PS X st t) (q:t { D with nx:=λZ H=>At X D rest Z H } Z H):At X D (st :: rest) Z H:=λpins s I =>
 (wj h av) pins s Z H D I q
theorem au (h:PS X st t) (q:t D Z H):At X D [st] Z H:=λpins s I=>(EV h) pins s Z H D I q
theorem sO (h:At X D sts Z H):∃ t,xZ X sts t /\ t D Z H:=⟨λD' Z' H'=>D' = D /\ Z' = Z /\ H' = H,λpins s Z' H' D' I ⟨e1,e2,e3⟩=>by subst e1 e2 e3;exact h pins s I,rfl,rfl,rfl⟩
end
theorem eS {c:Prop} [Decidable c] {A B:Prop} (h1:c -> A) (h2:¬ c -> B):if decide c = true then A else B:=by
 by_cases h:c
 ·rw [decide_eq_true h];exact h1 h
 ·rw [decide_eq_false h];exact h2 h
theorem iX {c:Prop} [Decidable c] {A B:Prop} (h1:¬ c -> A) (h2:c -> B):if (!decide c) = true then A else B:=by
 by_cases h:c
 ·rw [decide_eq_true h];exact h2 h
 ·rw [decide_eq_false h];exact h1 h
theorem L5 {c:Bool} {A B:Prop} (h1:c = true -> A) (h2:c = false -> B):if c = true then A else B:=by
 cases c
 ·exact h2 rfl
 ·exact h1 rfl
theorem ak.upd {H:Hp} {p:Addr} {o:HO} (h:H p = none):ak H (upd H p o):=λb u e=>by rw [ai (aj e h)];exact e
theorem ak.to {H H1:Hp} {p:Addr} {o:HO} (s:ak H H1) (h:H1 p = none):ak H (L2.upd H1 p o):=s.trans (ak.upd h)
theorem aP.same {K:PySem.W.Frag} {H H':Hp} {a:Addr} {xs:List V} (h:aP K H a xs) (e:ak H H'):aP K H' a xs:=e.seq h
section
variable {X:Cx} {C:Addr} {x:Str} {p pos:Pos}
def CP (C:Addr):TE:=λ_ H Q=>∀ x dx,H x = none -> H dx = none -> dx ≠ x -> Q (.ref x) (upd (upd H dx (.own x)) x (.ins C dx []))
end
end L2
namespace L2
open PySem PySem.Spec PyProof.Rows
section
variable {X:Cx} {C:Addr} {x:Str} {p pos:Pos}
structure LU (K:PySem.W.Frag) (C:Addr):Prop where
 makes:PySem.W.makesIn K C = true
 init:PySem.W.findIn K (.ref C) "__init__" = some (some (.builtin "object.__init__"))
 kp:PySem.W.keepIn K (.ref C) = true
theorem n9 (M:LU X.K C) (hg:Gl X x) (hm:X.mg x = some (.ref C)) (hdb:(x == ("__debug__" : Str)) = false:=by decide):PE X (.Call (.Name x p) [] [] pos) (CP C):=by
 intro pins s Z H Q I h
 refine wpAny_Call_Name_kw (gZ I hg hm ?_ hdb)
 refine PySem.W.callWith_K0 I.jB M.kp (wpAny_call ?_)
 have hq:=h (s.heap.objs.size + 1) s.heap.objs.size (I.hok.fresh (Nat.le_succ _)) (I.hok.fresh (Nat.le_refl _)) (Nat.ne_of_lt (Nat.lt_succ_self _))
 have I2:=Inv.made (C:=C) I
 have Y:=PySem.W.makes_of (M:=model X.prog X.w) I.jB M.makes
 refine Ax I.jB M.makes M.init (λself=>PySem.W.Looks.of_pure (PySem.W.oi_bind self)) ?_
 obtain ⟨hh,g,d,t,os⟩:=s
 have e2:((hh.push PySem.W.emptyDict).push (PySem.W.instObj C hh.objs.size)).get? (hh.objs.size + 1) = some (PySem.W.instObj C hh.objs.size):=by
  have:=Heap.get?_push_size (hh.push PySem.W.emptyDict) (o:=PySem.W.instObj C hh.objs.size) rfl
  rwa [Heap.size_push] at this
 have t1:PySem.W.Looks (model X.prog X.w) ((hh.push PySem.W.emptyDict).push (PySem.W.instObj C hh.objs.size)) (typeOf (.ref (hh.objs.size + 1))) (.ref C):=(PySem.W.Looks.ld e2).andThen .now
 have t2:PySem.W.Looks (model X.prog X.w) ((hh.push PySem.W.emptyDict).push (PySem.W.instObj C hh.objs.size)) (isInstance (.ref (hh.objs.size + 1)) (.type "object")) true:=t1.andThen (Y.top.keeps λb o e=>Heap.get?_push_of_some _ (Heap.get?_push_of_some _ e))
 refine codeAny_call_builtin PySem.W.oi_plain PySem.W.entry_oi (@PySem.W.check_slot (model X.prog X.w) _ _ _ "object.__init__" "object" "__init__" (.ref (hh.objs.size + 1)) [] [] _ PySem.W.oi_kind PySem.W.oi_split t2 (PySem.W.oi_args (.ref (hh.objs.size + 1))) ?_)
 rw [PySem.W.oi_run]
 exact wpAny_pure ⟨rfl,⟨V.ref (hh.objs.size + 1),_,I2,rfl,hq⟩⟩
end
end L2
namespace L2
open PySem PySem.Spec PyProof.Rows
section
variable {X:Cx}
def K5:V -> Option Int -> Option Int -> Hp -> VK -> Prop:=λx lo hi H Q=>∃ z,x = .str z /\ z.length <= sizeLine /\ Q (.str (Txt.slice z lo hi)) H
theorem part_of {v:Value} {o:Option Int} (h:IsPart v o):∃ l:Option (Int × Tok),v = partValue l /\ l.map (·.1) = o:=by
 cases h with
 | none=>exact ⟨none,rfl,rfl⟩
 | int i t=>exact ⟨some (i,t),rfl,rfl⟩
theorem DI:MM X K5:=by
 intro pins s Z H x v vl vu lo hi sl Q I rx hs pl pu h
 obtain ⟨z,rfl,hz,q⟩:=h
 obtain ⟨t,rfl⟩:=rx
 obtain ⟨l,rfl,rfl⟩:=part_of pl
 obtain ⟨u,rfl,rfl⟩:=part_of pu
 refine ⟨"str",_,F.slot_str_getitem.lookup,typeIs_str _ _ _,wpAny_getItem_str_slice (l:=l) (u:=u) (st:=none) (by obtain ⟨o,e,c,d⟩:=hs;exact ⟨o,e,c,d⟩) rfl ?_⟩
 exact post_val_or_str ⟨Nat.le_trans (Txt.slice_le z _ _) hz,λt' k=>⟨.str _,H,I.tok _,⟨t',rfl⟩,q⟩⟩
end
end L2
namespace L2
open PySem PySem.Spec PyProof.Rows
section
variable {X:Cx} {D:Ends} {st:Stmt} {rest sts:List Stmt} {t:TS} {Z:St} {H:Hp}
theorem aB (R:St -> Hp -> Prop) (h:PS X st t) (q:t { D with nx:=R } Z H) (r:∀ Z H,R Z H -> At X D rest Z H):At X D (st :: rest) Z H:=λpins s I =>
 (wj h (u:=λD' Z H=>D' = D /\ R Z H) (λpins s Z H D' I ⟨e,z⟩=>by subst e;exact r Z H z pins s I)) pins s Z H D I (by
  have e:(λZ H=>D = D /\ R Z H) = R:=by funext Z H;simp
  show t { D with nx:=λZ H=>D = D /\ R Z H } Z H
  rw [e];exact q)
theorem G1 {CX:qw} {P:Program} {w:World} {K:PySem.W.Frag} {mg:Str -> Option Value} {base:Heap} {N:List Str} {qual:Str} {scope:Scope} {f:Addr} {cd:Value} {A:Around} {outer:List Env} {s:Shared} {H:Hp} {E:XK} :
  (iB CX P w K mg base N qual scope f cd A outer s H E).K = K:=rfl
end
end L2
namespace L2
open PySem PySem.Spec PyProof.Rows
theorem yk {caps:List (Str × Nat)} {lo:Int} {n:Nat} {te:TE} {Z:St} {H:Hp} {Q:VK} (Pv:Nat -> List V -> Hp -> Prop) (h0:Pv 0 [] H) (hn:n < sizeLine)
  (hs:∀ i ys H,i < n -> ys.length = i -> Pv i ys H -> te (gY caps Z ++ [some (.int (lo + i))]) H λy H2=>∃ m',m' < n - i /\ m' = n - (i + 1) /\ i + 1 <= n /\ (ys ++ [y]).length = i + 1 /\ Pv (i + 1) (ys ++ [y]) H2) (hd:∀ ys H,ys.length = n -> Pv n ys H -> ∀ D,H D = none -> Q (.ref D) (upd H D (.lst ys))) :
  zD (EG lo n) caps te Z H Q:=by
 refine ⟨λi m ys H=>m = n - i /\ i <= n /\ ys.length = i /\ Pv i ys H,⟨n,by simp,Nat.zero_le _,rfl,h0⟩,?_⟩
 rintro i m ys H ⟨rfl,hi,hl,p⟩
 by_cases hlt:i < n
 ·refine .inr ⟨hlt,by omega,λx H' y=>?_⟩
  obtain ⟨e,y⟩:=y
  subst e y
  exact hs i ys _ hlt hl p
 ·have e:i = n:=by omega
  subst e
  exact .inl ⟨Nat.le_refl _,hd ys H hl p⟩
theorem dN {K:PySem.W.Frag} {a:Addr} {xs:List V} {caps:List (Str × Nat)} {te:TE} {Z:St} {H:Hp} {Q:VK} (Pv:Nat -> List V -> Hp -> Prop) (h0:Pv 0 [] H) (hn:xs.length < sizeLine)
  (hq:∀ i ys H,i <= xs.length -> Pv i ys H -> aP K H a xs)
  (hs:∀ i x ys H,xs[i]? = some x -> ys.length = i -> Pv i ys H -> te (gY caps Z ++ [some x]) H λy H2=>∃ m',m' < xs.length - i /\ m' = xs.length - (i + 1) /\ i + 1 <= xs.length /\ (ys ++ [y]).length = i + 1 /\ Pv (i + 1) (ys ++ [y]) H2) (hd:∀ ys H,ys.length = xs.length -> Pv xs.length ys H -> ∀ D,H D = none -> Q (.ref D) (upd H D (.lst ys))) :
  zD (Gn K a) caps te Z H Q:=by
 refine ⟨λi m ys H=>m = xs.length - i /\ i <= xs.length /\ ys.length = i /\ Pv i ys H,⟨xs.length,by simp,Nat.zero_le _,rfl,h0⟩,?_⟩
 rintro i m ys H ⟨rfl,hi,hl,p⟩
 have q:=hq i ys H hi p
 by_cases hlt:i < xs.length
 ·refine .inr ⟨⟨xs,xs[i],q,by simp [hlt]⟩,by omega,λx H' y=>?_⟩
  obtain ⟨e,y⟩:=y
  subst e
  exact hs i x ys _ (y xs q) hl p
 ·have e:i = xs.length:=by omega
  subst e
  exact .inl ⟨⟨xs,q,Nat.le_refl _⟩,hd ys H hl p⟩
theorem cR {n i:Nat} {ys:List V} {y:V} {R:Prop} (hi:i < n) (hl:ys.length = i) (r:R):∃ m',m' < n - i /\ m' = n - (i + 1) /\ i + 1 <= n /\ (ys ++ [y]).length = i + 1 /\ R :=
 ⟨n - (i + 1),by omega,rfl,hi,by simp [hl],r⟩
theorem xD {α:Type} (xs:List α) {i:Int} (h0:0 <= i) (h1:i < xs.length):∃ v,xs[i.toNat]? = some v /\ qv xs i = some v:=by
 have h3:i.toNat < xs.length:=by omega
 refine ⟨xs[i.toNat],List.getElem?_eq_getElem h3,?_⟩
 have q:=aS (xs:=xs) (List.getElem?_eq_getElem h3)
 rw [Int.toNat_of_nonneg h0] at q
 exact q
theorem pS (a:Int) {m:Int} (h:0 < m):0 <= a % m /\ a % m < m:=⟨Int.emod_nonneg _ (by omega),Int.emod_lt_of_pos _ h⟩
theorem bL {n:Nat} (h:n <= 1000000):n <= sizeLine:=Nat.le_trans h (by decide)
theorem cE {n:Nat} (h:n <= 1000000):n < sizeLine:=Nat.lt_of_le_of_lt h (by decide)
theorem EW {K:PySem.W.Frag} {i:Nat} {f:Str} {Z:St} {H:Hp} {Q:VK} {a C dx:Addr} {fs:List (Str × V)} {v:V} (e:Z[i]? = some (some (.ref a))) (h:H a = some (.ins C dx fs)) (c:nB K C) (n:bI K C f) (l:fs.lookup f = some v) (q:Q v H):J3 K (Fy i) f Z H Q :=
 ⟨_,e,a,C,dx,fs,v,rfl,h,c,n,l,q⟩
def ER (J:It) (g:TG) (tb:TS) (D:Ends) (Z:St) (H1:Hp):Prop:=∃ W:Nat -> Nat -> St -> Hp -> Prop,(∃ m,W 0 m Z H1) /\ ∀ i m Z H,W i m Z H ->
 (J.stop i H /\ D.nx Z H) ∨ (J.go i H /\ ∃ N:St -> Hp -> Prop,(∀ Z' H',N Z' H' -> ∃ m',m' < m /\ W (i + 1) m' Z' H') /\ ∀ x H',J.IP i H x H' -> g x Z H' λZ2 H2=>tb { D with nx:=N,ct:=N,bk:=D.nx } Z2 H2)
def Kz (wi:TI) (g:TG) (tb:TS):TS:=λD Z H=>wi Z H λJ H1=>ER J g tb D Z H1
theorem dU {X:Cx} {tg iter:Expr} {body:List Stmt} {wi:TI} {g:TG} {tb:TS} {pos:Pos} (hp:PassesOwn (model X.prog X.w) X.A X.env X.xe) (hc:X.calm = true) (hi:PI X tg iter wi) (hg:PG X tg g) (hb:xZ X body tb)
  (hs:∀ x,foldedSetIterable iter X.env x = pure x:=by intro _;rfl):PS X (.For tg iter body [] pos) (Kz wi g tb):=JI hp hc hi hg hb hs
theorem fJ {lo:Int} {n:Nat} {g:TG} {tb:TS} {D:Ends} {Z:St} {H:Hp} (Pv:Nat -> St -> Hp -> Prop) (h0:Pv 0 Z H)
  (hs:∀ i Z H,i < n -> Pv i Z H -> g (.int (lo + i)) Z H λZ2 H2=>tb { D with nx:=Pv (i + 1),ct:=Pv (i + 1),bk:=D.nx } Z2 H2) (hd:∀ Z H,Pv n Z H -> D.nx Z H):ER (EG lo n) g tb D Z H:=Bb Pv h0 hs hd
theorem ic {K:PySem.W.Frag} {a:Addr} {xs:List V} {g:TG} {tb:TS} {D:Ends} {Z:St} {H:Hp} (Pv:Nat -> St -> Hp -> Prop) (h0:Pv 0 Z H) (hl:∀ i Z H,i <= xs.length -> Pv i Z H -> aP K H a xs)
  (hs:∀ i x Z H,xs[i]? = some x -> Pv i Z H -> g x Z H λZ2 H2=>tb { D with nx:=Pv (i + 1),ct:=Pv (i + 1),bk:=D.nx } Z2 H2) (hd:∀ Z H,Pv xs.length Z H -> D.nx Z H):ER (Gn K a) g tb D Z H:=Bp Pv h0 hl hs hd
end L2
namespace L2
open PySem PySem.Spec PyProof.Rows
section
variable {κ:Type} [DecidableEq κ]
def iy (kvs:List (κ × V)) (k:κ):Option V:=(kvs.find? λkv=>decide (kv.1 = k)).map (·.2)
def putK (kvs:List (κ × V)) (k:κ) (v:V):List (κ × V) :=
 if (kvs.any λkv=>decide (kv.1 = k)) = true then kvs.map (λkv=>if kv.1 = k then (kv.1,v) else kv) else kvs ++ [(k,v)]
theorem eK {p:κ × V} {r:List (κ × V)} {k:κ} (e:p.1 = k):iy (p :: r) k = some p.2:=by simp [iy,List.find?_cons,e]
theorem ez {p:κ × V} {r:List (κ × V)} {k:κ} (e:¬ p.1 = k):iy (p :: r) k = iy r k:=by simp [iy,List.find?_cons,e]
theorem jz (k:κ):∀ kvs:List (κ × V),(kvs.any λkv=>decide (kv.1 = k)) = (iy kvs k).isSome
 | []=>rfl
 | p :: r=>by
  rw [List.any_cons]
  by_cases e:p.1 = k
  ·simp only [eK e,decide_eq_true e,Bool.true_or,Option.isSome_some]
  ·rw [ez e,decide_eq_false e,Bool.false_or];exact jz k r
theorem uW (k j:κ) (y:V):∀ kvs:List (κ × V),iy (kvs.map λkv=>if kv.1 = k then (kv.1,y) else kv) j = (iy kvs j).map λx=>if j = k then y else x
 | []=>rfl
 | p :: r=>by
  have ih:=uW k j y r
  rw [List.map_cons]
  by_cases h:p.1 = k
  ·rw [if_pos h]
   by_cases e:p.1 = j
   ·rw [eK (p:=(p.1,y)) e,eK e,Option.map_some,if_pos (e.symm.trans h)]
   ·rw [ez (p:=(p.1,y)) e,ez e,ih]
  ·rw [if_neg h]
   by_cases e:p.1 = j
   ·rw [eK (p:=p) e,eK e,Option.map_some,if_neg (λz=>h (e.trans z))]
   ·rw [ez (p:=p) e,ez e,ih]
theorem q8 (k j:κ) (y:V):∀ kvs:List (κ × V),iy kvs k = none -> iy (kvs ++ [(k,y)]) j = if j = k then some y else iy kvs j
 | [],_=>by
  by_cases e:k = j
  ·rw [if_pos e.symm];exact eK (p:=(k,y)) e
  ·rw [if_neg (λz=>e z.symm)];exact ez (p:=(k,y)) e
 | p :: r,hn=>by
  rw [List.cons_append]
  have hk:¬ p.1 = k:=λz=>by rw [eK z] at hn;cases hn
  rw [ez hk] at hn
  have ih:=q8 k j y r hn
  by_cases e:p.1 = j
  ·rw [eK e,eK e,if_neg (λz=>hk (e.trans z))]
  ·rw [ez e,ez e,ih]
theorem uF (kvs:List (κ × V)) (k j:κ) (y:V):iy (putK kvs k y) j = if j = k then some y else iy kvs j:=by
 unfold putK
 by_cases a:(kvs.any λkv=>decide (kv.1 = k)) = true
 ·rw [if_pos a,uW]
  rw [jz] at a
  by_cases e:j = k
  ·obtain ⟨x,hx⟩:=Option.isSome_iff_exists.mp a
   rw [if_pos e,e,hx,Option.map_some,if_pos rfl]
  ·rw [if_neg e]
   cases iy kvs j with
   | none=>rfl
   | some x=>rw [Option.map_some,if_neg e]
 ·rw [if_neg a]
  refine q8 k j y kvs ?_
  rw [jz] at a
  cases q:iy kvs k with
  | none=>rfl
  | some x=>rw [q] at a;exact (a rfl).elim
theorem mH (kvs:List (κ × V)) (k:κ) (v:V):(putK kvs k v).length <= kvs.length + 1:=by
 unfold putK
 split
 ·rw [List.length_map];omega
 ·rw [List.length_append,List.length_cons,List.length_nil];omega
theorem jh.lX {o:Option V} {u:Option Value} (r:jh o u):o.isSome = u.isSome:=by
 cases o with
 | none=>cases u with
  | none=>rfl
  | some _=>exact (show False from r).elim
 | some _=>cases u with
  | none=>exact (show False from r).elim
  | some _=>rfl
theorem jh.getD {o:Option V} {u:Option Value} {d:V} {d':Value} (r:jh o u) (rd:RelV d d'):RelV (o.getD d) (u.getD d'):=by
 cases o with
 | none=>cases u with
  | none=>exact rd
  | some _=>exact (show False from r).elim
 | some _=>cases u with
  | none=>exact (show False from r).elim
  | some _=>exact r
theorem KV.val {kvs:List (κ × V)} {vs:List (κ × Value)} (r:KV kvs vs) (k:κ):jh (iy kvs k) (valueAt vs k):=by
 unfold KV at r
 induction r with
 | nil=>exact True.intro
 | @cons p q ps qs h t ih =>
  obtain ⟨h1,h2⟩:=h
  by_cases e:p.1 = k
  ·have e':q.1 = k:=h1.symm.trans e
   have b:valueAt (q :: qs) k = some q.2:=by simp [valueAt,List.find?_cons,e']
   rw [eK e,b];exact h2
  ·have e':¬ q.1 = k:=λz=>e (h1.trans z)
   have b:valueAt (q :: qs) k = valueAt qs k:=by simp [valueAt,List.find?_cons,e']
   rw [ez e,b];exact ih
theorem KV.any {kvs:List (κ × V)} {vs:List (κ × Value)} (r:KV kvs vs) (k:κ):(kvs.any λkv=>decide (kv.1 = k)) = vs.any λkv=>decide (kv.1 = k):=by
 unfold KV at r
 induction r with
 | nil=>rfl
 | cons h t ih=>rw [List.any_cons,List.any_cons,ih,h.1]
theorem KV.repl {kvs:List (κ × V)} {vs:List (κ × Value)} (r:KV kvs vs) (k:κ) {y:V} {u:Value} (ry:RelV y u) :
  KV (kvs.map λkv=>if kv.1 = k then (kv.1,y) else kv) (vs.map λkv=>if kv.1 = k then (kv.1,u) else kv):=by
 unfold KV at r ⊢
 induction r with
 | nil=>exact .nil
 | @cons p q ps qs h t ih =>
  rw [List.map_cons,List.map_cons]
  refine .cons ?_ ih
  obtain ⟨h1,h2⟩:=h
  by_cases e:p.1 = k
  ·rw [if_pos e,if_pos (h1.symm.trans e)];exact ⟨h1,ry⟩
  ·rw [if_neg e,if_neg (λz=>e (h1.trans z))];exact ⟨h1,h2⟩
theorem KV.put {kvs:List (κ × V)} {vs:List (κ × Value)} (r:KV kvs vs) (k:κ) {y:V} {u:Value} (ry:RelV y u):KV (putK kvs k y) (stored vs k u):=by
 unfold putK stored
 rw [r.any k]
 by_cases e:(vs.any λkv=>decide (kv.1 = k)) = true
 ·rw [if_pos e,if_pos e];exact r.repl k ry
 ·rw [if_neg e,if_neg e];exact Paired.snoc r ⟨rfl,ry⟩
theorem KV.length {kvs:List (κ × V)} {vs:List (κ × Value)} (r:KV kvs vs):kvs.length = vs.length:=Paired.length r
end
theorem zz {P:Program} {w:World} {k:Key} {u:Value} (r:RelV (kV k) u):(dI P w).is k u = true:=by
 cases k with
 | inl i=>obtain ⟨t,e⟩:=(show ∃ t,u = Value.int i t from r);subst e;exact vc P w i t
 | inr x=>obtain ⟨t,e⟩:=(show ∃ t,u = Value.str x t from r);subst e;exact wL P w x t
theorem rE {P:Program} {w:World}:∀ {ks:List Key} {us:List Value},Vals (ks.map kV) us -> ItemsAre (dI P w) ks us
 | [],_,r=>by rw [List.map_nil] at r;cases r;exact .nil
 | k :: ks,_,r=>by
  rw [List.map_cons] at r
  cases r with
  | cons h t=>exact .cons (zz h) (rE t)
abbrev KT (H:Hp):List (List Key × V) -> List (List Key × Addr × Value) -> Prop:=Paired λp q=>p.1 = q.1 /\ H q.2.1 = some (.tup (p.1.map kV)) /\ RelV p.2 q.2.2
theorem KT.val {H:Hp} {kvs:List (List Key × V)} {xs:List (List Key × Addr × Value)} (r:KT H kvs xs) (k:List Key):jh (iy kvs k) ((atKey xs k).map (·.2)):=by
 induction r with
 | nil=>exact True.intro
 | @cons p q ps qs h t ih =>
  obtain ⟨h1,_,h2⟩:=h
  by_cases e:p.1 = k
  ·have e':q.1 = k:=h1.symm.trans e
   have b:atKey (q :: qs) k = some q.2:=by simp [atKey,List.find?_cons,e']
   rw [eK e,b];exact h2
  ·have e':¬ q.1 = k:=λz=>e (h1.trans z)
   have b:atKey (q :: qs) k = atKey qs k:=by simp [atKey,List.find?_cons,e']
   rw [ez e,b];exact ih
theorem KT.repl {H:Hp} {kvs:List (List Key × V)} {xs:List (List Key × Addr × Value)} (r:KT H kvs xs) (k:List Key) {y:V} {u:Value} (ry:RelV y u) :
  KT H (kvs.map λkv=>if kv.1 = k then (kv.1,y) else kv) (xs.map (putAt k u)):=by
 induction r with
 | nil=>exact .nil
 | @cons p q ps qs h t ih =>
  rw [List.map_cons,List.map_cons]
  refine .cons ?_ ih
  obtain ⟨h1,h2,h3⟩:=h
  unfold putAt
  by_cases e:p.1 = k
  ·rw [if_pos e,if_pos (h1.symm.trans e)];exact ⟨h1,h2,ry⟩
  ·rw [if_neg e,if_neg (λz=>e (h1.trans z))];exact ⟨h1,h2,h3⟩
theorem KT.put {H:Hp} {kvs:List (List Key × V)} {xs:List (List Key × Addr × Value)} (r:KT H kvs xs) (k:List Key) {b:Addr} {y:V} {u:Value} (hb:H b = some (.tup (k.map kV))) (ry:RelV y u) :
  KT H (putK kvs k y) (storedH xs k b u):=by
 have e:(kvs.any λkv=>decide (kv.1 = k)) = (atKey xs k).isSome:=by
  rw [jz,(r.val k).lX,Option.isSome_map]
 unfold putK storedH
 rw [e]
 by_cases q:(atKey xs k).isSome = true
 ·rw [if_pos q,if_pos q];exact r.repl k ry
 ·rw [if_neg q,if_neg q];exact Paired.snoc r ⟨rfl,hb,ry⟩
theorem KT.keeps {H H':Hp} {kvs:List (List Key × V)} {xs:List (List Key × Addr × Value)} (r:KT H kvs xs) (ht:∀ b ys,H b = some (.tup ys) -> H' b = some (.tup ys)):KT H' kvs xs :=
 Paired.Iw r λ_ _ z=>⟨z.1,ht _ _ z.2.1,z.2.2⟩
section
variable {P:Program} {w:World} {H:Hp} {h:Heap} {a:Addr}
theorem F5 {u:HO} (ok:jr P w H h) (e:Rd H a u):cS P w H h a u:=e.ok ok
theorem vJ {kvs:List (Key × V)} (ok:jr P w H h) (e:Rd H a (.dK kvs)):kvs.length <= sizeLine /\ (a == sysModules) = false /\ ∃ vs,KV kvs vs /\ h.DictOf (dI P w) a vs :=
 show cS P w H h a (.dK kvs) from F5 ok e
theorem Ln {kvs:List (Key × V)} (ok:jr P w H h) (e:H a = some (.dK kvs)):kvs.length <= sizeLine /\ (a == sysModules) = false /\ ∃ vs,KV kvs vs /\ h.DictOf (dI P w) a vs:=vJ ok (.inl e)
theorem tD {ks:List Key} (ok:jr P w H h) (e:H a = some (.tup (ks.map kV))):(tupleKind (dI P w)).is h ks a:=by
 obtain ⟨_,its,r,o,h1,h2,n,h3⟩:=(show cS P w H h a (.tup (ks.map kV)) from ok a _ e)
 exact ⟨o,its.toArray,n,h1,h2,h3,by simpa using rE r⟩
theorem zw {kvs:List (List Key × V)} (ok:jr P w H h) (e:Rd H a (.dT kvs)):kvs.length <= sizeLine /\ (a == sysModules) = false /\
  ∃ xs,KT H kvs xs /\ h.DictOfH (tupleKind (dI P w)) a xs:=by
 obtain ⟨z,y,xs,r,o,es,ep,h1,h2,h3,h4,h5⟩:=(show cS P w H h a (.dT kvs) from F5 ok e)
 refine ⟨z,y,xs,r,o,es,ep,h1,h2,h3,h4,λx hx=>?_,h5⟩
 have all:∀ {l:List (List Key × V)} {m:List (List Key × Addr × Value)},KT H l m -> ∀ x ∈ m,(tupleKind (dI P w)).is h x.1 x.2.1:=by
  intro l m q
  induction q with
  | nil=>intro x hx;exact nomatch hx
  | @cons p q ps qs hq t ih =>
   intro x hx
   rcases List.mem_cons.mp hx with e | hx
   ·subst e
    exact tD ok (by rw [← hq.1];exact hq.2.1)
   ·exact ih x hx
 exact all r x hx
theorem KG {kvs:List (List Key × V)} (ok:jr P w H h) (e:H a = some (.dT kvs)):kvs.length <= sizeLine /\ (a == sysModules) = false /\
  ∃ xs,KT H kvs xs /\ h.DictOfH (tupleKind (dI P w)) a xs:=zw ok (.inl e)
end
def ux (H:Hp) (a:Addr) (y:V) (r:Option V):Prop :=
 (∃ kvs k,Rd H a (.dK kvs) /\ y = kV k /\ r = iy kvs k) ∨ ∃ kvs k b,Rd H a (.dT kvs) /\ y = .ref b /\ H b = some (.tup (k.map kV)) /\ r = iy kvs k
def Ei (H:Hp) (a:Addr) (y v:V) (H':Hp):Prop :=
 (∃ kvs k,H a = some (.dK kvs) /\ y = kV k /\ kvs.length < sizeLine /\ H' = upd H a (.dK (putK kvs k v))) ∨
 ∃ kvs k b,H a = some (.dT kvs) /\ y = .ref b /\ H b = some (.tup (k.map kV)) /\ kvs.length < sizeLine /\ H' = upd H a (.dT (putK kvs k v))
theorem ux.k {H:Hp} {a:Addr} {kvs:List (Key × V)} {k:Key} (e:H a = some (.dK kvs)):ux H a (kV k) (iy kvs k):=.inl ⟨kvs,k,.inl e,rfl,rfl⟩
theorem Ei.k {H:Hp} {a:Addr} {kvs:List (Key × V)} {k:Key} {v:V} (e:H a = some (.dK kvs)) (hl:kvs.length < sizeLine):Ei H a (kV k) v (upd H a (.dK (putK kvs k v))):=.inl ⟨kvs,k,e,rfl,hl,rfl⟩
section
variable {X:Cx} {pins:List (Addr × Obj)} {Z:St} {H:Hp} {s:Shared} {a:Addr} {y v:V} {u r:Value} {o:Option V} {A:Around} {E:Value -> Shared -> Prop}
theorem Inv.big (I:Inv X pins Z H s):sysModules < s.heap.objs.size:=by
 have h:mainGlobals < s.heap.objs.size:=(I.mod.glob.keeps I.bk).lt
 exact Nat.lt_trans (by decide) h
theorem Fp {Q:Value -> Shared -> Prop} (hu:A.units + 1 < cLine) (I:Inv X pins Z H s) (g:ux H a y o) (ry:RelV y u) (h:∀ s',Inv X pins Z H s' -> Q (.bool (!o.isSome)) s') :
  wpAny (model X.prog X.w) A (compareOp .NotIn u (.ref a)) Q E s:=by
 rcases g with ⟨kvs,k,e,ey,l⟩ | ⟨kvs,k,b,e,ey,eb,l⟩
 ·subst ey
  obtain ⟨z,hd,vs,rel,dd⟩:=vJ I.hok e
  refine wpAny_notIn_of (zz ry) hd dd.mapOf ?_
  rw [← (rel.val k).lX,← l]
  exact h _ (I.tok _)
 ·subst ey
  cases (show u = Value.ref b from ry)
  obtain ⟨z,hd,xs,rel,dd⟩:=zw I.hok e
  refine wpAny_notIn_heap (tupleKind_room_in1 hu) (tD I.hok eb) hd dd ?_
  have q:=(rel.val k).lX
  rw [Option.isSome_map] at q
  rw [← q,← l]
  exact h _ (I.tok _)
theorem zQ {h':Heap} {t':Nat} {ob:HO} (I:Inv X pins Z H s) (mu:Lw (H a)) (hs:Heap.SameBut a s.heap h') (he:∃ q,h'.get? a = some q) (new:cS X.prog X.w (upd H a ob) h' a ob) :
  Inv X pins Z (upd H a ob) { s with heap:=h',toks:=t' } :=
 I.write (x:=a) (e:=a) mu (.inl rfl) (λb q hb z=>(hs.2 b hb).trans z) he new
theorem HR {P:Program} {w:World} {H':Hp} {h':Heap} {kvs:List (Key × V)} {vs:List (Key × Value)} (z:kvs.length <= sizeLine) (hd:(a == sysModules) = false) (rel:KV kvs vs) (dd:h'.DictOf (dI P w) a vs) :
  cS P w H' h' a (.dK kvs):=⟨z,hd,vs,rel,dd⟩
theorem AU {H':Hp} {Q:Unit -> Shared -> Prop} (hu:A.units + 1 < cLine) (I:Inv X pins Z H s) (g:Ei H a y v H') (ry:RelV y u) (rv:RelV v r) (h:∀ s',Inv X pins Z H' s' -> Q () s') :
  wpAny (model X.prog X.w) A (setItem (.ref a) u r) Q E s:=by
 rcases g with ⟨kvs,k,e,ey,l,eH⟩ | ⟨kvs,k,b,e,ey,eb,l,eH⟩
 ·subst ey eH
  obtain ⟨z,hd,vs,rel,dd⟩:=Ln I.hok e
  have hz:vs.length <= sizeLine:=by rw [← rel.length];exact z
  have hl:(putK kvs k v).length <= sizeLine:=by have:=mH kvs k v;omega
  refine wpAny_setItem_pairs (hsz:=hz) (zz ry) dd λh' dd' hs=>h _ ?_
  have he:∃ q,h'.get? a = some q:=let ⟨q,_,_,hq,_⟩:=dd';⟨q,hq⟩
  exact zQ I (by rw [e];exact True.intro) hs he (HR hl hd (rel.put k rv) dd')
 ·subst ey eH
  cases (show u = Value.ref b from ry)
  obtain ⟨z,hd,xs,rel,dd⟩:=KG I.hok e
  have hz:xs.length <= sizeLine:=by rw [← Paired.length rel];exact z
  have hl:(putK kvs k v).length <= sizeLine:=by have:=mH kvs k v;omega
  refine wpAny_setItem_heap (hsz:=hz) (tupleKind_room_in1 hu) (tD I.hok eb) dd λh' dd' hs=>h _ ?_
  obtain ⟨q,es,ep,hq,h2,h3,h4,_,h5⟩:=dd'
  refine zQ I (by rw [e];exact True.intro) hs ⟨q,hq⟩ ⟨hl,hd,_,(rel.put k eb rv).keeps λc ys ec=>?_,q,es,ep,hq,h2,h3,h4,h5⟩
  rw [ai (cP ec e (λz=>nomatch z))]
  exact ec
end
section
variable {X:Cx} {pins:List (Addr × Obj)} {Z:St} {H:Hp} {s:Shared} {a:Addr} {kvs:List (Key × V)} {k:Key} {u:Value} {A:Around} {E:Value -> Shared -> Prop}
theorem Kr {Q:Value -> Shared -> Prop} (I:Inv X pins Z H s) (e:Rd H a (.dK kvs)) (h:∀ t s',Inv X pins Z H s' -> Q (.int kvs.length t) s'):wpAny (model X.prog X.w) A (call (.builtin "len") [.ref a]) Q E s:=by
 obtain ⟨z,hd,vs,rel,dd⟩:=vJ I.hok e
 refine call_len_dict hd dd (by rw [← rel.length];rw [sizeLine_eq] at z;omega) ?_
 rw [← rel.length]
 exact h _ _ (I.tok _)
end
def FI (ty td:TE):TE:=λZ H Q=>ty Z H λy H1=>td Z H1 λx H2=>∃ a o,x = .ref a /\ ux H2 a y o /\ Q (.bl (!o.isSome)) H2
def Kp (td ty tv:TE):TS:=λD Z H=>tv Z H λv H1=>td Z H1 λx H2=>ty Z H2 λy H3=>∃ a H4,x = .ref a /\ Ei H3 a y v H4 /\ D.nx Z H4
section
variable {X:Cx} {o i e value:Expr} {pos pos' tpos:Pos} {td ty tv:TE}
theorem A5 (hu:X.A.units + 1 < cLine) (hi:PE X i ty) (ho:PE X o td):PC X .NotIn i o (FI ty td):=by
 intro pins s Z H Q I h
 refine cZ (hi pins s Z H _ I h) λiv s1 ⟨y,H1,I1,ry,q1⟩=>cZ (ho pins s1 Z H1 _ I1 q1) λu s2 ⟨x,H2,I2,rx,a,ov,ex,g,q2⟩=>?_
 subst ex
 obtain rfl:u = Value.ref a:=rx
 exact Fp hu I2 g ry λs3 I3=>⟨.bl (!ov.isSome),H2,I3,rfl,q2⟩
theorem E9 (hu:X.A.units + 1 < cLine) (ho:PE X o td) (hi:PE X i ty) (hv:PE X value tv) (hs:swapsWith value (some (.Subscript o i pos')) pos.line X.env = pure false) :
  PS X (.Assign [.Subscript o i pos'] value pos) (Kp td ty tv):=by
 intro pins s Z H D I h
 refine wpAny_Assign_Subscript (cZ (hv pins s Z H _ I h) λr s1 ⟨v,H1,I1,rv,q1⟩=>cZ (ho pins s1 Z H1 _ I1 q1) λu s2 ⟨x,H2,I2,rx,q2⟩=>cZ (hi pins s2 Z H2 _ I2 q2) λiv s3 ⟨y,H3,I3,ry,a,H4,ex,g,q3⟩=>?_) hs
 subst ex
 obtain rfl:u = Value.ref a:=rx
 exact AU hu I3 g ry rv λs4 I4=>⟨Z,H4,I4,q3⟩
end
theorem CC {P:Program} {w:World} {H:Hp} (h:Heap) (hb:sysModules < h.objs.size):cS P w H (h.push { cls:=.type "dict",data:=.dict #[] }) h.objs.size (.dK []) :=
 ⟨Nat.zero_le _,beq_eq_false_iff_ne.mpr (Ne.symm (Nat.ne_of_lt hb)),[],.nil,Heap.DictOf.new h⟩
def GP:TE:=λ_ H Q=>∀ p,H p = none -> Q (.ref p) (upd H p (.dK []))
section
variable {X:Cx} {pos:Pos}
theorem Dw:PE X (.Dict [] [] pos) GP:=λpins s Z H Q I h =>
 wpAny_Dict_empty ⟨.ref s.heap.objs.size,_,I.laid (a:=s.heap.objs.size) (o:=.dK []) (t':=s.toks) (λ_ _ q=>Heap.get?_push_of_some _ q) (Nat.le_refl _) (CC s.heap I.big),rfl,h _ (I.hok.fresh (Nat.le_refl _))⟩
end
structure M1 (X:Cx) (o:Expr) (m:Str) (apos:Pos) (e:Expr) (cpos:Pos):Prop where
 base:attributeBase o m X.env (eval o X.env) = eval o X.env
 few:((backTo cpos (starEach [e] X.env)).all (λx=>!x.1) && (backToKw cpos (keywordEach [] X.env)).all (λx=>x.1.isSome)
  && decide (([e]:List Expr).length + ([]:List Keyword).length + (if ([]:List Keyword).isEmpty then 0 else 1) < 30)) = true
 line:(apos.endLine == cpos.line) = true
 trees:backTo cpos (starEach [e] X.env) = [(false,eval e X.env)]
def IsD (H:Hp) (a:Addr):Prop:=(∃ kvs,Rd H a (.dK kvs)) ∨ ∃ kvs,Rd H a (.dT kvs)
theorem JR {X:Cx} {pins:List (Addr × Obj)} {Z:St} {H:Hp} {s:Shared} {a:Addr} (I:Inv X pins Z H s) (d:IsD H a) :
  s.TypeIs (.ref a) "dict" /\ (∀ b,Value.ref a = .ref b -> ∃ ob,s.heap.get? b = some ob /\ ob.dict = none) /\ (a == sysModules) = false:=by
 rcases d with ⟨kvs,e⟩ | ⟨kvs,e⟩
 ·obtain ⟨_,hd,vs,_,dd⟩:=vJ I.hok e
  refine ⟨dd.typeIs,λb q=>?_,hd⟩
  cases q
  obtain ⟨ob,_,_,h1,h2,_⟩:=dd
  exact ⟨ob,h1,h2.2.1⟩
 ·obtain ⟨_,hd,xs,_,dd⟩:=zw I.hok e
  refine ⟨dd.typeIs,λb q=>?_,hd⟩
  cases q
  obtain ⟨ob,_,_,h1,h2,_⟩:=dd
  exact ⟨ob,h1,h2.2.1⟩
section
variable {X:Cx} {pins:List (Addr × Obj)} {Z:St} {H:Hp} {s:Shared} {a:Addr} {y d:V} {u r:Value} {o:Option V} {A:Around} {E:Value -> Shared -> Prop}
theorem JQ {Q:Value -> Shared -> Prop} (hu:A.units + 1 < cLine) (I:Inv X pins Z H s) (g:ux H a y o) (ry:RelV y u) (h:∀ w' s',Inv X pins Z H s' -> RelV (o.getD .cL) w' -> Q w' s') :
  wpAny (model X.prog X.w) A (call (.builtin "dict.get") [.ref a,u]) Q E s:=by
 rcases g with ⟨kvs,k,e,ey,l⟩ | ⟨kvs,k,b,e,ey,eb,l⟩
 ·subst ey
  obtain ⟨z,hd,vs,rel,dd⟩:=vJ I.hok e
  refine call_meetsIn PySem.F.slot_dict_get dd.typeIs PySem.F.entry_dict_get (PySem.F.args_dict_get_2 _ _) (meets_dict_get (dI X.prog X.w) a (zz ry) hd) ⟨_,dd.mapOf,h _ _ (I.tok _) ?_⟩
  rw [l]
  exact (rel.val k).getD rfl
 ·subst ey
  cases (show u = Value.ref b from ry)
  obtain ⟨z,hd,xs,rel,dd⟩:=zw I.hok e
  refine call_meetsIn PySem.F.slot_dict_get dd.typeIs PySem.F.entry_dict_get (PySem.F.args_dict_get_2 _ _) (meetsH_dict_get (tupleKind (dI X.prog X.w)) a b hd) ⟨tupleKind_room_in1 hu,k,xs,tD I.hok eb,dd,h _ _ (I.tok _) ?_⟩
  rw [l]
  exact (rel.val k).getD rfl
end
def HG (td ty:TE):TE:=λZ H Q=>td Z H λx H1=>∃ a,x = .ref a /\ IsD H1 a /\ ty Z H1 λy H2=>∃ o,ux H2 a y o /\ Q (o.getD .cL) H2
section
variable {X:Cx} {o e f:Expr} {apos cpos:Pos} {td ty tx:TE}
theorem En (hu:X.A.units + 1 < cLine) (ho:PE X o td) (he:PE X e ty) (m:M1 X o "get" apos e cpos):PE X (.Call (.Attribute o "get" apos) [e] [] cpos) (HG td ty):=by
 intro pins s Z H Q I h
 refine wpAny_Call_method m.base m.few m.line PySem.F.plainAttrs_dict PySem.F.slot_dict_get PySem.F.type_dict_get (cZ (ho pins s Z H _ I h) λu s1 ⟨x,H1,I1,rx,a,ex,d,q1⟩=>?_)
 subst ex
 obtain rfl:u = Value.ref a:=rx
 obtain ⟨t1,t2,_⟩:=JR I1 d
 refine ⟨t1,t2,?_⟩
 rw [m.trees]
 refine Calls.callWith_builtin rfl (Calls.evalArgs_plain (Calls.spliced_cons (cZ (he pins s1 Z H1 _ I1 q1) λiv s2 ⟨y,H2,I2,ry,ov,g,q2⟩=>Calls.spliced_nil ?_)))
 exact JQ hu I2 g ry λw' s3 I3 rw'=>⟨_,H2,I3,rw',q2⟩
end
section
variable {X:Cx} {pins:List (Addr × Obj)} {Z:St} {H:Hp} {s:Shared} {a:Addr} {kvs:List (Key × V)} {A:Around} {E:Value -> Shared -> Prop}
end
section
variable {X:Cx} {pins:List (Addr × Obj)} {Z:St} {H:Hp} {s:Shared} {a:Addr} {y:V} {u:Value} {A:Around} {E:Value -> Shared -> Prop}
end
section
variable {X:Cx}
theorem AO:jo X (.builtin "len") (λxs H Q=>∃ a kvs,xs = [V.ref a] /\ H a = some (.dK kvs) /\ Q (.int kvs.length) H):=by
 intro pins s Z H xs us Q I r h
 obtain ⟨a,kvs,rfl,ha,q⟩:=h
 obtain ⟨u,rfl,ru⟩:=vals1 r
 cases ru
 exact Kr I (.inl ha) λt s' I'=>⟨.int kvs.length,H,I',⟨t,rfl⟩,q⟩
end
section
variable {κ:Type} [DecidableEq κ]
end
end L2
namespace L2
open PySem PySem.Spec PyProof.Rows
section
variable {X:Cx}
def Ct:V -> List V -> Hp -> VK -> Prop:=λx vs H Q=>∃ a b:Str,x = .str a /\ vs = [.str b] /\ (b.length == 0) = false /\ a.length + 2 <= sizeLine /\ ∀ p,H p = none -> Q (.ref p) (upd H p (.lst ((PySem.Txt.split a b).map V.str)))
theorem Ar:∀ (n:Nat) (ys:List Str),Vals (ys.map V.str) (strsFrom n ys):=by
 intro n ys
 rw [strsFrom_eq]
 have aux:∀ (l:List (Str × Tok)),Vals ((l.map (·.1)).map V.str) (strValues l):=by
  intro l
  induction l with
  | nil=>exact .nil
  | cons p r ih=>exact .cons ⟨p.2,rfl⟩ ih
 have:=aux (numbered n ys)
 rwa [numbered_texts] at this
theorem p7:Kg X "str.split" Ct:=by
 intro pins s Z H x vs v us Q I rx rv h
 obtain ⟨a,b,rfl,rfl,hb,hz,q⟩:=h
 obtain ⟨t,rfl⟩:=rx
 obtain ⟨u,rfl,ru⟩:=rv.one
 obtain ⟨t1,rfl⟩:=ru
 have q0:=q s.heap.objs.size (I.hok.fresh (Nat.le_refl _))
 have hle:=PyProof.Rows.split_le a b
 cases h1:(decide (a.length < b.length) || decide (Builtin.Str.strKind a < Builtin.Str.strKind b))
 ·cases hf:(Builtin.Str.occurrences a b 0 a.length (a.length + 1)).isEmpty
  ·have e:PySem.Txt.split a b = Builtin.Str.partsBetween a (Builtin.Str.occurrences a b 0 a.length (a.length + 1)) b.length:=by
    unfold PySem.Txt.split
    rw [if_neg (ne_true_of_eq_false h1),if_neg (ne_true_of_eq_false hf)]
   rw [e] at q0 hle
   refine call_meets F.slot_str_split (typeIs_str _ _ _) F.entry_str_split (F.args_str_split_2 _ _) (meets_str_split_sep a b t t1 h1 hb hf (by omega) (by omega)) ?_
   exact ⟨.ref _,_,I.DH (t':=_) (Ar s.toks _) (by rw [List.length_map];omega),rfl,q0⟩
  ·have e:PySem.Txt.split a b = [a]:=by
    unfold PySem.Txt.split
    rw [if_neg (ne_true_of_eq_false h1),if_pos hf]
   rw [e] at q0
   refine call_meets F.slot_str_split (typeIs_str _ _ _) F.entry_str_split (F.args_str_split_2 _ _) (meets_str_split_not_found a b t t1 h1 hb hf) ?_
   exact ⟨.ref _,_,I.DH (ys:=[.str a]) (t':=s.toks) (.cons ⟨t,rfl⟩ .nil) (by show 1 <= sizeLine;decide),rfl,q0⟩
 ·have e:PySem.Txt.split a b = [a]:=by
   unfold PySem.Txt.split
   rw [if_pos h1]
  rw [e] at q0
  refine call_meets F.slot_str_split (typeIs_str _ _ _) F.entry_str_split (F.args_str_split_2 _ _) (meets_str_split_cannot_occur a b t t1 h1) ?_
  exact ⟨.ref _,_,I.DH (ys:=[.str a]) (t':=s.toks) (.cons ⟨t,rfl⟩ .nil) (by show 1 <= sizeLine;decide),rfl,q0⟩
theorem tV {bs:List Bool}:∀ {us:List Value},Vals (bs.map V.bl) us -> LSm.BoolsAre us bs:=by
 induction bs with
 | nil=>intro us r;cases r;exact .nil
 | cons y r ih =>
  intro us h
  cases h with
  | cons h t =>
   cases h
   exact .cons _ (ih t)
theorem Ak (hc:X.calm = true):jo X (.builtin "all") (λxs H Q=>∃ (p:Addr) (bs:List Bool),xs = [.ref p] /\ aP X.K H p (bs.map V.bl) /\ Q (.bl (bs.all id)) H):=by
 intro pins s Z H xs us Q I r h
 obtain ⟨p,bs,rfl,hq,q⟩:=h
 obtain ⟨u,rfl,rx⟩:=vals1 r
 cases rx
 obtain ⟨its,r',pl,hz⟩:=I.list hq
 have hb:=tV r'
 have hl:=pl.isList
 have hlt:p < s.heap.objs.size:=by obtain ⟨_,e,_⟩:=hl;exact Heap.lt_size e
 refine call_all_walk (wpAny_pyIter_list hl ?_)
 refine ⟨s.heap.objs.size,[s.heap.objs.size,p],[s.heap.objs.size],its.toArray.size,_,_,λi=>(bs[i]?).getD true,rfl,Walks.list (A:=X.A.in1) (I.ok.hd hc) _ p (Nat.ne_of_lt hlt) its.toArray,
  ⟨⟨_,Heap.get?_push_size _ rfl,rfl,rfl⟩,hl.push _⟩,λi v s' Q' E' hP hQ=>?_,λh' tk hk=>?_⟩
 ·obtain ⟨b,e,rfl⟩:=hb.get i v (by simpa using hP)
  simp only [e,Option.getD_some] at hQ
  exact wpAny_truthy_bool hQ
 ·have e:((List.range its.toArray.size).all λi=>(bs[i]?).getD true) = bs.all id:=by
   rw [List.size_toArray,hb.length];exact LSm.range_all bs
  rw [e]
  exact ⟨.bl _,H,I.kept (t':=tk) (LSm.kept_iter hk),rfl,q⟩
end
def LX (z:Str):It:=⟨λi _=>i < z.length,λi H x H'=>H' = H /\ ∃ c,z.cps.toList[i]? = some c /\ x = .str ⟨#[c]⟩,λi _=>z.length <= i⟩
section
variable {X:Cx} {tg:Expr}
theorem rK {P:Program} {w:World} {K:PySem.W.Frag} {x:Str} {px:Pos} (z:Str) (it:Addr) (St:Nat -> Heap -> Prop) (cl:∀ i h,St i h -> ∃ o,h.get? it = some o /\ ∀ v,o.data ≠ .cell v)
  (fr:∀ i h h',St i h -> (∀ o,h.get? it = some o -> h'.get? it = some o) -> St i h') (sf:∀ (A:Around) (i:Nat) (s:Shared) (Q:Value -> Shared -> Prop) (E:Value -> Shared -> Prop),St i s.heap -> Q (.ref it) s -> wpAny (model P w) A (pyIter (.ref it)) Q E s)
  (W:∀ A:Around,A.handled = none -> Walks P w A it [it] [it] z.cps.size (SignAt z) St):Turn P w K (.Name x px) (LX z) [it] it (λi h=>St i h /\ i <= z.length) where
 mem:=by simp
 obj:=λi h st b hb=>by
  have e:b = it:=by simpa using hb
  subst e
  exact cl i h st.1
 keep:=λi h h' st k=>⟨fr i h h' st.1 λo e=>k it (by simp) o e,st.2⟩
 item:=by
  intro X hP hw hK hc i pins s Z H E I hf st hg
  subst hP hw hK
  obtain ⟨f0,f1,f2,f3,f4,f5⟩:=hf it (by simp)
  refine (W X.A (I.ok.hd hc)).item i s _ E hg st.1 λv h' tk hP st' hk=>?_
  obtain ⟨c,u,e1,rfl⟩:=hP
  refine ⟨_,rfl,?_⟩
  show wpAny _ _ (pure ()) _ _ _
  refine wpAny_pure ⟨.str ⟨#[c]⟩,H,I.turned (t':=tk) (λb o hb e=>hk b o (by simpa using hb) e) f0 f1 f3 f4 f5,⟨u,rfl⟩,⟨rfl,c,by simpa using e1,rfl⟩,⟨st',hg⟩,λb hb=>(hf b hb).1⟩
 done:=by
  intro X hP hw hK hc i pins s Z H E I hf st hg
  subst hP hw hK
  obtain ⟨f0,f1,f2,f3,f4,f5⟩:=hf it (by simp)
  have e:i = z.cps.size:=Nat.le_antisymm st.2 hg
  subst e
  exact (W X.A (I.ok.hd hc)).done s _ E st.1 λh' tk hk=>⟨rfl,I.turned (t':=tk) (λb o hb e=>hk b o (by simpa using hb) e) f0 f1 f3 f4 f5⟩
 self:=λA i s Q E st h=>sf A i s Q E st.1 h
def MB (te:TE):TI:=λZ H R=>te Z H λx H1=>∃ z:Str,x = .str z /\ R (LX z) H1
theorem Jc {e:Expr} {te:TE} {x:Str} {px:Pos} (he:PE X e te):PI X (.Name x px) e (MB te):=by
 intro pins s Z H R I h
 refine cZ (he pins s Z H _ I h) λv s1 ⟨y,H1,I1,r1,q1⟩=>?_
 obtain ⟨z,rfl,q⟩:=q1
 obtain ⟨t,rfl⟩:=r1
 have fin:∀ (o:Obj) (St:Nat -> Heap -> Prop),Turn X.prog X.w X.K (.Name x px) (LX z) [s1.heap.objs.size] s1.heap.objs.size St -> St 0 (s1.heap.push o) -> L8 X pins Z (.Name x px) R (.ref s1.heap.objs.size) { s1 with heap:=s1.heap.push o }:=λo St T st=>by
  refine ⟨s1.heap.objs.size,[s1.heap.objs.size],_,_,H1,rfl,I1.kept (t':=s1.toks) λb o e=>Heap.get?_push_of_some _ e,T,st,λb hb=>?_,q⟩
  have e:b = s1.heap.objs.size:=by simpa using hb
  subst e
  exact I1.E5 (Nat.le_refl _) (I1.hok.fresh (Nat.le_refl _))
 have cl:∀ ty (i:Nat) (h:Heap),h.IsStrIter s1.heap.objs.size ty z t i -> ∃ o,h.get? s1.heap.objs.size = some o /\ ∀ v,o.data ≠ .cell v:=λty i h st=>by
  obtain ⟨o,e,c,d⟩:=st
  exact ⟨o,e,λv q=>by rw [d] at q;cases q⟩
 have fr:∀ ty (i:Nat) (h h':Heap),h.IsStrIter s1.heap.objs.size ty z t i -> (∀ o,h.get? s1.heap.objs.size = some o -> h'.get? s1.heap.objs.size = some o) -> h'.IsStrIter s1.heap.objs.size ty z t i:=λty i h h' st k=>by
  obtain ⟨o,e,r⟩:=st
  exact ⟨o,k o e,r⟩
 cases ha:z.cps.all (· < 128)
 ·exact wpAny_pyIter_wide ha (fin _ _ (rK z _ _ (cl _) (fr _) (λA i s Q E st h=>wpAny_pyIter_striter_wide st h) (λA hA=>Walks.strWide hA _ z t)) ⟨⟨_,Heap.get?_push_size _ rfl,rfl,rfl⟩,Nat.zero_le _⟩)
 ·exact wpAny_pyIter_ascii ha (fin _ _ (rK z _ _ (cl _) (fr _) (λA i s Q E st h=>wpAny_pyIter_striter_ascii st h) (λA hA=>Walks.strAscii hA _ z t)) ⟨⟨_,Heap.get?_push_size _ rfl,rfl,rfl⟩,Nat.zero_le _⟩)
def Mb (K:PySem.W.Frag) (a:Addr):It :=
 ⟨λi H=>∃ xs x,aP K H a xs /\ xs[i]? = some x,λi H x H'=>∃ p v,H p = none /\ x = .ref p /\ H' = upd H p (.tup [.int i,v]) /\ ∀ xs,aP K H a xs -> xs[i]? = some v,λi H=>∃ xs,aP K H a xs /\ xs.length <= i⟩
theorem Av {P:Program} {w:World} {K:PySem.W.Frag} {elts:List Expr} {x1} {pos:Pos} (a e it:Addr) (hne:e ≠ it):Turn P w K (.Tuple elts x1 pos) (Mb K a) [e,it] e (λi h=>∃ old,IsEnum h e it i old /\ h.IsListIter it a i) where
 mem:=by simp
 obj:=λi h st b hb=>by
  obtain ⟨old,st,si⟩:=st
  rcases List.mem_cons.mp hb with z | z
  ·subst z
   exact ⟨_,st,λv q=>by cases q⟩
  ·have e:b = it:=by simpa using z
   subst e
   obtain ⟨o,e,c,d⟩:=si
   exact ⟨o,e,λv q=>by rw [d] at q;cases q⟩
 keep:=λi h h' st k=>by
  obtain ⟨old,st,si⟩:=st
  exact ⟨old,k e (by simp) _ st,si.at λo q=>k it (by simp) o q⟩
 item:=by
  intro X hP hw hK hc i pins s Z H E I hf st hg
  subst hP hw hK
  obtain ⟨old,st,si⟩:=st
  obtain ⟨xs,x,hq,hx⟩:=hg
  obtain ⟨its,rv,p,hz⟩:=I.list hq
  obtain ⟨u,hu,ru⟩:=rv.get hx
  have f:=hf e (by simp)
  have g:=hf it (by simp)
  refine wpAny_pyNext_enum_item st si p.isList (x:=u) (by simpa using hu) hne λh1 eo si1 ht hsz hk=>?_
  refine ⟨_,rfl,wpAny_letOwnedTupleGo_enum (s:={ s with heap:=h1,toks:=s.toks + 1 }) eo λh2 en sb=>?_⟩
  have hs1:e ≠ s.heap.objs.size:=Nat.ne_of_lt (Heap.lt_size st)
  have hs2:it ≠ s.heap.objs.size:=by obtain ⟨o,q,_⟩:=si;exact Nat.ne_of_lt (Heap.lt_size q)
  have k2:∀ b o,b ≠ e -> b ≠ it -> s.heap.get? b = some o -> h2.get? b = some o:=λb o n1 n2 q=>(sb.2 b n1).trans (hk b o n1 n2 q)
  have fresh:=I.hok.fresh (Nat.le_refl s.heap.objs.size)
  have I1:Inv X pins Z (upd H s.heap.objs.size (.tup [.int i,x])) { s with heap:=h2,toks:=s.toks + 1 }:=by
   refine I.step (g':=s.gens) (d':=s.drawn) (ch:=[e,it]) (λb hb=>?_) (λb o _ _ hc q _=>?_) (λb o _ _ hc q _=>?_) (λb o hc q n=>?_) (λb o hc q=>?_) (λb ys q=>?_) (λb o ys q=>?_) (λb ps q=>?_) (λm hm=>?_) (λb u' q=>?_) I.bare
   ·rcases List.mem_cons.mp hb with z | z
    ·rw [z];exact ⟨f.2.2.2.1,f.2.1,f.2.2.2.2.1,f.2.2.2.2.2⟩
    ·have z:b = it:=by simpa using z
     rw [z];exact ⟨g.2.2.2.1,g.2.1,g.2.2.2.2.1,g.2.2.2.2.2⟩
   ·exact k2 b o (λz=>hc (by simp [z])) (λz=>hc (by simp [z])) q
   ·exact ⟨o.slots,k2 b o (λz=>hc (by simp [z])) (λz=>hc (by simp [z])) q⟩
   ·rw [ai (Nat.ne_of_lt (Heap.lt_size q))];exact n
   ·exact ⟨o,k2 b o (λz=>hc (by simp [z])) (λz=>hc (by simp [z])) q⟩
   ·rw [ai (aj q fresh)];exact q
   ·rw [ai (aj q fresh)];exact q
   ·exact ⟨#[],by rw [ai (aj q fresh),q];simp⟩
   ·obtain ⟨o,es,ep,ho,r⟩:=hm
    exact ⟨o,es,ep,k2 _ o (Ne.symm f.2.1) (Ne.symm g.2.1) ho,r⟩
   ·by_cases hb:b = s.heap.objs.size
    ·subst hb
     rw [af] at q;cases q
     refine ⟨by show 2 <= sizeLine;decide,[_,u],.cons ⟨_,rfl⟩ (.cons ru .nil),⟨_,(sb.2 _ (Ne.symm hs1)).trans ht,rfl,_,rfl⟩⟩
    ·rw [ai hb] at q
     refine (I.hok b u' q).stay (λc v hc' r=>k2 c v ?_ ?_ r) (λc r=>by rw [ai (aj r fresh)];exact r) λc ys r=>by rw [ai (aj r fresh)];exact r
     ·rcases hc' with z | z
      ·rw [z];exact aj q f.1
      ·exact aj z f.1
     ·rcases hc' with z | z
      ·rw [z];exact aj q g.1
      ·exact aj z g.1
  refine ⟨.ref s.heap.objs.size,_,I1,rfl,⟨_,x,fresh,rfl,rfl,λys hy=>by rw [I.tX hy hq];exact hx⟩,⟨_,en,?_⟩,λb hb=>?_⟩
  ·obtain ⟨o,q,r⟩:=si1
   exact ⟨o,(sb.2 it (Ne.symm hne)).trans q,r⟩
  ·have hb':=(hf b hb).1
   rcases List.mem_cons.mp hb with z | z
   ·rw [ai (by rw [z];exact hs1)];exact hb'
   ·have z:b = it:=by simpa using z
    rw [ai (by rw [z];exact hs2)];exact hb'
 done:=by
  intro X hP hw hK hc i pins s Z H E I hf st hg
  subst hP hw hK
  obtain ⟨old,st,si⟩:=st
  obtain ⟨xs,hq,hx⟩:=hg
  obtain ⟨its,rv,p,hz⟩:=I.list hq
  obtain ⟨f0,f1,f2,f3,f4,f5⟩:=hf it (by simp)
  have hl:=rv.length
  exact wpAny_pyNext_enum_end (I.ok.hd hc) st si p.isList (by simp;omega) λh' eb=>⟨rfl,I.turned (t':=s.toks) (λb o hb e=>eb b o hb e) f0 f1 f3 f4 f5⟩
 self:=λ_ _ _ _ _ st h=>by
  obtain ⟨old,st,si⟩:=st
  exact wpAny_pyIter_enum st h
def Lb (K:PySem.W.Frag) (ta:TA):TI:=λZ H R=>ta Z H λvs H1=>∃ a xs,vs = [.ref a] /\ aP K H1 a xs /\ R (Mb K a) H1
theorem zS {a:Expr} {ta:TA} {p pos tp:Pos} {elts:List Expr} {x1} (hg:Gl X "enumerate") (hm:X.mg "enumerate" = none) (ha:PA X [a] ta) (hs:starEach [a] X.env = [(false,eval a X.env)]:=by rfl) :
  PI X (.Tuple elts x1 tp) (.Call (.Name "enumerate" p) [a] [] pos) (Lb X.K ta):=by
 intro pins s Z H R I h
 refine Call_ (tL I hg hm (show bootBuiltins "enumerate" = some (.type "enumerate") by decide +kernel) (PyProof.Rows.callWith_type1 (cZ (ha pos pins s Z H _ I h) λus s1 ⟨vs,H1,I1,r1,q1⟩=>?_) hs rfl))
 obtain ⟨l,xs,rfl,hq,q⟩:=q1
 obtain ⟨u,rfl,ru⟩:=r1.one
 cases ru
 obtain ⟨its,rv,pl,hz⟩:=I1.list hq
 refine call_enumerate_list pl.isList λh' he hi hsz hk=>?_
 refine wpAny_pyIter_enum (s:={ s1 with heap:=h' }) he ?_
 refine ⟨s1.heap.objs.size + 1,[s1.heap.objs.size + 1,s1.heap.objs.size],_,_,H1,rfl,I1.kept (t':=s1.toks) hk,Av l _ _ (Nat.succ_ne_self _),⟨_,he,hi⟩,λb hb=>?_,q⟩
 have hb':s1.heap.objs.size <= b:=by
  rcases List.mem_cons.mp hb with z | z
  ·rw [z];exact Nat.le_succ _
  ·have z:b = s1.heap.objs.size:=by simpa using z
   rw [z];exact Nat.le_refl _
 exact I1.E5 hb' (I1.hok.fresh hb')
end
end L2
namespace L2
open PySem PySem.Spec PyProof.Rows
theorem j7 {x y:Str} (h:x.cps.toList = y.cps.toList):x = y:=by
 obtain ⟨a⟩:=x
 obtain ⟨b⟩:=y
 have:a = b:=Array.toList_inj.mp h
 rw [this]
theorem fY (x y:Str):(x ++ y).cps.toList = x.cps.toList ++ y.cps.toList:=by
 show (x.cps ++ y.cps).toList = _
 simp
def fT (c:Nat):List (List Nat) -> List Nat
 | []=>[]
 | [x]=>x
 | x :: y :: r=>x ++ c :: fT c (y :: r)
theorem gK (c:Nat):∀ ps:List Str,(Str.join ⟨#[c]⟩ ps).cps.toList = fT c (ps.map λp=>p.cps.toList)
 | []=>rfl
 | [x]=>rfl
 | x :: y :: r=>by
  show (x ++ ⟨#[c]⟩ ++ Str.join ⟨#[c]⟩ (y :: r)).cps.toList = x.cps.toList ++ c :: fT c ((y :: r).map λp=>p.cps.toList)
  rw [fY,fY,gK c (y :: r)]
  simp
theorem Ab {c:Nat}:∀ {a b r s:List Nat},c ∉ a -> c ∉ b -> a ++ c :: r = b ++ c :: s -> a = b /\ r = s
 | [],[],r,s,_,_,h=>⟨rfl,by simpa using h⟩
 | [],y :: b,r,s,_,hb,h=>by
  simp at h
  exact absurd (by simp [h.1]) hb
 | x :: a,[],r,s,ha,_,h=>by
  simp at h
  exact absurd (by simp [h.1]) ha
 | x :: a,y :: b,r,s,ha,hb,h=>by
  simp only [List.cons_append,List.cons.injEq] at h
  obtain ⟨e1,e2⟩:=Ab (λz=>ha (List.mem_cons_of_mem _ z)) (λz=>hb (List.mem_cons_of_mem _ z)) h.2
  exact ⟨by rw [h.1,e1],e2⟩
theorem rT {c:Nat}:∀ {ps qs:List (List Nat)},ps ≠ [] -> qs ≠ [] -> (∀ p ∈ ps,c ∉ p) -> (∀ q ∈ qs,c ∉ q) -> fT c ps = fT c qs -> ps = qs
 | [],_,h,_,_,_,_=>absurd rfl h
 | _ :: _,[],_,h,_,_,_=>absurd rfl h
 | [x],[y],_,_,_,_,h=>by simp only [fT] at h;rw [h]
 | [x],y :: z :: r,_,_,hx,_,h=>by
  simp only [fT] at h
  exact absurd (by rw [h];simp) (hx x (by simp))
 | x :: z :: r,[y],_,_,_,hy,h=>by
  simp only [fT] at h
  exact absurd (by rw [← h];simp) (hy y (by simp))
 | x :: x2 :: r,y :: y2 :: s,_,_,hx,hy,h=>by
  simp only [fT] at h
  obtain ⟨e1,e2⟩:=Ab (hx x (by simp)) (hy y (by simp)) h
  have:=rT (ps:=x2 :: r) (qs:=y2 :: s) (by simp) (by simp) (λp hp=>hx p (List.mem_cons_of_mem _ hp)) (λq hq=>hy q (List.mem_cons_of_mem _ hq)) e2
  rw [e1,this]
theorem nP {c:Nat} {ps:List Str} (hn:ps ≠ []) (hf:∀ p ∈ ps,c ∉ p.cps.toList):PySem.Txt.split (Str.join ⟨#[c]⟩ ps) ⟨#[c]⟩ = ps:=by
 have h1:=PySem.StrLaws.join_split (Str.join ⟨#[c]⟩ ps) ⟨#[c]⟩
 have h2:=PySem.StrLaws.split_free (Str.join ⟨#[c]⟩ ps) c
 have h3:=PyProof.Rows.split_pos (Str.join ⟨#[c]⟩ ps) ⟨#[c]⟩
 generalize PySem.Txt.split (Str.join ⟨#[c]⟩ ps) ⟨#[c]⟩ = qs at h1 h2 h3
 have h4:=congrArg (λx:Str=>x.cps.toList) h1
 simp only [gK] at h4
 have inj:∀ {a b:List Str},(a.map λp=>p.cps.toList) = (b.map λp=>p.cps.toList) -> a = b:=by
  intro a
  induction a with
  | nil=>intro b h;cases b with
   | nil=>rfl
   | cons _ _=>cases h
  | cons x r ih =>
   intro b h
   cases b with
   | nil=>cases h
   | cons y s =>
    simp only [List.map_cons,List.cons.injEq] at h
    rw [j7 h.1,ih h.2]
 refine inj (rT (c:=c) ?_ ?_ ?_ ?_ h4)
 ·intro z
  have:=congrArg List.length z
  simp at this
  rw [this] at h3
  simp at h3
 ·intro z
  have:=congrArg List.length z
  simp at this
  exact hn this
 ·intro p hp
  obtain ⟨q,hq,rfl⟩:=List.mem_map.mp hp
  exact h2 q hq
 ·intro p hp
  obtain ⟨q,hq,rfl⟩:=List.mem_map.mp hp
  exact hf q hq
def j9 (c d:Nat) (l:List Nat):List Nat:=l.map λx=>if x = c then d else x
theorem jY {c d:Nat}:∀ {l:List Nat},c ∉ l -> j9 c d l = l
 | [],_=>rfl
 | x :: r,h=>by
  unfold j9
  rw [List.map_cons,if_neg (λz=>h (by simp [z]))]
  congr 1
  exact jY λz=>h (List.mem_cons_of_mem _ z)
theorem rX {c d:Nat}:∀ {ps:List (List Nat)},(∀ p ∈ ps,c ∉ p) -> j9 c d (fT c ps) = fT d ps
 | [],_=>rfl
 | [x],h=>jY (h x (by simp))
 | x :: y :: r,h=>by
  simp only [fT]
  have e1:j9 c d (x ++ c :: fT c (y :: r)) = j9 c d x ++ d :: j9 c d (fT c (y :: r)):=by simp [j9]
  rw [e1,jY (h x (by simp)),rX (ps:=y :: r) λp hp=>h p (List.mem_cons_of_mem _ hp)]
theorem jJ (x:Str) (c d:Nat):(PySem.Txt.replace x ⟨#[c]⟩ ⟨#[d]⟩).cps.toList = j9 c d x.cps.toList:=by
 rw [PySem.StrLaws.replace_one,gK]
 have h1:=congrArg (λx:Str=>x.cps.toList) (PySem.StrLaws.join_split x ⟨#[c]⟩)
 simp only [gK] at h1
 conv=>rhs;rw [← h1]
 rw [rX]
 intro p hp
 obtain ⟨q,hq,rfl⟩:=List.mem_map.mp hp
 exact PySem.StrLaws.split_free x c q hq
theorem AW {c d:Nat} {l:List Nat} (h:d ∉ l):j9 d c (j9 c d l) = l:=by
 induction l with
 | nil=>rfl
 | cons x r ih =>
  have hx:x ≠ d:=λz=>h (by simp [z])
  have ih':=ih λz=>h (List.mem_cons_of_mem _ z)
  unfold j9 at *
  simp only [List.map_cons]
  rw [ih']
  by_cases e:x = c
  ·subst e;simp
  ·rw [if_neg e,if_neg hx]
end L2
namespace L2
open PySem PySem.Spec PyProof.Rows
theorem Mq {α:Type} {t:Sem α} {Q Q':α -> Shared -> Prop} {M:Model} {A:Around} {E E':Value -> Shared -> Prop} {s:Shared} (h:wpAny M A t Q E s) (hQ:∀ a s,Q a s -> Q' a s) (hE:∀ a s,E a s -> E' a s):wpAny M A t Q' E' s:=wpAny_mono h hQ hE
section
variable {X:Cx} {o e:Expr} {to te:TE} {apos cpos pos p1 p2 p3 p4 p5:Pos} {j1 j2 j3:Nat}
def Ce (y z:Str):V -> Hp -> VK -> Prop:=λx H Q=>∃ a:Str,x = .str a /\ a.length + (a.length + 1) * z.length <= 16777216 /\ Q (.str (PySem.Txt.replace a y z)) H
theorem AM {y z:Str} (hyz:(y == z) = false) {pins:List (Addr × Obj)} {s:Shared} {Z:St} {H:Hp} {Q:VK} (I:Inv X pins Z H s)
  (ho:wpAny (model X.prog X.w) X.A (eval o X.env) (λu s'=>1 <= s'.toks /\ EP X pins Z (λx H1=>Ce y z x H1 Q) u s') X.xe s)
  (hbase:attributeBase o "replace" X.env (eval o X.env) = eval o X.env:=by rfl) (hline:(apos.endLine == cpos.line) = true:=by rfl) :
  wpAny (model X.prog X.w) X.A (eval (.Call (.Attribute o "replace" apos) [.Constant (.str y) j1 p1,.Constant (.str z) j2 p2] [] cpos) X.env) (EP X pins Z Q) X.xe s:=by
 refine wpAny_Call_method_late hbase rfl hline rfl (cZ ho λv s1 ⟨hk,x,H1,I1,r1,q1⟩=>?_)
 obtain ⟨a,rfl,hz,q⟩:=q1
 obtain ⟨t,rfl⟩:=r1
 refine ⟨"str","str.replace",F.plainAttrs_str,F.slot_str_replace,F.type_str_replace,typeIs_str _ _ _,(λ_ e=>nomatch e),?_⟩
 refine Calls.callWith_builtin rfl (Calls.evalArgs_plain ?_)
 refine Calls.spliced_cons (Calls.Constant_str (k:=j1) (pos:=p1) (Calls.spliced_cons (Calls.Constant_str (k:=j2) (pos:=p2) (Calls.spliced_nil ?_))))
 exact SC.replace (u:=s1.toks) (v:=s1.toks + 1) (Nat.ne_of_gt hk) (Nat.succ_ne_zero _) zo hyz hz λt' k=>⟨.str _,H1,I1.tok _,⟨t',rfl⟩,q⟩
theorem xA {y z:Str} {k:Int} (hyz:(y == z) = false) (he:PE X e te)
  (hbase:attributeBase (.Subscript e (.Slice (some (.Constant (.int k) j3 p4)) none none p3) p5) "replace" X.env (eval (.Subscript e (.Slice (some (.Constant (.int k) j3 p4)) none none p3) p5) X.env) = eval (.Subscript e (.Slice (some (.Constant (.int k) j3 p4)) none none p3) p5) X.env:=by rfl)
  (hline:(apos.endLine == cpos.line) = true:=by rfl) :
  PE X (.Call (.Attribute (.Subscript e (.Slice (some (.Constant (.int k) j3 p4)) none none p3) p5) "replace" apos) [.Constant (.str y) j1 p1,.Constant (.str z) j2 p2] [] cpos) (λZ H Q=>te Z H λx H1=>∃ w:Str,x = .str w /\ w.length <= sizeLine /\ Ce y z (.str (PySem.Txt.slice w (some k) none)) H1 Q):=by
 intro pins s Z H Q I h
 refine AM hyz I ?_ hbase hline
 refine Subscript_ (cZ (he pins s Z H _ I h) λv s1 ⟨x,H1,I1,r1,w,hx,hw,q1⟩=>?_)
 subst hx
 obtain ⟨t,rfl⟩:=r1
 refine wpAny_Slice ?_
 rw [evalPart_some]
 refine wpAny_Constant_int ?_
 rw [evalPart_none]
 refine wpAny_pure ?_
 refine wpAny_pure ?_
 have I2:Inv X pins Z H1 { s1 with toks:=s1.toks + 1 }:=I1.tok _
 have I4:Inv X pins Z H1 { s1 with toks:=s1.toks + 1,heap:=s1.heap.push { cls:=.type "slice",data:=.fields #[.int k s1.toks,.none,.none] } }:=I2.kept (t':=s1.toks + 1) λb ob q=>Heap.get?_push_of_some _ q
 obtain ⟨T,id,hT,ht,hg⟩:=DI (X:=X) pins { s1 with toks:=s1.toks + 1,heap:=s1.heap.push { cls:=.type "slice",data:=.fields #[.int k s1.toks,.none,.none] } } Z H1 (.str w) (.str w t) (.int k s1.toks) .none (some k) none s1.heap.objs.size (λx H1=>Ce y z x H1 Q) I4 ⟨t,rfl⟩ (Heap.IsSliceOf.new ..) (.int k _) .none ⟨w,rfl,hw,q1⟩
 have fin:=tail_any (value:=e) (slice:=.Slice (some (.Constant (.int k) j3 p4)) none none p3) (ops:=[.ref s1.heap.objs.size,.str w t]) ht hT hg (by with_unfolding_all rfl)
 exact Mq (wpAny_toks_of (n:=1) (show 1 <= s1.toks + 1 by omega) fin) (λ_ _ q=>q) λ_ _ q=>q.2
end
end L2
namespace L2
open PySem PySem.Spec PyProof.Rows
section
variable {X:Cx}
theorem fh {x:Str} {v:V} {pos:Pos} (hg:Gl X x) (h:∃ u,X.mg x = some u /\ RelV v u) (hd:(x == ("__debug__" : Str)) = false:=by decide):PE X (.Name x pos) (tC v):=by
 obtain ⟨u,e,r⟩:=h
 exact jS hg e r hd
theorem DL:∀ {x:V},gv x = true -> A8 x x = true
 | .cL,_=>rfl
 | .bl b,_=>by simp [A8]
 | .int b,_=>by simp [A8]
 | .str b,_=>by simp [A8]
theorem D4 {caps:List (Str × Nat)} {z:Str} {te:TE} {Z:St} {H:Hp} {Q:VK} (Pv:Nat -> List V -> Hp -> Prop) (h0:Pv 0 [] H) (hn:z.length < sizeLine)
  (hs:∀ i c ys H,z.cps.toList[i]? = some c -> ys.length = i -> Pv i ys H -> te (gY caps Z ++ [some (.str ⟨#[c]⟩)]) H λy H2=>∃ m',m' < z.length - i /\ m' = z.length - (i + 1) /\ i + 1 <= z.length /\ (ys ++ [y]).length = i + 1 /\ Pv (i + 1) (ys ++ [y]) H2) (hd:∀ ys H,ys.length = z.length -> Pv z.length ys H -> ∀ D,H D = none -> Q (.ref D) (upd H D (.lst ys))) :
  zD (LX z) caps te Z H Q:=by
 refine ⟨λi m ys H=>m = z.length - i /\ i <= z.length /\ ys.length = i /\ Pv i ys H,⟨z.length,by simp,Nat.zero_le _,rfl,h0⟩,?_⟩
 rintro i m ys H ⟨rfl,hi,hl,p⟩
 by_cases hlt:i < z.length
 ·refine .inr ⟨hlt,by omega,λx H' y=>?_⟩
  obtain ⟨e,c,e1,rfl⟩:=y
  subst e
  exact hs i c ys _ e1 hl p
 ·have e:i = z.length:=by omega
  subst e
  exact .inl ⟨Nat.le_refl _,hd ys H hl p⟩
theorem rL {K:PySem.W.Frag} {a:Addr} {xs:List V} {g:TG} {tb:TS} {D:Ends} {Z:St} {H:Hp} (Pv:Nat -> St -> Hp -> Prop) (h0:Pv 0 Z H) (hl:∀ i Z H,i <= xs.length -> Pv i Z H -> aP K H a xs)
  (hs:∀ i x p Z H,xs[i]? = some x -> H p = none -> Pv i Z H -> g (.ref p) Z (upd H p (.tup [.int i,x])) λZ2 H2=>tb { D with nx:=Pv (i + 1),ct:=Pv (i + 1),bk:=D.nx } Z2 H2) (hd:∀ Z H,Pv xs.length Z H -> D.nx Z H):ER (Mb K a) g tb D Z H:=by
 refine ⟨λi m Z H=>m = xs.length - i /\ i <= xs.length /\ Pv i Z H,⟨xs.length,by simp,Nat.zero_le _,h0⟩,?_⟩
 rintro i m Z H ⟨rfl,hi,p⟩
 have q:=hl i Z H hi p
 by_cases hlt:i < xs.length
 ·refine .inr ⟨⟨xs,xs[i],q,by simp [hlt]⟩,Pv (i + 1),λZ' H' p'=>⟨xs.length - (i + 1),by omega,rfl,hlt,p'⟩,λx H' y=>?_⟩
  obtain ⟨pp,v,h1,rfl,rfl,h2⟩:=y
  exact hs i v pp Z H (h2 xs q) h1 p
 ·have e:i = xs.length:=by omega
  subst e
  exact .inl ⟨⟨xs,q,Nat.le_refl _⟩,hd Z H p⟩
end
def jL (H H':Hp) (p:Addr):Prop:=∀ b o,H b = some o -> b ≠ p -> H' b = some o
theorem jL.trans {H H1 H2:Hp} {p:Addr} (a:jL H H1 p) (b:jL H1 H2 p):jL H H2 p:=λc o h n=>b c o (a c o h n) n
theorem jL.same {H H1 H2:Hp} {p:Addr} (a:jL H H1 p) (b:ak H1 H2):jL H H2 p:=λc o h n=>b c o (a c o h n)
theorem ak.EO {H H1 H2:Hp} {p:Addr} (a:ak H H1) (b:jL H1 H2 p):jL H H2 p:=λc o h n=>b c o (a c o h) n
theorem jL.upd {H:Hp} {p:Addr} {o:HO}:jL H (L2.upd H p o) p:=λb u h n=>by rw [ai n];exact h
end L2
namespace L2
open PySem PySem.Spec PyProof.Rows
section
variable {X:Cx}
theorem nM {K:PySem.W.Frag} {e:Expr} {ta:TE} {f:Str} {pos:Pos} (he:PE X e ta) (hb:attributeBase e f X.env (eval e X.env) = eval e X.env) (hK:X.K = K:=by rfl):PE X (.Attribute e f pos) (J3 K ta f):=by
 subst hK;exact aZ he hb
theorem B9 {K:PySem.W.Frag} (hK:X.K = K):Kl X (GV K):=by subst hK;exact aQ
theorem jU {K:PySem.W.Frag} (hK:X.K = K):Kl X (JN K):=by subst hK;exact bR
end
end L2
namespace L2
open PySem PySem.Spec PyProof.Rows
section
variable {X:Cx}
def strsOf:List Expr -> Option (List Str)
 | []=>some []
 | e :: r=>match e with
  | .Constant (.str x) _ _=>(strsOf r).map (x :: ·)
  | _=>none
theorem iG:∀ {es:List Expr} {xs:List Str},strsOf es = some xs -> PA X es (λ_ H Q=>Q (xs.map V.str) H)
 | [],xs,h=>by
  have e:xs = []:=(Option.some.inj h).symm
  subst e
  exact ah
 | e :: r,xs,h=>by
  unfold strsOf at h
  split at h
  ·rename_i x j p
   obtain ⟨ys,h1,h2⟩:=Option.map_eq_some_iff.mp h
   subst h2
   exact aa (te:=tC (.str x)) (t:=λ_ H Q=>Q (ys.map V.str) H) aN (iG h1) rfl
  ·cases h
end
end L2
namespace L2
open PySem PySem.Spec PyProof.Rows
theorem kq {prog:Program} {w:World} {A:Around} {R:Result -> Shared -> Prop} {s:Shared} {elt target iter c:Expr} {scope:Scope} {pos:Pos} {it acc:Value} {env:Env} (J:Nat -> Shared -> Prop)
  (turn:∀ n s,J n s -> wpAny (model prog w) A (pyNext it) (λr s₁=>match r with
   | none=>R (.ok .next) s₁
   | some v=>wpAny (model prog w) A (letOwnedTupleGo target it v) (λ_ s₁=>wpAny (model prog w) A (assign target env v) (λ_ s₂=>wpAny (model prog w) A (isTrue c env (eval c env)) (λok s₂=>if ok = true then wpAny (model prog w) A (eval elt env) (λx s₃ =>
     wpAny (model prog w) A (call (.builtin "list.append") [acc,x]) (λ_ s₄=>∃ m,m < n /\ J m s₄) (λ_ _=>False) s₃)
     (λ_ _=>False) s₂ else ∃ m,m < n /\ J m s₂) (λ_ _=>False) s₂) (λ_ _=>False) s₁) (λ_ _=>False) s₁) (λ_ _=>False) s)
  (n:Nat) (h:J n s) :
  codeAny (model prog w) A (.compLoop (.ListComp elt [⟨target,iter,[c],0⟩] scope pos) 0 it acc env) R s:=by
 refine codeAny_loop rfl J (λn s hI=>?_) n h
 show wpAny _ _ ((compTurn (.ListComp elt [⟨target,iter,[c],0⟩] scope pos) 0 it acc env).onRaise (λx=>do noteFrame x env;theTreesLotGoes x)) _ _ s
 refine wpAny_noted ?_
 rw [compTurn_list]
 refine wpAny_bind (wpAny_standAt (wpAny_bind (wpAny_mono (turn n s hI) (λr s₁ h₁=>?_) λ_ _ h'=>h'.elim)))
 cases r with
 | none=>exact wpAny_pure h₁
 | some v =>
  refine wpAny_bind (wpAny_mono h₁ (λ_ s₁' h₁=>?_) λ_ _ h'=>h'.elim)
  refine wpAny_bind (wpAny_mono h₁ (λ_ s₂ h₂=>wpAny_bind (wpAny_tests_one (wpAny_mono h₂ (λok s₃ h₃=>?_) λ_ _ h'=>h'.elim))) λ_ _ h'=>h'.elim)
  cases ok with
  | false =>
   rw [if_neg (by decide)] at h₃
   exact wpAny_pure ⟨rfl,h₃⟩
  | true =>
   rw [if_pos rfl] at h₃
   refine wpAny_bind (wpAny_bind (wpAny_mono h₃ (λx s₃ h₃=>wpAny_bind (wpAny_mono h₃
    (λ_ s₄ h₄=>wpAny_pure (wpAny_pure ⟨rfl,h₄⟩)) λ_ _ h'=>h'.elim)) λ_ _ h'=>h'.elim))
section
variable {X:Cx}
def sr (J:It) (caps:List (Str × Nat)) (tt:TT) (te:TE) (Z:St) (H1:Hp) (Q:VK):Prop:=∃ W:Nat -> Nat -> List V -> Hp -> Prop,(∃ m,W 0 m [] H1) /\ ∀ i m ys H,W i m ys H ->
 (J.stop i H /\ ∀ D,H D = none -> Q (.ref D) (upd H D (.lst ys))) ∨ (J.go i H /\ ys.length < sizeLine /\ ∀ x H',J.IP i H x H' -> tt (gY caps Z ++ [some x]) H' λb H2=>if b = true then te (gY caps Z ++ [some x]) H2 λy H3=>∃ m',m' < m /\ W (i + 1) m' (ys ++ [y]) H3 else ∃ m',m' < m /\ W (i + 1) m' ys H2)
def sE (caps:List (Str × Nat)) (wi:TI) (tt:TT) (te:TE):TE:=λZ H Q=>wi Z H λJ H1=>sr J caps tt te Z H1 Q
theorem mj {sc csc:Scope} {N:List Str} {elt iter c:Expr} {x:Str} {px pos:Pos} {caps:List (Str × Nat)} {wi:TI} {te:TE} {tt:TT} (ck:qo sc csc N x caps) (hi:PI X (.Name x px) iter wi)
  (ht:∀ C s2 H2 fp,PT (bX X (caps.map (·.1) ++ [x]) csc C s2 H2 fp) c tt) (he:∀ C s2 H2 fp,PE (bX X (caps.map (·.1) ++ [x]) csc C s2 H2 fp) elt te) (hc:X.calm = true:=by rfl) (hsc:X.env.scope = sc:=by rfl) (hXN:X.N = N:=by rfl) (hs:∀ x,foldedSetIterable iter X.env x = pure x:=by intro _;rfl) :
  PE X (.ListComp elt [⟨.Name x px,iter,[c],0⟩] csc pos) (sE caps wi tt te):=by
 subst hsc hXN
 intro pins s Z H Q I h
 rw [eval_ListComp]
 have cellsOk:∀ p ∈ csc.names,p.2 = .free -> ∃ c,X.env.cells.lookup p.1 = some c:=λp hp e=>I.ok.has p.1 (.inl (ck.free p hp e))
 refine wpAny_comprehension_free (use:=none) rfl hs (iM cellsOk) ck.kind ck.loc (cZ (hi pins s Z H _ I h) λv s1 h1=>cZ h1 λitv s2 h2=>?_)
 obtain ⟨it,fp,tn,J,H2,e,I2,T,st2,f2,W,⟨m0,w0⟩,turn⟩:=h2
 subst e
 refine wpAny_newObj_type (wpAny_newFunctionEnv ck.cell (by intro y hy;simp at hy) (λh4 hns4 hsb4=>?_) ck.kind)
 dsimp only at hns4 hsb4 ⊢
 generalize hD:s2.heap.objs.size = D at hns4 hsb4 ⊢
 generalize hH2:s2.heap.push { cls:=.type "list",dict:=none,data:=.seq ([]:List Value).toArray } = G at hns4 hsb4 ⊢
 have hGs:G.objs.size = D + 1:=by rw [← hH2,Heap.size_push,hD]
 rw [hGs] at hns4 hsb4 ⊢
 have lt2:∀ b o,s2.heap.get? b = some o -> b < D:=λb o e=>hD ▸ Heap.lt_size e
 have old:∀ b o,s2.heap.get? b = some o -> b ≠ D + 1 /\ b ≠ D:=λb o e=>⟨AB (lt2 b o e),zx (lt2 b o e)⟩
 have leD:s2.heap.objs.size <= D:=Nat.le_of_eq hD
 have leD1:s2.heap.objs.size <= D + 1:=Nat.le_succ_of_le leD
 have keep4:∀ b o,s2.heap.get? b = some o -> h4.get? b = some o:=λb o e=>hsb4.extBut b o (old b o e).1 (Heap.get?_push_of_some _ (hH2 ▸ Heap.get?_push_of_some _ e))
 have hDo:h4.get? D = some { cls:=.type "list",data:=.seq ([]:List Value).toArray 0 }:=by
  refine hsb4.extBut D _ zo (Heap.get?_push_of_some _ ?_)
  rw [← hH2,← hD]
  exact Heap.get?_push_size _ rfl
 have fps:∀ b ∈ fp,b < s2.heap.objs.size:=λb hb=>by
  obtain ⟨o,e,_⟩:=T.obj _ _ st2 b hb
  exact Heap.lt_size e
 have I4:∀ t4,Inv (bX X (caps.map (·.1) ++ [x]) csc (D + 1) s2 H2 fp) [] (gY caps Z ++ [none]) H2 { s2 with heap:=h4,toks:=t4 }:=λt4=>kO (m0:=λx=>[].reverse.lookup x) I2 ck f2 fps leD1 keep4 hns4
 have cellsLt:∀ y c,(eF X.env csc.names []).lookup y = some c -> c < D:=λy c e=>by
  obtain ⟨v,o,ho,_⟩:=I2.cell y c (fQ _ _ cellsOk (λy c h=>by simp at h) y c e)
  exact lt2 c o ho
 have fsLt:∀ b ∈ frs X.stack,b < D:=λb hb=>by
  obtain ⟨_,o,ho,_⟩:=I2.stack.mem hb
  exact lt2 b o ho
 have fpC:∀ {pl:List (Addr × Obj)} {H':Hp},(∀ p ∈ pl,p.1 = D) -> (∀ b ∈ fp,H' b = none) -> ∀ b ∈ fp,oG (bX X (caps.map (·.1) ++ [x]) csc (D + 1) s2 H2 fp) pl H' b:=λ{pl H'} hpl hn b hb=>by
  have hb':b < D:=hD ▸ fps b hb
  refine ⟨hn b hb,AB hb',?_,.inl hb,λy c e=>?_,λp hp=>?_⟩
  ·intro z
   rcases List.mem_cons.mp (I2.kP b z) with e | e
   ·exact (f2 b hb).2.1 e
   ·exact (f2 b hb).2.2.1 e
  ·exact (f2 b hb).2.2.2.2.1 y c (fQ _ _ cellsOk (λy c h=>by simp at h) y c e)
  ·have:p.1 = D:=hpl p (by simpa using hp)
   rw [this];exact λz=>zx hb' z.symm
 have loop:∀ t4,codeAny (model X.prog X.w) X.A (.compLoop (.ListComp elt [⟨.Name x px,iter,[c],0⟩] csc pos) 0 (.ref it) (.ref D) (compEnvC csc (eF X.env csc.names []) (D + 1) X.env))
   (compPost (model X.prog X.w) X.A X.xe none (EP X pins Z Q) (.ref D) (D + 1)) { s2 with heap:=h4,toks:=t4 }:=by
  intro t4
  refine kq (λn s'=>∃ (i:Nat) (ys:List V) (its:List Value) (k:Nat) (Z':St) (H':Hp),Inv (bX X (caps.map (·.1) ++ [x]) csc (D + 1) s2 H2 fp) [(D,{ cls:=.type "list",data:=.seq its.toArray k })] Z' H' s' /\ tn i s'.heap /\ (∀ b ∈ fp,H' b = none) /\ Vals ys its /\ ys.length <= sizeLine /\ W i n ys H' /\ (∃ z,Z' = gY caps Z ++ [z])) ?_ m0 ?_
  ·rintro n s3 ⟨i,ys,its,k,Z3,H3,I3,st3,fr3,hv,hz,w3,z3,rfl⟩
   have pl1:∀ p ∈ [((D,{ cls:=.type "list",data:=.seq its.toArray k }):Addr × Obj)],p.1 = D:=λp hp=>by rw [List.mem_singleton.mp hp]
   rcases turn i n ys H3 w3 with ⟨stop,qn⟩ | ⟨go,hlt,step⟩
   ·refine wpAny_mono (T.done (bX X (caps.map (·.1) ++ [x]) csc (D + 1) s2 H2 fp) rfl rfl rfl hc i _ s3 _ H3 (λ_ _=>False) I3 (fpC pl1 fr3) st3 stop) (λr s4 ⟨hr,I4'⟩=>?_) λ_ _ f=>f.elim
    subst hr
    obtain ⟨m,hn,_⟩:=id I4'.loc
    have pD:=I4'.pin (D,{ cls:=.type "list",data:=.seq its.toArray k }) (by simp)
    refine ⟨m,hn,λh' hs'=>⟨.ref D,_,mw I2 I4' f2 leD1 leD zo hs' hv hz pD.1 pD.2.1,rfl,qn D pD.2.1⟩⟩
   ·refine wpAny_mono (T.item (bX X (caps.map (·.1) ++ [x]) csc (D + 1) s2 H2 fp) rfl rfl rfl hc i _ s3 _ H3 (λ_ _=>False) I3 (fpC pl1 fr3) st3 go) (λr s4 ⟨u,hr,h4'⟩=>?_) λ_ _ f=>f.elim
    subst hr
    refine wpAny_mono h4' (λ_ s4 ⟨xv,H5,I5,r5,y5,st5,fr5⟩=>?_) λ_ _ f=>f.elim
    have I5':=I5.pinned (fpC pl1 fr5) (T.obj _ _ st5)
    have hiN:(caps.map (·.1) ++ [x])[caps.length]? = some x:=by rw [List.getElem?_append_right (by simp)];simp
    refine wpAny_mono (b9 (X:=bX X (caps.map (·.1) ++ [x]) csc (D + 1) s2 H2 fp) (i:=caps.length) ck.nd hiN (.inl (lookup_relabel_local ck.tg)) (.inr (lookup_relabel_local ck.tg)) _ s4 _ H5 xv u _ I5' r5 (show nW caps.length xv _ H5 (λZ6 H6=>Z6 = gY caps Z ++ [some xv] /\ H6 = H5) from ⟨?_,rfl⟩)) (λ_ s6 ⟨Z6,H6,I6,hZ,hH⟩=>?_) λ_ _ f=>f.elim
    ·rw [List.set_append_right _ _ (by rw [fz];exact Nat.le_refl _),fz,Nat.sub_self];rfl
    subst hZ hH
    refine wpAny_mono (ht (D + 1) s2 H2 fp _ s6 _ H6 _ I6 (step xv H6 y5)) (λok s6 ⟨H6,I6,q6⟩=>?_) λ_ _ f=>f.elim
    cases ok with
    | false =>
     rw [if_neg (by decide)] at q6 ⊢
     obtain ⟨m',hm,w8⟩:=q6
     have pD:=I6.pin (D,{ cls:=.type "list",data:=.seq its.toArray k }) (by simp)
     refine ⟨m',hm,i + 1,ys,its,k,_,H6,I6.dS λp hp=>?_,T.keep _ _ _ st5 λb hb o e=>(I6.pin (b,o) (List.mem_append_right _ (List.mem_append_right _ (cJ hb e)))).1,λb hb=>?_,hv,hz,w8,_,rfl⟩
     ·rw [List.mem_singleton.mp hp];exact pD
     ·obtain ⟨o,e,d⟩:=T.obj _ _ st5 b hb
      exact (I6.pin (b,o) (List.mem_append_right _ (List.mem_append_right _ (cJ hb e)))).2.1
    | true =>
    rw [if_pos rfl] at q6 ⊢
    refine wpAny_mono (he (D + 1) s2 H2 fp _ s6 _ H6 _ I6 q6) (λw7 s7 ⟨y,H7,I7,r7,m',hm,w8⟩=>?_) λ_ _ f=>f.elim
    have pD:=I7.pin (D,{ cls:=.type "list",data:=.seq its.toArray k }) (by simp)
    have hll:=hv.length
    refine call_meets F.slot_list_append ⟨_,pD.1,rfl⟩ F.entry_list_append (F.args_list_append_2 _ _) (PySem.list_append D its.toArray k w7 (by rw [List.size_toArray];omega)) ⟨pD.1,?_⟩
    have q:=PySem.IsL.update pD.1 (·.push w7)
    have hpush:its.toArray.push w7 = (its ++ [w7]).toArray:=by simp
    rw [hpush] at q
    obtain ⟨k',q⟩:∃ k',(s7.heap.update D (Obj.mapSeq (·.push w7))).get? D = some { cls:=.type "list",data:=.seq (its ++ [w7]).toArray k' }:=⟨_,q⟩
    have I7u:Inv (bX X (caps.map (·.1) ++ [x]) csc (D + 1) s2 H2 fp) (iO fp s4.heap) _ H7 s7:=I7.dS λp hp=>I7.pin p (List.mem_append_right _ (List.mem_append_right _ hp))
    have pfp:∀ p ∈ iO fp s4.heap,p.1 < D:=λp hp=>hD ▸ fps p.1 (j0 hp).1
    have I8:=I7u.turned (h':=s7.heap.update D (Obj.mapSeq (·.push w7))) (t':=s7.toks) (it:=D) (λb o hb e=>(Heap.get?_update_other s7.heap _ (Ne.symm hb)).trans e) pD.2.1 zo (.inr leD) (λy c e=>zx (cellsLt y c e)) (λp hp=>zx (pfp p (by simpa using hp)))
    refine ⟨m',hm,i + 1,ys ++ [y],its ++ [w7],k',_,H7,I8.dS λp hp=>?_,T.keep _ _ _ st5 λb hb o e=>(I8.pin (b,o) (List.mem_append_right _ (cJ hb e))).1,λb hb=>?_,hv.append (.cons r7 .nil),?_,w8,_,rfl⟩
    ·rw [List.mem_singleton.mp hp]
     exact ⟨q,pD.2.1,pD.2.2.1,pD.2.2.2.1,λv=>by simp⟩
    ·obtain ⟨o,e,d⟩:=T.obj _ _ st5 b hb
     exact (I8.pin (b,o) (List.mem_append_right _ (cJ hb e))).2.1
    ·rw [List.length_append,List.length_singleton];omega
  ·refine ⟨0,[],[],0,_,H2,(I4 t4).dS λp hp=>?_,T.keep _ _ _ st2 λb hb o e=>keep4 b o e,λb hb=>(f2 b hb).1,.nil,Nat.zero_le _,w0,_,rfl⟩
   rw [List.mem_singleton.mp hp]
   refine ⟨hDo,I2.hok.fresh leD,zo,λz=>absurd (fsLt D z) (Nat.lt_irrefl _),λv=>by simp⟩
 exact codeAny_compStart_list (loop _) (T.self _ 0 _ _ _ (T.keep _ _ _ st2 λb hb o e=>keep4 b o e) (loop _))
theorem cM {n i:Nat} {ys:List V} {R:Prop} (hi:i < n) (hl:ys.length <= i + 1) (r:R):∃ m',m' < n - i /\ m' = n - (i + 1) /\ i + 1 <= n /\ ys.length <= i + 1 /\ R:=⟨n - (i + 1),by omega,rfl,hi,hl,r⟩
theorem iD {K:PySem.W.Frag} {a:Addr} {xs:List V} {caps:List (Str × Nat)} {tt:TT} {te:TE} {Z:St} {H:Hp} {Q:VK} (Pv:Nat -> List V -> Hp -> Prop) (h0:Pv 0 [] H) (hn:xs.length < sizeLine)
  (hq:∀ i ys H,i <= xs.length -> Pv i ys H -> aP K H a xs)
  (hs:∀ i x ys H,xs[i]? = some x -> ys.length <= i -> Pv i ys H -> tt (gY caps Z ++ [some x]) H λb H2=>if b = true then te (gY caps Z ++ [some x]) H2 λy H3=>∃ m',m' < xs.length - i /\ m' = xs.length - (i + 1) /\ i + 1 <= xs.length /\ (ys ++ [y]).length <= i + 1 /\ Pv (i + 1) (ys ++ [y]) H3
   else ∃ m',m' < xs.length - i /\ m' = xs.length - (i + 1) /\ i + 1 <= xs.length /\ ys.length <= i + 1 /\ Pv (i + 1) ys H2) (hd:∀ ys H,ys.length <= xs.length -> Pv xs.length ys H -> ∀ D,H D = none -> Q (.ref D) (upd H D (.lst ys))) :
  sr (Gn K a) caps tt te Z H Q:=by
 refine ⟨λi m ys H=>m = xs.length - i /\ i <= xs.length /\ ys.length <= i /\ Pv i ys H,⟨xs.length,by simp,Nat.zero_le _,Nat.zero_le _,h0⟩,?_⟩
 rintro i m ys H ⟨rfl,hi,hl,p⟩
 have q:=hq i ys H hi p
 by_cases hlt:i < xs.length
 ·refine .inr ⟨⟨xs,xs[i],q,by simp [hlt]⟩,by omega,λx H' y=>?_⟩
  obtain ⟨e,y⟩:=y
  subst e
  exact hs i x ys _ (y xs q) hl p
 ·have e:i = xs.length:=by omega
  subst e
  exact .inl ⟨⟨xs,q,Nat.le_refl _⟩,hd ys H hl p⟩
end
end L2
namespace L2
open PySem PySem.Spec PyProof.Rows
section
variable {X:Cx}
end
end L2
namespace L2
open PySem PySem.Spec PyProof.Rows
structure Kept (F ch:List Addr) (g h:Heap):Prop where
 keep:∀ b o,g.get? b = some o -> b ∉ F -> b ∉ ch -> h.get? b = some o
 slot:∀ b o,g.get? b = some o -> b ∈ F -> b ∉ ch -> ∃ sl,h.get? b = some { o with slots:=sl }
 there:∀ b o,g.get? b = some o -> ∃ u,h.get? b = some u
theorem Kept.trans {F c1 c2:List Addr} {g h k:Heap} (x:Kept F c1 g h) (y:Kept F c2 h k):Kept F (c1 ++ c2) g k where
 keep b o e n1 n2:=y.keep b o (x.keep b o e n1 λz=>n2 (List.mem_append_left _ z)) n1 λz=>n2 (List.mem_append_right _ z)
 slot b o e n1 n2:=by
  obtain ⟨sl,e1⟩:=x.slot b o e n1 λz=>n2 (List.mem_append_left _ z)
  obtain ⟨sl2,e2⟩:=y.slot b _ e1 n1 λz=>n2 (List.mem_append_right _ z)
  exact ⟨sl2,e2⟩
 there b o e:=let ⟨u,e1⟩:=x.there b o e;y.there b u e1
theorem Kept.one {F:List Addr} {h:Heap} {a:Addr} {o:Obj} {f:Obj -> Obj} (e:h.get? a = some o) (nf:(f o).isFreed = false):Kept F [a] h (h.update a f) where
 keep b u q n1 n2:=by rw [Heap.get?_update_other _ _ (λz=>n2 (by simp [z]))];exact q
 slot b u q n1 n2:=⟨u.slots,by rw [Heap.get?_update_other _ _ (λz=>n2 (by simp [z]))];exact q⟩
 there b u q:=by
  by_cases z:b = a
  ·subst z;exact ⟨_,Heap.get?_update_self _ e nf⟩
  ·exact ⟨u,by rw [Heap.get?_update_other _ _ (Ne.symm z)];exact q⟩
theorem Kept.push {F:List Addr} {h:Heap} {o:Obj}:Kept F [] h (h.push o) :=
 ⟨λb u q _ _=>Heap.get?_push_of_some _ q,λb u q _ _=>⟨u.slots,Heap.get?_push_of_some _ q⟩,λb u q=>⟨u,Heap.get?_push_of_some _ q⟩⟩
theorem Kept.slots {F:List Addr} {h k:Heap} (x:Heap.SlotsOnly F h k):Kept F [] h k :=
 ⟨λb u q n _=>(x.2.1 b n).trans q,λb u q _ _=>x.2.2 b u q,λb u q=>let ⟨sl,e⟩:=x.2.2 b u q;⟨_,e⟩⟩
theorem Kept.mono {F c1 c2:List Addr} {g h:Heap} (x:Kept F c1 g h) (s:∀ b ∈ c1,b ∈ c2):Kept F c2 g h :=
 ⟨λb o e n1 n2=>x.keep b o e n1 λz=>n2 (s b z),λb o e n1 n2=>x.slot b o e n1 λz=>n2 (s b z),x.there⟩
theorem Kept.frame {ch:List Addr} {g h:Heap} (x:Kept [] ch g h) (F:List Addr):Kept F ch g h :=
 ⟨λb o e _ n=>x.keep b o e (by simp) n,λb o e _ n=>⟨o.slots,x.keep b o e (by simp) n⟩,x.there⟩
theorem Kept.un {F ch:List Addr} {g h:Heap} {H:Hp} (x:Kept F ch g h):Un F ch H H g h :=
 ⟨λb o e _ n1 n2=>x.keep b o e n1 n2,λb o e _ n1 n2=>x.slot b o e n1 n2,λ_ _ _ n _=>n,λb o e _=>x.there b o e,λ_ _ e=>e,λ_ _ _ e=>e,λb ps e=>⟨#[],by rw [e];simp⟩⟩
theorem Kept.hok {P:Program} {w:World} {F ch:List Addr} {g h:Heap} {H:Hp} (x:Kept F ch g h) (k:jr P w H g) (hF:∀ b ∈ F,H b = none) (hc:∀ b ∈ ch,H b = none):jr P w H h:=λa o e=>by
 refine (k a o e).stay (λb u hb q=>x.keep b u q (λz=>?_) λz=>?_) (λ_ q=>q) λ_ _ q=>q
 ·rcases hb with y | y
  ·rw [y] at z;rw [hF a z] at e;cases e
  ·rw [hF b z] at y;cases y
 ·rcases hb with y | y
  ·rw [y] at z;rw [hc a z] at e;cases e
  ·rw [hc b z] at y;cases y
section
variable {M:Model} {A:Around} {E:Value -> Shared -> Prop} {s:Shared} {base:Heap} {env:Env} {outer:List Env} {L e:Addr}
theorem rJ {oe:Obj} {vs:Array Value} {head:Value} {hn:Bool} {Q:Unit -> Shared -> Prop} (hfr:A.frames = some (env :: outer)) (hl:s.heap.FunFrames base (env :: outer)) (hf:env.frame = some L)
  (he:s.heap.get? e = some oe) (hd:oe.data = .fields vs) (hsz:1 < vs.size)
  (h:∀ (h2:Heap) (T:Addr) (oT:Obj) (ts:Array Value),Kept (frs (env :: outer)) [e] s.heap h2 -> s.heap.objs.size <= T -> T ≠ e -> h2.get? e = some (oe.mapFields (·.setIfInBounds 1 (.ref T))) -> h2.get? T = some oT -> oT.data = .fields ts -> ts[3]? = some (rawInt L) -> Q () { s with heap:=h2 }) :
  wpAny M A (do let a ← frameOf env;let pl ← entryPlaceOf L hn;let b ← EntryCells.newEntry head a .none (rawInt L) .none pl;setField (.ref e) 1 b) Q E s:=by
 have ef:e ∉ frs (env :: outer):=λz=>by
  obtain ⟨_,o,q,nf⟩:=hl.mem z
  rw [he] at q;cases q
  exact nf vs hd
 refine wpAny_bind (wpAny_frameOf_fun hfr hl hf λg1 so=>?_)
 have k1:Kept (frs (env :: outer)) [] s.heap g1:=Kept.slots so
 refine wpAny_bind (wpAny_entryPlaceOf λpl isp=>?_)
 unfold EntryCells.newEntry newFields
 refine wpAny_bind (wpAny_newObj_type ?_ (isp.sizeOk5 _ _ _ _ _))
 have e1:g1.get? e = some oe:=k1.keep e oe he ef (by simp)
 generalize hO:({ cls:=.type "traceback",dict:=none,data:=.fields ([head,.ref L,.none,rawInt L,.none] ++ (if pl.isEmpty then List.replicate 6 Value.none else pl)).toArray }:Obj) = O
 have dO:O.data = .fields ([head,.ref L,.none,rawInt L,.none] ++ (if pl.isEmpty then List.replicate 6 Value.none else pl)).toArray:=by rw [← hO]
 have fO:O.isFreed = false:=Obj.isFreed_of_fields dO
 have e2:(g1.push O).get? e = some oe:=Heap.get?_push_of_some _ e1
 have d3:=Obj.data_mapFields hd (·.setIfInBounds 1 (Value.ref g1.objs.size))
 have nT:g1.objs.size ≠ e:=Nat.ne_of_gt (Heap.lt_size e1)
 refine wpAny_setField e2 hd hsz (h _ g1.objs.size O _ ?_ ?_ nT (Heap.get?_update_self _ e2 (Obj.isFreed_of_fields d3)) ?_ dO ?_)
 ·exact ((k1.trans Kept.push).trans (Kept.one e2 (Obj.isFreed_of_fields d3))).mono (by simp)
 ·exact Nat.le_of_eq so.1.symm
 ·rw [Heap.get?_update_other _ _ (Ne.symm nT)]
  exact Heap.get?_push_size g1 fO
 ·simp
end
structure iw (h:Heap) (e C:Addr) (d:Option Addr) (T:Addr) (fl:Value):Prop where
 ob:∃ oe vs,h.get? e = some oe /\ oe.cls = .ref C /\ oe.dict = d /\ oe.data = .fields vs /\ vs[1]? = some (.ref T)
 ne:T ≠ e
 tb:∃ oT ts,h.get? T = some oT /\ oT.data = .fields ts /\ ts[3]? = some fl
def jV (h:Heap) (e C:Addr) (d:Option Addr):Prop:=∃ oe vs,h.get? e = some oe /\ oe.cls = .ref C /\ oe.dict = d /\ oe.data = .fields vs /\ vs[1]? = some .none
section
variable {M:Model} {A:Around} {E:Value -> Shared -> Prop} {s:Shared} {base:Heap} {env:Env} {outer:List Env} {L e C T:Addr} {d:Option Addr}
theorem CB {Q:Unit -> Shared -> Prop} (hfr:A.frames = some (env :: outer)) (hl:s.heap.FunFrames base (env :: outer)) (hf:env.frame = some L) (x:jV s.heap e C d)
  (h:∀ (h2:Heap) (T:Addr),Kept (frs (env :: outer)) [e] s.heap h2 -> s.heap.objs.size <= T -> iw h2 e C d T (rawInt L) -> Q () { s with heap:=h2 }):wpAny M A (noteFrame (.ref e) env) Q E s:=by
 obtain ⟨oe,vs,h1,h2,h3,h4,h5⟩:=x
 unfold noteFrame
 simp only [hf]
 refine wpAny_bind (wpAny_field h1 h4 h5 ?_)
 rw [if_neg (by decide)]
 have sz:1 < vs.size:=(Array.getElem?_eq_some_iff.mp h5).1
 refine rJ hfr hl hf h1 h4 sz λg T oT ts k n ne q1 q2 q3 q4=>h g T k n ⟨⟨_,_,q1,?_,?_,Obj.data_mapFields h4 _,?_⟩,ne,oT,ts,q2,q3,q4⟩
 ·rw [Obj.cls_mapFields];exact h2
 ·obtain ⟨c,dd,dt,sl⟩:=oe
  cases dt <;> exact h3
 ·simp [sz]
theorem zm {Q:Unit -> Shared -> Prop} (hfr:A.frames = some (env :: outer)) (hl:s.heap.FunFrames base (env :: outer)) (hf:env.frame = some L) (x:iw s.heap e C d T .none)
  (h:∀ (h2:Heap) (T2:Addr),Kept (frs (env :: outer)) [T,e] s.heap h2 -> s.heap.objs.size <= T2 -> iw h2 e C d T2 (rawInt L) -> Q () { s with heap:=h2 }):wpAny M A (noteFrame (.ref e) env) Q E s:=by
 obtain ⟨⟨oe,vs,h1,h2,h3,h4,h5⟩,ne,oT,ts,t1,t2,t3⟩:=x
 unfold noteFrame
 simp only [hf]
 refine wpAny_bind (wpAny_field h1 h4 h5 ?_)
 rw [if_pos (by simp)]
 refine wpAny_bind (wpAny_field t1 t2 t3 ?_)
 rw [if_neg (by simp [rawInt])]
 have sT:3 < ts.size:=(Array.getElem?_eq_some_iff.mp t3).1
 refine wpAny_bind (wpAny_setField t1 t2 sT ?_)
 have dT:=Obj.data_mapFields t2 (·.setIfInBounds 3 Value.none)
 have kT:Kept (frs (env :: outer)) [T] s.heap (s.heap.update T (Obj.mapFields (·.setIfInBounds 3 Value.none))):=Kept.one t1 (Obj.isFreed_of_fields dT)
 have he2:(s.heap.update T (Obj.mapFields (·.setIfInBounds 3 Value.none))).get? e = some oe:=by rw [Heap.get?_update_other _ _ ne];exact h1
 have hl2:(s.heap.update T (Obj.mapFields (·.setIfInBounds 3 Value.none))).FunFrames base (env :: outer):=hl.of_keeps λb o q nf=>⟨o,by
  rw [Heap.get?_update_other _ _ (λz=>by rw [← z,t1] at q;cases q;exact nf ts t2)];exact q,rfl⟩
 have sz:1 < vs.size:=(Array.getElem?_eq_some_iff.mp h5).1
 refine rJ (s:={ s with heap:=s.heap.update T (Obj.mapFields (·.setIfInBounds 3 Value.none)) }) hfr hl2 hf he2 h4 sz λg T2 o2 ts2 k n ne2 q1 q2 q3 q4=>h g T2 (kT.trans k) ?_ ⟨⟨_,_,q1,?_,?_,Obj.data_mapFields h4 _,?_⟩,ne2,o2,ts2,q2,q3,q4⟩
 ·have n:(s.heap.update T (Obj.mapFields (·.setIfInBounds 3 Value.none))).objs.size <= T2:=n
  rw [Heap.size_after_update] at n
  exact n
 ·rw [Obj.cls_mapFields];exact h2
 ·obtain ⟨c,dd,dt,sl⟩:=oe
  cases dt <;> exact h3
 ·simp [sz]
theorem iI {fl:Value} {Q:Unit -> Shared -> Prop} (x:iw s.heap e C d T fl) (h:∀ h2:Heap,Kept [] [T] s.heap h2 -> iw h2 e C d T .none -> Q () { s with heap:=h2 }):wpAny M A (setFlight (.ref e) none) Q E s:=by
 obtain ⟨⟨oe,vs,h1,h2,h3,h4,h5⟩,ne,oT,ts,t1,t2,t3⟩:=x
 have sT:3 < ts.size:=(Array.getElem?_eq_some_iff.mp t3).1
 unfold setFlight
 refine wpAny_bind (wpAny_field h1 h4 h5 ?_)
 rw [if_pos (by simp)]
 have dT:=Obj.data_mapFields t2 (·.setIfInBounds 3 ((none:Option Addr).elim Value.none λf=>rawInt f))
 refine wpAny_setField t1 t2 sT (h _ (Kept.one t1 (Obj.isFreed_of_fields dT)) ⟨⟨oe,vs,?_,h2,h3,h4,h5⟩,ne,_,_,Heap.get?_update_self _ t1 (Obj.isFreed_of_fields dT),dT,?_⟩)
 ·rw [Heap.get?_update_other _ _ ne];exact h1
 ·simp [sT]
theorem leave_new {Q:Unit -> Shared -> Prop} (hfr:A.frames = some (env :: outer)) (hl:s.heap.FunFrames base (env :: outer)) (hf:env.frame = some L) (x:jV s.heap e C d)
  (h:∀ (h2:Heap) (T:Addr),Kept (frs (env :: outer)) [e,T] s.heap h2 -> s.heap.objs.size <= T -> iw h2 e C d T .none -> Q () { s with heap:=h2 }):wpAny M A (leaving env (.ref e)) Q E s:=by
 unfold leaving
 refine wpAny_bind (CB hfr hl hf x λg T k n y=>iI (s:={ s with heap:=g }) y λg2 k2 y2=>h g2 T (k.trans (k2.frame _)) n y2)
theorem BD {Q:Unit -> Shared -> Prop} (hfr:A.frames = some (env :: outer)) (hl:s.heap.FunFrames base (env :: outer)) (hf:env.frame = some L) (x:iw s.heap e C d T .none)
  (h:∀ (h2:Heap) (T2:Addr),Kept (frs (env :: outer)) [T,e,T2] s.heap h2 -> s.heap.objs.size <= T2 -> iw h2 e C d T2 .none -> Q () { s with heap:=h2 }):wpAny M A (leaving env (.ref e)) Q E s:=by
 unfold leaving
 refine wpAny_bind (zm hfr hl hf x λg T2 k n y=>iI (s:={ s with heap:=g }) y λg2 k2 y2=>h g2 T2 (k.trans (k2.frame _)) n y2)
end
end L2
namespace L2
open PySem PySem.Spec PyProof.Rows
def jb (e C:Addr) (d:Option Addr):HO:=.ext λh=>∃ oe vs,h.get? e = some oe /\ oe.cls = .ref C /\ oe.dict = d /\ oe.data = .fields vs /\ 1 < vs.size
theorem ze {P:Program} {w:World} {H:Hp} {h:Heap} {e C:Addr} {d:Option Addr} {oe:Obj} {vs:Array Value} (h1:h.get? e = some oe) (h2:oe.cls = .ref C) (h3:oe.dict = d) (h4:oe.data = .fields vs) (h5:1 < vs.size):cS P w H h e (jb e C d) :=
 ⟨⟨oe,vs,h1,h2,h3,h4,h5⟩,⟨oe,h1⟩,λg1 g2 ⟨o,v,q1,q2⟩ k=>⟨o,v,k o q1,q2⟩⟩
theorem iw.ok {P:Program} {w:World} {H:Hp} {h:Heap} {e C T:Addr} {d:Option Addr} {fl:Value} (x:iw h e C d T fl):cS P w H h e (jb e C d):=by
 obtain ⟨oe,vs,h1,h2,h3,h4,h5⟩:=x.ob
 exact ze h1 h2 h3 h4 (Array.getElem?_eq_some_iff.mp h5).1
theorem Kept.Lu {P:Program} {w:World} {F ch:List Addr} {g h:Heap} {H:Hp} {e C:Addr} {d:Option Addr} (x:Kept F ch g h) (k:jr P w H g) (hF:∀ b ∈ F,H b = none) (hc:∀ b ∈ ch,b = e ∨ H b = none) (he:H e = some (jb e C d)) (ok:cS P w H h e (jb e C d)):jr P w H h:=λa o q=>by
 by_cases z:a = e
 ·subst z
  rw [he] at q
  cases q
  exact ok
 refine (k a o q).stay (λb u hb r=>x.keep b u r (λy=>?_) λy=>?_) (λ_ r=>r) λ_ _ r=>r
 ·rcases hb with v | v
  ·rw [v] at y;rw [hF a y] at q;cases q
  ·rw [hF b y] at v;cases v
 ·rcases hc b y with n | n
  ·rcases hb with v | v
   ·exact z (v.symm.trans n)
   ·rw [n,he] at v;cases v
  ·rcases hb with v | v
   ·rw [v] at n;rw [n] at q;cases q
   ·rw [n] at v;cases v
theorem cS.there {P:Program} {w:World} {H:Hp} {h:Heap} {a:Addr} {o:HO} (x:cS P w H h a o):∃ ob,h.get? a = some ob:=by
 induction o with
 | lst xs=>obtain ⟨_,_,_,_,e⟩:=x;exact ⟨_,e⟩
 | tup xs=>obtain ⟨_,_,_,p⟩:=x;obtain ⟨ob,e,_⟩:=p;exact ⟨ob,e⟩
 | dK kvs=>obtain ⟨_,_,_,_,o,_,_,e,_⟩:=x;exact ⟨o,e⟩
 | dT kvs=>obtain ⟨_,_,_,_,o,_,_,e,_⟩:=x;exact ⟨o,e⟩
 | set S n=>obtain ⟨o,_,_,_,e,_⟩:=x;exact ⟨o,e⟩
 | ins C dx fs=>obtain ⟨_,_,_,e,_⟩:=x;exact ⟨_,e⟩
 | own y=>exact x
 | xd fs=>obtain ⟨_,⟨o,_,_,e,_⟩,_⟩:=x;exact ⟨o,e⟩
 | met f y=>exact ⟨_,x⟩
 | LW lo hi=>obtain ⟨_,_,_,e⟩:=x;exact ⟨_,e⟩
 | Dg o u _=>exact ⟨o,x.1⟩
 | Gv ps=>exact ⟨_,x⟩
 | ext φ=>exact x.2.1
theorem jr.new {P:Program} {w:World} {H:Hp} {h:Heap} {a:Addr} (k:jr P w H h) (e:h.get? a = none):H a = none:=by
 cases q:H a with
 | none=>rfl
 | some o =>
  obtain ⟨ob,q2⟩:=(k a o q).there
  rw [e] at q2;cases q2
def qu (P:Program) (w:World):qw:=λouter H s E ev s'=>∃ (e C T:Addr) (d:Option Addr) (H':Hp),ev = .ref e /\ iw s'.heap e C d T .none /\ s'.os = s.os /\ AllBare s'.gens /\ Un (frs outer) [] H H' s.heap s'.heap /\ jr P w H' s'.heap /\
 H' e = some (jb e C d) /\ H' T = none /\ s.heap.objs.size <= T /\ s.heap.get? e = none /\ E (.ref C) (some e) H'
section
variable {P:Program} {w:World} {K:PySem.W.Frag} {mg:Str -> Option Value} {base:Heap} {N:List Str} {qual:Str} {scope:Scope} {f:Addr} {cd:Value} {A:Around} {outer:List Env} {s:Shared} {H:Hp} {E:XK}
theorem CQ {X:Cx} {pins:List (Addr × Obj)} {Z:St} {H':Hp} {s':Shared} {h2:Heap} {e C T2:Addr} {d:Option Addr} {ch:List Addr} (hfs:X.fs = frs outer) (hex:X.ex = []) (hH:X.H₀ = H) (hs:X.s₀ = s) (hP:X.prog = P) (hw:X.w = w) (J:Inv X pins Z H' s') (k:Kept (frs X.stack) ch s'.heap h2) (y:iw h2 e C d T2 .none)
  (he:H' e = some (jb e C d)) (l2:s'.heap.objs.size <= T2) (le:s.heap.get? e = none) (hch:∀ b ∈ ch,(b = e ∨ H' b = none) /\ s.heap.get? b = none) (hE:E (.ref C) (some e) H'):qu P w outer H s E (.ref e) { s' with heap:=h2 }:=by
 subst hH hs hP hw
 have ll:∀ b o,X.s₀.heap.get? b = some o -> b ∉ ch /\ b ≠ X.env.locals:=λb o q=>by
  have lt:=Heap.lt_size q
  refine ⟨(λz=>by rw [(hch b z).2] at q;cases q),λz=>?_⟩
  have:=J.ok.above
  rw [← z] at this
  exact absurd this (Nat.not_le.mpr lt)
 have LQ:∀ b o,X.s₀.heap.get? b = some o -> b ∉ frs outer -> b ∉ frs X.stack:=λb o q n z=>by
  rcases List.mem_cons.mp (J.kP b z) with y | y
  ·exact (ll b o q).2 y
  ·rw [hfs] at y;exact n y
 have hb:=J.base
 rw [hfs,hex] at hb
 refine ⟨e,C,T2,d,H',rfl,y,J.os,J.bare,⟨λb o q n n1 n2=>?_,λb o q n n1 n2=>?_,λb o q n n2=>hb.free b o q n n2,λb o q n2=>?_,hb.tups,hb.nD,hb.pJ⟩,k.Lu J.hok J.nF (λb z=>(hch b z).1) he y.ok,he,J.hok.fresh l2,Nat.le_trans J.sz l2,le,hE⟩
 ·exact k.keep b o (hb.keep b o q n n1 n2) (LQ b o q n1) (ll b o q).1
 ·obtain ⟨sl,q2⟩:=hb.slot b o q n n1 n2
  by_cases z:b ∈ frs X.stack
  ·obtain ⟨sl2,q3⟩:=k.slot b _ q2 z (ll b o q).1
   exact ⟨sl2,q3⟩
  ·exact ⟨sl,k.keep b _ q2 z (ll b o q).1⟩
 ·obtain ⟨u,q2⟩:=hb.there b o q n2
  exact k.there b u q2
theorem Ly:Passes (qu P w) (iB (qu P w) P w K mg base N qual scope f cd A outer s H E) E:=by
 rintro pins Z H1 s1 ev s' I ⟨e,C,T,d,H',rfl,fl,os,bare,un,hok,he,hT,lT,le,hE⟩
 have J:=I.wC (ch:=[]) os un hok bare (by simp)
 refine BD (base:=base) J.ok.frames J.stack rfl fl λh2 T2 k n y=>?_
 have szJ:=J.sz
 have back:∀ b,s1.heap.get? b = none -> s.heap.get? b = none:=λb z=>by
  cases q:s.heap.get? b with
  | none=>rfl
  | some o =>
   obtain ⟨u,q2⟩:=I.base.there b o q (by show b ∉ [];simp)
   rw [z] at q2;cases q2
 refine CQ (X:=iB (qu P w) P w K mg base N qual scope f cd A outer s H E) rfl rfl rfl rfl rfl rfl J k y he n (back e le) (λb hb=>?_) hE
 simp only [List.mem_cons,List.not_mem_nil,or_false] at hb
 rcases hb with z | z | z
 ·rw [z];exact ⟨.inr hT,back T (Heap.get?_none_of_le lT)⟩
 ·rw [z];exact ⟨.inl rfl,back e le⟩
 ·rw [z];exact ⟨.inr (J.hok.fresh n),Heap.get?_none_of_le (Nat.le_trans szJ n)⟩
theorem HM {pins:List (Addr × Obj)} {Z:St} {H1:Hp} {s1:Shared} {e C:Addr} {d:Option Addr} (I:Inv (iB (qu P w) P w K mg base N qual scope f cd A outer s H E) pins Z H1 s1) (u:jV s1.heap e C d) (he:H1 e = some (jb e C d)) (le:s.heap.get? e = none) (hE:E (.ref C) (some e) H1) :
  (iB (qu P w) P w K mg base N qual scope f cd A outer s H E).xe (.ref e) s1:=by
 refine leave_new (base:=base) I.ok.frames I.stack rfl u λh2 T2 k n y=>?_
 have szJ:=I.sz
 refine CQ (X:=iB (qu P w) P w K mg base N qual scope f cd A outer s H E) rfl rfl rfl rfl rfl rfl I k y he n le (λb hb=>?_) hE
 simp only [List.mem_cons,List.not_mem_nil,or_false] at hb
 rcases hb with z | z
 ·rw [z];exact ⟨.inl rfl,le⟩
 ·rw [z];exact ⟨.inr (I.hok.fresh n),Heap.get?_none_of_le (Nat.le_trans szJ n)⟩
end
end L2
namespace L2
open PySem PySem.Spec PyProof.Rows
section
variable {X:Cx} {pins:List (Addr × Obj)} {Z:St} {H:Hp} {s:Shared} {h':Heap}
theorem Inv.Li {a:Addr} {o:HO} {t':Nat} (I:Inv X pins Z H s) (k:∀ b u,s.heap.get? b = some u -> h'.get? b = some u) (hp:s.heap.get? a = none) (new:cS X.prog X.w (upd H a o) h' a o):Inv X pins Z (upd H a o) { s with heap:=h',toks:=t' }:=by
 have hn:H a = none:=I.hok.new hp
 have ne:∀ b u,s.heap.get? b = some u -> b ≠ a:=λb u q z=>by rw [z,hp] at q;cases q
 have ne2:∀ b u,H b = some u -> b ≠ a:=λb u q=>aj q hn
 refine I.un ⟨λb u q _ _ _=>k b u q,λb u q _ _ _=>⟨u.slots,k b u q⟩,λb u q n _=>by rw [ai (ne b u q)];exact n,λb u q _=>⟨u,k b u q⟩,λb xs q=>by rw [ai (ne2 b _ q)];exact q,λb u xs q=>by rw [ai (ne2 b _ q)];exact q,λb ps q=>⟨#[],by rw [ai (ne2 b _ q),q];simp⟩⟩ λb u q=>?_
 by_cases z:b = a
 ·subst z
  rw [af] at q
  cases q
  exact new
 ·rw [ai z] at q
  exact (I.hok b u q).stay (λc v _ r=>k c v r) (λc r=>by rw [ai (ne2 c _ r)];exact r) λc xs r=>by rw [ai (ne2 c _ r)];exact r
end
abbrev VE:List Value:=[.type "ValueError",.type "Exception",.type "BaseException",.type "object"]
structure ExcAt (h:Heap) (C:Addr) (bm:List Value) (Nn:Addr) (mN:Str -> Option Value):Prop where
 ob:∃ nm q bs hdct sn sub ab col dd k0 k1 k2 k3 k5,h.get? C = some (excClassObj nm q C Nn bs bm hdct sn sub ab col dd k0 k1 k2 k3 k5 "ValueError.__new__")
 ns:h.Ns Nn mN
 tail:OwnTail h VE bm
theorem ExcAt.keeps {h h2:Heap} {C Nn:Addr} {bm:List Value} {mN:Str -> Option Value} (x:ExcAt h C bm Nn mN) (k:∀ b o,h.get? b = some o -> h2.get? b = some o):ExcAt h2 C bm Nn mN :=
 ⟨let ⟨a1,a2,a3,a4,a5,a6,a7,a8,a9,b0,b1,b2,b3,b4,e⟩:=x.ob;⟨a1,a2,a3,a4,a5,a6,a7,a8,a9,b0,b1,b2,b3,b4,k _ _ e⟩,x.ns.keeps k,x.tail.keeps k⟩
section
variable {P:Program} {w:World} {K:PySem.W.Frag} {mg:Str -> Option Value} {base:Heap} {N:List Str} {qual:Str} {scope:Scope} {f:Addr} {cd:Value} {A:Around} {outer:List Env} {s:Shared} {H:Hp} {E:XK}
end
end L2
namespace L2
open PySem PySem.Spec PyProof.Rows
section
variable {M:Model} {A:Around} {E:Value -> Shared -> Prop}
theorem AH {hp:Heap} {g:Array GenState} {dr:Drawn} {tk:Nat} {os:OsState} {e C C2 Nn N2:Addr} {bm bm2:List Value} {mN m2:Str -> Option Value} {oe:Obj} {b:Bool} {Q:Bool -> Shared -> Prop} (x:ExcAt hp C bm Nn mN) (y:ExcAt hp C2 bm2 N2 m2) (he:hp.get? e = some oe) (hcls:oe.cls = .ref C)
  (hb:(Value.ref C :: bm).contains (.ref C2) = b) (hq:Q b ⟨hp,g,dr,tk,os⟩):wpAny M A (excMatches (.ref e) (.ref C2)) Q E ⟨hp,g,dr,tk,os⟩:=by
 obtain ⟨a1,a2,a3,a4,a5,a6,a7,a8,a9,b0,b1,b2,b3,b4,eC⟩:=x.ob
 obtain ⟨c1,c2,c3,c4,c5,c6,c7,c8,c9,d0,d1,d2,d3,d4,eD⟩:=y.ob
 have base2:(Value.ref C2 :: bm2).contains (.type "BaseException") = true:=by rw [List.contains_cons,y.tail.hasType (b:=true) (by decide),Bool.or_true]
 have nt:=tc_notTuple
 unfold excMatches
 repeat (first
  | (with_reducible refine wpAny_loadPart_at he ?_;rw [hcls])
  | with_reducible refine wpAny_loadPart_at eD ?_
  | (with_reducible refine wpAny_isSubtype_exc eD ?_;rw [base2])
  | (with_reducible refine wpAny_isSubtype_exc eC ?_;rw [hb])
  | wp_step)
 cases b <;> (try wp_walk) <;> exact hq
end
end L2
namespace L2
open PySem PySem.Spec PyProof.Rows
section
variable {X:Cx} {pins pins':List (Addr × Obj)} {Z:St} {H:Hp} {s:Shared}
def MA (X:Cx) (pins:List (Addr × Obj)) (Th:St -> Addr -> Addr -> Hp -> Prop) (ev:Value) (s':Shared):Prop :=
 ∃ (e C T:Addr) (d:Option Addr) (Z:St) (H':Hp),ev = .ref e /\ Inv X pins Z H' s' /\ iw s'.heap e C d T .none /\ H' e = some (jb e C d) /\ H' T = none /\ X.s₀.heap.objs.size <= T /\ (∀ p ∈ X.pn ++ pins,p.1 ≠ T) /\ Th Z C e H'
abbrev Cx.kN (X:Cx) (pins:List (Addr × Obj)) (Th:St -> Addr -> Addr -> Hp -> Prop):Cx:={ X with pn:=X.pn ++ pins,xe:=MA X pins Th }
theorem Cx.Ok.cast {X Y:Cx} (ok:X.Ok) (h1:Y.K = X.K) (h2:Y.mg = X.mg) (h3:Y.base = X.base) (h4:Y.env = X.env) (h5:Y.s₀ = X.s₀) (h6:Y.H₀ = X.H₀) (h7:Y.outer = X.outer) (h8:Y.stack = X.stack) (h9:Y.ex = X.ex) (h10:Y.fn = X.fn) (hd:Y.calm = true -> Y.A.handled = none) (hf:Y.A.frames = some Y.stack):Y.Ok:=by
 obtain ⟨P,w,K,mg,base,A,N,s0,H0,env,outer,stack,ex,fn,calm,pn,xe⟩:=Y
 dsimp only at h1 h2 h3 h4 h5 h6 h7 h8 h9 h10
 subst h1 h2 h3 h4 h5 h6 h7 h8 h9 h10
 exact ⟨ok.mod,ok.kind,ok.glob,ok.blt,ok.above,ok.inj,ok.has,ok.Kf,hd,hf,ok.stk,ok.MI,ok.bs,ok.Fw,ok.Ay,ok.BC,ok.lW,ok.FW⟩
theorem Inv.kN (I:Inv X pins Z H s) (Th:St -> Addr -> Addr -> Hp -> Prop):Inv (X.kN pins Th) [] Z H s :=
 ⟨I.ok.cast rfl rfl rfl rfl rfl rfl rfl rfl rfl rfl I.ok.hd I.ok.frames,I.os,I.bare,I.base,I.loc,I.cell,I.free,I.iu,λp hp=>I.pin p (by simpa using hp),I.hok,I.len⟩
theorem Inv.tried {Th:St -> Addr -> Addr -> Hp -> Prop} (I:Inv (X.kN pins Th) pins' Z H s):Inv X pins Z H s :=
 ⟨I.ok.cast rfl rfl rfl rfl rfl rfl rfl rfl rfl rfl I.ok.hd I.ok.frames,I.os,I.bare,I.base,I.loc,I.cell,I.free,I.iu,λp hp=>I.pin p (List.mem_append_left _ hp),I.hok,I.len⟩
abbrev Cx.held (X:Cx) (e:Addr):Cx:={ X with A:=X.A.mark (some (.ref e)),calm:=false,xe:=λ_ _=>False }
theorem Inv.held (I:Inv X pins Z H s) (e:Addr):Inv (X.held e) pins Z H s :=
 ⟨I.ok.cast rfl rfl rfl rfl rfl rfl rfl rfl rfl rfl (λz=>nomatch z) I.ok.frames,I.os,I.bare,I.base,I.loc,I.cell,I.free,I.iu,I.pin,I.hok,I.len⟩
theorem Inv.Jv {e:Addr} (hd:X.calm = true -> X.A.handled = none) (I:Inv (X.held e) pins Z H s):Inv X pins Z H s :=
 ⟨I.ok.cast rfl rfl rfl rfl rfl rfl rfl rfl rfl rfl hd I.ok.frames,I.os,I.bare,I.base,I.loc,I.cell,I.free,I.iu,I.pin,I.hok,I.len⟩
def qe (CX:qw) (X:Cx) (Z:St) (E:XK):Prop:=∀ (pins:List (Addr × Obj)) (H:Hp) (s:Shared) (e:Value) (s':Shared),Inv X pins Z H s -> CX X.stack H s E e s' -> X.xe e s'
theorem Ej {P:Program} {w:World} {Th:St -> Addr -> Addr -> Hp -> Prop} {E:XK} (hP:X.prog = P) (hw:X.w = w) (hE:∀ C e H',E (.ref C) (some e) H' -> Th Z C e H'):qe (qu P w) (X.kN pins Th) Z E:=by
 subst hP hw
 rintro pins1 H1 s1 ev s' I ⟨e,C,T,d,H',rfl,fl,os,bare,un,hok,he,hT,lT,le,hE'⟩
 have J:=I.wC (ch:=[]) os un hok bare (by simp)
 refine ⟨e,C,T,d,Z,H',rfl,J.tried,fl,he,hT,Nat.le_trans I.sz lT,λp hp z=>?_,hE _ _ _ hE'⟩
 have:=(I.tried.pin p hp).1
 have:=Heap.lt_size this
 rw [z] at this
 exact absurd lT (Nat.not_le.mpr this)
theorem Inv.forget {i:Nat} {n:Str} {m:Str -> Option Value} {v:Option Value} {h':Heap} {t':Nat} (I:Inv X pins Z H s) (hN:X.N.Nodup) (hi:X.N[i]? = some n) (hn:s.heap.Ns X.env.locals m)
  (hk:∀ (j:Nat) (x:Str) (v:V),X.N[j]? = some x -> Z[j]? = some (some v) -> Lj X.env.scope x -> ∃ u,RelV v u /\ Look X.env s.heap m x u) (hn':h'.Ns X.env.locals (λx=>if x = n then v else m x)) (hs:Heap.SameBut X.env.locals s.heap h'):Inv X pins (Z.set i none) H { s with heap:=h',toks:=t' }:=by
 have Cp:=I.Cp
 have nl:∀ b o,X.s₀.heap.get? b = some o -> b ≠ X.env.locals:=λb o q=>Nat.ne_of_lt (Nat.lt_of_lt_of_le (Heap.lt_size q) I.ok.above)
 refine ⟨I.ok,I.os,I.bare,⟨λb o q a1 a2 a3=>(hs.2 b (nl b o q)).trans (I.base.keep b o q a1 a2 a3),λb o q a1 a2 a3=>?_,I.base.free,λb o q a1=>?_,I.base.tups,I.base.nD,I.base.pJ⟩,⟨_,hn',λj y w' q1 q2 q3=>?_⟩,λy c q=>?_,I.free,I.iu,λp hp=>?_,λb o q=>?_,by rw [List.length_set];exact I.len⟩
 ·obtain ⟨sl,z⟩:=I.base.slot b o q a1 a2 a3
  exact ⟨sl,(hs.2 b (nl b o q)).trans z⟩
 ·obtain ⟨u,z⟩:=I.base.there b o q a1
  exact ⟨u,(hs.2 b (nl b o q)).trans z⟩
 ·have hj:j ≠ i:=λz=>by
   rw [z] at q2
   have:i < Z.length:=by rw [I.len];exact (List.getElem?_eq_some_iff.mp hi).1
   rw [List.getElem?_set_self this] at q2
   cases q2
  rw [List.getElem?_set_ne (Ne.symm hj)] at q2
  obtain ⟨u,r,l⟩:=hk j y w' q1 q2 q3
  refine ⟨u,r,?_⟩
  rcases l with ⟨k1,k2⟩ | ⟨k1,c,k2,k3⟩
  ·have:y ≠ n:=λz=>hj (qh hN q1 (z ▸ hi))
   exact .inl ⟨k1,by simp [this,k2]⟩
  ·exact .inr ⟨k1,c,k2,k3.sameBut hs (Cp y c k2)⟩
 ·obtain ⟨w',z⟩:=I.cell y c q
  exact ⟨w',z.sameBut hs (Cp y c q)⟩
 ·obtain ⟨a1,a2,a3,a4,a5⟩:=I.pin p hp
  exact ⟨(hs.2 p.1 a3).trans a1,a2,a3,a4,a5⟩
 ·refine (I.hok b o q).stay (λc u hc r=>(hs.2 c λz=>?_).trans r) (λ_ r=>r) λ_ _ r=>r
  have fr:=I.free
  rw [← z] at fr
  rcases hc with y | y
  ·rw [y] at fr;rw [fr] at q;cases q
  ·rw [fr] at y;cases y
end
end L2
namespace L2
open PySem PySem.Spec PyProof.Rows
section
variable {X:Cx} {pins:List (Addr × Obj)} {Z:St} {H:Hp} {s:Shared} {h2:Heap} {e C T T2:Addr} {d:Option Addr}
theorem Inv.vV (I:Inv X pins Z H s) {o:Obj} {vs:Array Value} (q:s.heap.get? T = some o) (z:o.data = .fields vs):T ≠ X.env.locals /\ ∀ x c,X.env.cells.lookup x = some c -> c ≠ T:=by
 obtain ⟨m,⟨o1,es,ep,q1,d1,_⟩,_⟩:=I.loc
 refine ⟨λy=>?_,λx c l y=>?_⟩
 ·rw [y,q1] at q;cases q;rw [d1] at z;cases z
 ·obtain ⟨v,o2,q2,d2⟩:=I.cell x c l
  rw [y,q] at q2;cases q2;rw [z] at d2;cases d2
theorem Inv.noted (hst:X.stack = X.env :: X.outer) (I:Inv X pins Z H s) (fl:iw s.heap e C d T .none) (he:H e = some (jb e C d)) (hT:H T = none) (lT:X.s₀.heap.objs.size <= T) (pT:∀ p ∈ X.pn ++ pins,p.1 ≠ T)
  (k:Kept (frs (X.env :: X.outer)) [T,e] s.heap h2) (y:cS X.prog X.w H h2 e (jb e C d)):Inv X pins Z H { s with heap:=h2 }:=by
 rw [← hst] at k
 obtain ⟨oT,ts,t1,t2,_⟩:=fl.tb
 obtain ⟨n1,n2⟩:=I.vV t1 t2
 have nin:∀ b,H b = none -> b ∉ [T] -> b ∉ [T,e]:=λb hb z w=>by
  simp only [List.mem_cons,List.not_mem_nil,or_false] at z w
  rcases w with w | w
  ·exact z w
  ·rw [w,he] at hb;cases hb
 refine I.wC (s':={ s with heap:=h2 }) (ch:=[T]) rfl ⟨λb o q a1 a2 a3=>k.keep b o q a2 (nin b a1 a3),λb o q a1 a2 a3=>k.slot b o q a2 (nin b a1 a3),λ_ _ _ n _=>n,λb o q _=>k.there b o q,λ_ _ q=>q,λ_ _ _ q=>q,λb ps q=>⟨#[],by rw [q];simp⟩⟩ ?_ I.bare ?_
 ·refine k.Lu I.hok I.nF (λb hb=>?_) he y
  simp only [List.mem_cons,List.not_mem_nil,or_false] at hb
  rcases hb with z | z
  ·rw [z];exact .inr hT
  ·exact .inl z
 ·intro b hb
  rw [List.mem_singleton.mp hb]
  exact ⟨.inr lT,n1,n2,pT⟩
theorem Inv.F4 {o:Obj} {vs:Array Value} (I:Inv X pins Z H s) (q:s.heap.get? T = some o) (z:o.data = .fields vs) (hT:H T = none) (lT:X.s₀.heap.objs.size <= T) (pT:∀ p ∈ X.pn ++ pins,p.1 ≠ T) (k:Kept [] [T] s.heap h2):Inv X pins Z H { s with heap:=h2 }:=by
 obtain ⟨n1,n2⟩:=I.vV q z
 refine I.wC (s':={ s with heap:=h2 }) (ch:=[T]) rfl (k.frame _).un (k.hok I.hok (by simp) λb hb=>?_) I.bare λb hb=>?_
 ·rw [List.mem_singleton.mp hb];exact hT
 ·rw [List.mem_singleton.mp hb];exact ⟨.inr lT,n1,n2,pT⟩
theorem BA {x n:Str} {np hpos:Pos} {b0:Stmt} {suite:List Stmt} {rest:List ExceptHandler} {i:Nat} {C2:Addr} {D:Ends} (hst:X.stack = X.env :: X.outer) (hfr:X.env.frame = some X.env.locals) (hN:X.N.Nodup) (hi:X.N[i]? = some n) (hloc:X.env.scope.names.lookup n = some .local)
  (hg:Gl (X.held e) x) (hm:X.mg x = some (.ref C2)) (hdb:(x == ("__debug__" : Str)) = false) (hC:∃ bm Nn mN,ExcAt X.base C bm Nn mN /\ (Value.ref C :: bm).contains (.ref C2) = true) (hC2:∃ bm Nn mN,ExcAt X.base C2 bm Nn mN)
  (I:Inv X pins Z H s) (fl:iw s.heap e C d T .none) (he:H e = some (jb e C d)) (hT:H T = none) (lT:X.s₀.heap.objs.size <= T) (pT:∀ p ∈ X.pn ++ pins,p.1 ≠ T)
  (hs:At (X.held e) { nx:=λZ2 H2=>D.nx (Z2.set i none) H2,rt:=D.rt,bk:=λZ2 H2=>D.bk (Z2.set i none) H2,ct:=λZ2 H2=>D.ct (Z2.set i none) H2 } (b0 :: suite) (Z.set i (some (.ref e))) H) :
  wpAny (model X.prog X.w) X.A (noteFrame (.ref e) X.env) (λ_ s2=>wpAny (model X.prog X.w) X.A (setFlight (.ref e) none) (λ_ s3 =>
   wpAny (model X.prog X.w) X.A (handleBy (.ref e) X.env (.ExceptHandler (some (.Name x np)) (some n) (b0 :: suite) hpos :: rest)) (SP X pins D) X.xe s3) X.xe s2) X.xe s:=by
 obtain ⟨bm,Nn,mN,xC,sub⟩:=hC
 obtain ⟨bm2,N2,m2,xC2⟩:=hC2
 have fs:s.heap.FunFrames X.base (X.env :: X.outer):=hst ▸ I.stack
 have ff:X.A.frames = some (X.env :: X.outer):=by rw [I.ok.frames,hst]
 refine zm (base:=X.base) ff fs hfr fl λg2 T2 k n2 y=>?_
 have I2:=I.noted hst fl he hT lT pT k y.ok
 have l2:X.s₀.heap.objs.size <= T2:=Nat.le_trans I.sz n2
 have h2T:H T2 = none:=I.hok.fresh n2
 have p2:∀ p ∈ X.pn ++ pins,p.1 ≠ T2:=λp hp z=>by
  have:=Heap.lt_size (I.pin p hp).1
  rw [z] at this
  exact absurd n2 (Nat.not_le.mpr this)
 refine iI (s:={ s with heap:=g2 }) y λg3 k3 y3=>?_
 obtain ⟨oT2,ts2,u1,u2,_⟩:=y.tb
 have I3:=I2.F4 u1 u2 h2T l2 p2 k3
 refine wpAny_handleBy_cons (codeAny_handlers_test ?_) (by intro q;cases q)
 refine wpAny_mono (gZ (X:=X.held e) (pos:=np) (E:=λ_ _=>False) (Q:=λu s4=>u = .ref C2 /\ s4 = { s with heap:=g3 }) (I3.held e) hg hm ⟨rfl,rfl⟩ hdb) (λu s4 z=>?_) λ_ _ z=>z.elim
 obtain ⟨rfl,rfl⟩:=z
 obtain ⟨oe,vs,o1,o2,_⟩:=y3.ob
 obtain ⟨hp,gg,dr,tk,os⟩:=s
 refine AH (xC.keeps I3.bk) (xC2.keeps I3.bk) o1 o2 sub ?_
 show codeAny _ _ _ _ _
 refine codeAny_handlers_suite_as ?_
 refine iI (s:=⟨g3,gg,dr,tk,os⟩) y3 λg4 k4 y4=>?_
 obtain ⟨oT3,ts3,w1,w2,_⟩:=y3.tb
 have I4:=I3.F4 w1 w2 h2T l2 p2 k4
 refine lR (X:=X.held e) (v:=.ref e) (I4.held e) hN hi (.inl hloc) rfl (λs5 I5=>?_) (.inr hloc)
 refine wpAny_mono (hs pins s5 I5) (λfw s6 sp=>?_) λ_ _ z=>z.elim
 have fin:∀ {Z6:St} {H6:Hp} {Q:Unit -> Shared -> Prop},Inv (X.held e) pins Z6 H6 s6 -> (∀ s7,Inv X pins (Z6.set i none) H6 s7 -> Q () s7) -> wpAny (model X.prog X.w) X.A (do bindName X.env n .none;unbindBehindTheSuite X.env n hpos) Q X.xe s6:=λ{Z6 H6 Q} I6 q=>by
  obtain ⟨m,hn,hk⟩:=I6.loc
  exact wpAny_nameGoes_keeps hloc hn (by rw [I6.ok.kind];rfl) λh7 v hn7 hs7=>q _ ((I6.Jv I.ok.hd).forget hN hi hn hk hn7 hs7)
 cases fw with
 | next=>obtain ⟨Z6,H6,I6,q⟩:=sp;exact fin I6 λs7 I7=>⟨_,H6,I7,q⟩
 | brk=>obtain ⟨Z6,H6,I6,q⟩:=sp;exact fin I6 λs7 I7=>⟨_,H6,I7,q⟩
 | cont=>obtain ⟨Z6,H6,I6,q⟩:=sp;exact fin I6 λs7 I7=>⟨_,H6,I7,q⟩
 | ret u=>obtain ⟨v,Z6,H6,I6,r,q⟩:=sp;exact fin I6 λs7 I7=>⟨v,_,H6,I7,r,q⟩
end
end L2
namespace L2
open PySem PySem.Spec PyProof.Rows
section
variable {X:Cx}
abbrev Ends.less (D:Ends) (i:Nat):Ends:={ nx:=λZ2 H2=>D.nx (Z2.set i none) H2,rt:=D.rt,bk:=λZ2 H2=>D.bk (Z2.set i none) H2,ct:=λZ2 H2=>D.ct (Z2.set i none) H2 }
def F1 (X:Cx) (C C2:Addr):Prop:=∃ bm Nn mN,ExcAt X.base C bm Nn mN /\ (Value.ref C :: bm).contains (.ref C2) = true
theorem Ii {x n:Str} {np hpos pos:Pos} {b0:Stmt} {body suite:List Stmt} {i:Nat} {C2:Addr} (hst:X.stack = X.env :: X.outer) (hfr:X.env.frame = some X.env.locals) (hN:X.N.Nodup) (hi:X.N[i]? = some n) (hloc:X.env.scope.names.lookup n = some .local)
  (hg:Gl X x) (hm:X.mg x = some (.ref C2)) (hdb:(x == ("__debug__" : Str)) = false) (hC2:∃ bm Nn mN,ExcAt X.base C2 bm Nn mN) :
  PS X (.Try body [.ExceptHandler (some (.Name x np)) (some n) (b0 :: suite) hpos] [] [] pos) (λD Z H=>∃ Th,(∀ pins,At (X.kN pins Th) D body Z H) /\
   ∀ Z' C e H',Th Z' C e H' -> F1 X C C2 /\ At (X.held e) (D.less i) (b0 :: suite) (Z'.set i (some (.ref e))) H'):=by
 rintro pins s Z H D I ⟨Th,hb,hh⟩
 refine wpAny_Try_except (wpAny_mono (hb pins [] s (I.kN Th)) (λf s1 sp=>?_) λev s1 z=>?_)
 ·cases f with
  | next=>obtain ⟨Z1,H1,I1,q⟩:=sp;exact wpAny_execs_nil ⟨Z1,H1,I1.tried,q⟩
  | brk=>obtain ⟨Z1,H1,I1,q⟩:=sp;exact ⟨Z1,H1,I1.tried,q⟩
  | cont=>obtain ⟨Z1,H1,I1,q⟩:=sp;exact ⟨Z1,H1,I1.tried,q⟩
  | ret u=>obtain ⟨v,Z1,H1,I1,r,q⟩:=sp;exact ⟨v,Z1,H1,I1.tried,r,q⟩
 ·obtain ⟨e,C,T,d,Z1,H1,rfl,I1,fl,he,hT,lT,pT,th⟩:=z
  obtain ⟨tk,hs⟩:=hh Z1 C e H1 th
  exact BA hst hfr hN hi hloc hg hm hdb tk hC2 I1 fl he hT lT pT hs
end
section
variable {X:Cx} {CX:qw} {k:Nat} {f C:Addr} {fd:FuncData} {ps:List Str} {sp:Sp} {dvs:List V} {ds:List Value} {x m:Str} {p pos apos:Pos} {e o:Expr} {es:List Expr} {ta:TE} {t:TA}
end
section
variable {P:Program} {w:World} {K:PySem.W.Frag} {mg:Str -> Option Value} {base:Heap}
theorem bK.okE {x qual:Str} {st:Stmt} {f:Addr} {fd:FuncData} {N ps:List Str} {k:Nat} {sp:Sp} (F:bK K x qual st f fd) (S:aE N ps (aq st)) (len:∀ vs H Q E,sp vs H Q E -> vs.length = ps.length)
  (hbody:∀ (cdv:Value) (A:Around) (outer:List Env) (s:Shared) (H:Hp) (vs:List V) (Q:VK) (E:XK),fU k (A.deeper (envOfC qual (aq st) s.heap.objs.size f cdv)) -> sp vs H Q E ->
   At (iB (qu P w) P w K mg base N qual (aq st) f cdv A outer s H E) { nx:=λ_ H'=>Q .cL H',rt:=Q } (j6 st) (start N vs) H):bu P w K mg base (qu P w) (k + 1) f fd ps sp:=by
 obtain ⟨oc,od,kV,doc,pm,an,cdv,ct,osl,rfl,lk,hcd⟩:=F.ex
 exact Gk lk hcd S len λA outer s H vs Q E hr hsp=>sO (hbody cdv A outer s H vs Q E hr hsp)
theorem bu.calm {k:Nat} {f:Addr} {fd:FuncData} {ps:List Str} {sp:Sp} (F:bu P w K mg base dZ k f fd ps sp) {CX:qw}:bu P w K mg base CX k f fd ps sp :=
 ⟨F.len,λA outer s H args us vs Q E hr e0 hb r h=>codeAny_mono (F.run A outer s H args us vs Q E hr e0 hb r h) λy s' hq=>by
  match y,hq with
  | .ok (.ret _),hq=>exact hq⟩
end
end L2
namespace L2
open PySem PySem.Spec PyProof.Rows PySem.W
structure pH (K:Frag) (C:Addr):Prop where
 ga:findIn K (.ref C) "__getattribute__" = some (some (.builtin "BaseException.__getattribute__"))
 gh:findIn K (.ref C) "__getattr__" = some none
 sub:mroIn K C (.type "BaseException") = some true
section
variable {prog:Program} {w:World} {A:Around} {E:Value -> Shared -> Prop} {s:Shared} {K:Frag} {x C:Addr} {ox:Obj} {od:Option Obj} {name:Str}
theorem Al {M:Model} {nm:Value} {Q:Unit -> Shared -> Prop} (G:pH K C) (X:K.In s.heap) (I:InstAt s.heap x ox C od) (q:Q () s):wpAny M A (checkBuiltinCall "BaseException.__getattribute__" ⟨[.ref x,nm],[]⟩) Q E s:=by
 obtain ⟨h0,g,d,tt,os⟩:=s
 have k1:builtinKind "BaseException.__getattribute__" = some .slot:=by decide +kernel
 have k2:splitId "BaseException.__getattribute__" = some ("BaseException","__getattribute__"):=by decide +kernel
 have k3:=F.args_bexc_ga (.ref x) nm
 have LI:Looks M h0 (isInstance (.ref x) (.type "BaseException")) true:=I.type.andThen (looks_mroIn X G.sub)
 simp only [checkBuiltinCall,k1,k2]
 refine wpAny_bind (LI.at ?_)
 repeat (first | assumption | wp_step)
theorem G9 {fill ex:Bool} {tk:Tok} {Q:Value -> Shared -> Prop} (G:pH K C) (X:K.In s.heap) (I:InstAt s.heap x ox C od)
  (h:wpAny (model prog w) A.in1 (Builtin.«object.__getattribute__» ⟨[.ref x,.str name tk],[]⟩) (λfin s'=>match fin with
   | .done (.ret v)=>wpAny (model prog w) A (handedOut v) Q E s'
   | _=>False) (λ_ _=>False) s):wpAny (model prog w) A (getAttrBy (.ref x) (.str name tk) fill ex) Q E s:=by
 have X0:=X
 have I0:=I
 obtain ⟨h0,g,d,tt,os⟩:=s
 have f3:=(F.excAttr_ValueError).ga.bind (.ref x)
 have e0:(ex && onTheHeap (Value.builtin "BaseException.__getattribute__")) = false:=by cases ex <;> rfl
 have e2:(Value.builtin "BaseException.__getattribute__" == Value.builtin "object.__getattribute__") = false:=by decide +kernel
 have e1:(onTheHeap (Value.ref C) && Value.builtin "BaseException.__getattribute__" == Value.builtin "object.__getattribute__") = false:=by rw [e2];rfl
 unfold getAttrBy
 refine wpAny_holding (wpAny_bind (I.type.at (wpAny_bind ((looks_findIn X G.ga).at ?_))))
 dsimp only
 rw [e1]
 unfold getAttrByItsOwn hookBefore callGetattribute boundAndCalled
 rw [e0]
 refine wpAny_bind (show wpAny _ _ (if onTheHeap (Value.ref C) = true then typeLookup (.ref C) "__getattr__" else pure none) _ _ _ from ?_)
 refine ((looks_findIn X G.gh).at ?_)
 simp only [Bool.false_eq_true,if_false]
 refine wpAny_bind (wpAny_attempt (wpAny_holding ?_))
 refine wpAny_bind ?_
 rw [f3]
 refine wpAny_pure ?_
 refine wpAny_call (codeAny_call_builtin (F.excAttr_ValueError).ga.plain F.entry_bexc_ga (Al (s:=⟨h0,g,d,tt,os⟩) G X0 I0 (wpAny_mono h (λfin s' z=>?_) λ_ _ z=>z.elim)))
 rcases fin with (_ | _ | _ | _) | _ <;> first | exact z.elim | exact z
theorem AD {Q:Option Value -> Shared -> Prop} (G:pH K C) (X:K.In s.heap) (I:InstAt s.heap x ox C od) (hm:mroIn K C (.type "object") = some true) (hf:findObj K C od "__class__" = some (.bind (.builtin "getset_descriptor.__get__") (.builtin "object.__class__")))
  (h:Q (some (.ref C)) { s with toks:=s.toks + 1 }):wpAny (model prog w) A (getAttr? (.ref x) "__class__") Q E s:=by
 have L1:∀ M,Looks M s.heap _ _:=λM=>looks_find (M:=M) X I hf
 have L0:∀ M,Looks M s.heap _ _:=λM=>I.type (M:=M)
 obtain ⟨h0,g,d,tt,os⟩:=s
 unfold getAttr? getAttrBy?
 refine wpAny_bind (wpAny_mkText (wpAny_bind (wpAny_attempt (G9 (s:=⟨h0,g,d,tt + 1,os⟩) G X I ?_))))
 unfold Builtin.«object.__getattribute__»
 refine wpAny_bind (wpAny_pure (wpAny_bind (wpAny_pure (wpAny_bind ((L0 _).at (wpAny_bind ((L1 _).at ?_)))))))
 refine wpAny_bind (wpAny_holding (wpAny_call (class_get (s:=⟨h0,g,d,tt + 1,os⟩) X I hm ?_)))
 refine wpAny_pure ?_
 show wpAny _ _ (handedOut (.ref C)) _ _ _
 exact wpAny_pure (wpAny_pure h)
theorem C6 {cd:ClassData} (G:pH K C) (hc:clsIn K C = some cd) (hm:mroIn K C (.type "object") = some true) (ha:findIn K (.ref C) "__class__" = some (some (.builtin "object.__class__")))
  (hn:specialIn K (.builtin "object.__class__") "__get__" = some (some (.builtin "getset_descriptor.__get__"))) (htk:takesIn K (.builtin "object.__class__") = some true):KitX K (.ref x) (.ref C) (λh=>∃ ox od,InstAt h x ox C od) where
 ty:=λ_ _ _ ⟨_,_,I⟩=>I.type
 it:=λ_ _ X _=>by
  unfold clsIn at hc
  split at hc
  next ho=>exact λA' Q' E' s' k q=>wpAny_bind (wpAny_loadPart (k _ _ (X _ _ ho)) (wpAny_pure q))
  next=>cases hc
 ne:=λh tp dd its n sl X htp=>by
  refine Bool.eq_false_iff.mpr λq=>?_
  have e:C = tp:=Value.ref.inj (beq_iff_eq.mp q)
  unfold clsIn at hc
  split at hc
  next ho=>rw [e] at ho;have z:=(X _ _ ho).symm.trans htp;cases z
  next=>cases hc
 ca:=λX ⟨_,_,I⟩ k=>AD G X I hm (by unfold findObj;rw [hc];simp only [Option.bind_some,ha,hn,htk]) k
end
end L2
namespace L2
open PySem PySem.Spec PyProof.Rows PySem.W
def sZ (K:Frag) (C:Addr):Bool :=
 match K.lookup C with
 | some ⟨.type "type",_,.cls cd,sl⟩ =>
  match cd.mro,sl.toList with
  | .ref D :: r,[_,_,_,_,some (.builtin m),_]=>(D == C && m == "ValueError.__new__") && (!cd.hasDel && (tailIn K VE r && nsOkIn K cd.ns))
  | _,_=>false
 | _=>false
theorem jN {K:Frag} {h:Heap} {C:Addr} (ug:K.In h) (q:sZ K C = true):∃ bm Nn mN,ExcAt h C bm Nn mN:=by
 unfold sZ at q
 split at q
 next dd cd sl look =>
  split at q
  next D r c0 c1 c2 c3 m c5 em es =>
   simp only [Bool.and_eq_true,beq_iff_eq,Bool.not_eq_true'] at q
   obtain ⟨⟨e1,e2⟩,del,tl,nsok⟩:=q
   subst e1 e2
   have esl:sl = #[c0,c1,c2,c3,some (.builtin "ValueError.__new__"),c5]:=Array.toList_inj.mp es
   obtain ⟨f1,f2,f3,f4,f5,f6,f7,f8,f9,f10,f11⟩:=cd
   have em:f3 = .ref D :: r:=em
   have del:f11 = false:=del
   subst em del esl
   exact ⟨r,f4,_,⟨_,_,_,_,_,_,_,_,_,_,_,_,_,_,ug _ _ look⟩,.of_isNs (isNs_of_in ug nsok),tail_of_in ug tl⟩
  next=>cases q
 next=>cases q
section
variable {prog:Program} {w:World} {A:Around} {E:Value -> Shared -> Prop} {h:Heap} {g:Array GenState} {d:Drawn} {t:Nat} {os:OsState} {K:Frag} {C fI:Addr} {oI:Obj} {bm:List Value} {Nn:Addr} {mN:Str -> Option Value} {rest:List Value}
theorem sY {Q:Fin -> Shared -> Prop} (X:K.In h) (x:ExcAt h C bm Nn mN) (hi:findIn K (.ref C) "__init__" = some (some (.ref fI))) (hf:h.get? fI = some oI) (hfc:oI.cls = .type "function") (sz:rest.length <= sizeLine)
  (hq:∀ h2 e,Heap.MadeExcOf h h2 e (.ref C) rest -> wpAny (model prog w) A (call (.ref fI) (.ref e :: rest)) (λr s2=>r = .none /\ Q (.done (.ret (.ref e))) s2) E ⟨h2,g,d,t,os⟩) :
  wpAny (model prog w) A (Builtin.«type.__call__» ⟨.ref C :: rest,[]⟩) Q E ⟨h,g,d,t,os⟩:=by
 obtain ⟨a1,a2,a3,a4,a5,a6,a7,a8,a9,b0,b1,b2,b3,b4,eC⟩:=x.ob
 have B:=PySem.F.excBase_ValueError
 repeat (first | with_reducible refine wpAny_loadPart_at eC ?_ | with_reducible refine wpAny_madeBy_exc eC ?_ | wp_step)
 refine codeAny_call_builtin_code (Code.quiet_builtin _ B.quiet) (wpAny_check_new_subU B (by decide) x.tail eC (codeAny_exc_new_subU B (by decide) B x.tail eC ?_ sz))
 show wpAny _ _ _ _ _ _
 generalize e2:(h.push { cls:=.type "tuple",data:=.seq rest.toArray }).push { cls:=.ref C,data:=.fields #[.ref h.objs.size,.none,.none,.none,.bool false,.none] } = h2
 have k:∀ b o,h.get? b = some o -> h2.get? b = some o:=λb o q=>by rw [← e2];exact Heap.get?_push_of_some _ (Heap.get?_push_of_some _ q)
 have ge:h2.get? (h.objs.size + 1) = some { cls:=.ref C,data:=.fields #[.ref h.objs.size,.none,.none,.none,.bool false,.none] }:=by rw [← e2];heap_get
 have eC2:=k _ _ eC
 have L:Looks (model prog w) h2 (typeLookup (.ref C) "__init__") (some (.ref fI)):=looks_findIn (λa o q=>k _ _ (X a o q)) hi
 have self:(Value.ref C :: bm).contains (.ref C) = true:=by simp
 unfold isInstance
 repeat (first | with_reducible refine wpAny_loadPart_at ge ?_ | (with_reducible refine wpAny_isSubtype_exc eC2 ?_;rw [self]) | wp_step)
 refine L.at ?_
 refine wpAny_holding (wpAny_bind ?_)
 unfold bindSpecial
 refine wpAny_bind (wpAny_typeOf (T:="function") ⟨_,k _ _ hf,hfc⟩ ?_)
 rw [if_pos (by decide)]
 refine wpAny_pure (wpAny_bind (cZ (hq h2 (h.objs.size + 1) ⟨k,Heap.get?_none_of_le (Nat.le_succ _),h.objs.size,ge,Heap.get?_none_of_le (Nat.le_refl _),?_⟩) λr s2 z=>?_))
 ·rw [← e2];exact Heap.get?_push_of_some _ (Heap.get?_push_at rfl rfl)
 ·obtain ⟨z1,z2⟩:=z
  subst z1
  wp_walk
  exact z2
theorem Dj {Q:Value -> Shared -> Prop} (X:K.In h) (x:ExcAt h C bm Nn mN) (hi:findIn K (.ref C) "__init__" = some (some (.ref fI))) (hf:h.get? fI = some oI) (hfc:oI.cls = .type "function") (sz:rest.length <= sizeLine)
  (hq:∀ h2 e,Heap.MadeExcOf h h2 e (.ref C) rest -> wpAny (model prog w) (A.under (.builtin "type.__call__" ⟨.ref C :: rest,[]⟩)) (call (.ref fI) (.ref e :: rest)) (λr s2=>r = .none /\ Q (.ref e) s2) E ⟨h2,g,d,t,os⟩) :
  wpAny (model prog w) A (call (.ref C) rest) Q E ⟨h,g,d,t,os⟩:=by
 obtain ⟨a1,a2,a3,a4,a5,a6,a7,a8,a9,b0,b1,b2,b3,b4,eC⟩:=id x.ob
 have f1:=tc_lookup
 have f2:=tc_bind (.ref C)
 have hT:(⟨h,g,d,t,os⟩:Shared).TypeIs (.ref C) "type" := ⟨_,eC,rfl⟩
 refine wpAny_call (codeAny_of_tree (show wpAny _ _ (callAny (.ref C) _) _ _ _ from ?_))
 repeat (any_goals (first | assumption | with_reducible refine wpAny_loadPart_at eC ?_ | wp_step))
 exact ⟨rfl,codeAny_call_builtin_at (Code.quiet_builtin _ (by decide +kernel)) entry_typeCall (wpAny_check_type_call_sub eC (sY X x hi hf hfc sz hq))⟩
theorem Am {s:Shared} {env:Env} {M:Model} {x:Sem Value} {Q:Flow -> Shared -> Prop} (hh:A.handled = none)
  (h:wpAny M A x (λv s1=>∃ e C bm Nn mN oe vs,v = .ref e /\ ExcAt s1.heap C bm Nn mN /\ s1.heap.get? e = some oe /\ oe.cls = .ref C /\ oe.data = .fields vs /\ vs[1]? = some .none /\ E (.ref e) s1) E s):wpAny M A (raiseStmt env (some x) none) Q E s:=by
 unfold raiseStmt
 refine wpAny_bind (cZ h λv s1 ⟨e,C,bm,Nn,mN,oe,vs,ev,xx,ge,gc,gd,g1,hE⟩=>?_)
 subst ev
 obtain ⟨a1,a2,a3,a4,a5,a6,a7,a8,a9,b0,b1,b2,b3,b4,eC⟩:=xx.ob
 have hb:(Value.ref C :: bm).contains (.type "BaseException") = true:=by rw [List.contains_cons,xx.tail.hasType (b:=true) (by decide),Bool.or_true]
 obtain ⟨oc,od,odt,osl⟩:=oe
 dsimp only at gc gd
 subst gc gd
 obtain ⟨hp,gg,dr,tk,os1⟩:=s1
 have fl:∀ {R:Value -> Shared -> Prop},R .none ⟨hp,gg,dr,tk,os1⟩ -> wpAny M A (field (.ref e) 1) R E ⟨hp,gg,dr,tk,os1⟩:=λr=>wpAny_field ge rfl g1 r
 repeat (first | with_reducible refine wpAny_loadPart_at ge ?_ | with_reducible refine wpAny_loadPart_at eC ?_ | (with_reducible refine wpAny_isSubtype_exc eC ?_;rw [hb]) | with_reducible refine fl ?_ | wp_step)
 exact wpAny_raiseNew_none hh hE
end
end L2
namespace L2
open PySem PySem.Spec PyProof.Rows PySem.W
theorem tY {h:Heap} {bm:List Value} (self:Value) (t:OwnTail h VE bm):refuseLoop self "__setattr__" bm = pure ():=by
 induction t with
 | base=>exact PySem.F.store_ValueError.passes self
 | own _ _ _ _ ih=>rw [refuseLoop_ref];exact ih
section
variable {prog:Program} {w:World} {A:Around} {E:Value -> Shared -> Prop} {s:Shared} {K:Frag} {e C:Addr} {oe:Obj} {od:Option Obj} {bm:List Value} {Nn:Addr} {mN:Str -> Option Value} {name:Str} {v:Value} {vs:Array Value}
theorem Aa {tk:Tok} {R:Result -> Shared -> Prop} (X:K.In s.heap) (I:InstAt s.heap e oe C od) (x:ExcAt s.heap C bm Nn mN) (hn:findIn K (.ref C) name = some none) (hm:mroIn K C (.type "object") = some true)
  (h:wpAny (model prog w) A.in1 (Builtin.ObjectAttr.storeInOwnDict (.ref e) (.ref C) (.str name tk) name v false) (λfin s2=>match fin with | .done f=>R (.ok f) s2 | .again c=>c.quiet = true /\ codeAny (model prog w) A c R s2) (λev s2=>R (.error ev) s2) s) :
  codeAny (model prog w) A (.call (.builtin "object.__setattr__") ⟨[.ref e,.str name tk,v],[]⟩) R s:=by
 have SF:=PySem.F.store_object
 obtain ⟨a1,a2,a3,a4,a5,a6,a7,a8,a9,b0,b1,b2,b3,b4,eC⟩:=x.ob
 have sub:Looks (model prog w) s.heap (isInstance (.ref e) (.type "object")) true:=I.type.andThen (looks_mroIn X hm)
 refine codeAny_call_builtin SF.slot.plain SF.entry (@check_slot (model prog w) _ _ s "object.__setattr__" "object" "__setattr__" (.ref e) [.str name tk,v] [] _ SF.kind SF.split sub (SF.args (.ref e) (.str name tk) v) ?_)
 have pass:refuseLoop (.ref e) "__setattr__" (.ref C :: bm) = pure ():=by rw [refuseLoop_ref];exact tY _ x.tail
 rw [osa_eq,refuse_eq]
 refine wpAny_bind (wpAny_bind (I.type.here (wpAny_bind ?_)))
 obtain ⟨hp,g,dr,t,os⟩:=s
 refine wpAny_mroOf_exc eC ?_
 rw [pass]
 exact wpAny_pure (wpAny_bind (I.type.here (wpAny_bind ((looks_findIn X hn).here (wpAny_bind (wpAny_pure h))))))
theorem A0 {dx:Addr} {mA:Str -> Option Value} {ns:List Str} {Q:Unit -> Shared -> Prop} {cd:ClassData} (X:K.In s.heap) (I:InstAt s.heap e oe C od) (x:ExcAt s.heap C bm Nn mN) (hs:findIn K (.ref C) "__setattr__" = some (some (.builtin "object.__setattr__")))
  (hn:findIn K (.ref C) name = some none) (hm:mroIn K C (.type "object") = some true) (hc:clsIn K C = some cd) (hh:cd.hasDict = true) (hd:oe.dict = some dx) (hda:oe.data = .fields vs) (hns:s.heap.Ns1 dx mA) (hw:Within mA ns) (sz:ns.length <= sizeLine)
  (h:∀ h2 tk,h2.Ns1 dx (λy=>if y = name then some v else mA y) -> Heap.SameBut dx s.heap h2 -> Q () { s with heap:=h2,toks:=tk }):wpAny (model prog w) A (setAttr (.ref e) name v) Q E s:=by
 obtain ⟨oc,odt,oda,osl⟩:=oe
 have cl:oc = .ref C:=I.cls
 dsimp only at hd hda
 subst cl hd hda
 refine set_plain X I hs (Aa (s:={ s with toks:=s.toks + 1 }) X I x hn hm ?_)
 refine wpAny_bind (wpAny_pure (wpAny_bind (wpAny_bind (wpAny_loadPart I.at_ (wpAny_bind (Looks.here (s:={ s with toks:=s.toks + 1 }) (looks_clsIn X hc) ?_))))))
 rw [hh]
 refine wpAny_pure (a:=some dx) (wpAny_bind (wpAny_pure (wpAny_bind ?_)))
 refine wpAny_nsSet1 (s:={ s with toks:=s.toks + 1 }) hns λh2 n2 s2=>?_
 obtain ⟨oD,esD,epD,hoD,hdD,hcD⟩:=n2.count (Within.cons name v hw)
 exact wpAny_bind (wpAny_lookBehind hoD (by rw [hdD];exact pastItsLine_dict (Nat.le_trans hcD (by rw [List.length_cons];omega))) (wpAny_pure (h _ _ n2 s2)))
theorem yD {Q:Unit -> Shared -> Prop} {cd:ClassData} (X:K.In s.heap) (I:InstAt s.heap e oe C od) (x:ExcAt s.heap C bm Nn mN) (hs:findIn K (.ref C) "__setattr__" = some (some (.builtin "object.__setattr__")))
  (hn:findIn K (.ref C) name = some none) (hm:mroIn K C (.type "object") = some true) (hc:clsIn K C = some cd) (hh:cd.hasDict = true) (hd:oe.dict = none) (hda:oe.data = .fields vs)
  (h:∀ h2 tk,h2.get? e = some { oe with dict:=some s.heap.objs.size } -> h2.Ns1 s.heap.objs.size (λy=>if y = name then some v else none) -> (∀ b o,b ≠ e -> s.heap.get? b = some o -> h2.get? b = some o) -> Q () { s with heap:=h2,toks:=tk }):wpAny (model prog w) A (setAttr (.ref e) name v) Q E s:=by
 obtain ⟨oc,odt,oda,osl⟩:=oe
 have cl:oc = .ref C:=I.cls
 dsimp only at hd hda
 subst cl hd hda
 refine set_plain X I hs (Aa (s:={ s with toks:=s.toks + 1 }) X I x hn hm ?_)
 refine wpAny_bind (wpAny_pure (wpAny_bind (wpAny_bind (wpAny_loadPart I.at_ (wpAny_bind (Looks.here (s:={ s with toks:=s.toks + 1 }) (looks_clsIn X hc) ?_))))))
 rw [hh]
 have he1:=Heap.get?_push_of_some { cls:=.type "dict",data:=.dict #[] } I.at_
 have nes:e ≠ s.heap.objs.size:=Nat.ne_of_lt (Heap.lt_size I.at_)
 refine wpAny_bind (wpAny_alloc' (wpAny_bind (wpAny_update' he1 (wpAny_pure ?_))))
 generalize e2:(Heap.update (Heap.push s.heap { cls:=.type "dict",data:=.dict #[] }) e λo=>{ cls:=o.cls,dict:=some s.heap.objs.size,data:=o.data,slots:=o.slots }) = h1
 have g1:h1.get? s.heap.objs.size = some { cls:=.type "dict",data:=.dict #[] }:=by rw [← e2];exact (Heap.get?_update_ne _ _ _ _ nes.symm).trans (Heap.get?_push_at rfl rfl)
 have n1:h1.Ns s.heap.objs.size (λ_=>none):=⟨_,#[],_,g1,rfl,λz hz=>absurd hz (by simp),λ_=>rfl⟩
 have ge:h1.get? e = some ⟨.ref C,some s.heap.objs.size,.fields vs,osl⟩:=by rw [← e2];exact Heap.get?_update_self _ he1 rfl
 refine wpAny_bind (wpAny_pure (wpAny_bind (wpAny_nsSet1 (Heap.Ns1.of_empty n1) λh2 n2 s2=>?_)))
 obtain ⟨oD,esD,epD,hoD,hdD,hcD⟩:=n2.count (Within.cons name v Within.nil)
 refine wpAny_bind (wpAny_lookBehind hoD (by rw [hdD];exact pastItsLine_dict (Nat.le_trans hcD (by rw [List.length_cons,List.length_nil,sizeLine_eq];omega))) (wpAny_pure ?_))
 exact h h2 _ ((s2.2 e nes).trans ge) n2 λb o nb q=>(s2.2 b (Nat.ne_of_lt (Heap.lt_size q))).trans (by rw [← e2];exact (Heap.get?_update_ne _ _ _ _ nb).trans (Heap.get?_push_of_some _ q))
end
end L2
namespace L2
open PySem PySem.Spec PyProof.Rows PySem.W
def iR (e C:Addr) (d:Option Addr):HO:=.ext λh=>jV h e C d
theorem tQ {P:Program} {w:World} {H:Hp} {h:Heap} {e C:Addr} {d:Option Addr} (u:jV h e C d):cS P w H h e (iR e C d):=by
 obtain ⟨oe,vs,g1,g2⟩:=id u
 exact ⟨u,⟨oe,g1⟩,λa b ⟨o,v,q1,q2⟩ k=>⟨o,v,k o q1,q2⟩⟩
structure ExcC (K:Frag) (C:Addr):Prop where
 at_:sZ K C = true
 ge:pH K C
 sa:findIn K (.ref C) "__setattr__" = some (some (.builtin "object.__setattr__"))
 ob:mroIn K C (.type "object") = some true
 hd:hasDictIn K C = true
section
variable {X:Cx} {pins:List (Addr × Obj)} {Z:St} {H:Hp} {s:Shared} {e C dx:Addr} {d:Option Addr} {fs:List (Str × V)} {f:Str} {A:Around} {E:Value -> Shared -> Prop}
theorem Cf {P:Program} {w:World} {h:Heap} (k:jr P w H h) (q:H dx = some (.xd fs)):∃ mA,h.Ns1 dx mA /\ ∀ g,jh (fs.lookup g) (mA g):=k dx _ q
theorem Az {mA:Str -> Option Value} (r:∀ g,jh (fs.lookup g) (mA g)):Within mA (fs.map (·.1)):=by
 intro g hg
 cases q:fs.lookup g with
 | none =>
  have:=jh.none_of (o:=mA g) (by rw [← q];exact r g)
  exact absurd this hg
 | some y=>exact List.mem_map_of_mem (PySem.mem_of_lookup q)
theorem FF {y:V} {u:Value} {Q:Unit -> Shared -> Prop} (I:Inv X pins Z H s) (he:H e = some (iR e C (some dx))) (hx:H dx = some (.xd fs)) (c:ExcC X.K C) (n:bI X.K C f) (hl:fs.length < 1000) (ry:RelV y u)
  (h:∀ s',Inv X pins Z (upd H dx (.xd ((f,y) :: fs))) s' -> Q () s'):wpAny (model X.prog X.w) A (setAttr (.ref e) f u) Q E s:=by
 obtain ⟨mA,n1,r⟩:=Cf I.hok hx
 obtain ⟨od,god,look⟩:=lZ n1
 obtain ⟨oe,vs,a1,a2,a3,a4,a5⟩:=(I.hok e _ he).1
 have J:InstAt s.heap e oe C (some od):=⟨a1,a2,by unfold notCls;rw [a4],by rw [a3];exact god⟩
 obtain ⟨bm,Nn,mN,xx⟩:=jN I.jB c.at_
 obtain ⟨cd,hc,hh⟩:=any_some c.hd
 refine A0 I.jB J xx c.sa n c.ob hc hh a3 a4 n1 (Az r) (by rw [List.length_map,sizeLine_eq];omega) λh2 tk m2 sb=>h _ ?_
 have ned:e ≠ dx:=λz=>by rw [z,hx] at he;cases he
 refine I.un ⟨λb o q a _ _=>(sb.2 b λz=>?_).trans q,λb o q a _ _=>⟨o.slots,(sb.2 b λz=>?_).trans q⟩,λb o q a _=>?_,λb o q _=>?_,λb xs q=>?_,λb o v q=>?_,λb ps q=>?_⟩ λb o q=>?_
 ·rw [z,hx] at a;cases a
 ·rw [z,hx] at a;cases a
 ·rw [ai (λz=>by rw [z,hx] at a;cases a)];exact a
 ·by_cases z:b = dx
  ·obtain ⟨o2,_,_,g2,_⟩:=m2;exact ⟨o2,z ▸ g2⟩
  ·exact ⟨o,(sb.2 b z).trans q⟩
 ·rw [ai (λz=>by rw [z,hx] at q;cases q)];exact q
 ·rw [ai (λz=>by rw [z,hx] at q;cases q)];exact q
 ·exact ⟨#[],by rw [ai (λz=>by rw [z,hx] at q;cases q),q];simp⟩
 ·by_cases z:b = dx
  ·subst z
   rw [af] at q
   cases q
   refine ⟨_,m2,λg=>?_⟩
   rw [List.lookup_cons]
   by_cases w:g = f
   ·subst w;simp only [beq_self_eq_true,if_true];exact ry
   ·rw [if_neg w,show (g == f) = false from beq_eq_false_iff_ne.mpr w];exact r g
  ·rw [ai z] at q
   refine (I.hok b o q).stay (λcc v hcc rr=>(sb.2 cc λy=>?_).trans rr) (λcc rr=>?_) λcc xs rr=>?_
   ·rcases hcc with p | p
    ·exact z (p.symm.trans y)
    ·rw [y,hx] at p;cases p
   ·rw [ai (λy=>by rw [y,hx] at rr;cases rr)];exact rr
   ·rw [ai (λy=>by rw [y,hx] at rr;cases rr)];exact rr
theorem CK {y:V} {u:Value} {Q:Unit -> Shared -> Prop} (I:Inv X pins Z H s) (he:H e = some (iR e C none)) (c:ExcC X.K C) (n:bI X.K C f) (ry:RelV y u)
  (h:∀ dx s',H dx = none -> Inv X pins Z (upd (upd H dx (.xd [(f,y)])) e (iR e C (some dx))) s' -> Q () s'):wpAny (model X.prog X.w) A (setAttr (.ref e) f u) Q E s:=by
 obtain ⟨oe,vs,a1,a2,a3,a4,a5⟩:=(I.hok e _ he).1
 have J:InstAt s.heap e oe C none:=⟨a1,a2,by unfold notCls;rw [a4],by rw [a3];trivial⟩
 obtain ⟨bm,Nn,mN,xx⟩:=jN I.jB c.at_
 obtain ⟨cd,hc,hh⟩:=any_some c.hd
 have fr:H s.heap.objs.size = none:=I.hok.fresh (Nat.le_refl _)
 refine yD I.jB J xx c.sa n c.ob hc hh a3 a4 λh2 tk ge m2 k=>h s.heap.objs.size _ fr ?_
 have ned:s.heap.objs.size ≠ e:=λz=>by rw [z,he] at fr;cases fr
 have old:∀ {b o},s.heap.get? b = some o -> b ≠ s.heap.objs.size:=λq=>Nat.ne_of_lt (Heap.lt_size q)
 have ne2:∀ {b o},H b = some o -> b ≠ s.heap.objs.size:=λq z=>by rw [z,fr] at q;cases q
 have nee:∀ {b},H b = none -> b ≠ e:=λq z=>by rw [z,he] at q;cases q
 refine I.un ⟨λb o q a _ _=>k b o (nee a) q,λb o q a _ _=>⟨o.slots,k b o (nee a) q⟩,λb o q a _=>?_,λb o q _=>?_,λb xs q=>?_,λb o v q=>?_,λb ps q=>?_⟩ λb o q=>?_
 ·rw [ai (nee a),ai (old q)];exact a
 ·by_cases z:b = e
  ·exact ⟨_,z ▸ ge⟩
  ·exact ⟨o,k b o z q⟩
 ·rw [ai (λz=>by rw [z,he] at q;cases q),ai (ne2 q)];exact q
 ·rw [ai (λz=>by rw [z,he] at q;cases q),ai (ne2 q)];exact q
 ·exact ⟨#[],by rw [ai (λz=>by rw [z,he] at q;cases q),ai (ne2 q),q];simp⟩
 ·by_cases z:b = e
  ·subst z
   rw [af] at q
   cases q
   exact tQ ⟨_,vs,ge,a2,rfl,a4,a5⟩
  ·rw [ai z] at q
   by_cases z2:b = s.heap.objs.size
   ·rw [z2,af] at q
    cases q
    rw [z2]
    refine ⟨_,m2,λg=>?_⟩
    rw [List.lookup_cons]
    by_cases w:g = f
    ·subst w;simp only [beq_self_eq_true,if_true];exact ry
    ·rw [if_neg w,show (g == f) = false from beq_eq_false_iff_ne.mpr w];trivial
   ·rw [ai z2] at q
    refine (I.hok b o q).stay (λcc v hcc rr=>k cc v (λy=>?_) rr) (λcc rr=>?_) λcc xs rr=>?_
    ·rcases hcc with p | p
     ·exact z (p.symm.trans y)
     ·rw [y,he] at p;cases p
    ·rw [ai (λy=>by rw [y,he] at rr;cases rr),ai (ne2 rr)];exact rr
    ·rw [ai (λy=>by rw [y,he] at rr;cases rr),ai (ne2 rr)];exact rr
end
end L2
namespace L2
open PySem PySem.Spec PyProof.Rows PySem.W
section
variable {X:Cx} {o value ex:Expr} {f:Str} {pos pos':Pos} {ta tv:TE}
def Kn (K:Frag) (ta tv:TE) (f:Str):TS:=λD Z H=>tv Z H λy H1=>ta Z H1 λx H2=>∃ e C,x = .ref e /\ ExcC K C /\ bI K C f /\
 ((H2 e = some (iR e C none) /\ ∀ dx,H2 dx = none -> D.nx Z (upd (upd H2 dx (.xd [(f,y)])) e (iR e C (some dx)))) ∨
  ∃ dx fs,H2 e = some (iR e C (some dx)) /\ H2 dx = some (.xd fs) /\ fs.length < 1000 /\ D.nx Z (upd H2 dx (.xd ((f,y) :: fs))))
theorem zh (ha:PE X o ta) (hv:PE X value tv) (hs:swapsWith value (some (.Attribute o f pos')) pos.line X.env = pure false):PS X (.Assign [.Attribute o f pos'] value pos) (Kn X.K ta tv f):=by
 intro pins s Z H D I h
 refine plainObj_wpAny_Assign_Attribute (cZ (hv pins s Z H _ I h) λu s1 ⟨y,H1,I1,ry,q⟩=>cZ (ha pins s1 Z H1 _ I1 q) λov s2 ⟨x,H2,I2,rx,e,C,z1,c,n,q2⟩=>?_) hs
 subst z1
 obtain rfl:ov = Value.ref e:=rx
 rcases q2 with ⟨he,q3⟩ | ⟨dx,fs,he,hd,l,q3⟩
 ·exact CK I2 he c n ry λdx s3 fr I3=>⟨Z,_,I3,q3 dx fr⟩
 ·exact FF I2 he hd c n l ry λs3 I3=>⟨Z,_,I3,q3⟩
structure E1 (K:Frag) (C:Addr):Prop extends ExcC K C where
 ca:findIn K (.ref C) "__class__" = some (some (.builtin "object.__class__"))
 cg:specialIn K (.builtin "object.__class__") "__get__" = some (some (.builtin "getset_descriptor.__get__"))
 ct:takesIn K (.builtin "object.__class__") = some true
theorem E7 {pins:List (Addr × Obj)} {Z:St} {H:Hp} {s:Shared} {e C:Addr} {d:Option Addr} {c:Value} {b:Bool} {A:Around} {E:Value -> Shared -> Prop} {Q:Value -> Shared -> Prop} (I:Inv X pins Z H s) (he:H e = some (jb e C d)) (hd:∀ dx,d = some dx -> ∃ fs,H dx = some (.xd fs))
  (k:E1 X.K C) (q:kitOne X.K (.ref C) c = some b) (h:∀ tk,Q (.bool b) { s with toks:=tk }):wpAny (model X.prog X.w) A (call (.builtin "isinstance") [.ref e,c]) Q E s:=by
 obtain ⟨oe,vs,a1,a2,a3,a4,_⟩:=(I.hok e _ he).1
 obtain ⟨cd,hc,_⟩:=any_some k.hd
 refine kia_one (C6 k.ge hc k.ob k.ca k.cg k.ct) I.jB ?_ q (λz=>nomatch z) h
 cases d with
 | none=>exact ⟨oe,none,a1,a2,by unfold notCls;rw [a4],by rw [a3];trivial⟩
 | some dx =>
  obtain ⟨fs,hx⟩:=hd dx rfl
  obtain ⟨mA,n1,_⟩:=Cf I.hok hx
  obtain ⟨od,god,_⟩:=lZ n1
  exact ⟨oe,some od,a1,a2,by unfold notCls;rw [a4],by rw [a3];exact god⟩
theorem A1:jo X (.builtin "isinstance") (λxs H Q=>∃ e C d a b,xs = [.ref e,.ref a] /\ H e = some (jb e C d) /\ (∀ dx,d = some dx -> ∃ fs,H dx = some (.xd fs)) /\ E1 X.K C /\ kitOne X.K (.ref C) (.ref a) = some b /\ Q (.bl b) H):=by
 intro pins s Z H xs us Q I r h
 obtain ⟨e,C,d,a,b,rfl,he,hd,k,kk,q⟩:=h
 obtain ⟨u,w',rfl,ru,rw'⟩:=vals2 r
 cases rw'
 cases ru
 exact E7 I he hd k kk λtk=>⟨.bl b,H,I.tok _,rfl,q⟩
end
end L2
namespace L2
open PySem PySem.Spec PyProof.Rows PySem.W
theorem Inv.Mc {X:Cx} {pins:List (Addr × Obj)} {Z:St} {H:Hp} {s:Shared} {e C:Addr} {d:Option Addr} (I:Inv X pins Z H s) (he:H e = some (iR e C d)):Inv X pins Z (upd H e (jb e C d)) s:=by
 have ne:∀ {b},H b = none -> b ≠ e:=λq z=>by rw [z,he] at q;cases q
 refine I.un (h':=s.heap) (t':=s.toks) ⟨λb o q _ _ _=>q,λb o q _ _ _=>⟨o.slots,q⟩,λb o q a _=>by rw [ai (ne a)];exact a,λb o q _=>⟨o,q⟩,λb xs q=>?_,λb o v q=>?_,λb ps q=>?_⟩ λb o q=>?_
 ·rw [ai (λz=>by rw [z,he] at q;cases q)];exact q
 ·rw [ai (λz=>by rw [z,he] at q;cases q)];exact q
 ·exact ⟨#[],by rw [ai (λz=>by rw [z,he] at q;cases q),q];simp⟩
 ·by_cases z:b = e
  ·subst z
   rw [af] at q
   cases q
   obtain ⟨oe,vs,a1,a2,a3,a4,a5⟩:=(I.hok b _ he).1
   exact ze a1 a2 a3 a4 (Array.getElem?_eq_some_iff.mp a5).1
  ·rw [ai z] at q
   refine (I.hok b o q).stay (λ_ _ _ r=>r) (λcc rr=>?_) λcc xs rr=>?_
   ·rw [ai (λy=>by rw [y,he] at rr;cases rr)];exact rr
   ·rw [ai (λy=>by rw [y,he] at rr;cases rr)];exact rr
section
variable {P:Program} {w:World} {K:PySem.W.Frag} {mg:Str -> Option Value} {base:Heap} {N:List Str} {qual:Str} {scope:Scope} {f:Addr} {cd:Value} {A:Around} {outer:List Env} {s:Shared} {H:Hp} {E:XK}
theorem Ae {x:Str} {np cpos pos:Pos} {e1:Expr} {es:List Expr} {ta:TA} {C fI:Addr} {k:Nat} {fd:FuncData} {ps:List Str} {sp:Sp} (c:ExcC K C) (hi:findIn K (.ref C) "__init__" = some (some (.ref fI))) (hfn:isFn K (.ref fI) = true) (hkp:keepIn K (.ref C) = true)
  (F:bu P w K mg base dZ k fI fd ps sp) (hb:Binds K fd ps []) (hr:fU (k + 1) (iB (qu P w) P w K mg base N qual scope f cd A outer s H E).A) (hg:Gl (iB (qu P w) P w K mg base N qual scope f cd A outer s H E) x) (hm:mg x = some (.ref C))
  (ha:PA (iB (qu P w) P w K mg base N qual scope f cd A outer s H E) (e1 :: es) ta) (hd:(x == ("__debug__" : Str)) = false:=by decide)
  (he:starEach (e1 :: es) (iB (qu P w) P w K mg base N qual scope f cd A outer s H E).env = (false,eval e1 (iB (qu P w) P w K mg base N qual scope f cd A outer s H E).env) :: starEach es (iB (qu P w) P w K mg base N qual scope f cd A outer s H E).env:=by rfl)
  (hpl:(backTo cpos (starEach es (iB (qu P w) P w K mg base N qual scope f cd A outer s H E).env)).any (·.1) = false:=by rfl) :
  PS (iB (qu P w) P w K mg base N qual scope f cd A outer s H E) (.Raise (some (.Call (.Name x np) (e1 :: es) [] cpos)) none pos) (λ_ Z H1=>ta Z H1 λvs H2=>vs.length <= sizeLine /\ ∀ e,H2 e = none -> sp (.ref e :: vs) (upd H2 e (iR e C none)) (λv H3=>v = .cL /\ ∃ d,H3 e = some (iR e C d) /\ E (.ref C) (some e) (upd H3 e (jb e C d))) E0):=by
 intro pins s1 Z H1 D I h
 rw [arm_exec_Raise]
 refine wpAny_bind (wpAny_standAt (Am (I.ok.hd rfl) (wpAny_bind (wpAny_mono (wpAny_Call_Name_kw (gZ I hg hm (PySem.W.callWith_K (h₀:=base) I.ok.mod.ug hkp (cZ (ha cpos pins s1 Z H1 _ I h) λus s3 ⟨vs,H3,I3,rv,sz,kk⟩=>⟨I3.jB,?_⟩) he hpl) hd)) (λv s4 h4=>wpAny_bind (wpAny_standAt (wpAny_pure h4))) λ_ _ z=>z))))
 obtain ⟨bm,Nn,mN,xx⟩:=jN I3.jB c.at_
 have lk:=beq_iff_eq.mp hfn
 have fo:∃ oI,s3.heap.get? fI = some oI /\ oI.cls = .type "function" := by
  obtain ⟨oI,l1,l2⟩:=Option.map_eq_some_iff.mp lk
  exact ⟨oI,I3.jB _ _ l1,l2⟩
 obtain ⟨oI,fo1,fo2⟩:=fo
 obtain ⟨hp,g,dr,t,os⟩:=s3
 refine Dj I3.jB xx hi fo1 fo2 (show us.length <= sizeLine by rw [← rv.length];exact sz) λh2 e md=>?_
 obtain ⟨t0,g1,_,_⟩:=md.there
 have new:=I3.hok.new md.new
 have I4:=I3.Li (h':=h2) (t':=t) (o:=iR e C none) md.keeps md.new (tQ ⟨_,_,g1,rfl,rfl,rfl,rfl⟩)
 have r2:Vals (V.ref e :: vs) (Value.ref e :: us):=.cons rfl rv
 have hsp:=kk e new
 have hl:(Value.ref e :: us).length = ps.length:=(F.len _ _ _ _ hsp ▸ r2.length).symm
 have bnd:=hb _ (Value.ref e :: us) I4.jB (by rw [List.append_nil];exact hl)
 rw [List.append_nil] at bnd
 refine wpAny_call (codeAny_mono (F.run _ (iB (qu P w) P w K mg base N qual scope f cd A outer s H E).stack _ _ ⟨Value.ref e :: us,[]⟩ (Value.ref e :: us) (V.ref e :: vs) _ E0 (hr.make C us []) (I4.Ff.make C us []) bnd r2 hsp) λy s' hq=>?_)
 match y,hq with
 | .ok (.ret u),hq =>
  obtain ⟨v,H5,I5,rv5,z1,d5,z2,z3⟩:=I4.after hq
  subst z1
  obtain ⟨bm5,N5,m5,x5⟩:=jN I5.jB c.at_
  refine ⟨rv5,e,C,bm5,N5,m5,?_⟩
  obtain ⟨oe,ws,a1,a2,a3,a4,a5⟩:=(I5.hok e _ z2).1
  refine ⟨oe,ws,rfl,x5,a1,a2,a4,a5,HM (I5.Mc z2) ⟨oe,ws,a1,a2,a3,a4,a5⟩ af ?_ z3⟩
  cases z:s.heap.get? e with
  | none=>rfl
  | some o =>
    obtain ⟨u2,z4⟩:=I3.base.there e o z (by show e ∉ [];simp)
    rw [md.new] at z4;cases z4
end
end L2
namespace L2
open PySem PySem.Spec PyProof.Rows PySem.W
section
variable {P:Program} {w:World} {K:Frag} {mg:Str -> Option Value} {base:Heap} {CX:qw} {k:Nat} {f:Addr} {fd:FuncData} {ps:List Str} {sp:Sp}
end
section
variable {X:Cx} {CX:qw} {k:Nat} {f:Addr} {fd:FuncData} {ps:List Str} {sp:Sp} {x:Str} {p pos:Pos} {e:Expr} {es:List Expr} {t:TA} {E:XK}
end
end L2
namespace L2
open PySem PySem.Spec PyProof.Rows PySem.W
section
variable {X:Cx} {pins:List (Addr × Obj)} {Z:St} {H:Hp} {s:Shared} {e C:Addr} {d:Option Addr} {A:Around} {E:Value -> Shared -> Prop}
theorem Inv.Mx {h2:Heap} {t':Nat} (I:Inv X pins Z H s) (he:H e = some (iR e C d)) (k:∀ b o,b ≠ e -> s.heap.get? b = some o -> h2.get? b = some o) (u:jV h2 e C d):Inv X pins Z H { s with heap:=h2,toks:=t' }:=by
 have nee:∀ {b},H b = none -> b ≠ e:=λq z=>by rw [z,he] at q;cases q
 refine I.un ⟨λb o q a _ _=>k b o (nee a) q,λb o q a _ _=>⟨o.slots,k b o (nee a) q⟩,λ_ _ _ a _=>a,λb o q _=>?_,λ_ _ q=>q,λ_ _ _ q=>q,λb ps q=>⟨#[],by rw [q];simp⟩⟩ λb o q=>?_
 ·by_cases z:b = e
  ·obtain ⟨oe,vs,g1,_⟩:=u;exact ⟨oe,z ▸ g1⟩
  ·exact ⟨o,k b o z q⟩
 ·by_cases z:b = e
  ·subst z
   rw [he] at q
   cases q
   exact tQ u
  ·refine (I.hok b o q).stay (λcc v hcc rr=>k cc v (λy=>?_) rr) (λ_ rr=>rr) λ_ _ rr=>rr
   rcases hcc with p | p
   ·exact z (p.symm.trans y)
   ·rw [y,he] at p;cases p
theorem CA {rest:List Value} {Q:Value -> Shared -> Prop} (I:Inv X pins Z H s) (he:H e = some (iR e C d)) (c:ExcC X.K C) (hz:rest.length <= sizeLine) (h:∀ s',Inv X pins Z H s' -> Q .none s'):wpAny (model X.prog X.w) A (call (.builtin "ValueError.__init__") (.ref e :: rest)) Q E s:=by
 obtain ⟨bm,Nn,mN,xx⟩:=jN I.jB c.at_
 obtain ⟨a1,a2,a3,a4,a5,a6,a7,a8,a9,b0,b1,b2,b3,b4,eC⟩:=xx.ob
 obtain ⟨oe,vs,g1,g2,g3,g4,g5⟩:=(I.hok e _ he).1
 have B:=PySem.F.excBase_ValueError
 have sz:1 < vs.size:=(Array.getElem?_eq_some_iff.mp g5).1
 have I0:=I
 obtain ⟨hp,g,dr,t,os⟩:=s
 refine wpAny_call (codeAny_call_builtin B.init.plain B.initEntry (wpAny_check_init_subU B xx.tail eC g1 g2 ?_))
 unfold Builtin.«BaseException.__init__»
 refine wpAny_bind (wpAny_newTuple (s:=⟨hp,g,dr,t,os⟩) ?_ hz)
 have ge:(hp.push { cls:=.type "tuple",data:=.seq rest.toArray }).get? e = some oe:=Heap.get?_push_of_some _ g1
 have v0:vs[0]? = some vs[0]:=Array.getElem?_eq_getElem (by omega)
 refine wpAny_bind (wpAny_bind (wpAny_field ge g4 v0 (wpAny_bind (wpAny_setField ge g4 (show 0 < vs.size by omega) ?_))))
 have fin:Inv X pins Z H ⟨(hp.push { cls:=.type "tuple",data:=.seq rest.toArray }).update e (Obj.mapFields (·.setIfInBounds 0 (.ref hp.objs.size))),g,dr,t,os⟩:=by
  refine I0.Mx (t':=t) he (λb o nb q=>(Heap.get?_update_ne _ _ _ _ nb).trans (Heap.get?_push_of_some _ q)) ?_
  obtain ⟨oc,od,oda,osl⟩:=oe
  dsimp only at g2 g3 g4
  subst g2 g3 g4
  exact ⟨_,_,Heap.get?_update_self _ ge rfl,rfl,rfl,rfl,by rw [Array.getElem?_setIfInBounds_ne (by decide)];exact g5⟩
 split
 ·exact wpAny_letGo (wpAny_pure (h _ fin))
 ·exact wpAny_pure (wpAny_pure (h _ fin))
end
section
variable {X:Cx} {T:Str} {tp apos pos:Pos} {e1:Expr} {es:List Expr} {t:TA} {D:Addr}
theorem DE {pl:Sem Bool} (hg:Gl X T) (hm:X.mg T = some (.ref D)) (hga:specialIn X.K (.ref D) "__getattribute__" = some (some (.builtin "type.__getattribute__"))) (hr:readsIn X.K D (.type "type") = true) (hf:findCls X.K (.ref D) (.type "type") "__init__" = some (.val (.builtin "ValueError.__init__")))
  (ha:PA X (e1 :: es) t) (hdb:(T == ("__debug__" : Str)) = false:=by decide) (hst:starEach (e1 :: es) X.env = (false,eval e1 X.env) :: starEach es X.env:=by rfl) (hpl:(backTo pos (starEach es X.env)).any (·.1) = false:=by rfl)
  (ht:eval (.Call (.Attribute (.Name T tp) "__init__" apos) (e1 :: es) [] pos) X.env = (do
   let ov ← eval (.Name T tp) X.env
   standAt apos.atName
   let (f,first) ← holding [ov] (getMethod ov "__init__" pl)
   callWith pos f first (backTo pos (starEach (e1 :: es) X.env)) (backToKw pos (keywordEach [] X.env))):=by rfl) :
  PE X (.Call (.Attribute (.Name T tp) "__init__" apos) (e1 :: es) [] pos) (λZ H Q=>t Z H λvs H1=>∃ e C d rest,vs = .ref e :: rest /\ H1 e = some (iR e C d) /\ ExcC X.K C /\ rest.length <= sizeLine /\ Q .cL H1):=by
 intro pins s Z H Q I h
 refine methodCall_KW (pl:=pl) (gZ I hg hm ?_ hdb) ht
 refine method_cls I.jB hga (cls_value I.jB hr hf (by decide +kernel) ?_)
 refine callWith_builtin1 (cZ (ha pos pins _ Z H _ (I.tok _) h) λus s1 ⟨vs,H1,I1,r,e,C,d,rest,z1,z2,c,z3,q⟩=>?_) hst hpl
 subst z1
 cases r with
 | cons r1 r2 =>
  cases r1
  exact CA I1 z2 c (by rw [← r2.length];exact z3) λs2 I2=>⟨.cL,H1,I2,rfl,q⟩
end
end L2
namespace L2
open PySem PySem.Spec PyProof.Rows PySem.W
theorem Bf {X:Cx} {C C2:Addr} (ug:X.K.In X.base) (q:sZ X.K C = true) (m:mroIn X.K C (.ref C2) = some true):F1 X C C2:=by
 unfold sZ at q
 split at q
 next dd cd sl look =>
  split at q
  next D r c0 c1 c2 c3 mm c5 em es =>
   simp only [Bool.and_eq_true,beq_iff_eq,Bool.not_eq_true'] at q
   obtain ⟨⟨e1,e2⟩,del,tl,nsok⟩:=q
   subst e1 e2
   have esl:sl = #[c0,c1,c2,c3,some (.builtin "ValueError.__new__"),c5]:=Array.toList_inj.mp es
   have con:cd.mro.contains (.ref C2) = true:=by
    unfold mroIn clsIn at m
    rw [look] at m
    simp only [Option.bind_some] at m
    split at m
    ·cases m
    ·exact Option.some.inj m
   obtain ⟨f1,f2,f3,f4,f5,f6,f7,f8,f9,f10,f11⟩:=cd
   have em:f3 = .ref D :: r:=em
   have del:f11 = false:=del
   subst em del esl
   exact ⟨r,f4,_,⟨⟨_,_,_,_,_,_,_,_,_,_,_,_,_,_,ug _ _ look⟩,.of_isNs (isNs_of_in ug nsok),tail_of_in ug tl⟩,con⟩
  next=>cases q
 next=>cases q
end L2
namespace L2
open PySem PySem.Spec PyProof.Rows
section
variable {X:Cx} {pins:List (Addr × Obj)} {Z:St} {H:Hp} {s:Shared}
end
theorem EI {X:Cx} {x n:Str} {np hpos pos:Pos} {b0:Stmt} {body suite:List Stmt} {i:Nat} {C2:Addr} (hst:X.stack = X.env :: X.outer) (hfr:X.env.frame = some X.env.locals) (hN:X.N.Nodup) (hi:X.N[i]? = some n) (hloc:X.env.scope.names.lookup n = some .local)
  (hg:Gl X x) (hm:X.mg x = some (.ref C2)) (hdb:(x == ("__debug__" : Str)) = false) (h2:sZ X.K C2 = true) :
  PS X (.Try body [.ExceptHandler (some (.Name x np)) (some n) (b0 :: suite) hpos] [] [] pos) (λD Z H=>∃ Th,(∀ pins,At (X.kN pins Th) D body Z H) /\
   ∀ Z' C e H',Th Z' C e H' -> sZ X.K C = true /\ PySem.W.mroIn X.K C (.ref C2) = some true /\ At (X.held e) (D.less i) (b0 :: suite) (Z'.set i (some (.ref e))) H'):=λpins s Z H D I ⟨Th,hb,hh⟩ =>
 (Ii hst hfr hN hi hloc hg hm hdb (jN I.ok.mod.ug h2)) pins s Z H D I ⟨Th,hb,λZ' C e H' th=>let ⟨a,b,c⟩:=hh Z' C e H' th;⟨Bf I.ok.mod.ug a b,c⟩⟩
end L2
namespace L2
open PySem PySem.Spec PyProof.Rows
section
variable {X:Cx} {e v1 v2:Expr} {es:List Expr} {te:TE} {pos:Pos}
variable {t:TF}
end
end L2
namespace L2
open PySem PySem.Spec PyProof.Rows PySem.W
section
variable {X:Cx}
end
end L2
namespace L2
open PySem PySem.Spec PyProof.Rows
section
variable {X:Cx} {pins:List (Addr × Obj)} {Z:St} {H:Hp} {s:Shared}
def qt (xs ys:List V):Prop:=∀ x ∈ xs,∀ y ∈ ys,gv x = true /\ gv y = true /\ A8 x y = decide (x = y)
theorem mR {xs ys:List V} {is js:List Value} {A:Around} (p:qt xs ys) (r1:Vals xs is) (r2:Vals ys js) :
  ∀ j (h1:j < is.toArray.size) (h2:j < js.toArray.size),SeqAt.EqAt A s is.toArray[j] js.toArray[j] ((λj=>decide (xs[j]? = ys[j]?)) j):=by
 intro j h1 h2
 have l1:=r1.length
 have l2:=r2.length
 have j1:j < xs.length:=by simpa [l1] using h1
 have j2:j < ys.length:=by simpa [l2] using h2
 have e1:=List.getElem?_eq_getElem j1
 have e2:=List.getElem?_eq_getElem j2
 obtain ⟨u1,g1,q1⟩:=r1.get e1
 obtain ⟨u2,g2,q2⟩:=r2.get e2
 have g1':is.toArray[j] = u1:=by simpa [List.getElem?_eq_some_iff] using (List.getElem?_eq_some_iff.mp g1).2
 have g2':js.toArray[j] = u2:=by simpa [List.getElem?_eq_some_iff] using (List.getElem?_eq_some_iff.mp g2).2
 rw [g1',g2']
 obtain ⟨f1,f2,f3⟩:=p _ (List.getElem_mem j1) _ (List.getElem_mem j2)
 have:=xM (A:=A) (s:=s) q1 q2 f1 f2
 rw [f3] at this
 have e:decide (xs[j]? = ys[j]?) = decide (xs[j] = ys[j]):=by rw [e1,e2];simp
 show SeqAt.EqAt A s u1 u2 (decide (xs[j]? = ys[j]?))
 rw [e]
 exact this
theorem vt {xs ys:List V} (h:xs.length = ys.length):((List.range xs.length).all λj=>decide (xs[j]? = ys[j]?)) = decide (xs = ys):=by
 rw [Bool.eq_iff_iff,List.all_eq_true,decide_eq_true_eq]
 constructor
 ·intro z
  refine List.ext_getElem? λj=>?_
  by_cases hj:j < xs.length
  ·simpa using z j (List.mem_range.mpr hj)
  ·rw [List.getElem?_eq_none (by omega),List.getElem?_eq_none (by omega)]
 ·intro z j _
  rw [z];simp
def Lp (K:PySem.W.Frag):R2:=λx y H Q=>∃ a b xs ys,x = .ref a /\ y = .ref b /\ aP K H a xs /\ aP K H b ys /\ qt xs ys /\ Q (.bl (decide (xs = ys))) H
def Ko (K:PySem.W.Frag):R2:=λx y H Q=>∃ a b xs ys,x = .ref a /\ y = .ref b /\ aP K H a xs /\ aP K H b ys /\ qt xs ys /\ Q (.bl (!decide (xs = ys))) H
theorem gW (hu:X.A.units < cLine):kX X (compareOp .Eq) (Lp X.K):=by
 intro pins s Z H x y v u Q I rx ry h
 obtain ⟨a,b,xs,ys,rfl,rfl,ha,hb,hp,q⟩:=h
 cases rx
 cases ry
 obtain ⟨is,r1,p1,_⟩:=I.list ha
 obtain ⟨js,r2,p2,_⟩:=I.list hb
 obtain ⟨o1,n1,e1,c1,_,d1⟩:=p1
 obtain ⟨o2,n2,e2,c2,_,d2⟩:=p2
 have l1:=r1.length
 have l2:=r2.length
 by_cases hl:xs.length = ys.length
 ·refine PySem.SeqAt.eq_listAt (e:=λj=>decide (xs[j]? = ys[j]?)) ⟨o1,e1,c1,n1,d1⟩ ⟨o2,e2,c2,n2,d2⟩ (by simp [← l1,← l2,hl]) hu (mR hp r1 r2) ?_
  have z:is.toArray.size = xs.length:=by simp [← l1]
  rw [z,vt hl]
  exact ⟨.bl _,H,I,rfl,q⟩
 ·refine PySem.SeqAt.eq_list_lengthsAt ⟨o1,e1,c1,n1,d1⟩ ⟨o2,e2,c2,n2,d2⟩ (by simpa [← l1,← l2] using hl) hu ?_
  rw [decide_eq_false (λz=>hl (by rw [z]))] at q
  exact ⟨.bl false,H,I,rfl,q⟩
theorem lq (hu:X.A.units < cLine):kX X (compareOp .NotEq) (Ko X.K):=by
 intro pins s Z H x y v u Q I rx ry h
 obtain ⟨a,b,xs,ys,rfl,rfl,ha,hb,hp,q⟩:=h
 cases rx
 cases ry
 obtain ⟨is,r1,p1,_⟩:=I.list ha
 obtain ⟨js,r2,p2,_⟩:=I.list hb
 obtain ⟨o1,n1,e1,c1,_,d1⟩:=p1
 obtain ⟨o2,n2,e2,c2,_,d2⟩:=p2
 have l1:=r1.length
 have l2:=r2.length
 by_cases hl:xs.length = ys.length
 ·refine PySem.SeqAt.RcNeAt.lists (e:=λj=>decide (xs[j]? = ys[j]?)) ⟨o1,e1,c1,n1,d1⟩ ⟨o2,e2,c2,n2,d2⟩ (by simp [← l1,← l2,hl]) hu (mR hp r1 r2) _ _ _ _ ?_
  have z:is.toArray.size = xs.length:=by simp [← l1]
  rw [z,vt hl]
  exact ⟨.bl _,H,I,rfl,q⟩
 ·refine PySem.SeqAt.RcNeAt.lists_lengths ⟨o1,e1,c1,n1,d1⟩ ⟨o2,e2,c2,n2,d2⟩ (by simpa [← l1,← l2] using hl) hu _ _ _ _ ?_
  rw [decide_eq_false (λz=>hl (by rw [z]))] at q
  exact ⟨.bl true,H,I,rfl,q⟩
theorem ye {α β:Type} (f:α -> Int) (g:β -> Int) (xs:List α) (ys:List β):qt (xs.map λx=>V.int (f x)) (ys.map λy=>V.int (g y)):=by
 intro x hx y hy
 obtain ⟨a,_,rfl⟩:=List.mem_map.mp hx
 obtain ⟨b,_,rfl⟩:=List.mem_map.mp hy
 refine ⟨rfl,rfl,?_⟩
 show (f a == g b) = _
 rw [Bool.eq_iff_iff]
 simp
theorem nS (xs ys:List Str):qt (xs.map V.str) (ys.map V.str):=by
 intro x hx y hy
 obtain ⟨a,_,rfl⟩:=List.mem_map.mp hx
 obtain ⟨b,_,rfl⟩:=List.mem_map.mp hy
 refine ⟨rfl,rfl,?_⟩
 show (a == b) = _
 rw [Bool.eq_iff_iff]
 simp
end
end L2
namespace L2
open PySem PySem.Spec PyProof.Rows
section
variable {X:Cx} {pins:List (Addr × Obj)} {Z:St} {H:Hp} {s:Shared}
end
end L2
namespace L2
open PySem PySem.Spec PyProof.Rows
def jl (K:PySem.W.Frag) (H:Hp):Nat -> V -> V -> Prop
 | 0,x,y=>x = y /\ (gv x = true ∨ ∃ a,x = .ref a)
 | n + 1,x,y=>(x = y /\ (gv x = true ∨ ∃ a,x = .ref a)) ∨ ∃ a b xs ys,x = .ref a /\ y = .ref b /\ ((aP K H a xs /\ aP K H b ys) ∨ (fL K H a xs /\ fL K H b ys)) /\ xs.length = ys.length /\ ∀ (j:Nat) (x y:V),xs[j]? = some x -> ys[j]? = some y -> jl K H n x y
section
variable {X:Cx} {pins:List (Addr × Obj)} {Z:St} {H:Hp} {s:Shared}
theorem eU {n:Nat} {xs ys:List V} {is js:List Value} {A:Around} (ih:∀ (x y:V) (u v:Value),RelV x u -> RelV y v -> jl X.K H n x y -> SeqAt.EqAt A s u v true) (r1:Vals xs is) (r2:Vals ys js) (h:∀ (j:Nat) (x y:V),xs[j]? = some x -> ys[j]? = some y -> jl X.K H n x y) :
  ∀ j (h1:j < is.toArray.size) (h2:j < js.toArray.size),SeqAt.EqAt A s is.toArray[j] js.toArray[j] ((λ_=>true) j):=by
 intro j h1 h2
 have l1:=r1.length
 have l2:=r2.length
 have j1:j < xs.length:=by simpa [l1] using h1
 have j2:j < ys.length:=by simpa [l2] using h2
 obtain ⟨u1,g1,q1⟩:=r1.get (List.getElem?_eq_getElem j1)
 obtain ⟨u2,g2,q2⟩:=r2.get (List.getElem?_eq_getElem j2)
 have g1':is.toArray[j] = u1:=by simpa [List.getElem?_eq_some_iff] using (List.getElem?_eq_some_iff.mp g1).2
 have g2':js.toArray[j] = u2:=by simpa [List.getElem?_eq_some_iff] using (List.getElem?_eq_some_iff.mp g2).2
 rw [g1',g2']
 exact ih _ _ _ _ q1 q2 (h j _ _ (List.getElem?_eq_getElem j1) (List.getElem?_eq_getElem j2))
theorem zM {A:Around} {x:V} {u v:Value} (rx:RelV x u) (ry:RelV x v) (h:gv x = true ∨ ∃ a,x = .ref a):SeqAt.EqAt A s u v true:=by
 rcases h with f | ⟨a,rfl⟩
 ·have:=xM (A:=A) (s:=s) rx ry f f
  rwa [DL f] at this
 ·cases rx
  cases ry
  exact SeqAt.EqAt.same _
theorem mE (I:Inv X pins Z H s):∀ (n:Nat) (A:Around) (x y:V) (u v:Value),A.units + n < cLine -> RelV x u -> RelV y v -> jl X.K H n x y -> SeqAt.EqAt A s u v true
 | 0,A,x,y,u,v,_,rx,ry,⟨e,f⟩=>by
  subst e
  exact zM rx ry f
 | n + 1,A,x,y,u,v,hu,rx,ry,h=>by
  rcases h with ⟨e,f⟩ | ⟨a,b,xs,ys,rfl,rfl,hs,hl,hj⟩
  ·subst e
   exact zM rx ry f
  ·cases rx
   cases ry
   by_cases ne:a = b
   ·subst ne;exact SeqAt.EqAt.same _
   have ih:=λx y u v=>mE I n A.in1 x y u v (by show A.units + 1 + n < cLine;omega)
   rcases hs with ⟨h1,h2⟩ | ⟨h1,h2⟩
   ·obtain ⟨is,r1,p1,_⟩:=I.list h1
    obtain ⟨js,r2,p2,_⟩:=I.list h2
    obtain ⟨o1,n1,e1,c1,_,d1⟩:=p1
    obtain ⟨o2,n2,e2,c2,_,d2⟩:=p2
    have sz:is.toArray.size = js.toArray.size:=by simp [← r1.length,← r2.length,hl]
    have:=SeqAt.EqAt.of_refs ne (SeqAt.RcAt.lists ⟨o1,e1,c1,n1,d1⟩ ⟨o2,e2,c2,n2,d2⟩ sz (by omega) (eU ih r1 r2 hj))
    have z:((List.range is.toArray.size).all λ_=>true) = true:=List.all_eq_true.mpr λ_ _=>rfl
    rwa [z] at this
   ·obtain ⟨is,r1,p1,_⟩:=I.tuple h1
    obtain ⟨js,r2,p2,_⟩:=I.tuple h2
    obtain ⟨o1,e1,c1,n1,d1⟩:=p1
    obtain ⟨o2,e2,c2,n2,d2⟩:=p2
    have:=SeqAt.EqAt.of_refs ne (SeqAt.RcAt.tuples ⟨o1,e1,c1,n1,d1⟩ ⟨o2,e2,c2,n2,d2⟩ (by omega) (eU ih r1 r2 hj))
    have z:(((List.range (min is.toArray.size js.toArray.size)).all λ_=>true) && is.toArray.size == js.toArray.size) = true:=by simp [← r1.length,← r2.length,hl]
    rwa [z] at this
def Mj (K:PySem.W.Frag) (n:Nat):R2:=λx y H Q=>∃ a b xs ys,x = .ref a /\ y = .ref b /\ ((aP K H a xs /\ aP K H b ys) ∨ (fL K H a xs /\ fL K H b ys)) /\ xs.length = ys.length /\ (∀ (j:Nat) (x y:V),xs[j]? = some x -> ys[j]? = some y -> jl K H n x y) /\ Q (.bl false) H
theorem xJ (n:Nat) (hu:X.A.units + (n + 1) < cLine):kX X (compareOp .NotEq) (Mj X.K n):=by
 intro pins s Z H x y v u Q I rx ry h
 obtain ⟨a,b,xs,ys,rfl,rfl,hs,hl,hj,q⟩:=h
 cases rx
 cases ry
 have ih:=λx y u v=>mE I n X.A.in1 x y u v (by show X.A.units + 1 + n < cLine;omega)
 rcases hs with ⟨ha,hb⟩ | ⟨ha,hb⟩
 ·obtain ⟨is,r1,p1,_⟩:=I.list ha
  obtain ⟨js,r2,p2,_⟩:=I.list hb
  obtain ⟨o1,n1,e1,c1,_,d1⟩:=p1
  obtain ⟨o2,n2,e2,c2,_,d2⟩:=p2
  refine PySem.SeqAt.RcNeAt.lists (e:=λ_=>true) ⟨o1,e1,c1,n1,d1⟩ ⟨o2,e2,c2,n2,d2⟩ (by simp [← r1.length,← r2.length,hl]) (by omega) (eU ih r1 r2 hj) _ _ _ _ ?_
  have z:((List.range is.toArray.size).all λ_=>true) = true:=List.all_eq_true.mpr λ_ _=>rfl
  rw [z]
  exact ⟨.bl false,H,I,rfl,q⟩
 ·obtain ⟨is,r1,p1,_⟩:=I.tuple ha
  obtain ⟨js,r2,p2,_⟩:=I.tuple hb
  obtain ⟨o1,e1,c1,n1,d1⟩:=p1
  obtain ⟨o2,e2,c2,n2,d2⟩:=p2
  refine PySem.SeqAt.RcNeAt.tuples (e:=λ_=>true) ⟨o1,e1,c1,n1,d1⟩ ⟨o2,e2,c2,n2,d2⟩ (by omega) (eU ih r1 r2 hj) _ _ _ _ ?_
  have z:(((List.range (min is.toArray.size js.toArray.size)).all λ_=>true) && is.toArray.size == js.toArray.size) = true:=by simp [← r1.length,← r2.length,hl]
  rw [z]
  exact ⟨.bl false,H,I,rfl,q⟩
end
end L2
namespace L2
open PySem PySem.Spec PyProof.Rows
section
variable {X:Cx}
def MK (K:PySem.W.Frag) (n:Nat):R2:=λx y H Q=>∃ a b xs ys,x = .ref a /\ y = .ref b /\ ((aP K H a xs /\ aP K H b ys) ∨ (fL K H a xs /\ fL K H b ys)) /\ xs.length = ys.length /\ (∀ (j:Nat) (x y:V),xs[j]? = some x -> ys[j]? = some y -> jl K H n x y) /\ Q (.bl true) H
theorem JV (n:Nat) (hu:X.A.units + (n + 1) < cLine):kX X (compareOp .Eq) (MK X.K n):=by
 intro pins s Z H x y v u Q I rx ry h
 obtain ⟨a,b,xs,ys,rfl,rfl,hs,hl,hj,q⟩:=h
 cases rx
 cases ry
 have ih:=λx y u v=>mE I n X.A.in1 x y u v (by show X.A.units + 1 + n < cLine;omega)
 rcases hs with ⟨ha,hb⟩ | ⟨ha,hb⟩
 ·obtain ⟨is,r1,p1,_⟩:=I.list ha
  obtain ⟨js,r2,p2,_⟩:=I.list hb
  obtain ⟨o1,n1,e1,c1,_,d1⟩:=p1
  obtain ⟨o2,n2,e2,c2,_,d2⟩:=p2
  refine PySem.SeqAt.RcAt.lists (e:=λ_=>true) ⟨o1,e1,c1,n1,d1⟩ ⟨o2,e2,c2,n2,d2⟩ (by simp [← r1.length,← r2.length,hl]) (by omega) (eU ih r1 r2 hj) _ _ _ _ ?_
  have z:((List.range is.toArray.size).all λ_=>true) = true:=List.all_eq_true.mpr λ_ _=>rfl
  rw [z]
  exact ⟨.bl true,H,I,rfl,q⟩
 ·obtain ⟨is,r1,p1,_⟩:=I.tuple ha
  obtain ⟨js,r2,p2,_⟩:=I.tuple hb
  obtain ⟨o1,e1,c1,n1,d1⟩:=p1
  obtain ⟨o2,e2,c2,n2,d2⟩:=p2
  refine PySem.SeqAt.RcAt.tuples (e:=λ_=>true) ⟨o1,e1,c1,n1,d1⟩ ⟨o2,e2,c2,n2,d2⟩ (by omega) (eU ih r1 r2 hj) _ _ _ _ ?_
  have z:(((List.range (min is.toArray.size js.toArray.size)).all λ_=>true) && is.toArray.size == js.toArray.size) = true:=by simp [← r1.length,← r2.length,hl]
  rw [z]
  exact ⟨.bl true,H,I,rfl,q⟩
end
end L2
namespace L2
open PySem PySem.Spec PyProof.Rows
variable {X:Cx}
end L2
namespace L2
open PySem PySem.Spec PyProof.Rows
section
variable {prog:Program} {w:World} {A:Around} {E:Value -> Shared -> Prop} {s:Shared}
set_option maxRecDepth 100000 in
end
section
variable {X:Cx}
end
end L2
namespace HT
open PySem PyProof.Rows
section
open PySem.SeqAt
open PySem.AutoSeq1 (wpAny_loadPart')
open PySem.MeetsSeq PySem.MeetsSeq2 PySem.MeetsSeq3
end
section
variable {prog:Program} {w:World} {A:Around} {E:Value -> Shared -> Prop} {s:Shared}
end
end HT
namespace L2
open PySem PySem.Spec PyProof.Rows
variable {X:Cx}
end L2
namespace L2
open PySem PySem.Spec PyProof.Rows
section
variable {X:Cx} {CX:qw} {k:Nat} {f C:Addr} {fd:FuncData} {ps:List Str} {sp:Sp} {dvs:List V} {ds:List Value} {x m:Str} {p pos apos:Pos} {e o:Expr} {es:List Expr} {ta:TE} {t:TA}
def Gx (CX:qw) (X:Cx) (C:Addr) (sp:Sp) (dvs:List V) (t:TA):TE:=λZ H Q=>t Z H λvs H1=>∃ E,qe CX X Z E /\ ∀ x dx,H1 x = none -> H1 dx = none -> dx ≠ x -> sp (.ref x :: (vs ++ dvs)) (upd (upd H1 dx (.own x)) x (.ins C dx [])) (λv H2=>v = .cL /\ Q (.ref x) H2) E
theorem Au {pins:List (Addr × Obj)} {Z:St} {H:Hp} {s:Shared} {Q:VK} {us:List Value} {vs:List V} (M:Mk X.K C f) (F:bu X.prog X.w X.K X.mg X.base CX k f fd ps sp) (hr:fU (k + 1) X.A) (hb:Binds X.K fd ps ds) (hd:Vals dvs ds)
  (I:Inv X pins Z H s) (r:Vals vs us)
  (h:∃ E,qe CX X Z E /\ ∀ x dx,H x = none -> H dx = none -> dx ≠ x -> sp (.ref x :: (vs ++ dvs)) (upd (upd H dx (.own x)) x (.ins C dx [])) (λv H2=>v = .cL /\ Q (.ref x) H2) E) :
  wpAny (model X.prog X.w) X.A (call (.ref C) us) (EP X pins Z Q) X.xe s:=by
 obtain ⟨E,hx,h⟩:=h
 have hq:=h (s.heap.objs.size + 1) s.heap.objs.size (I.hok.fresh (Nat.le_succ _)) (I.hok.fresh (Nat.le_refl _)) (Nat.ne_of_lt (Nat.lt_succ_self _))
 have I2:=Inv.made (C:=C) I
 have r2:Vals (V.ref (s.heap.objs.size + 1) :: (vs ++ dvs)) (Value.ref (s.heap.objs.size + 1) :: (us ++ ds)):=.cons rfl (r.append hd)
 have hl:(Value.ref (s.heap.objs.size + 1) :: us ++ ds).length = ps.length:=by
  have e:=r2.length
  rw [F.len _ _ _ _ hq] at e
  exact e.symm
 refine wpAny_call (uT (f:=f) I.jB M.makes M.init (beq_iff_eq.mp M.fn) (codeAny_mono (F.run _ X.stack _ _ ⟨Value.ref (s.heap.objs.size + 1) :: us,[]⟩ (Value.ref (s.heap.objs.size + 1) :: (us ++ ds)) _ _ E (hr.make C us [])
  (I2.Ff.make C us []) (hb _ (Value.ref (s.heap.objs.size + 1) :: us) I2.jB hl) r2 hq) λr s' hq'=>?_))
 cases r with
 | error e=>exact hx pins _ _ e s' I2 hq'
 | ok fl =>
  cases fl with
  | ret u =>
   obtain ⟨v,H',I3,rv,ev,q3⟩:=I2.after hq'
   subst ev
   exact ⟨rv,⟨V.ref (s.heap.objs.size + 1),H',I3,rfl,q3⟩⟩
  | next=>exact False.elim hq'
  | brk=>exact False.elim hq'
  | cont=>exact False.elim hq'
theorem Ca (M:Mk X.K C f) (F:bu X.prog X.w X.K X.mg X.base CX k f fd ps sp) (hr:fU (k + 1) X.A) (hg:Gl X x) (hm:X.mg x = some (.ref C)) (hb:Binds X.K fd ps ds) (hd:Vals dvs ds)
  (ha:PA X (e :: es) t) (hdb:(x == ("__debug__" : Str)) = false:=by decide) (he:starEach (e :: es) X.env = (false,eval e X.env) :: starEach es X.env:=by rfl) (hpl:(backTo pos (starEach es X.env)).any (·.1) = false:=by rfl) :
  PE X (.Call (.Name x p) (e :: es) [] pos) (Gx CX X C sp dvs t):=by
 intro pins s Z H Q I h
 refine wpAny_Call_Name_kw (gZ I hg hm ?_ hdb)
 refine PySem.W.callWith_K (h₀:=X.base) I.ok.mod.ug M.kp (cZ (ha pos pins s Z H _ I h) λus s1 ⟨vs,H1,I1,r,q⟩=>⟨I1.jB,?_⟩) he hpl
 exact Au M F hr hb hd I1 r q
end
end L2
namespace L2
open PySem PySem.Spec PyProof.Rows
section
variable {X:Cx}
theorem ym {sc csc:Scope} {N:List Str} {elt iter c:Expr} {x:Str} {px pos ppos:Pos} {caps:List (Str × Nat)} {wi:TI} {te:TE} {tt:TT} (ck:qo sc csc N x caps) (hi:PI X (.Name x px) iter wi)
  (ht:∀ C s2 H2 fp,PT (bX X (caps.map (·.1) ++ [x]) csc C s2 H2 fp) c tt) (he:∀ C s2 H2 fp,PE (bX X (caps.map (·.1) ++ [x]) csc C s2 H2 fp) elt te) (hc:X.calm = true) (hsc:X.env.scope = sc) (hXN:X.N = N) (hs:∀ x,foldedSetIterable iter X.env x = pure x)
  {pins:List (Addr × Obj)} {s:Shared} {Z:St} {H:Hp} {Q:VK} (I:Inv X pins Z H s) (h:sE caps wi tt te Z H Q) (use:Option (Value -> Sem Unit)) (QQ:Value -> Shared -> Prop)
  (fin:∀ (s2:Shared) (H2:Hp) (D C:Addr) (ys:List V) (H':Hp) (s4:Shared) (m:Str -> Option Value),Inv X pins Z H2 s2 -> s2.heap.objs.size <= C -> s2.heap.objs.size <= D -> D ≠ C -> s4.heap.Ns C m ->
   (∀ h',Heap.SameBut C s4.heap h' -> Inv X pins Z (upd H' D (.lst ys)) { s4 with heap:=h' }) -> H' C = none -> Q (.ref D) (upd H' D (.lst ys)) ->
   compPost (model X.prog X.w) X.A X.xe use QQ (.ref D) C (.ok .next) s4) :
  wpAny (model X.prog X.w) X.A (comprehension (.ListComp elt [⟨.Name x px,iter,[c],0⟩] csc pos) csc X.env ppos (newList []) false (eval iter X.env) use) QQ X.xe s:=by
 subst hsc hXN
 have cellsOk:∀ p ∈ csc.names,p.2 = .free -> ∃ c,X.env.cells.lookup p.1 = some c:=λp hp e=>I.ok.has p.1 (.inl (ck.free p hp e))
 refine wpAny_comprehension_free (use:=use) rfl hs (iM cellsOk) ck.kind ck.loc (cZ (hi pins s Z H _ I h) λv s1 h1=>cZ h1 λitv s2 h2=>?_)
 obtain ⟨it,fp,tn,J,H2,e,I2,T,st2,f2,W,⟨m0,w0⟩,turn⟩:=h2
 subst e
 refine wpAny_newObj_type (wpAny_newFunctionEnv ck.cell (by intro y hy;simp at hy) (λh4 hns4 hsb4=>?_) ck.kind)
 dsimp only at hns4 hsb4 ⊢
 generalize hD:s2.heap.objs.size = D at hns4 hsb4 ⊢
 generalize hH2:s2.heap.push { cls:=.type "list",dict:=none,data:=.seq ([]:List Value).toArray } = G at hns4 hsb4 ⊢
 have hGs:G.objs.size = D + 1:=by rw [← hH2,Heap.size_push,hD]
 rw [hGs] at hns4 hsb4 ⊢
 have lt2:∀ b o,s2.heap.get? b = some o -> b < D:=λb o e=>hD ▸ Heap.lt_size e
 have old:∀ b o,s2.heap.get? b = some o -> b ≠ D + 1 /\ b ≠ D:=λb o e=>⟨AB (lt2 b o e),zx (lt2 b o e)⟩
 have leD:s2.heap.objs.size <= D:=Nat.le_of_eq hD
 have leD1:s2.heap.objs.size <= D + 1:=Nat.le_succ_of_le leD
 have keep4:∀ b o,s2.heap.get? b = some o -> h4.get? b = some o:=λb o e=>hsb4.extBut b o (old b o e).1 (Heap.get?_push_of_some _ (hH2 ▸ Heap.get?_push_of_some _ e))
 have hDo:h4.get? D = some { cls:=.type "list",data:=.seq ([]:List Value).toArray 0 }:=by
  refine hsb4.extBut D _ zo (Heap.get?_push_of_some _ ?_)
  rw [← hH2,← hD]
  exact Heap.get?_push_size _ rfl
 have fps:∀ b ∈ fp,b < s2.heap.objs.size:=λb hb=>by
  obtain ⟨o,e,_⟩:=T.obj _ _ st2 b hb
  exact Heap.lt_size e
 have I4:∀ t4,Inv (bX X (caps.map (·.1) ++ [x]) csc (D + 1) s2 H2 fp) [] (gY caps Z ++ [none]) H2 { s2 with heap:=h4,toks:=t4 }:=λt4=>kO (m0:=λx=>[].reverse.lookup x) I2 ck f2 fps leD1 keep4 hns4
 have cellsLt:∀ y c,(eF X.env csc.names []).lookup y = some c -> c < D:=λy c e=>by
  obtain ⟨v,o,ho,_⟩:=I2.cell y c (fQ _ _ cellsOk (λy c h=>by simp at h) y c e)
  exact lt2 c o ho
 have fsLt:∀ b ∈ frs X.stack,b < D:=λb hb=>by
  obtain ⟨_,o,ho,_⟩:=I2.stack.mem hb
  exact lt2 b o ho
 have fpC:∀ {pl:List (Addr × Obj)} {H':Hp},(∀ p ∈ pl,p.1 = D) -> (∀ b ∈ fp,H' b = none) -> ∀ b ∈ fp,oG (bX X (caps.map (·.1) ++ [x]) csc (D + 1) s2 H2 fp) pl H' b:=λ{pl H'} hpl hn b hb=>by
  have hb':b < D:=hD ▸ fps b hb
  refine ⟨hn b hb,AB hb',?_,.inl hb,λy c e=>?_,λp hp=>?_⟩
  ·intro z
   rcases List.mem_cons.mp (I2.kP b z) with e | e
   ·exact (f2 b hb).2.1 e
   ·exact (f2 b hb).2.2.1 e
  ·exact (f2 b hb).2.2.2.2.1 y c (fQ _ _ cellsOk (λy c h=>by simp at h) y c e)
  ·have:p.1 = D:=hpl p (by simpa using hp)
   rw [this];exact λz=>zx hb' z.symm
 have loop:∀ t4,codeAny (model X.prog X.w) X.A (.compLoop (.ListComp elt [⟨.Name x px,iter,[c],0⟩] csc pos) 0 (.ref it) (.ref D) (compEnvC csc (eF X.env csc.names []) (D + 1) X.env))
   (compPost (model X.prog X.w) X.A X.xe use QQ (.ref D) (D + 1)) { s2 with heap:=h4,toks:=t4 }:=by
  intro t4
  refine kq (λn s'=>∃ (i:Nat) (ys:List V) (its:List Value) (k:Nat) (Z':St) (H':Hp),Inv (bX X (caps.map (·.1) ++ [x]) csc (D + 1) s2 H2 fp) [(D,{ cls:=.type "list",data:=.seq its.toArray k })] Z' H' s' /\ tn i s'.heap /\ (∀ b ∈ fp,H' b = none) /\ Vals ys its /\ ys.length <= sizeLine /\ W i n ys H' /\ (∃ z,Z' = gY caps Z ++ [z])) ?_ m0 ?_
  ·rintro n s3 ⟨i,ys,its,k,Z3,H3,I3,st3,fr3,hv,hz,w3,z3,rfl⟩
   have pl1:∀ p ∈ [((D,{ cls:=.type "list",data:=.seq its.toArray k }):Addr × Obj)],p.1 = D:=λp hp=>by rw [List.mem_singleton.mp hp]
   rcases turn i n ys H3 w3 with ⟨stop,qn⟩ | ⟨go,hlt,step⟩
   ·refine wpAny_mono (T.done (bX X (caps.map (·.1) ++ [x]) csc (D + 1) s2 H2 fp) rfl rfl rfl hc i _ s3 _ H3 (λ_ _=>False) I3 (fpC pl1 fr3) st3 stop) (λr s4 ⟨hr,I4'⟩=>?_) λ_ _ f=>f.elim
    subst hr
    obtain ⟨m,hn,_⟩:=id I4'.loc
    have pD:=I4'.pin (D,{ cls:=.type "list",data:=.seq its.toArray k }) (by simp)
    exact fin s2 H2 D (D + 1) ys H3 s4 m I2 leD1 leD zo hn (λh' hs'=>mw I2 I4' f2 leD1 leD zo hs' hv hz pD.1 pD.2.1) I4'.free (qn D pD.2.1)
   ·refine wpAny_mono (T.item (bX X (caps.map (·.1) ++ [x]) csc (D + 1) s2 H2 fp) rfl rfl rfl hc i _ s3 _ H3 (λ_ _=>False) I3 (fpC pl1 fr3) st3 go) (λr s4 ⟨u,hr,h4'⟩=>?_) λ_ _ f=>f.elim
    subst hr
    refine wpAny_mono h4' (λ_ s4 ⟨xv,H5,I5,r5,y5,st5,fr5⟩=>?_) λ_ _ f=>f.elim
    have I5':=I5.pinned (fpC pl1 fr5) (T.obj _ _ st5)
    have hiN:(caps.map (·.1) ++ [x])[caps.length]? = some x:=by rw [List.getElem?_append_right (by simp)];simp
    refine wpAny_mono (b9 (X:=bX X (caps.map (·.1) ++ [x]) csc (D + 1) s2 H2 fp) (i:=caps.length) ck.nd hiN (.inl (lookup_relabel_local ck.tg)) (.inr (lookup_relabel_local ck.tg)) _ s4 _ H5 xv u _ I5' r5 (show nW caps.length xv _ H5 (λZ6 H6=>Z6 = gY caps Z ++ [some xv] /\ H6 = H5) from ⟨?_,rfl⟩)) (λ_ s6 ⟨Z6,H6,I6,hZ,hH⟩=>?_) λ_ _ f=>f.elim
    ·rw [List.set_append_right _ _ (by rw [fz];exact Nat.le_refl _),fz,Nat.sub_self];rfl
    subst hZ hH
    refine wpAny_mono (ht (D + 1) s2 H2 fp _ s6 _ H6 _ I6 (step xv H6 y5)) (λok s6 ⟨H6,I6,q6⟩=>?_) λ_ _ f=>f.elim
    cases ok with
    | false =>
     rw [if_neg (by decide)] at q6 ⊢
     obtain ⟨m',hm,w8⟩:=q6
     have pD:=I6.pin (D,{ cls:=.type "list",data:=.seq its.toArray k }) (by simp)
     refine ⟨m',hm,i + 1,ys,its,k,_,H6,I6.dS λp hp=>?_,T.keep _ _ _ st5 λb hb o e=>(I6.pin (b,o) (List.mem_append_right _ (List.mem_append_right _ (cJ hb e)))).1,λb hb=>?_,hv,hz,w8,_,rfl⟩
     ·rw [List.mem_singleton.mp hp];exact pD
     ·obtain ⟨o,e,d⟩:=T.obj _ _ st5 b hb
      exact (I6.pin (b,o) (List.mem_append_right _ (List.mem_append_right _ (cJ hb e)))).2.1
    | true =>
    rw [if_pos rfl] at q6 ⊢
    refine wpAny_mono (he (D + 1) s2 H2 fp _ s6 _ H6 _ I6 q6) (λw7 s7 ⟨y,H7,I7,r7,m',hm,w8⟩=>?_) λ_ _ f=>f.elim
    have pD:=I7.pin (D,{ cls:=.type "list",data:=.seq its.toArray k }) (by simp)
    have hll:=hv.length
    refine call_meets F.slot_list_append ⟨_,pD.1,rfl⟩ F.entry_list_append (F.args_list_append_2 _ _) (PySem.list_append D its.toArray k w7 (by rw [List.size_toArray];omega)) ⟨pD.1,?_⟩
    have q:=PySem.IsL.update pD.1 (·.push w7)
    have hpush:its.toArray.push w7 = (its ++ [w7]).toArray:=by simp
    rw [hpush] at q
    obtain ⟨k',q⟩:∃ k',(s7.heap.update D (Obj.mapSeq (·.push w7))).get? D = some { cls:=.type "list",data:=.seq (its ++ [w7]).toArray k' }:=⟨_,q⟩
    have I7u:Inv (bX X (caps.map (·.1) ++ [x]) csc (D + 1) s2 H2 fp) (iO fp s4.heap) _ H7 s7:=I7.dS λp hp=>I7.pin p (List.mem_append_right _ (List.mem_append_right _ hp))
    have pfp:∀ p ∈ iO fp s4.heap,p.1 < D:=λp hp=>hD ▸ fps p.1 (j0 hp).1
    have I8:=I7u.turned (h':=s7.heap.update D (Obj.mapSeq (·.push w7))) (t':=s7.toks) (it:=D) (λb o hb e=>(Heap.get?_update_other s7.heap _ (Ne.symm hb)).trans e) pD.2.1 zo (.inr leD) (λy c e=>zx (cellsLt y c e)) (λp hp=>zx (pfp p (by simpa using hp)))
    refine ⟨m',hm,i + 1,ys ++ [y],its ++ [w7],k',_,H7,I8.dS λp hp=>?_,T.keep _ _ _ st5 λb hb o e=>(I8.pin (b,o) (List.mem_append_right _ (cJ hb e))).1,λb hb=>?_,hv.append (.cons r7 .nil),?_,w8,_,rfl⟩
    ·rw [List.mem_singleton.mp hp]
     exact ⟨q,pD.2.1,pD.2.2.1,pD.2.2.2.1,λv=>by simp⟩
    ·obtain ⟨o,e,d⟩:=T.obj _ _ st5 b hb
     exact (I8.pin (b,o) (List.mem_append_right _ (cJ hb e))).2.1
    ·rw [List.length_append,List.length_singleton];omega
  ·refine ⟨0,[],[],0,_,H2,(I4 t4).dS λp hp=>?_,T.keep _ _ _ st2 λb hb o e=>keep4 b o e,λb hb=>(f2 b hb).1,.nil,Nat.zero_le _,w0,_,rfl⟩
   rw [List.mem_singleton.mp hp]
   refine ⟨hDo,I2.hok.fresh leD,zo,λz=>absurd (fsLt D z) (Nat.lt_irrefl _),λv=>by simp⟩
 exact codeAny_compStart_list (loop _) (T.self _ 0 _ _ _ (T.keep _ _ _ st2 λb hb o e=>keep4 b o e) (loop _))
theorem qU {i:Nat} {y:Str} {sc csc:Scope} {N:List Str} {elt iter c:Expr} {x:Str} {px pos pos' spos:Pos} {caps:List (Str × Nat)} {wi:TI} {te:TE} {tt:TT} (hN:X.N.Nodup) (hiy:X.N[i]? = some y) (hy:Loc X.env.scope y) (ck:qo sc csc N x caps) (hi:PI X (.Name x px) iter wi)
  (ht:∀ C s2 H2 fp,PT (bX X (caps.map (·.1) ++ [x]) csc C s2 H2 fp) c tt) (he:∀ C s2 H2 fp,PE (bX X (caps.map (·.1) ++ [x]) csc C s2 H2 fp) elt te) (hc:X.calm = true:=by rfl) (hsc:X.env.scope = sc:=by rfl) (hXN:X.N = N:=by rfl) (hs:∀ x,foldedSetIterable iter X.env x = pure x:=by intro _;rfl)
  (hsw:swapsWith (.ListComp elt [⟨.Name x px,iter,[c],0⟩] csc pos) (some (.Name y pos')) spos.line X.env = pure true:=by rfl) (hf:X.fn y = true ∨ X.env.scope.names.lookup y = some .local:=by first | exact .inl rfl | exact .inr rfl | assumption) :
  PS X (.Assign [.Name y pos'] (.ListComp elt [⟨.Name x px,iter,[c],0⟩] csc pos) spos) (FT (sE caps wi tt te) (nW i)):=by
 intro pins s Z H D I h
 rw [exec_Assign_Name_used _ _ _ _ hsw]
 refine wpAny_bind (wpAny_standAt (wpAny_bind ?_))
 show wpAny _ X.A (do let _ ← comprehension (.ListComp elt [⟨.Name x px,iter,[c],0⟩] csc pos) csc X.env _ (newList []) false (eval iter X.env) (some (assign (.Name y pos') X.env))) _ _ s
 refine wpAny_bind (wpAny_mono (ym ck hi ht he hc hsc hXN hs I h (some (assign (.Name y pos') X.env)) (λ_ s'=>SP X pins D .next s') ?_) (λ_ s' hq=>wpAny_pure (wpAny_pure hq)) λ_ _ e=>e)
 intro s2 H2 Dl C ys H' s4 m I2 leC leD nDC hns hI hfC q
 have I0:Inv X pins Z (upd H' Dl (.lst ys)) s4:=hI s4.heap (Heap.SameBut.refl _ _)
 have hCD:C ≠ Dl:=Ne.symm nDC
 have hHC:upd H' Dl (.lst ys) C = none:=by rw [ai hCD];exact hfC
 have hCL:C ≠ X.env.locals:=λz=>by have:=I2.lt;rw [← z] at this;exact absurd this (Nat.not_lt.mpr leC)
 have hCfs:C ∉ X.fs:=I2.Lv leC
 have pinlt:∀ p ∈ X.pn ++ pins,p.1 ≠ C:=λp hp z=>by
  have:=(I2.pin p hp).1
  have:=Heap.lt_size this
  rw [z] at this
  exact absurd this (Nat.not_lt.mpr leC)
 have celllt:∀ z cc,X.env.cells.lookup z = some cc -> cc ≠ C:=λz cc e w=>by
  obtain ⟨v,o,ho,_⟩:=I2.cell z cc e
  have:=Heap.lt_size ho
  rw [w] at this
  exact absurd this (Nat.not_lt.mpr leC)
 obtain ⟨oC,es,ep,eC,dC,rC⟩:=id hns
 have I1:Inv X (pins ++ [(C,oC)]) Z (upd H' Dl (.lst ys)) s4:=I0.dS λp hp=>by
  rcases List.mem_append.mp hp with hp | hp
  ·exact I0.pin p (List.mem_append_right _ hp)
  ·rw [List.mem_singleton.mp hp]
   exact ⟨eC,hHC,hCL,hCfs,λv z=>by rw [dC] at z;cases z⟩
 refine cZ (b9 (i:=i) (pos:=pos') hN hiy hy hf (pins ++ [(C,oC)]) s4 Z _ (.ref Dl) (.ref Dl) D.nx I1 rfl q) λ_ s5 ⟨Z5,H5,I5,q5⟩=>?_
 have pC:=I5.pin (C,oC) (by simp)
 refine ⟨m,⟨oC,es,ep,pC.1,dC,rC⟩,λh' hs'=>?_⟩
 have I6:Inv X pins Z5 H5 s5:=I5.dS λp hp=>I5.pin p (List.mem_append_right _ (List.mem_append_left _ hp))
 exact ⟨Z5,H5,I6.turned (h':=h') (t':=s5.toks) (it:=C) (λb o hb e=>(hs'.2 b hb).trans e) pC.2.1 hCL (.inr (Nat.le_trans I2.sz leC)) celllt pinlt,q5⟩
theorem tM {caps:List (Str × Nat)} {lo:Int} {n:Nat} {tt:TT} {te:TE} {Z:St} {H:Hp} {Q:VK} (Pv:Nat -> List V -> Hp -> Prop) (h0:Pv 0 [] H) (hn:n < sizeLine)
  (hs:∀ i ys H,i < n -> ys.length <= i -> Pv i ys H -> tt (gY caps Z ++ [some (.int (lo + i))]) H λb H2=>if b = true then te (gY caps Z ++ [some (.int (lo + i))]) H2 λy H3=>∃ m',m' < n - i /\ m' = n - (i + 1) /\ i + 1 <= n /\ (ys ++ [y]).length <= i + 1 /\ Pv (i + 1) (ys ++ [y]) H3
   else ∃ m',m' < n - i /\ m' = n - (i + 1) /\ i + 1 <= n /\ ys.length <= i + 1 /\ Pv (i + 1) ys H2) (hd:∀ ys H,ys.length <= n -> Pv n ys H -> ∀ D,H D = none -> Q (.ref D) (upd H D (.lst ys))) :
  sr (EG lo n) caps tt te Z H Q:=by
 refine ⟨λi m ys H=>m = n - i /\ i <= n /\ ys.length <= i /\ Pv i ys H,⟨n,by simp,Nat.zero_le _,Nat.zero_le _,h0⟩,?_⟩
 rintro i m ys H ⟨rfl,hi,hl,p⟩
 by_cases hlt:i < n
 ·refine .inr ⟨hlt,by omega,λx H' y=>?_⟩
  obtain ⟨e,y⟩:=y
  subst e y
  exact hs i ys _ hlt hl p
 ·have e:i = n:=by omega
  subst e
  exact .inl ⟨Nat.le_refl _,hd ys H hl p⟩
end
end L2
namespace K92
open PySem L2
set_option hygiene false
local macro_rules | `(tactic| walk_at "i")=>`(tactic| (intro vs H Q E h;repeat (first | (obtain ⟨rfl,_⟩:=h;exact rfl) | (obtain ⟨_,h⟩:=h)));(intro cdv A outer s H vs Q E hr h;refine sO ?_))
local macro_rules | `(tactic| walk_at "0")=>`(tactic| (intro _ _ _ _ _ _ us hl;obtain rfl:=EA hl;rfl))
local macro_rules | `(tactic| walk_at "1")=>`(tactic| (intro _ _ _ _ _ _ us hl;obtain ⟨_,rfl⟩:=ls1 hl;rfl))
local macro_rules | `(tactic| walk_at "2")=>`(tactic| (intro _ _ _ _ _ _ us hl;obtain ⟨_,_,rfl⟩:=Gp hl;rfl))
local macro_rules | `(tactic| walk_at "3")=>`(tactic| (intro _ _ _ _ _ _ us hl;obtain ⟨_,_,_,rfl⟩:=ls3 hl;rfl))
local macro_rules | `(tactic| walk_at "4")=>`(tactic| (intro _ _ _ _ _ _ us hl;obtain ⟨_,_,_,_,rfl⟩:=ls4 hl;rfl))
local macro_rules | `(tactic| walk_at "6")=>`(tactic| (intro _ _ _ _ _ _ us hl;obtain ⟨_,_,_,_,_,_,rfl⟩:=ls6 hl;rfl))
local macro_rules | `(tactic| left)=>`(tactic| walk_at "u")
local macro_rules | `(tactic| walk_at "sc")=>`(tactic| exact ⟨rfl,rfl,rfl,by decide +kernel,rfl,by decide +kernel,by decide +kernel⟩)
noncomputable def top (i:Nat):Stmt:=PySem.Challenge.pw_tintrow_k92_whole_any_rules.main.body.getD i (.Pass ⟨0,0,0,0⟩)
noncomputable abbrev DA:Stmt:=inClass (top 4) 0
theorem IK:aE ["self","ring","sign"] ["self","ring","sign"] (aq DA):=by walk_at "sc"
noncomputable abbrev Cc:Stmt:=inClass (top 7) 0
theorem Mm:aE ["self","row","at"] ["self","row","at"] (aq Cc):=by walk_at "sc"
noncomputable abbrev BW:Stmt:=inClass (top 7) 1
theorem HD:aE ["self"] ["self"] (aq BW):=by walk_at "sc"
noncomputable abbrev BP:Stmt:=inClass (top 8) 0
theorem Il:aE ["self","text"] ["self","text"] (aq BP):=by walk_at "sc"
noncomputable abbrev Df:Stmt:=inClass (top 8) 1
theorem Hs:aE ["self","row","at"] ["self","row","at"] (aq Df):=by walk_at "sc"
noncomputable abbrev Br:Stmt:=inClass (top 8) 2
theorem J7:aE ["self"] ["self"] (aq Br):=by walk_at "sc"
noncomputable abbrev Bu:Stmt:=inClass (top 9) 0
theorem Js:aE ["self","signs"] ["self","signs"] (aq Bu):=by walk_at "sc"
noncomputable abbrev Es:Stmt:=inClass (top 9) 1
theorem HN:aE ["self","row","at"] ["self","row","at"] (aq Es):=by walk_at "sc"
noncomputable abbrev BR:Stmt:=inClass (top 9) 2
theorem Jb:aE ["self"] ["self"] (aq BR):=by walk_at "sc"
noncomputable abbrev Ew:Stmt:=inClass (top 10) 0
theorem IV:aE ["self","signs"] ["self","signs"] (aq Ew):=by walk_at "sc"
noncomputable abbrev Em:Stmt:=inClass (top 10) 1
theorem JJ:aE ["self","row","at"] ["self","row","at"] (aq Em):=by walk_at "sc"
noncomputable abbrev BX:Stmt:=inClass (top 10) 2
theorem Hg:aE ["self"] ["self"] (aq BX):=by walk_at "sc"
noncomputable abbrev Cm:Stmt:=inClass (top 11) 0
theorem JB:aE ["self","signs"] ["self","signs"] (aq Cm):=by walk_at "sc"
noncomputable abbrev D7:Stmt:=inClass (top 11) 1
theorem yt:aE ["self","row","at","end"] ["self","row","at"] (aq D7):=by walk_at "sc"
noncomputable abbrev Ek:Stmt:=inClass (top 11) 2
theorem JA:aE ["self"] ["self"] (aq Ek):=by walk_at "sc"
noncomputable abbrev IM:Stmt:=inClass (top 12) 0
theorem LK:aE ["self","row","at"] ["self","row","at"] (aq IM):=by walk_at "sc"
noncomputable abbrev Hx:Stmt:=inClass (top 12) 1
theorem KR:aE ["self"] ["self"] (aq Hx):=by walk_at "sc"
noncomputable abbrev Cg:Stmt:=inClass (top 13) 0
theorem GZ:aE ["self","row","at"] ["self","row","at"] (aq Cg):=by walk_at "sc"
noncomputable abbrev Cj:Stmt:=inClass (top 14) 0
theorem Jm:aE ["self","row","at"] ["self","row","at"] (aq Cj):=by walk_at "sc"
noncomputable abbrev zG:Stmt:=top 19
theorem Ir:aE ["word"] ["word"] (aq zG):=by walk_at "sc"
noncomputable abbrev DU:Stmt:=inClass (top 20) 0
theorem JH:aE ["self","pattern","colour","deed","goal","fold"] ["self","pattern","colour","deed","goal","fold"] (aq DU):=by walk_at "sc"
noncomputable abbrev BV:Stmt:=inClass (top 21) 0
theorem JS:aE ["self","name","colour","rules"] ["self","name","colour","rules"] (aq BV):=by walk_at "sc"
noncomputable abbrev BJ:Stmt:=inClass (top 22) 0
theorem GQ:aE ["self","modes"] ["self","modes"] (aq BJ):=by walk_at "sc"
noncomputable abbrev zN:Stmt:=top 23
theorem HP:aE ["rules"] ["rules"] (aq zN):=by walk_at "sc"
noncomputable abbrev zT:Stmt:=top 24
theorem GO:aE ["mode"] ["mode"] (aq zT):=by walk_at "sc"
noncomputable abbrev BG:Stmt:=top 25
theorem Jo:aE ["rule"] ["rule"] (aq BG):=by walk_at "sc"
noncomputable abbrev Bv:Stmt:=top 28
theorem yw:aE ["rules","mode","row","at","number","rule"] ["rules","mode","row","at"] (aq Bv):=by walk_at "sc"
noncomputable abbrev DJ:Stmt:=top 29
theorem G0:aE ["modes","rule"] ["modes","rule"] (aq DJ):=by walk_at "sc"
noncomputable abbrev DZ:Stmt:=top 30
theorem sC:aE ["rules","found"] ["rules"] (aq DZ):=by walk_at "sc"
noncomputable abbrev zj:Stmt:=top 31
theorem oH:aE ["rules","row","first","ring"] ["rules"] (aq zj):=by walk_at "sc"
noncomputable abbrev Dv:Stmt:=top 32
theorem Ht:aE [] [] (aq Dv):=by walk_at "sc"
noncomputable abbrev D6:Stmt:=top 33
theorem p9:aE ["rules","first","row","ring","modes","rule"] ["rules","first","row"] (aq D6):=by walk_at "sc"
noncomputable abbrev Dn:Stmt:=top 34
theorem xY:aE ["rules","mode","row","number","rule"] ["rules","mode","row"] (aq Dn):=by walk_at "sc"
noncomputable abbrev C8:Stmt:=top 36
theorem jG:aE ["rules","modes","row","on","tints","marks","at","mode","number","rule"] ["rules","modes","row"] (aq C8):=by walk_at "sc"
noncomputable abbrev DM:Stmt:=inClass (top 38) 0
theorem CI:aE ["self","rules","modes","row","told"] ["self","rules","modes","row"] (aq DM):=by walk_at "sc"
noncomputable abbrev BZ:Stmt:=inClass (top 39) 0
theorem Eb:aE ["self","rules","rows"] ["self","rules","rows"] (aq BZ):=by walk_at "sc"
noncomputable abbrev zd:Stmt:=inClass (top 39) 1
theorem HU:aE ["self"] ["self"] (aq zd):=by walk_at "sc"
noncomputable abbrev BY:Stmt:=inClass (top 39) 2
theorem Jh:aE ["self","row"] ["self","row"] (aq BY):=by walk_at "sc"
noncomputable abbrev Du:Stmt:=inClass (top 39) 3
theorem Gy:aE ["self","row"] ["self","row"] (aq Du):=by walk_at "sc"
noncomputable abbrev Et:Stmt:=inClass (top 39) 4
theorem Gz:aE ["self","row"] ["self","row"] (aq Et):=by walk_at "sc"
noncomputable abbrev B7:Stmt:=inClass (top 39) 9
theorem pR:aE ["self","modes","rows","gone_rows","row","gone"] ["self","modes","rows"] (aq B7):=by walk_at "sc"
noncomputable abbrev CV:Stmt:=inClass (top 39) 12
theorem HQ:aE ["self","row"] ["self","row"] (aq CV):=by walk_at "sc"
noncomputable abbrev Bh:Stmt:=inClass (top 39) 13
theorem GB:aE ["self","row"] ["self","row"] (aq Bh):=by walk_at "sc"
noncomputable abbrev JP:Stmt:=inClass (top 49) 0
theorem Km:aE ["self","row","text"] ["self","row","text"] (aq JP):=by walk_at "sc"
noncomputable abbrev Kc:Stmt:=inClass (top 49) 1
theorem Kx:aE ["self"] ["self"] (aq Kc):=by walk_at "sc"
noncomputable abbrev JX:Stmt:=inClass (top 49) 2
theorem LD:aE ["self"] ["self"] (aq JX):=by walk_at "sc"
noncomputable abbrev JO:Stmt:=inClass (top 49) 3
theorem Lh:aE ["self","good"] ["self","good"] (aq JO):=by walk_at "sc"
noncomputable abbrev IB:Stmt:=inClass (top 49) 4
theorem FZ:aE ["self","good","word"] ["self","good"] (aq IB):=by walk_at "sc"
noncomputable abbrev Ik:Stmt:=inClass (top 49) 5
theorem KH:aE ["self","words"] ["self","words"] (aq Ik):=by walk_at "sc"
noncomputable abbrev G3:Stmt:=inClass (top 49) 6
theorem K1:aE ["self"] ["self"] (aq G3):=by walk_at "sc"
noncomputable abbrev GX:Stmt:=inClass (top 49) 7
theorem Gr:aE ["self","word"] ["self"] (aq GX):=by walk_at "sc"
noncomputable abbrev Ey:Stmt:=top 50
theorem jg:aE ["text","rows","numbers","modes","nowhere","number","row","cursor","rules"] ["text"] (aq Ey):=by walk_at "sc"
noncomputable abbrev Ec:Stmt:=top 51
theorem sy:aE ["rows","numbers","row","words"] ["rows"] (aq Ec):=by walk_at "sc"
noncomputable abbrev zy:Stmt:=top 52
theorem yp:aE ["cursor","modes","name","colour"] ["cursor","modes"] (aq zy):=by walk_at "sc"
noncomputable abbrev Dy:Stmt:=top 53
theorem l9:aE ["cursor","numbers","nowhere","pattern","colour","deed","goal","fold"] ["cursor","numbers","nowhere"] (aq Dy):=by walk_at "sc"
noncomputable abbrev Eu:Stmt:=top 54
theorem yU:aE ["cursor","kind","signs"] ["cursor"] (aq Eu):=by walk_at "sc"
noncomputable abbrev CZ:Stmt:=top 55
theorem yV:aE ["cursor","numbers","nowhere","place","name"] ["cursor","numbers","nowhere"] (aq CZ):=by walk_at "sc"
noncomputable abbrev zV:Stmt:=top 57
theorem Hf:aE ["rules","rows"] ["rules","rows"] (aq zV):=by walk_at "sc"
noncomputable abbrev zH:Stmt:=top 58
theorem Hy:aE ["rules","rows"] ["rules","rows"] (aq zH):=by walk_at "sc"
noncomputable abbrev z8:Stmt:=top 59
theorem Hv:aE ["rules","rows"] ["rules","rows"] (aq z8):=by walk_at "sc"
noncomputable abbrev CS:Stmt:=top 60
theorem lV:aE ["rules","rows","modes","all_rows","row","told"] ["rules","rows"] (aq CS):=by walk_at "sc"
noncomputable abbrev Ed:Stmt:=top 62
theorem sN:aE ["_law_script","_law_k","_law_many","_law_cell","_law_left","_law_seed"] ["_law_script","_law_k","_law_many"] (aq Ed):=by walk_at "sc"
noncomputable abbrev uc:Stmt:=top 63
theorem gk:aE ["_law_script","_law_names","_law_modes","_law_rows","_law_k","_law_i","_law_base","_law_sort","_law_signs","_law_deed","_law_goal","_law_colour","_law_fold","_law_words"] ["_law_script","_law_names"] (aq uc):=by walk_at "sc"
noncomputable abbrev Eg:Stmt:=top 64
theorem yE:aE ["_law_rule","_law_row","_law_at","_law_many"] ["_law_rule","_law_row","_law_at"] (aq Eg):=by walk_at "sc"
noncomputable abbrev Dk:Stmt:=top 65
theorem Dh:aE ["_law_stack","_law_rule","_law_found"] ["_law_stack","_law_rule"] (aq Dk):=by walk_at "sc"
noncomputable abbrev zP:Stmt:=top 66
theorem oq:aE ["_law_modes","_law_begin","_law_row","_law_stack","_law_k","_law_fits"] ["_law_modes","_law_begin","_law_row"] (aq zP):=by walk_at "sc"
noncomputable abbrev zp:Stmt:=top 67
theorem gM:aE ["_law_modes","_law_begin","_law_row","_law_stack","_law_shades","_law_met","_law_at","_law_k","_law_fits","_law_many"] ["_law_modes","_law_begin","_law_row"] (aq zp):=by walk_at "sc"
noncomputable abbrev Ck:Stmt:=top 68
theorem sI:aE ["_law_rules_here","_law_rows","_law_told","e"] ["_law_rules_here","_law_rows"] (aq Ck):=by walk_at "sc"
noncomputable abbrev mU:Stmt:=top 69
theorem d9:aE ["_law_script","_law_names","_law_text","_law_modes","_law_rules_here","_law_rows","_law_k","_law_size","_law_stands_here","_law_row","_law_told","_law_stack","_law_due","_law_tinted"] ["_law_script"] (aq mU):=by walk_at "sc"
set_option genInjectivity false in
structure gq where
 aW:Addr
 jT:Addr
 aX:Addr
 jW:Addr
 ia:Addr
 bT:Addr
 cN:Addr
 aU:Addr
 bQ:Addr
 dD:Addr
 bH:Addr
 dz:Addr
 cI:Addr
 bP:Addr
 cK:Addr
 aY:Addr
 aL:Addr
 aV:Addr
 k6:Addr
 wm:FuncData
 qT:Addr
 z7:FuncData
 i0:Addr
 pQ:FuncData
 nu:Addr
 uO:FuncData
 lS:Addr
 rG:FuncData
 lM:Addr
 qM:FuncData
 mZ:Addr
 tU:FuncData
 lN:Addr
 qD:FuncData
 lJ:Addr
 rR:FuncData
 nj:Addr
 wZ:FuncData
 lz:Addr
 qX:FuncData
 lO:Addr
 qG:FuncData
 nq:Addr
 wQ:FuncData
 lP:Addr
 qW:FuncData
 lA:Addr
 rq:FuncData
 sF:Addr
 AZ:FuncData
 sS:Addr
 AA:FuncData
 lu:Addr
 qE:FuncData
 lH:Addr
 qK:FuncData
 oY:Addr
 wG:FuncData
 mS:Addr
 uK:FuncData
 mT:Addr
 wN:FuncData
 m8:Addr
 wR:FuncData
 pe:Addr
 tW:FuncData
 nV:Addr
 vM:FuncData
 pU:Addr
 wO:FuncData
 o5:Addr
 w6:FuncData
 pP:Addr
 ue:FuncData
 m9:Addr
 qN:FuncData
 qm:Addr
 vg:FuncData
 o9:Addr
 vR:FuncData
 nZ:Addr
 u7:FuncData
 o6:Addr
 vL:FuncData
 o4:Addr
 vK:FuncData
 m6:Addr
 wg:FuncData
 kj:Addr
 pM:FuncData
 nv:Addr
 we:FuncData
 mX:Addr
 ur:FuncData
 nc:Addr
 uf:FuncData
 nA:Addr
 xr:FuncData
 mJ:Addr
 uS:FuncData
 mY:Addr
 ud:FuncData
 nh:Addr
 wz:FuncData
 uv:Addr
 Dt:FuncData
 vq:Addr
 CJ:FuncData
 wW:Addr
 Cq:FuncData
 uI:Addr
 D5:FuncData
 vZ:Addr
 Bt:FuncData
 wc:Addr
 Ds:FuncData
 vm:Addr
 Dz:FuncData
 t7:Addr
 Bk:FuncData
 pW:Addr
 v8:FuncData
 qb:Addr
 vp:FuncData
 oJ:Addr
 wI:FuncData
 oQ:Addr
 uX:FuncData
 oV:Addr
 uH:FuncData
 oK:Addr
 v7:FuncData
 nR:Addr
 xh:FuncData
 oB:Addr
 uG:FuncData
 qj:Addr
 uR:FuncData
 qp:Addr
 u6:FuncData
 nO:Addr
 wo:FuncData
 nU:Addr
 xq:FuncData
 nN:Addr
 uZ:FuncData
 oj:Addr
 wU:FuncData
 qk:Addr
 uN:FuncData
 oU:Addr
 uU:FuncData
 qf:Addr
 wK:FuncData
 eG:Addr
 iK:Addr
 jk:Addr
 iC:Addr
structure Txt (K:W.Frag) (mg:Str -> Option Value) (t:gq):Prop where
 kr:mg "TintError" = some (.ref t.aW)
 Gj:mg "NoRules" = some (.ref t.jT)
 qS:mg "Rings" = some (.ref t.aX)
 F8:mg "NoPlace" = some (.ref t.jW)
 Gq:mg "Pattern" = some (.ref t.ia)
 DW:mg "Word" = some (.ref t.bT)
 EX:mg "One" = some (.ref t.cN)
 vB:mg "Without" = some (.ref t.aU)
 Ci:mg "Many" = some (.ref t.bQ)
 FN:mg "Any" = some (.ref t.dD)
 AQ:mg "Still" = some (.ref t.bH)
 EF:mg "End" = some (.ref t.dz)
 vo:mg "Rule" = some (.ref t.cI)
 vO:mg "Mode" = some (.ref t.bP)
 qZ:mg "Rules" = some (.ref t.cK)
 tZ:mg "GoneRow" = some (.ref t.aY)
 p6:mg "Tinted" = some (.ref t.aL)
 xR:mg "Cursor" = some (.ref t.aV)
 zZ:bK K "__init__" "Rings.__init__" DA t.k6 t.wm
 Ga:bK K "eaten" "Pattern.eaten" Cc t.qT t.z7
 qd:bK K "eats" "Pattern.eats" BW t.i0 t.pQ
 z9:bK K "__init__" "Word.__init__" BP t.nu t.uO
 vN:bK K "eaten" "Word.eaten" Df t.lS t.rG
 u9:bK K "eats" "Word.eats" Br t.lM t.qM
 zB:bK K "__init__" "One.__init__" Bu t.mZ t.tU
 u5:bK K "eaten" "One.eaten" Es t.lN t.qD
 u0:bK K "eats" "One.eats" BR t.lJ t.rR
 zu:bK K "__init__" "Without.__init__" Ew t.nj t.wZ
 vn:bK K "eaten" "Without.eaten" Em t.lz t.qX
 uC:bK K "eats" "Without.eats" BX t.lO t.qG
 z5:bK K "__init__" "Many.__init__" Cm t.nq t.wQ
 uM:bK K "eaten" "Many.eaten" D7 t.lP t.qW
 xu:bK K "eats" "Many.eats" Ek t.lA t.rq
 DO:bK K "eaten" "Any.eaten" IM t.sF t.AZ
 CM:bK K "eats" "Any.eats" Hx t.sS t.AA
 uJ:bK K "eaten" "Still.eaten" Cg t.lu t.qE
 vF:bK K "eaten" "End.eaten" Cj t.lH t.qK
 uV:bK K "__init__" "Rule.__init__" DU t.mS t.uK
 t9:bK K "__init__" "Mode.__init__" BV t.mT t.wN
 uY:bK K "__init__" "Rules.__init__" BJ t.m8 t.wR
 zc:bK K "__init__" "GoneRow.__init__" DM t.m6 t.wg
 qO:bK K "__init__" "Tinted.__init__" BZ t.kj t.pM
 t6:bK K "rows" "Tinted.rows" zd t.nv t.we
 vY:bK K "begin" "Tinted.begin" BY t.mX t.ur
 vh:bK K "colours" "Tinted.colours" Du t.nc t.uf
 vC:bK K "marks" "Tinted.marks" Et t.nA t.xr
 uo:bK K "go_over" "Tinted.go_over" B7 t.mJ t.uS
 qg:bK K "gone_row" "Tinted.gone_row" CV t.mY t.ud
 ua:bK K "ask_row" "Tinted.ask_row" Bh t.nh t.wz
 Fj:bK K "__init__" "Cursor.__init__" JP t.uv t.Dt
 uL:bK K "more" "Cursor.more" Kc t.vq t.CJ
 pZ:bK K "peek" "Cursor.peek" JX t.wW t.Cq
 qA:bK K "ask" "Cursor.ask" JO t.uI t.D5
 yG:bK K "take" "Cursor.take" IB t.vZ t.Bt
 xy:bK K "take_choice" "Cursor.take_choice" Ik t.wc t.Ds
 v9:bK K "take_name" "Cursor.take_name" G3 t.vm t.Dz
 Eo:bK K "take_signs" "Cursor.take_signs" GX t.t7 t.Bk
 uQ:bK K "is_name" "is_name" zG t.oY t.wG
 GN:mg "is_name" = some (.ref t.oY)
 vH:bK K "copied_rules" "copied_rules" zN t.pe t.tW
 GU:mg "copied_rules" = some (.ref t.pe)
 vQ:bK K "copied_mode" "copied_mode" zT t.nV t.vM
 Jd:mg "copied_mode" = some (.ref t.nV)
 ve:bK K "copied_rule" "copied_rule" BG t.pU t.wO
 HV:mg "copied_rule" = some (.ref t.pU)
 oF:bK K "first_rule" "first_rule" Bv t.o5 t.w6
 DS:mg "first_rule" = some (.ref t.o5)
 pq:bK K "do_deed" "do_deed" DJ t.pP t.ue
 Bx:mg "do_deed" = some (.ref t.pP)
 mL:bK K "ask_rings" "ask_rings" DZ t.m9 t.qN
 Cy:mg "ask_rings" = some (.ref t.m9)
 pY:bK K "ring_of" "ring_of" zj t.qm t.vg
 Bw:mg "ring_of" = some (.ref t.qm)
 vz:bK K "short_rows" "short_rows" Dv t.o9 t.vR
 Jf:mg "short_rows" = some (.ref t.o9)
 qq:bK K "ring_from" "ring_from" D6 t.nZ t.u7
 CN:mg "ring_from" = some (.ref t.nZ)
 n8:bK K "idle_rule" "idle_rule" Dn t.o6 t.vL
 DF:mg "idle_rule" = some (.ref t.o6)
 pK:bK K "gone_over" "gone_over" C8 t.o4 t.vK
 Dm:mg "gone_over" = some (.ref t.o4)
 wV:bK K "read_rules" "read_rules" Ey t.pW t.v8
 J5:mg "read_rules" = some (.ref t.pW)
 xj:bK K "mode_numbers" "mode_numbers" Ec t.qb t.vp
 JD:mg "mode_numbers" = some (.ref t.qb)
 uA:bK K "read_mode" "read_mode" zy t.oJ t.wI
 GD:mg "read_mode" = some (.ref t.oJ)
 wJ:bK K "read_rule" "read_rule" Dy t.oQ t.uX
 J8:mg "read_rule" = some (.ref t.oQ)
 uq:bK K "read_pattern" "read_pattern" Eu t.oV t.uH
 JT:mg "read_pattern" = some (.ref t.oV)
 vU:bK K "read_goal" "read_goal" CZ t.oK t.v7
 HY:mg "read_goal" = some (.ref t.oK)
 uE:bK K "begins" "begins" zV t.nR t.xh
 Jk:mg "begins" = some (.ref t.nR)
 uy:bK K "colours" "colours" zH t.oB t.uG
 Hq:mg "colours" = some (.ref t.oB)
 vP:bK K "fold_marks" "fold_marks" z8 t.qj t.uR
 Ka:mg "fold_marks" = some (.ref t.qj)
 k8:bK K "all_told" "all_told" CS t.qp t.u6
 xB:mg "all_told" = some (.ref t.qp)
 dM:bK K "_law_draw" "_law_draw" Ed t.nO t.wo
 gP:mg "_law_draw" = some (.ref t.nO)
 vv:bK K "_law_rules" "_law_rules" uc t.nU t.xq
 Ih:mg "_law_rules" = some (.ref t.nU)
 iZ:bK K "_law_eaten" "_law_eaten" Eg t.nN t.uZ
 pG:mg "_law_eaten" = some (.ref t.nN)
 om:bK K "_law_after" "_law_after" Dk t.oj t.wU
 Dr:mg "_law_after" = some (.ref t.oj)
 uB:bK K "_law_stands" "_law_stands" zP t.qk t.uN
 IU:mg "_law_stands" = some (.ref t.qk)
 v5:bK K "_law_gone" "_law_gone" zp t.oU t.uU
 Ho:mg "_law_gone" = some (.ref t.oU)
 wk:bK K "_law_refused" "_law_refused" Ck t.qf t.wK
 Jy:mg "_law_refused" = some (.ref t.qf)
 nL:nB K t.bT
 tu:Mk K t.bT t.nu
 fm:bI K t.bT "wanted"
 Lc:Meth K t.bT "eaten" t.lS
 K6:Meth K t.bT "eats" t.lM
 yb:nB K t.cN
 zb:Mk K t.cN t.mZ
 iE:bI K t.cN "signs"
 Lg:Meth K t.cN "eaten" t.lN
 Lk:Meth K t.cN "eats" t.lJ
 kC:nB K t.aU
 kR:Mk K t.aU t.nj
 fG:bI K t.aU "signs"
 Ld:Meth K t.aU "eaten" t.lz
 KW:Meth K t.aU "eats" t.lO
 sQ:nB K t.bQ
 sH:Mk K t.bQ t.nq
 g8:bI K t.bQ "signs"
 KS:Meth K t.bQ "eaten" t.lP
 Ll:Meth K t.bQ "eats" t.lA
 Jl:nB K t.dD
 yO:LU K t.dD
 Mg:Meth K t.dD "eaten" t.sF
 MF:Meth K t.dD "eats" t.sS
 Bl:nB K t.bH
 pI:LU K t.bH
 LC:Meth K t.bH "eaten" t.lu
 tG:Meth K t.bH "eats" t.i0
 HH:nB K t.dz
 xF:LU K t.dz
 K9:Meth K t.dz "eaten" t.lH
 xU:Meth K t.dz "eats" t.i0
 cz:nB K t.cI
 nH:Mk K t.cI t.mS
 cU:bI K t.cI "pattern"
 fC:bI K t.cI "colour"
 dR:bI K t.cI "deed"
 fR:bI K t.cI "goal"
 fS:bI K t.cI "fold"
 eX:nB K t.bP
 nI:Mk K t.bP t.mT
 fN:bI K t.bP "name"
 fq:bI K t.bP "colour"
 dF:bI K t.bP "rules"
 gC:nB K t.cK
 lE:Mk K t.cK t.m8
 bY:bI K t.cK "modes"
 aJ:nB K t.aV
 mD:Mk K t.aV t.uv
 g6:bI K t.aV "row"
 eO:bI K t.aV "words"
 eB:bI K t.aV "at"
 E2:Meth K t.aV "more" t.vq
 xH:Meth K t.aV "peek" t.wW
 Aj:Meth K t.aV "ask" t.uI
 Iu:Meth K t.aV "take" t.vZ
 Fi:Meth K t.aV "take_choice" t.wc
 E3:Meth K t.aV "take_name" t.vm
 MN:Meth K t.aV "take_signs" t.t7
 dG:nB K t.aY
 kU:Mk K t.aY t.m6
 fE:bI K t.aY "signs"
 eY:bI K t.aY "before"
 fD:bI K t.aY "tints"
 eW:bI K t.aY "behind"
 e7:bI K t.aY "folded"
 cD:nB K t.aL
 jO:Mk K t.aL t.kj
 fZ:bI K t.aL "rules"
 cC:bI K t.aL "gone_rows"
 LN:Meth K t.aL "rows" t.nv
 K2:Meth K t.aL "begin" t.mX
 KI:Meth K t.aL "colours" t.nc
 Lf:Meth K t.aL "marks" t.nA
 Ls:Meth K t.aL "go_over" t.mJ
 BN:Meth K t.aL "gone_row" t.mY
 La:Meth K t.aL "ask_row" t.nh
 wB:E1 K t.aW
 lK:W.excIn K t.aW VE "ValueError.__new__" = true
 jP:E1 K t.aX
 pB:W.findIn K (.ref t.aX) "__init__" = some (some (.ref t.k6)) /\ W.isFn K (.ref t.k6) = true /\ W.keepIn K (.ref t.aX) = true
 i8:bI K t.aX "ring"
 jj:bI K t.aX "sign"
 fK:W.mroIn K t.aX (.ref t.aW) = some true
 jf:W.specialIn K (.ref t.aW) "__getattribute__" = some (some (.builtin "type.__getattribute__")) /\ W.readsIn K t.aW (.type "type") = true /\ W.findCls K (.ref t.aW) (.type "type") "__init__" = some (.val (.builtin "ValueError.__init__"))
 iz:W.kitOne K (.ref t.aX) (.ref t.aX) = some true
 cg:W.specialIn K (.builtin "object.__class__") "__get__" = some (some (.builtin "getset_descriptor.__get__"))
 ct:W.takesIn K (.builtin "object.__class__") = some true
 sU:W.findIn K (.ref t.bT) "__class__" = some (some (.builtin "object.__class__"))
 tE:W.mroIn K t.bT (.type "object") = some true
 xW:W.findIn K (.ref t.cN) "__class__" = some (some (.builtin "object.__class__"))
 yX:W.mroIn K t.cN (.type "object") = some true
 kI:W.findIn K (.ref t.aU) "__class__" = some (some (.builtin "object.__class__"))
 kF:W.mroIn K t.aU (.type "object") = some true
 sX:W.findIn K (.ref t.bQ) "__class__" = some (some (.builtin "object.__class__"))
 sM:W.mroIn K t.bQ (.type "object") = some true
 yd:W.findIn K (.ref t.dD) "__class__" = some (some (.builtin "object.__class__"))
 xT:W.mroIn K t.dD (.type "object") = some true
 oA:W.findIn K (.ref t.bH) "__class__" = some (some (.builtin "object.__class__"))
 pA:W.mroIn K t.bH (.type "object") = some true
 yP:W.findIn K (.ref t.dz) "__class__" = some (some (.builtin "object.__class__"))
 yi:W.mroIn K t.dz (.type "object") = some true
 kB:W.kitOne K (.ref t.bT) (.ref t.bT) = some true
 mV:W.kitOne K (.ref t.cN) (.ref t.cN) = some true
 gS:W.kitOne K (.ref t.aU) (.ref t.aU) = some true
 kh:W.kitOne K (.ref t.bQ) (.ref t.bQ) = some true
 mW:W.kitOne K (.ref t.dD) (.ref t.dD) = some true
 jn:W.kitOne K (.ref t.bH) (.ref t.bH) = some true
 mO:W.kitOne K (.ref t.dz) (.ref t.dz) = some true
 vf:∃ u,mg "LETTERS" = some u /\ RelV (.str "abcdefghijklmnopqrstuvwxyz") u
 l8:∃ u,mg "LONGEST_NAME" = some u /\ RelV (.int 8) u
 iY:∃ u,mg "START" = some u /\ RelV (.int 0) u
 AX:∃ u,mg "SIGNS" = some u /\ RelV (.str " !\"#$&'()*+,-./0123456789:;<=>?@ABCDEFGHIJKLMNOPQRSTUVWXYZ[\\]^_`abcdefghijklmnopqrstuvwxyz{|}~") u
 pL:∃ u,mg "MOST_MODES" = some u /\ RelV (.int 12) u
 pX:∃ u,mg "MOST_RULES" = some u /\ RelV (.int 12) u
 sV:mg "PATTERNS" = some (.ref t.eG)
 uw:∀ H,fL K H t.eG [.str "word",.str "one",.str "none",.str "many",.str "any",.str "still",.str "end"]
 An:mg "DEEDS" = some (.ref t.iK)
 CY:∀ H,fL K H t.iK [.str "stay",.str "push",.str "pop",.str "into"]
 AS:mg "GOING" = some (.ref t.jk)
 Bj:∀ H,fL K H t.jk [.str "push",.str "into"]
 AE:mg "FOLDS" = some (.ref t.iC)
 DP:∀ H,fL K H t.iC [.str "open",.str "close"]
 CW:mg "all" = none
 iL:mg "enumerate" = none
 Cs:mg "int" = none
 i9:mg "isinstance" = none
 bW:mg "len" = none
 gy:mg "list" = none
 Ea:mg "max" = none
 gb:mg "range" = none
 nY:mg "reversed" = none
 sG:mg "tuple" = none
 F9:mg "zip" = none
theorem EA:∀ {us:List Value},us.length = 0 -> us = []
 | [],_=>rfl
theorem ls1:∀ {us:List Value},us.length = 1 -> ∃ a0,us = [a0]
 | [a0],_=>⟨a0,rfl⟩
theorem Gp:∀ {us:List Value},us.length = 2 -> ∃ a0 a1,us = [a0,a1]
 | [a0,a1],_=>⟨a0,a1,rfl⟩
theorem ls3:∀ {us:List Value},us.length = 3 -> ∃ a0 a1 a2,us = [a0,a1,a2]
 | [a0,a1,a2],_=>⟨a0,a1,a2,rfl⟩
theorem ls4:∀ {us:List Value},us.length = 4 -> ∃ a0 a1 a2 a3,us = [a0,a1,a2,a3]
 | [a0,a1,a2,a3],_=>⟨a0,a1,a2,a3,rfl⟩
theorem ls6:∀ {us:List Value},us.length = 6 -> ∃ a0 a1 a2 a3 a4 a5,us = [a0,a1,a2,a3,a4,a5]
 | [a0,a1,a2,a3,a4,a5],_=>⟨a0,a1,a2,a3,a4,a5,rfl⟩
section
variable {P:Program} {w:World} {K:W.Frag} {mg:Str -> Option Value} {base:Heap} {t:gq}
end
local macro_rules | `(tactic| walk_at "rd")=>`(tactic| simp only [LG,FT,tIf,F0,tB,Kh,L7,Cd,Ef,Fy,tC,L2.start,rI,FY,nW,K7,Lz,tOr,KZ,LB,LP,tUn,rU,rEq,rNe,Mp,IF,Lx,GV,JN,K3,De,Er,Gu,CP,Gg,tBM,LA,LO,ipI,F3,MT,F6,tSl,K5,Gm,zq,rJoin,uh,vX,Ct,G1,gY,Option.join_some,Option.join_none,if_true,if_false,Bool.false_eq_true,List.map_cons,List.map_nil,List.length_cons,List.length_nil,List.replicate,List.cons_append,List.nil_append,List.append_nil,List.getElem?_cons_zero,List.getElem?_cons_succ,List.set_cons_zero,List.set_cons_succ,Option.some.injEq,exists_eq_left',exists_eq_left,V.int.injEq,V.str.injEq,V.ref.injEq,V.bl.injEq,List.cons.injEq,and_true,true_and,and_assoc,exists_and_left,exists_eq,exists_const])
local macro_rules | `(tactic| walk_at "ck")=>`(tactic| exact ⟨by decide +kernel,rfl,by decide +kernel,by decide +kernel,by decide +kernel,by decide +kernel,by decide +kernel⟩)
section
variable {P:Program} {w:World} {K:PySem.W.Frag} {mg:Str -> Option Value} {base:Heap} {t:gq}
def isName (z:Str):Bool:=decide (1 <= z.length) && decide (z.length <= 8) && z.cps.toList.all λc=>decide (c ∈ (Str.ofString "abcdefghijklmnopqrstuvwxyz").cps.toList)
noncomputable def D0:Sp:=λvs H Q _=>∃ z:Str,vs = [.str z] /\ z.length <= 100000 /\ ∀ H',ak H H' -> Q (.bl (isName z)) H'
theorem IW (T:Txt K mg t):bu P w K mg base dZ 1 t.oY t.wG ["word"] D0:=by
 refine T.uQ.ok Ir ?_ ?_
 walk_at "i"
 ·obtain ⟨z,rfl,hz,q⟩:=h
  refine aB (λZ' H'=>Z' = [some (.str z)] /\ H' = H /\ 1 <= z.length /\ z.length <= 8) (bA (PW.pt (jM (aA iQ (aO br (by rfl) T.bW (by decide +kernel) (aa (pv 0) ah)) ao (aD _)) (iN (aA mG (aO br (by rfl) T.bW (by decide +kernel) (aa (pv 0) ah)) (fh rfl T.l8) (aD _))))) av av) ?_ ?_
  ·walk_at "rd"
   refine ⟨bL (by omega),eS (λh=>?_) (λh=>?_)⟩
   ·refine au (aH jq) ?_
    have:=q H (ak.refl H)
    rw [isName,decide_eq_false (by omega)] at this
    exact this
   ·refine ⟨bL (by omega),eS (λh=>?_) (λh=>bx ⟨rfl,rfl,by omega,by omega⟩)⟩
    refine au (aH jq) ?_
    have:=q H (ak.refl H)
    rw [isName,decide_eq_false (p:=z.length <= 8) (by omega),Bool.and_false] at this
    exact this
  rintro Z' H' ⟨rfl,e,h1,h2⟩
  rw [e]
  clear e H'
  refine au (aH (aO (Ak rfl) (by rfl) T.CW (by decide +kernel) (aa (eZ (sc:=aq zG) (N:=["word"]) (x:="sign") (caps:=[]) (by walk_at "ck") (Jc (pv 0)) (λ_ _ _ _=>(eu iS (pv 0) (fh rfl T.vf) rfl))) ah))) ?_
  refine ⟨_,rfl,z,rfl,D4 (λi ys H2=>H2 = H /\ ys = (z.cps.toList.take i).map λc=>V.bl (decide (c ∈ (Str.ofString "abcdefghijklmnopqrstuvwxyz").cps.toList))) ⟨rfl,rfl⟩ (cE (by omega)) ?_ ?_⟩
  ·rintro i c ys H2 hc hl ⟨rfl,rfl⟩
   have hi:i < z.length:=by
    have:=(List.getElem?_eq_some_iff.mp hc).1
    simpa [Str.length] using this
   refine ⟨_,rfl,_,_,rfl,rfl,?_⟩
   rw [PySem.StrLaws.found_one]
   refine cR hi hl ⟨rfl,?_⟩
   rw [List.take_succ,hc,List.map_append]
   rfl
  ·rintro ys H2 hl ⟨rfl,rfl⟩ D hD
   refine ⟨D,(z.cps.toList.map λc=>decide (c ∈ (Str.ofString "abcdefghijklmnopqrstuvwxyz").cps.toList)),rfl,aP.of (by rw [af,List.take_of_length_le (by simp [Str.length]),List.map_map];rfl),?_⟩
   have:=q _ (ak.upd (o:=.lst (((z.cps.toList.take z.length)).map λc=>V.bl (decide (c ∈ (Str.ofString "abcdefghijklmnopqrstuvwxyz").cps.toList)))) hD)
   rw [isName,decide_eq_true h1,decide_eq_true h2] at this
   rw [List.all_map]
   exact this
def cf (row:Int) (lw:Addr) (i:Nat):List (Str × V):=[("row",.int row),("words",.ref lw),("at",.int i)]
structure kW (t:gq) (H:Hp) (p dx lw:Addr) (row:Int) (ws:List Str) (i:Nat):Prop where
 ob:H p = some (.ins t.aV dx (cf row lw i))
 ls:H lw = some (.lst (ws.map V.str))
 sz:ws.length <= 1000 /\ ∀ w ∈ ws,w.length <= 100000
theorem kW.ne {H:Hp} {p dx lw:Addr} {row:Int} {ws:List Str} {i:Nat} (c:kW t H p dx lw row ws i):p ≠ lw:=cP c.ob c.ls (by intro z;cases z)
theorem kW.same {H H':Hp} {p dx lw:Addr} {row:Int} {ws:List Str} {i:Nat} (c:kW t H p dx lw row ws i) (s:ak H H'):kW t H' p dx lw row ws i:=⟨s _ _ c.ob,s _ _ c.ls,c.sz⟩
def pk (ws:List Str) (i:Nat):Str:=ws.getD i ""
theorem F7 {ws:List Str} {i:Nat} (h:i < ws.length):pk ws i = ws[i]:=by simp [pk,h]
theorem Gb {ws:List Str} {i:Nat} (h:ws.length <= i):pk ws i = "" := by
 unfold pk
 rw [List.getD_eq_getElem?_getD,List.getElem?_eq_none h]
 rfl
theorem kW.pkl {H:Hp} {p dx lw:Addr} {row:Int} {ws:List Str} {i:Nat} (c:kW t H p dx lw row ws i):(pk ws i).length <= 100000:=by
 by_cases h:i < ws.length
 ·rw [F7 h];exact c.sz.2 _ (List.getElem_mem h)
 ·rw [Gb (by omega)];decide
noncomputable def FJ (t:gq):Sp:=λvs H Q _=>∃ (p dx:Addr) (row:Int) (text:Str),vs = [.ref p,.int row,.str text] /\ H p = some (.ins t.aV dx []) /\ text.length <= 100000 /\ (PySem.Txt.split text ⟨#[32]⟩).length <= 1000 /\
 ∀ lw H',H lw = none -> kW t H' p dx lw row (PySem.Txt.split text ⟨#[32]⟩) 0 -> jL H H' p -> Q .cL H'
theorem KA (T:Txt K mg t):bu P w K mg base dZ 1 t.uv t.Dt ["self","row","text"] (FJ t):=by
 refine T.Fj.ok Km ?_ ?_
 walk_at "i"
 ·obtain ⟨p,dx,row,text,rfl,hp,hz,hn,q⟩:=h
  refine ay (cX (pv 0) (pv 1) rfl) ⟨_,rfl,_,rfl,p,_,dx,[],rfl,hp,T.aJ,T.g6,by decide,?_⟩
  refine ay (cX (pv 0) (dc F.plainAttrs_str F.slot_str_split F.type_str_split p7 (pv 2) (aa aN ah)) rfl) ?_
  refine ⟨_,rfl,rfl,_,_,rfl,rfl,by decide,bL (by omega),λlw hl=>⟨_,rfl,p,_,dx,[("row",.int row)],rfl,?_,T.aJ,T.eO,by show 1 < 1000;decide,?_⟩⟩
  ·rw [ai (aj af hl)];exact af
  have npl:p ≠ lw:=aj af hl
  refine au (cX (pv 0) ao rfl) ⟨_,rfl,p,_,dx,[("row",.int row),("words",.ref lw)],rfl,af,T.aJ,T.eB,by show 2 < 1000;decide,?_⟩
  have hl0:H lw = none:=by rw [ai (Ne.symm npl)] at hl;exact hl
  refine q lw _ hl0 ⟨af,?_,hn,λw hw=>Nat.le_trans (PyProof.Rows.part_short hw) hz⟩ λb o hb nb=>?_
  ·rw [ai (Ne.symm npl),ai (Ne.symm npl),af];rfl
  ·rw [ai nb,ai nb,ai (aj hb hl0),ai nb];exact hb
noncomputable def JE (t:gq):Sp:=λvs H Q _=>∃ (p dx lw:Addr) (row:Int) (ws:List Str) (i:Nat),vs = [.ref p] /\ kW t H p dx lw row ws i /\ Q (.bl (decide (i < ws.length))) H
theorem zE (T:Txt K mg t):bu P w K mg base dZ 1 t.vq t.CJ ["self"] (JE t):=by
 refine T.uL.ok Kx ?_ ?_
 walk_at "i"
 ·obtain ⟨p,dx,lw,row,ws,i,rfl,C,q⟩:=h
  refine au (aH (eu iQ (aZ (pv 0) rfl) (aO bh (by rfl) T.bW (by decide +kernel) (aa (aZ (pv 0) rfl) ah)) (aD _))) ?_
  simp only [IF,Kh,L7,Cd,Ef]
  refine EW rfl C.ob T.aJ T.eB rfl ?_
  refine EW rfl C.ob T.aJ T.eO rfl ?_
  refine ⟨_,_,rfl,.inl (aP.of C.ls),_,_,rfl,rfl,?_⟩
  rw [List.length_map]
  have e:decide ((i:Int) < (ws.length:Int)) = decide (i < ws.length):=by simp
  show Q (.bl (decide ((i:Int) < (ws.length:Int)))) H
  rw [e]
  exact q
noncomputable def J6 (t:gq):Sp:=λvs H Q _=>∃ (p dx lw:Addr) (row:Int) (ws:List Str) (i:Nat),vs = [.ref p] /\ kW t H p dx lw row ws i /\ Q (.str (pk ws i)) H
theorem oR (T:Txt K mg t):bu P w K mg base dZ 2 t.wW t.Cq ["self"] (J6 t):=by
 refine T.pZ.ok LD ?_ ?_
 walk_at "i"
 ·obtain ⟨p,dx,lw,row,ws,i,rfl,C,q⟩:=h
  refine au (aH (bZ (ji (cu (pv 0) T.aJ T.E2 (zE T) (hr.mono (by decide)) (T.uL.binds (by walk_at "1")) .nil aG)) (aK aQ (aZ (pv 0) rfl) (aZ (pv 0) rfl) (λ_ _=>rfl)) aN)) ?_
  refine ⟨_,rfl,p,dx,_,rfl,C.ob,rfl,p,dx,lw,row,ws,i,rfl,C,_,rfl,eS (λh=>?_) (λh=>?_)⟩
  ·refine EW rfl C.ob T.aJ T.eO rfl ?_
   refine EW rfl C.ob T.aJ T.eB rfl ?_
   refine ⟨_,_,_,.str (pk ws i),rfl,rfl,aP.of C.ls,aS ?_,q⟩
   rw [List.getElem?_map,List.getElem?_eq_getElem h,F7 h]
   rfl
  ·rw [Gb (by omega)] at q
   exact q
noncomputable def Lo:Sp:=λvs H Q _=>∃ p:V,vs = [p,.bl true] /\ Q .cL H
theorem rY (T:Txt K mg t):bu P w K mg base dZ 1 t.uI t.D5 ["self","good"] Lo:=by
 refine T.qA.ok Lh ?_ ?_
 walk_at "i"
 ·obtain ⟨p,rfl,q⟩:=h
  refine au (bA (sA (ji (pv 1))) av av) ⟨_,rfl,true,rfl,sq (bx q)⟩
noncomputable def Hw (t:gq):Sp:=λvs H Q _=>∃ (p dx lw:Addr) (row:Int) (ws:List Str) (i:Nat),vs = [.ref p,.bl true] /\ kW t H p dx lw row ws i /\ ∀ H',kW t H' p dx lw row ws (i + 1) -> jL H H' p -> Q (.str (pk ws i)) H'
theorem BH (T:Txt K mg t):bu P w K mg base dZ 3 t.vZ t.Bt ["self","good"] (Hw t):=by
 refine T.yG.ok FZ ?_ ?_
 walk_at "i"
 ·obtain ⟨p,dx,lw,row,ws,i,rfl,C,q⟩:=h
  refine ay (bq (cj (pv 0) T.aJ T.Aj (rY T) (hr.mono (by decide)) (T.qA.binds (by walk_at "2")) .nil aG (aa (pv 1) ah))) ⟨_,rfl,p,dx,_,rfl,C.ob,rfl,_,rfl,_,rfl,?_⟩
  refine ay (aF (i:=2) FZ.nd rfl (Or.inl rfl) (cu (pv 0) T.aJ T.xH (oR T) (hr.mono (by decide)) (T.pZ.binds (by walk_at "1")) .nil aG)) ⟨_,rfl,p,dx,_,rfl,C.ob,rfl,p,dx,lw,row,ws,i,rfl,C,?_⟩
  refine ay (A4 (pv 0) ao Hr) ⟨_,rfl,p,_,dx,_,_,rfl,C.ob,T.aJ,T.eB,rfl,?_⟩
  refine ⟨_,_,rfl,rfl,dx,_,C.ob,by show 3 < 1000;decide,?_⟩
  refine au (aH (pv 2)) ⟨_,rfl,?_⟩
  have C':kW t (upd H p (.ins t.aV dx (cf row lw (i + 1)))) p dx lw row ws (i + 1):=⟨af,by rw [ai (Ne.symm C.ne)];exact C.ls,C.sz⟩
  exact q _ C' jL.upd
noncomputable def CU (K:PySem.W.Frag) (t:gq):Sp:=λvs H Q _=>∃ (p dx lw c:Addr) (cs:List Str) (row:Int) (ws:List Str) (i:Nat),vs = [.ref p,.ref c] /\ kW t H p dx lw row ws i /\ fL K H c (cs.map V.str) /\ pk ws i ∈ cs /\ ∀ H',kW t H' p dx lw row ws (i + 1) -> jL H H' p -> Q (.str (pk ws i)) H'
theorem jF {x:Str} {cs:List Str}:FG (.str x) (cs.map V.str) = decide (x ∈ cs):=by
 unfold FG
 rw [List.any_map,Bool.eq_iff_iff,List.any_eq_true,decide_eq_true_eq]
 constructor
 ·rintro ⟨y,hy,e⟩
  have:(y == x) = true:=e
  rw [← eq_of_beq this];exact hy
 ·intro h
  exact ⟨x,h,by show (x == x) = true;simp⟩
theorem rV {cs:List Str}:(cs.map V.str).all gv = true:=by
 rw [List.all_map,List.all_eq_true]
 intro _ _
 rfl
theorem zJ (T:Txt K mg t):bu P w K mg base dZ 4 t.wc t.Ds ["self","words"] (CU K t):=by
 refine T.xy.ok KH ?_ ?_
 walk_at "i"
 ·obtain ⟨p,dx,lw,c,cs,row,ws,i,rfl,C,hc,hin,q⟩:=h
  refine au (aH (cj (pv 0) T.aJ T.Iu (BH T) (hr.mono (by decide)) (T.yG.binds (by walk_at "2")) .nil aG (aa (eu fP (cu (pv 0) T.aJ T.xH (oR T) (hr.mono (by decide)) (T.pZ.binds (by walk_at "1")) .nil aG) (pv 1) rfl) ah))) ?_
  refine ⟨_,rfl,p,dx,_,rfl,C.ob,rfl,?_⟩
  refine ⟨_,rfl,p,dx,_,rfl,C.ob,rfl,p,dx,lw,row,ws,i,rfl,C,_,rfl,_,_,rfl,.inr hc,rfl,rV,?_⟩
  rw [jF,decide_eq_true hin]
  exact ⟨p,dx,lw,row,ws,i,rfl,C,q⟩
noncomputable def IX (t:gq):Sp:=λvs H Q _=>∃ (p dx lw:Addr) (row:Int) (ws:List Str) (i:Nat),vs = [.ref p] /\ kW t H p dx lw row ws i /\ isName (pk ws i) = true /\ ∀ H',kW t H' p dx lw row ws (i + 1) -> jL H H' p -> Q (.str (pk ws i)) H'
theorem zF (T:Txt K mg t):bu P w K mg base dZ 4 t.vm t.Dz ["self"] (IX t):=by
 refine T.v9.ok K1 ?_ ?_
 walk_at "i"
 ·obtain ⟨p,dx,lw,row,ws,i,rfl,C,hin,q⟩:=h
  refine au (aH (cj (pv 0) T.aJ T.Iu (BH T) (hr.mono (by decide)) (T.yG.binds (by walk_at "2")) .nil aG (aa (aM (IW T) (hr.mono (by decide)) rfl T.GN T.uQ.kp (T.uQ.binds (by walk_at "1")) .nil aG (aa (cu (pv 0) T.aJ T.xH (oR T) (hr.mono (by decide)) (T.pZ.binds (by walk_at "1")) .nil aG) ah)) ah))) ?_
  refine ⟨_,rfl,p,dx,_,rfl,C.ob,rfl,?_⟩
  refine ⟨_,rfl,p,dx,_,rfl,C.ob,rfl,p,dx,lw,row,ws,i,rfl,C,pk ws i,rfl,C.pkl,λH1 s1=>?_⟩
  rw [hin]
  exact ⟨p,dx,lw,row,ws,i,rfl,C.same s1,λH2 C2 a2=>q H2 C2 (s1.EO a2)⟩
def gz (z:Str):Str:="'" ++ PySem.Txt.replace z " " "_"
theorem gx (z:Str):(gz z).cps.toList = 39 :: j9 32 95 z.cps.toList:=by
 unfold gz
 rw [fY,show ((" " : Str)) = ⟨#[32]⟩ from by decide +kernel,show (("_" : Str)) = ⟨#[95]⟩ from by decide +kernel,jJ]
 rfl
noncomputable def EK (t:gq):Sp:=λvs H Q _=>∃ (p dx lw:Addr) (row:Int) (ws:List Str) (i:Nat) (z:Str),vs = [.ref p] /\ kW t H p dx lw row ws i /\ pk ws i = gz z /\ 1 <= z.length /\ z.length <= 1000 /\ 95 ∉ z.cps.toList /\ ∀ H',kW t H' p dx lw row ws (i + 1) -> jL H H' p -> Q (.str z) H'
theorem G4 {w:Str} (h:1 <= w.length):(PySem.Txt.slice w (some 1) none).cps.toList = w.cps.toList.drop 1:=by
 rw [PyProof.Rows.slice_from_eq (b:=(w.length:Int)) (by decide) (by omega) rfl]
 show (w.cps.toList.drop 1).take _ = _
 refine List.take_of_length_le ?_
 rw [List.length_drop,Array.length_toList]
 show w.length - 1 <= _
 omega
theorem Ku (T:Txt K mg t):bu P w K mg base dZ 4 t.t7 t.Bk ["self"] (EK t):=by
 refine T.Eo.ok Gr ?_ ?_
 walk_at "i"
 ·obtain ⟨p,dx,lw,row,ws,i,z,rfl,C,hw,hz1,hz2,hz3,q⟩:=h
  have hlen:(gz z).length = z.length + 1:=by
   have:=congrArg List.length (gx z)
   simpa [Str.length,j9] using this
  refine ay (aF (i:=1) Gr.nd rfl (Or.inl rfl) (cu (pv 0) T.aJ T.xH (oR T) (hr.mono (by decide)) (T.pZ.binds (by walk_at "1")) .nil aG)) ⟨_,rfl,p,dx,_,rfl,C.ob,rfl,p,dx,lw,row,ws,i,rfl,C,?_⟩
  rw [hw]
  refine ay (bq (cj (pv 0) T.aJ T.Iu (BH T) (hr.mono (by decide)) (T.yG.binds (by walk_at "2")) .nil aG (aa (yT (eu mG (aO br (by rfl) T.bW (by decide +kernel) (aa (pv 1) ah)) ao (aD _)) (yR (dc F.plainAttrs_str F.slot_str_startswith F.type_str_startswith yS (pv 1) (aa aN ah)))) ah))) ?_
  refine ⟨_,rfl,p,dx,_,rfl,C.ob,rfl,?_⟩
  refine ⟨_,rfl,_,rfl,bL (by omega),_,_,rfl,rfl,_,rfl,?_⟩
  rw [decide_eq_true (by omega),if_pos rfl]
  refine ⟨_,rfl,rfl,_,_,rfl,rfl,?_⟩
  have hst:(decide (0 + ("'" : Str).length <= (gz z).length) && Builtin.Str.subAt (gz z) "'" 0) = true:=by
   have e1:("'" : Str).length = 1:=by decide +kernel
   rw [Bool.and_eq_true,decide_eq_true_eq,e1]
   refine ⟨by omega,?_⟩
   unfold Builtin.Str.subAt
   rw [beq_iff_eq,← Array.toList_inj,e1]
   have e2:=gx z
   simp only [Array.toList_extract,List.extract_eq_take_drop,e2]
   rfl
  rw [hst]
  refine ⟨p,dx,lw,row,ws,i,rfl,C,λH1 C1 a1=>?_⟩
  refine au (aH (xA (by decide +kernel) (pv 1))) ⟨_,rfl,_,rfl,bL (by omega),_,rfl,?_,?_⟩
  ·have h1:(PySem.Txt.slice (gz z) (some 1) none).length <= 1001:=Nat.le_trans (PySem.Txt.slice_le _ _ _) (by omega)
   have h2:(" " : Str).length = 1:=by decide +kernel
   rw [h2]
   omega
  ·have e:PySem.Txt.replace (PySem.Txt.slice (gz z) (some 1) none) "_" " " = z:=by
    refine j7 ?_
    rw [show ((" " : Str)) = ⟨#[32]⟩ from by decide +kernel,show (("_" : Str)) = ⟨#[95]⟩ from by decide +kernel,jJ,G4 (by omega),gx]
    exact AW hz3
   rw [e]
   exact q H1 C1 a1
end
local macro_rules | `(tactic| walk_at "u")=>`(tactic| first | rfl | decide | exact Or.inl rfl | exact Or.inr rfl | exact Or.inr (Or.inl rfl) | exact Or.inr (Or.inr rfl) | assumption | (intro _;rfl) | exact tS _ (by decide) (by decide))
section
variable {P:Program} {w:World} {K:PySem.W.Frag} {mg:Str -> Option Value} {base:Heap} {t:gq}
def gQ (sg:List Nat):List Nat -> Nat
 | []=>0
 | c :: r=>if c ∈ sg then 1 + gQ sg r else 0
def cF (sort signs row:Str) (i:Nat):V :=
 if sort = "end" then (if i = row.length then .int 0 else .cL)
 else if sort = "word" then (if (row.cps.toList.drop i).take signs.length = signs.cps.toList then .int signs.length else .cL)
 else match row.cps.toList[i]? with
  | none=>.cL
  | some c =>
   if sort = "any" ∨ sort = "still" then .int (if sort = "any" then 1 else 0)
   else if sort = "none" then (if c ∈ signs.cps.toList then .cL else .int 1)
   else if c ∈ signs.cps.toList then .int (if sort = "many" then 1 + gQ signs.cps.toList (row.cps.toList.drop (i + 1)) else 1) else .cL
theorem getL {row:Str} {i:Nat}:row.cps.toList.length = row.length:=by simp [Str.length]
theorem strAt {row:Str} {i:Int} (h0:0 <= i) (h1:i < row.length):∃ c,row.cps.toList[i.toNat]? = some c /\ qv row.cps.toList i = some c:=xD _ h0 (by rw [getL (i:=0)];exact h1)
noncomputable def ny (C:Addr) (fl:Str -> List (Str × V)) (sort:Str):Sp:=λvs H Q _=>∃ (p dx:Addr) (signs row:Str) (i:Nat),vs = [.ref p,.str row,.int i] /\ H p = some (.ins C dx (fl signs)) /\ signs.length <= 1000 /\ row.length <= 1000 /\ i <= row.length /\ Q (cF sort signs row i) H
noncomputable def kJ (b:Bool):Sp:=λvs H Q _=>∃ p:V,vs = [p] /\ Q (.bl b) H
noncomputable def tH (C:Addr) (f:Str):Sp:=λvs H Q _=>∃ (p dx:Addr) (z:Str),vs = [.ref p,.str z] /\ H p = some (.ins C dx []) /\ Q .cL (upd H p (.ins C dx [(f,.str z)]))
theorem Jj (T:Txt K mg t):bu P w K mg base dZ 1 t.nu t.uO ["self","text"] (tH t.bT "wanted"):=by
 refine T.z9.ok Il ?_ ?_
 walk_at "i"
 ·obtain ⟨p,dx,z,rfl,hp,q⟩:=h
  refine @au _ _ _ _ _ _ (cX (pv 0) (pv 1) rfl) ?_
  exact ⟨_,rfl,_,rfl,p,_,dx,[],rfl,hp,T.nL,T.fm,by decide,q⟩
theorem IL (T:Txt K mg t):bu P w K mg base dZ 1 t.mZ t.tU ["self","signs"] (tH t.cN "signs"):=by
 refine T.zB.ok Js ?_ ?_
 walk_at "i"
 ·obtain ⟨p,dx,z,rfl,hp,q⟩:=h
  refine @au _ _ _ _ _ _ (cX (pv 0) (pv 1) rfl) ?_
  exact ⟨_,rfl,_,rfl,p,_,dx,[],rfl,hp,T.yb,T.iE,by decide,q⟩
theorem GA (T:Txt K mg t):bu P w K mg base dZ 1 t.nj t.wZ ["self","signs"] (tH t.aU "signs"):=by
 refine T.zu.ok IV ?_ ?_
 walk_at "i"
 ·obtain ⟨p,dx,z,rfl,hp,q⟩:=h
  refine @au _ _ _ _ _ _ (cX (pv 0) (pv 1) rfl) ?_
  exact ⟨_,rfl,_,rfl,p,_,dx,[],rfl,hp,T.kC,T.fG,by decide,q⟩
theorem Ij (T:Txt K mg t):bu P w K mg base dZ 1 t.nq t.wQ ["self","signs"] (tH t.bQ "signs"):=by
 refine T.z5.ok JB ?_ ?_
 walk_at "i"
 ·obtain ⟨p,dx,z,rfl,hp,q⟩:=h
  refine @au _ _ _ _ _ _ (cX (pv 0) (pv 1) rfl) ?_
  exact ⟨_,rfl,_,rfl,p,_,dx,[],rfl,hp,T.sQ,T.g8,by decide,q⟩
theorem Eh (T:Txt K mg t):bu P w K mg base dZ 1 t.i0 t.pQ ["self"] (kJ false):=by
 refine T.qd.ok HD ?_ ?_
 walk_at "i"
 ·obtain ⟨p,rfl,q⟩:=h
  exact @au _ _ _ _ _ _ (aH jq) q
theorem HF (T:Txt K mg t):bu P w K mg base dZ 1 t.lM t.qM ["self"] (kJ true):=by
 refine T.u9.ok J7 ?_ ?_
 walk_at "i"
 ·obtain ⟨p,rfl,q⟩:=h
  exact @au _ _ _ _ _ _ (aH jq) q
theorem HA (T:Txt K mg t):bu P w K mg base dZ 1 t.lJ t.rR ["self"] (kJ true):=by
 refine T.u0.ok Jb ?_ ?_
 walk_at "i"
 ·obtain ⟨p,rfl,q⟩:=h
  exact @au _ _ _ _ _ _ (aH jq) q
theorem JK (T:Txt K mg t):bu P w K mg base dZ 1 t.lO t.qG ["self"] (kJ true):=by
 refine T.uC.ok Hg ?_ ?_
 walk_at "i"
 ·obtain ⟨p,rfl,q⟩:=h
  exact @au _ _ _ _ _ _ (aH jq) q
theorem Ie (T:Txt K mg t):bu P w K mg base dZ 1 t.lA t.rq ["self"] (kJ true):=by
 refine T.xu.ok JA ?_ ?_
 walk_at "i"
 ·obtain ⟨p,rfl,q⟩:=h
  exact @au _ _ _ _ _ _ (aH jq) q
theorem LS (T:Txt K mg t):bu P w K mg base dZ 1 t.sS t.AA ["self"] (kJ true):=by
 refine T.CM.ok KR ?_ ?_
 walk_at "i"
 ·obtain ⟨p,rfl,q⟩:=h
  exact @au _ _ _ _ _ _ (aH jq) q
theorem AY {row sg:Str} {i:Nat} (hi:i <= row.length):(decide (fromIndex row.length (i:Int) + sg.length <= row.length) && Builtin.Str.subAt row sg (fromIndex row.length (i:Int))) = decide ((row.cps.toList.drop i).take sg.length = sg.cps.toList):=by
 have e:fromIndex row.length (i:Int) = i:=by unfold fromIndex;rw [if_neg (by omega)];omega
 rw [e]
 have e2:Builtin.Str.subAt row sg i = decide ((row.cps.toList.drop i).take sg.length = sg.cps.toList):=by
  unfold Builtin.Str.subAt
  rw [Bool.eq_iff_iff,beq_iff_eq,decide_eq_true_eq]
  rw [← Array.toList_inj]
  simp [Array.toList_extract,List.extract_eq_take_drop]
 rw [e2,Bool.eq_iff_iff,Bool.and_eq_true,decide_eq_true_eq,decide_eq_true_eq]
 refine ⟨λz=>z.2,λz=>⟨?_,z⟩⟩
 have:=congrArg List.length z
 rw [List.length_take,List.length_drop,getL (i:=0),getL (i:=0)] at this
 omega
theorem HX (T:Txt K mg t):bu P w K mg base dZ 1 t.lS t.rG ["self","row","at"] (ny t.bT (λz=>[("wanted",.str z)]) "word"):=by
 refine T.vN.ok Hs ?_ ?_
 walk_at "i"
 ·obtain ⟨p,dx,sg,row,i,rfl,hp,hs,hw,hi,q⟩:=h
  refine @au _ _ _ _ _ _ (aH (bZ (ji (dc F.plainAttrs_str F.slot_str_startswith F.type_str_startswith yc (pv 1) (aa (aZ (pv 0) rfl) (aa (pv 2) ah)))) (aO br (by rfl) T.bW (by decide +kernel) (aa (aZ (pv 0) rfl) ah)) cy)) ?_
  rw [cF,if_neg (by decide),if_pos rfl] at q
  refine ⟨_,rfl,rfl,_,rfl,p,_,dx,_,_,rfl,hp,T.nL,T.fm,rfl,_,rfl,_,_,_,rfl,rfl,_,rfl,?_⟩
  rw [AY hi]
  refine eS (λh=>?_) (λh=>?_)
  ·rw [if_pos h] at q
   exact ⟨_,rfl,p,_,dx,_,_,rfl,hp,T.nL,T.fm,rfl,_,rfl,bL (by omega),q⟩
  ·rw [if_neg h] at q
   exact q
theorem dJ {sort sg row:Str} {i c:Nat} (h1:sort ≠ "end") (h2:sort ≠ "word") (e:row.cps.toList[i]? = some c):cF sort sg row i = if sort = "any" ∨ sort = "still" then .int (if sort = "any" then 1 else 0)
   else if sort = "none" then (if c ∈ sg.cps.toList then .cL else .int 1)
   else if c ∈ sg.cps.toList then .int (if sort = "many" then 1 + gQ sg.cps.toList (row.cps.toList.drop (i + 1)) else 1) else .cL:=by
 rw [cF,if_neg h1,if_neg h2,e]
theorem gB {sort sg row:Str} {i:Nat} (h1:sort ≠ "end") (h2:sort ≠ "word") (h:row.length <= i):cF sort sg row i = .cL:=by
 rw [cF,if_neg h1,if_neg h2,List.getElem?_eq_none (by rw [getL (i:=0)];exact h)]
theorem G6 (T:Txt K mg t):bu P w K mg base dZ 1 t.lN t.qD ["self","row","at"] (ny t.cN (λz=>[("signs",.str z)]) "one"):=by
 refine T.u5.ok HN ?_ ?_
 walk_at "i"
 ·obtain ⟨p,dx,sg,row,i,rfl,hp,hs,hw,hi,q⟩:=h
  refine @au _ _ _ _ _ _ (aH (bZ (PW.pt (gw (aA iQ (pv 2) (aO br (by rfl) T.bW (by decide +kernel) (aa (pv 1) ah)) (aD _)) (gi (aA iS (aK kM (pv 1) (pv 2) (λ_ _=>rfl)) (aZ (pv 0) rfl) rfl)))) ao cy)) ?_
  walk_at "rd"
  refine ⟨bL (by omega),eS (λh=>?_) (λh=>?_)⟩
  ·obtain ⟨c,e1,e2⟩:=strAt (row:=row) (i:=(i:Int)) (by omega) h
   rw [Int.toNat_natCast] at e1
   refine ⟨bL (by omega),c,e2,⟨_,rfl,_,_,_,_,_,rfl,hp,T.yb,T.iE,rfl,⟨sg,rfl,?_⟩⟩⟩
   rw [PySem.StrLaws.found_one]
   rw [dJ (by decide) (by decide) e1,if_neg (by decide),if_neg (by decide)] at q
   refine eS (λh=>?_) (λh=>?_)
   ·rw [if_pos h,if_neg (by decide)] at q
    exact q
   ·rw [if_neg h] at q
    exact q
  ·rw [gB (by decide) (by decide) (by omega)] at q
   exact q
theorem JC (T:Txt K mg t):bu P w K mg base dZ 1 t.lz t.qX ["self","row","at"] (ny t.aU (λz=>[("signs",.str z)]) "none"):=by
 refine T.vn.ok JJ ?_ ?_
 walk_at "i"
 ·obtain ⟨p,dx,sg,row,i,rfl,hp,hs,hw,hi,q⟩:=h
  refine @au _ _ _ _ _ _ (aH (bZ (PW.pt (gw (aA iQ (pv 2) (aO br (by rfl) T.bW (by decide +kernel) (aa (pv 1) ah)) (aD _)) (gi (aA sL (aK kM (pv 1) (pv 2) (λ_ _=>rfl)) (aZ (pv 0) rfl) rfl)))) ao cy)) ?_
  walk_at "rd"
  refine ⟨bL (by omega),eS (λh=>?_) (λh=>?_)⟩
  ·obtain ⟨c,e1,e2⟩:=strAt (row:=row) (i:=(i:Int)) (by omega) h
   rw [Int.toNat_natCast] at e1
   refine ⟨bL (by omega),c,e2,⟨_,rfl,_,_,_,_,_,rfl,hp,T.kC,T.fG,rfl,⟨sg,rfl,?_⟩⟩⟩
   rw [PySem.StrLaws.found_one]
   rw [dJ (by decide) (by decide) e1,if_neg (by decide),if_pos rfl] at q
   refine iX (λh=>?_) (λh=>?_)
   ·rw [if_neg h] at q
    exact q
   ·rw [if_pos h] at q
    exact q
  ·rw [gB (by decide) (by decide) (by omega)] at q
   exact q
theorem Kq (T:Txt K mg t):bu P w K mg base dZ 1 t.sF t.AZ ["self","row","at"] (ny t.dD (λz=>[]) "any"):=by
 refine T.DO.ok LK ?_ ?_
 walk_at "i"
 ·obtain ⟨p,dx,sg,row,i,rfl,hp,hs,hw,hi,q⟩:=h
  refine @au _ _ _ _ _ _ (aH (bZ (aA iQ (pv 2) (aO br (by rfl) T.bW (by decide +kernel) (aa (pv 1) ah)) (aD _)) ao cy)) ?_
  walk_at "rd"
  refine ⟨bL (by omega),eS (λh=>?_) (λh=>?_)⟩
  ·obtain ⟨c,e1,e2⟩:=strAt (row:=row) (i:=(i:Int)) (by omega) h
   rw [Int.toNat_natCast] at e1
   rw [dJ (by decide) (by decide) e1,if_pos (by decide),if_pos rfl] at q
   exact q
  ·rw [gB (by decide) (by decide) (by omega)] at q
   exact q
theorem HE (T:Txt K mg t):bu P w K mg base dZ 1 t.lu t.qE ["self","row","at"] (ny t.bH (λz=>[]) "still"):=by
 refine T.uJ.ok GZ ?_ ?_
 walk_at "i"
 ·obtain ⟨p,dx,sg,row,i,rfl,hp,hs,hw,hi,q⟩:=h
  refine @au _ _ _ _ _ _ (aH (bZ (aA iQ (pv 2) (aO br (by rfl) T.bW (by decide +kernel) (aa (pv 1) ah)) (aD _)) ao cy)) ?_
  walk_at "rd"
  refine ⟨bL (by omega),eS (λh=>?_) (λh=>?_)⟩
  ·obtain ⟨c,e1,e2⟩:=strAt (row:=row) (i:=(i:Int)) (by omega) h
   rw [Int.toNat_natCast] at e1
   rw [dJ (by decide) (by decide) e1,if_pos (by decide),if_neg (by decide)] at q
   exact q
  ·rw [gB (by decide) (by decide) (by omega)] at q
   exact q
theorem Ia (T:Txt K mg t):bu P w K mg base dZ 1 t.lH t.qK ["self","row","at"] (ny t.dz (λz=>[]) "end"):=by
 refine T.vF.ok Jm ?_ ?_
 walk_at "i"
 ·obtain ⟨p,dx,sg,row,i,rfl,hp,hs,hw,hi,q⟩:=h
  refine @au _ _ _ _ _ _ (aH (bZ (aA cO (pv 2) (aO br (by rfl) T.bW (by decide +kernel) (aa (pv 1) ah)) (aD _)) ao cy)) ?_
  walk_at "rd"
  rw [cF,if_pos rfl] at q
  refine ⟨bL (by omega),rfl,eS (λh=>?_) (λh=>?_)⟩
  ·rw [if_pos (by omega)] at q
   exact q
  ·rw [if_neg (by omega)] at q
   exact q
theorem jw {sg l:List Nat} {j c:Nat} (e:l[j]? = some c):gQ sg (l.drop j) = if c ∈ sg then 1 + gQ sg (l.drop (j + 1)) else 0:=by
 have hdrop:l.drop j = c :: l.drop (j + 1):=by
  rw [List.drop_eq_getElem?_toList_append,e];rfl
 rw [hdrop,gQ]
theorem JL (T:Txt K mg t):bu P w K mg base dZ 1 t.lP t.qW ["self","row","at"] (ny t.bQ (λz=>[("signs",.str z)]) "many"):=by
 refine T.uM.ok yt ?_ ?_
 walk_at "i"
 ·obtain ⟨p,dx,sg,row,i,rfl,hp,hs,hw,hi,q⟩:=h
  have q':Q (if 0 < gQ sg.cps.toList (row.cps.toList.drop i) then .int (gQ sg.cps.toList (row.cps.toList.drop i)) else .cL) H:=by
   by_cases h:i < row.length
   ·obtain ⟨c,e1,e2⟩:=strAt (row:=row) (i:=(i:Int)) (by omega) (by omega)
    rw [Int.toNat_natCast] at e1
    rw [dJ (by decide) (by decide) e1,if_neg (by decide),if_neg (by decide),if_pos rfl] at q
    rw [jw e1]
    by_cases h2:c ∈ sg.cps.toList
    ·rw [if_pos h2] at q ⊢
     rw [if_pos (by omega)]
     exact q
    ·rw [if_neg h2] at q ⊢
     exact q
   ·rw [gB (by decide) (by decide) (by omega)] at q
    have:row.cps.toList.drop i = []:=List.drop_eq_nil_of_le (by rw [getL (i:=0)];omega)
    rw [this]
    exact q
  refine @ay _ _ _ _ _ _ _ (aF (i:=3) yt.nd rfl (Or.inl rfl) (pv 2)) ?_
  walk_at "rd"
  refine aB (λZ' H'=>H' = H /\ Z' = [some (.ref p),some (.str row),some (.int i),some (.int ((i:Int) + gQ sg.cps.toList (row.cps.toList.drop i)))]) (ly PassesOwn.never (PW.pt (gw (aA iQ (pv 3) (aO br (by rfl) T.bW (by decide +kernel) (aa (pv 1) ah)) (aD _)) (gi (aA iS (aK kM (pv 1) (pv 3) (λ_ _=>rfl)) (aZ (pv 0) rfl) rfl)))) av) ?_ ?_
  ·refine ⟨λm Z' H'=>∃ j:Nat,Z' = [some (.ref p),some (.str row),some (.int i),some (.int (j:Int))] /\ H' = H /\ j <= row.length /\ m = row.length - j /\ i + gQ sg.cps.toList (row.cps.toList.drop i) = j + gQ sg.cps.toList (row.cps.toList.drop j),⟨_,i,rfl,rfl,hi,rfl,rfl⟩,?_⟩
   rintro m Z' H' ⟨j,rfl,e,hj,rfl,hr⟩
   rw [e]
   clear e H'
   walk_at "rd"
   refine ⟨bL (by omega),eS (λh=>?_) (λh=>?_)⟩
   ·obtain ⟨c,e1,e2⟩:=strAt (row:=row) (i:=(j:Int)) (by omega) h
    rw [Int.toNat_natCast] at e1
    rw [jw (j:=j) e1] at hr
    refine ⟨bL (by omega),c,e2,⟨_,rfl,_,_,_,_,_,rfl,hp,T.sQ,T.g8,rfl,⟨sg,rfl,?_⟩⟩⟩
    rw [PySem.StrLaws.found_one]
    refine eS (λh2=>?_) (λh2=>?_)
    ·rw [if_pos h2] at hr
     refine ⟨_,λZ' H' z=>z,@au _ _ _ _ _ _ (Jw (i:=3) yt.nd rfl (Or.inl rfl) ao G7) ?_⟩
     walk_at "rd"
     exact ⟨row.length - (j + 1),by omega,j + 1,by simp,by omega,rfl,by omega⟩
    ·rw [if_neg h2] at hr
     refine ⟨rfl,?_⟩
     rw [show (i:Int) + (gQ sg.cps.toList (row.cps.toList.drop i):Nat) = (j:Int) by omega]
   ·have:row.cps.toList.drop j = []:=List.drop_eq_nil_of_le (by rw [getL (i:=0)];omega)
    rw [this,gQ] at hr
    omega
  rintro Z' H' ⟨e,rfl⟩
  rw [e]
  clear e H'
  refine @au _ _ _ _ _ _ (aH (bZ (aA mG (pv 3) (pv 2) (aD _)) (bz C9 (pv 3) (pv 2)) cy)) ?_
  walk_at "rd"
  refine eS (λh=>?_) (λh=>?_)
  ·rw [if_pos (by omega)] at q'
   rw [show (i:Int) + (gQ sg.cps.toList (row.cps.toList.drop i):Nat) - i = gQ sg.cps.toList (row.cps.toList.drop i) by omega]
   exact q'
  ·rw [if_neg (by omega)] at q'
   exact q'
theorem kE (sort sg row:Str) (i:Nat):(∃ n:Int,cF sort sg row i = .int n) ∨ cF sort sg row i = .cL:=by
 unfold cF
 repeat' split
 all_goals first | exact .inl ⟨_,rfl⟩ | exact .inr rfl
def bJ (sort:Str):Bool:=!decide (sort = "still" ∨ sort = "end")
structure vj (P:Program) (w:World) (K:PySem.W.Frag) (mg:Str -> Option Value) (base:Heap) (C fe fs:Addr) (de ds:FuncData) (sort:Str) (fl:Str -> List (Str × V)):Prop where
 cl:nB K C
 me:Meth K C "eaten" fe
 ms:Meth K C "eats" fs
 ne:∀ z,(fl z).lookup ("eaten" : Str) = none
 ns:∀ z,(fl z).lookup ("eats" : Str) = none
 ge:bu P w K mg base dZ 1 fe de ["self","row","at"] (ny C fl sort)
 be:Binds K de ["self","row","at"] []
 gs:bu P w K mg base dZ 1 fs ds ["self"] (kJ (bJ sort))
 bs:Binds K ds ["self"] []
 ty:PySem.W.findIn K (.ref C) "__class__" = some (some (.builtin "object.__class__"))
 mr:PySem.W.mroIn K C (.type "object") = some true
theorem EZ (T:Txt K mg t):vj P w K mg base t.bT t.lS t.lM t.rG t.qM "word" (λz=>[("wanted",.str z)]) :=
 ⟨T.nL,T.Lc,T.K6,λ_=>by rfl,λ_=>by rfl,HX T,T.vN.binds (by walk_at "3"),by rw [show bJ "word" = true by decide +kernel];exact HF T,T.u9.binds (by walk_at "1"),T.sU,T.tE⟩
theorem HZ (T:Txt K mg t):vj P w K mg base t.cN t.lN t.lJ t.qD t.rR "one" (λz=>[("signs",.str z)]) :=
 ⟨T.yb,T.Lg,T.Lk,λ_=>by rfl,λ_=>by rfl,G6 T,T.u5.binds (by walk_at "3"),by rw [show bJ "one" = true by decide +kernel];exact HA T,T.u0.binds (by walk_at "1"),T.xW,T.yX⟩
theorem yq (T:Txt K mg t):vj P w K mg base t.aU t.lz t.lO t.qX t.qG "none" (λz=>[("signs",.str z)]) :=
 ⟨T.kC,T.Ld,T.KW,λ_=>by rfl,λ_=>by rfl,JC T,T.vn.binds (by walk_at "3"),by rw [show bJ "none" = true by decide +kernel];exact JK T,T.uC.binds (by walk_at "1"),T.kI,T.kF⟩
theorem FE (T:Txt K mg t):vj P w K mg base t.bQ t.lP t.lA t.qW t.rq "many" (λz=>[("signs",.str z)]) :=
 ⟨T.sQ,T.KS,T.Ll,λ_=>by rfl,λ_=>by rfl,JL T,T.uM.binds (by walk_at "3"),by rw [show bJ "many" = true by decide +kernel];exact Ie T,T.xu.binds (by walk_at "1"),T.sX,T.sM⟩
theorem HJ (T:Txt K mg t):vj P w K mg base t.dD t.sF t.sS t.AZ t.AA "any" (λz=>[]) :=
 ⟨T.Jl,T.Mg,T.MF,λ_=>by rfl,λ_=>by rfl,Kq T,T.DO.binds (by walk_at "3"),by rw [show bJ "any" = true by decide +kernel];exact LS T,T.CM.binds (by walk_at "1"),T.yd,T.xT⟩
theorem Dc (T:Txt K mg t):vj P w K mg base t.bH t.lu t.i0 t.qE t.pQ "still" (λz=>[]) :=
 ⟨T.Bl,T.LC,T.tG,λ_=>by rfl,λ_=>by rfl,HE T,T.uJ.binds (by walk_at "3"),by rw [show bJ "still" = false by decide +kernel];exact Eh T,T.qd.binds (by walk_at "1"),T.oA,T.pA⟩
theorem G5 (T:Txt K mg t):vj P w K mg base t.dz t.lH t.i0 t.qK t.pQ "end" (λz=>[]) :=
 ⟨T.HH,T.K9,T.xU,λ_=>by rfl,λ_=>by rfl,Ia T,T.vF.binds (by walk_at "3"),by rw [show bJ "end" = false by decide +kernel];exact Eh T,T.qd.binds (by walk_at "1"),T.yP,T.yi⟩
structure bw where
 sort:Str
 signs:Str
 bC:Str
 aI:Str
 goal:Option Nat
 fold:Str
structure aC where
 name:Str
 bC:Str
 rules:List bw
abbrev sorts:List Str:=["word","one","none","many","any","still","end"]
abbrev bare (s:Str):Prop:=s = "any" ∨ s = "still" ∨ s = "end"
def gU (t:gq) (s:Str):Addr:=if s = "any" then t.dD else if s = "still" then t.bH else if s = "end" then t.dz else if s = "word" then t.bT else if s = "one" then t.cN else if s = "none" then t.aU else t.bQ
def mh (s z:Str):List (Str × V):=if bare s then [] else if s = "word" then [("wanted",.str z)] else [("signs",.str z)]
theorem z6:gU t "any" = t.dD:=by rw [gU,if_pos rfl]
theorem qY:gU t "still" = t.bH:=by rw [gU,if_neg (by decide),if_pos rfl]
theorem zL:gU t "end" = t.dz:=by rw [gU,if_neg (by decide),if_neg (by decide),if_pos rfl]
theorem vd:gU t "word" = t.bT:=by rw [gU,if_neg (by decide),if_neg (by decide),if_neg (by decide),if_pos rfl]
theorem zA:gU t "one" = t.cN:=by rw [gU,if_neg (by decide),if_neg (by decide),if_neg (by decide),if_neg (by decide),if_pos rfl]
theorem uu:gU t "none" = t.aU:=by rw [gU,if_neg (by decide),if_neg (by decide),if_neg (by decide),if_neg (by decide),if_neg (by decide),if_pos rfl]
theorem vG:gU t "many" = t.bQ:=by rw [gU,if_neg (by decide),if_neg (by decide),if_neg (by decide),if_neg (by decide),if_neg (by decide),if_neg (by decide)]
theorem BF:mh "any" = λ_=>[]:=by funext z;rw [mh,if_pos (by decide)]
theorem um:mh "still" = λ_=>[]:=by funext z;rw [mh,if_pos (by decide)]
theorem Dd:mh "end" = λ_=>[]:=by funext z;rw [mh,if_pos (by decide)]
theorem zW:mh "word" = λz=>([("wanted",.str z)]:List (Str × V)):=by funext z;rw [mh,if_neg (by decide),if_pos rfl]
theorem rS {s:Str} (h:¬ bare s) (h2:s ≠ "word"):mh s = λz=>([("signs",.str z)]:List (Str × V)):=by funext z;rw [mh,if_neg h,if_neg h2]
theorem dw {s:Str} (h:s ∈ sorts):s = "word" ∨ s = "one" ∨ s = "none" ∨ s = "many" ∨ s = "any" ∨ s = "still" ∨ s = "end" := by simpa using h
theorem E4 (T:Txt K mg t) {s:Str} (h:s ∈ sorts):∃ fe fs de ds,vj P w K mg base (gU t s) fe fs de ds s (mh s):=by
 rcases dw h with rfl | rfl | rfl | rfl | rfl | rfl | rfl
 ·rw [vd,zW];exact ⟨_,_,_,_,EZ T⟩
 ·rw [zA,rS (by decide) (by decide)];exact ⟨_,_,_,_,HZ T⟩
 ·rw [uu,rS (by decide) (by decide)];exact ⟨_,_,_,_,yq T⟩
 ·rw [vG,rS (by decide) (by decide)];exact ⟨_,_,_,_,FE T⟩
 ·rw [z6,BF];exact ⟨_,_,_,_,HJ T⟩
 ·rw [qY,um];exact ⟨_,_,_,_,Dc T⟩
 ·rw [zL,Dd];exact ⟨_,_,_,_,G5 T⟩
def jm (t:gq) (H:Hp) (p:Addr) (s z:Str):Prop:=∃ dx,H p = some (.ins (gU t s) dx (mh s z))
def rB:Option Nat -> V
 | none=>.cL
 | some g=>.int g
def rf (p:Addr) (R:bw):List (Str × V):=[("pattern",.ref p),("colour",.str R.bC),("deed",.str R.aI),("goal",rB R.goal),("fold",.str R.fold)]
def mf (M:aC) (l:Addr):List (Str × V):=[("name",.str M.name),("colour",.str M.bC),("rules",.ref l)]
def dh (t:gq) (H:Hp) (r:Addr) (R:bw):Prop:=∃ dx p,H r = some (.ins t.cI dx (rf p R)) /\ jm t H p R.sort R.signs
theorem jm.same {H H':Hp} {p:Addr} {s z:Str} (h:jm t H p s z) (e:ak H H'):jm t H' p s z:=let ⟨dx,x⟩:=h;⟨dx,e _ _ x⟩
theorem dh.same {H H':Hp} {r:Addr} {R:bw} (h:dh t H r R) (e:ak H H'):dh t H' r R:=let ⟨dx,p,x,y⟩:=h;⟨dx,p,e _ _ x,y.same e⟩
def bB {α β:Type} (R:α -> β -> Prop) (as:List α) (bs:List β):Prop:=as.length = bs.length /\ ∀ (i:Nat) a b,as[i]? = some a -> bs[i]? = some b -> R a b
theorem bB.nil {α β:Type} {R:α -> β -> Prop}:bB R [] []:=⟨rfl,λi a b h=>by simp at h⟩
theorem bB.mono {α β:Type} {R S:α -> β -> Prop} {as:List α} {bs:List β} (h:bB R as bs) (f:∀ a b,R a b -> S a b):bB S as bs:=⟨h.1,λi a b x y=>f a b (h.2 i a b x y)⟩
theorem cV {α:Type} {as:List α} {a x:α} {i:Nat} (h:(as ++ [a])[i]? = some x):as[i]? = some x ∨ (i = as.length /\ x = a):=by
 by_cases hi:i < as.length
 ·rw [List.getElem?_append_left hi] at h;exact .inl h
 ·rw [List.getElem?_append_right (by omega)] at h
  have:i - as.length = 0:=by
   cases e:i - as.length with
   | zero=>rfl
   | succ n=>rw [e] at h;simp at h
  rw [this] at h
  simp at h
  exact .inr ⟨by omega,h.symm⟩
theorem bB.snoc {α β:Type} {R:α -> β -> Prop} {as:List α} {bs:List β} {a:α} {b:β} (h:bB R as bs) (r:R a b):bB R (as ++ [a]) (bs ++ [b]):=by
 refine ⟨by simp [h.1],λi x y hx hy=>?_⟩
 have hl:=h.1
 rcases cV hx with h1 | ⟨e1,rfl⟩
 ·rcases cV hy with h2 | ⟨e2,rfl⟩
  ·exact h.2 i x y h1 h2
  ·have:=(List.getElem?_eq_some_iff.mp h1).1;omega
 ·rcases cV hy with h2 | ⟨e2,rfl⟩
  ·have:=(List.getElem?_eq_some_iff.mp h2).1;omega
  ·exact r
theorem bB.at {α β:Type} {R:α -> β -> Prop} {as:List α} {bs:List β} (h:bB R as bs) {i:Nat} {b:β} (e:bs[i]? = some b):∃ a,as[i]? = some a /\ R a b:=by
 have hi:=(List.getElem?_eq_some_iff.mp e).1
 have hi2:i < as.length:=by rw [h.1];exact hi
 exact ⟨as[i],List.getElem?_eq_getElem hi2,h.2 i _ _ (List.getElem?_eq_getElem hi2) e⟩
structure cB (t:gq) (H:Hp) (as ls:List Addr) (ms:List aC):Prop where
 la:as.length = ms.length
 ll:ls.length = ms.length
 nd:ls.Nodup
 ob:∀ (i:Nat) a l m,as[i]? = some a -> ls[i]? = some l -> ms[i]? = some m -> ∃ dx rs,H a = some (.ins t.bP dx (mf m l)) /\ H l = some (.lst (rs.map V.ref)) /\ bB (dh t H) rs m.rules
theorem cB.same {H H':Hp} {as ls:List Addr} {ms:List aC} (h:cB t H as ls ms) (e:ak H H'):cB t H' as ls ms :=
 ⟨h.la,h.ll,h.nd,λi a l m h1 h2 h3=>let ⟨dx,rs,x,y,z⟩:=h.ob i a l m h1 h2 h3;⟨dx,rs,e _ _ x,e _ _ y,z.mono λ_ _ r=>r.same e⟩⟩
def IsRules (t:gq) (H:Hp) (a:Addr) (ms:List aC):Prop:=∃ dx lm as ls,H a = some (.ins t.cK dx [("modes",.ref lm)]) /\ H lm = some (.lst (as.map V.ref)) /\ cB t H as ls ms
theorem IsRules.same {H H':Hp} {a:Addr} {ms:List aC} (h:IsRules t H a ms) (e:ak H H'):IsRules t H' a ms:=let ⟨dx,lm,as,ls,x,y,z⟩:=h;⟨dx,lm,as,ls,e _ _ x,e _ _ y,z.same e⟩
theorem fF {H:Hp} {x dx:Addr} {o1 o2 o3:HO} (h1:H x = none) (h2:H dx = none):ak H (upd (upd (upd H dx o1) x o2) x o3):=λb o e=>by
 rw [ai (aj e h1),ai (aj e h1),ai (aj e h2)];exact e
theorem bE {H:Hp} {x dx:Addr} {o1 o2:HO} (h1:H x = none) (h2:H dx = none):ak H (upd (upd H dx o1) x o2):=λb o e=>by
 rw [ai (aj e h1),ai (aj e h2)];exact e
noncomputable def Fz (t:gq):Sp:=λvs H Q _=>∃ (x dx p:Addr) (R:bw),vs = [.ref x,.ref p,.str R.bC,.str R.aI,rB R.goal,.str R.fold] /\ H x = some (.ins t.cI dx []) /\ Q .cL (upd H x (.ins t.cI dx (rf p R)))
theorem DY (T:Txt K mg t):bu P w K mg base dZ 1 t.mS t.uK ["self","pattern","colour","deed","goal","fold"] (Fz t):=by
 refine T.uV.ok JH ?_ ?_
 walk_at "i"
 ·obtain ⟨x,dx,p,R,rfl,hx,q⟩:=h
  refine @ay _ _ _ _ _ _ _ (cX (pv 0) (pv 1) rfl) ⟨_,rfl,_,rfl,x,_,dx,[],rfl,hx,T.cz,T.cU,by decide,?_⟩
  refine @ay _ _ _ _ _ _ _ (cX (pv 0) (pv 2) rfl) ⟨_,rfl,_,rfl,x,_,dx,[("pattern",.ref p)],rfl,af,T.cz,T.fC,by show 1 < 1000;decide,?_⟩
  refine @ay _ _ _ _ _ _ _ (cX (pv 0) (pv 3) rfl) ⟨_,rfl,_,rfl,x,_,dx,[("pattern",.ref p),("colour",.str R.bC)],rfl,af,T.cz,T.dR,by show 2 < 1000;decide,?_⟩
  refine @ay _ _ _ _ _ _ _ (cX (pv 0) (pv 4) rfl) ⟨_,rfl,_,rfl,x,_,dx,[("pattern",.ref p),("colour",.str R.bC),("deed",.str R.aI)],rfl,af,T.cz,T.fR,by show 3 < 1000;decide,?_⟩
  refine @au _ _ _ _ _ _ (cX (pv 0) (pv 5) rfl) ⟨_,rfl,_,rfl,x,_,dx,[("pattern",.ref p),("colour",.str R.bC),("deed",.str R.aI),("goal",rB R.goal)],rfl,af,T.cz,T.fS,by show 4 < 1000;decide,?_⟩
  rw [gX,gX,gX,gX]
  exact q
noncomputable def Ft (t:gq):Sp:=λvs H Q _=>∃ (x dx l:Addr) (n c:Str) (rs:List V),vs = [.ref x,.str n,.str c,.ref l] /\ H x = some (.ins t.bP dx []) /\ H l = some (.lst rs) /\
 ∀ l2 H',H l2 = none -> H' x = some (.ins t.bP dx (mf ⟨n,c,[]⟩ l2)) -> H' l2 = some (.lst rs) -> jL H H' x -> Q .cL H'
theorem Cn (T:Txt K mg t):bu P w K mg base dZ 1 t.mT t.wN ["self","name","colour","rules"] (Ft t):=by
 refine T.t9.ok JS ?_ ?_
 walk_at "i"
 ·obtain ⟨x,dx,l,n,c,rs,rfl,hx,hl,q⟩:=h
  have nlx:l ≠ x:=cP hl hx (by intro z;cases z)
  refine @ay _ _ _ _ _ _ _ (cX (pv 0) (pv 1) rfl) ⟨_,rfl,_,rfl,x,_,dx,[],rfl,hx,T.eX,T.fN,by decide,?_⟩
  refine @ay _ _ _ _ _ _ _ (cX (pv 0) (pv 2) rfl) ⟨_,rfl,_,rfl,x,_,dx,[("name",.str n)],rfl,af,T.eX,T.fq,by show 1 < 1000;decide,?_⟩
  refine @au _ _ _ _ _ _ (cX (pv 0) (cQ cG (by rfl) T.gy (by decide +kernel) (aa (pv 3) ah)) rfl) ⟨_,rfl,l,rs,rfl,.inl (aP.of (by rw [ai nlx,ai nlx];exact hl)),λl2 hl2=>?_⟩
  have n2:x ≠ l2:=aj af hl2
  have hl0:H l2 = none:=by rw [ai (Ne.symm n2),ai (Ne.symm n2)] at hl2;exact hl2
  refine ⟨_,rfl,x,_,dx,[("name",.str n),("colour",.str c)],rfl,by rw [ai n2];exact af,T.eX,T.dF,by show 2 < 1000;decide,?_⟩
  refine q l2 _ hl0 af (by rw [ai (Ne.symm n2)];exact af) λb o hb nb=>?_
  rw [ai nb,ai (aj hb hl0),ai nb,ai nb];exact hb
noncomputable def CF (t:gq):Sp:=λvs H Q _=>∃ (x dx l:Addr) (rs:List V),vs = [.ref x,.ref l] /\ H x = some (.ins t.cK dx []) /\ H l = some (.lst rs) /\
 ∀ l2 H',H l2 = none -> H' x = some (.ins t.cK dx [("modes",.ref l2)]) -> H' l2 = some (.lst rs) -> jL H H' x -> Q .cL H'
theorem El (T:Txt K mg t):bu P w K mg base dZ 1 t.m8 t.wR ["self","modes"] (CF t):=by
 refine T.uY.ok GQ ?_ ?_
 walk_at "i"
 ·obtain ⟨x,dx,l,rs,rfl,hx,hl,q⟩:=h
  refine @au _ _ _ _ _ _ (cX (pv 0) (cQ cG (by rfl) T.gy (by decide +kernel) (aa (pv 1) ah)) rfl) ⟨_,rfl,l,rs,rfl,.inl (aP.of hl),λl2 hl2=>?_⟩
  have n2:x ≠ l2:=aj hx hl2
  refine ⟨_,rfl,x,_,dx,[],rfl,by rw [ai n2];exact hx,T.gC,T.bY,by decide,?_⟩
  refine q l2 _ hl2 af (by rw [ai (Ne.symm n2)];exact af) λb o hb nb=>?_
  rw [ai nb,ai (aj hb hl2)];exact hb
abbrev bG (s z:Str):List Str:=if bare s then [s] else [s,gz z]
structure sD (s z:Str):Prop where
 sort:s ∈ sorts
 ML:bare s -> z = ""
 sg:¬ bare s -> 1 <= z.length /\ z.length <= 200 /\ 95 ∉ z.cps.toList /\ 10 ∉ z.cps.toList
theorem drop_cons {α:Type} {ws:List α} {i:Nat} {x:α} {r:List α} (h:ws.drop i = x :: r):ws[i]? = some x /\ ws.drop (i + 1) = r:=by
 constructor
 ·have:=congrArg (λl=>l[0]?) h
  simpa [List.getElem?_drop] using this
 ·rw [← List.drop_drop,h];rfl
theorem gA {ws:List Str} {i:Nat} {x:Str} {r:List Str} (h:ws.drop i = x :: r):pk ws i = x:=by
 unfold pk
 rw [List.getD_eq_getElem?_getD,(drop_cons h).1]
 rfl
theorem EE {ws:List Str} {i:Nat} {x:Str} {r:List Str} (h:ws.drop i = x :: r):i < ws.length:=(List.getElem?_eq_some_iff.mp (drop_cons h).1).1
theorem vI {ws:List Str} {i:Nat} (h:ws.drop i = []):ws.length <= i:=List.drop_eq_nil_iff.mp h
noncomputable def EY (t:gq):Sp:=λvs H Q _=>∃ (p dx lw:Addr) (row:Int) (ws:List Str) (i:Nat) (s z:Str) (rest:List Str),vs = [.ref p] /\ kW t H p dx lw row ws i /\ ws.drop i = bG s z ++ rest /\ sD s z /\
 ∀ a H' j,jm t H' a s z -> kW t H' p dx lw row ws j -> ws.drop j = rest -> jL H H' p -> Q (.ref a) H'
theorem HC (T:Txt K mg t):bu P w K mg base dZ 5 t.oV t.uH ["cursor"] (EY t):=by
 refine T.uq.ok yU ?_ ?_
 walk_at "i"
 ·obtain ⟨p,dx,lw,row,ws,i,s,z,rest,rfl,C,hd,G,q⟩:=h
  have hk:pk ws i = s:=by
   by_cases hb:bare s
   ·rw [bG,if_pos hb] at hd;exact gA hd
   ·rw [bG,if_neg hb] at hd;exact gA hd
  refine @ay _ _ _ _ _ _ _ (aF (i:=1) yU.nd rfl (Or.inl rfl) (cj (pv 0) T.aJ T.Fi (zJ T) (hr.mono (by decide)) (T.xy.binds (by walk_at "2")) .nil aG (aa (jS rfl T.sV (v:=V.ref t.eG) rfl) ah))) ⟨_,rfl,p,dx,_,rfl,C.ob,rfl,p,dx,lw,t.eG,sorts,row,ws,i,rfl,C,T.uw _,by rw [hk];exact G.sort,λH1 C1 a1=>?_⟩
  rw [hk]
  refine @ay _ _ _ _ _ _ _ (bA (aA cO (pv 1) aN (aD _)) av av) ⟨_,rfl,rfl,_,rfl,eS (λh=>?_) (λh1=>bx ?_)⟩
  ·have h:=V.str.inj h
   subst h
   refine @au _ _ _ _ _ _ (aH (n9 T.yO rfl T.FN)) λx dx' nx ndx ne=>?_
   rw [bG,if_pos (by decide)] at hd
   exact q x _ (i + 1) ⟨dx',by rw [z6,BF];exact af⟩ (C1.same (bE nx ndx)) (drop_cons hd).2 (a1.same (bE nx ndx))
  refine @ay _ _ _ _ _ _ _ (bA (aA cO (pv 1) aN (aD _)) av av) ⟨_,rfl,rfl,_,rfl,eS (λh=>?_) (λh2=>bx ?_)⟩
  ·have h:=V.str.inj h
   subst h
   refine @au _ _ _ _ _ _ (aH (n9 T.pI rfl T.AQ)) λx dx' nx ndx ne=>?_
   rw [bG,if_pos (by decide)] at hd
   exact q x _ (i + 1) ⟨dx',by rw [qY,um];exact af⟩ (C1.same (bE nx ndx)) (drop_cons hd).2 (a1.same (bE nx ndx))
  refine @ay _ _ _ _ _ _ _ (bA (aA cO (pv 1) aN (aD _)) av av) ⟨_,rfl,rfl,_,rfl,eS (λh=>?_) (λh3=>bx ?_)⟩
  ·have h:=V.str.inj h
   subst h
   refine @au _ _ _ _ _ _ (aH (n9 T.xF rfl T.EF)) λx dx' nx ndx ne=>?_
   rw [bG,if_pos (by decide)] at hd
   exact q x _ (i + 1) ⟨dx',by rw [zL,Dd];exact af⟩ (C1.same (bE nx ndx)) (drop_cons hd).2 (a1.same (bE nx ndx))
  have nb:¬ bare s:=by
   rintro (e | e | e)
   ·exact h1 (by rw [e])
   ·exact h2 (by rw [e])
   ·exact h3 (by rw [e])
  rw [bG,if_neg nb] at hd
  have hd2:=(drop_cons hd).2
  obtain ⟨z1,z2,z3,z4⟩:=G.sg nb
  refine @ay _ _ _ _ _ _ _ (aF (i:=2) yU.nd rfl (Or.inl rfl) (cu (pv 0) T.aJ T.MN (Ku T) (hr.mono (by decide)) (T.Eo.binds (by walk_at "1")) .nil aG)) ⟨_,rfl,p,dx,_,rfl,C1.ob,rfl,p,dx,lw,row,ws,i + 1,z,rfl,C1,gA hd2,z1,by omega,z3,λH2 C2 a2=>?_⟩
  have hd3:=(drop_cons hd2).2
  have a3:=a1.trans a2
  refine @ay _ _ _ _ _ _ _ (bA (aA cO (pv 1) aN (aD _)) av av) ⟨_,rfl,rfl,_,rfl,eS (λh=>?_) (λh4=>bx ?_)⟩
  ·have h:=V.str.inj h
   subst h
   refine @au _ _ _ _ _ _ (aH (eT T.tu (Jj T) (hr.mono (by decide)) rfl T.DW (T.z9.binds (by walk_at "2")) .nil aG (aa (pv 2) ah))) ⟨_,rfl,λx dx' nx ndx ne=>⟨x,dx',z,rfl,af,rfl,?_⟩⟩
   exact q x _ (i + 1 + 1) ⟨dx',by rw [vd,zW];exact af⟩ (C2.same (fF nx ndx)) hd3 (a3.same (fF nx ndx))
  refine @ay _ _ _ _ _ _ _ (bA (aA cO (pv 1) aN (aD _)) av av) ⟨_,rfl,rfl,_,rfl,eS (λh=>?_) (λh5=>bx ?_)⟩
  ·have h:=V.str.inj h
   subst h
   refine @au _ _ _ _ _ _ (aH (eT T.zb (IL T) (hr.mono (by decide)) rfl T.EX (T.zB.binds (by walk_at "2")) .nil aG (aa (pv 2) ah))) ⟨_,rfl,λx dx' nx ndx ne=>⟨x,dx',z,rfl,af,rfl,?_⟩⟩
   exact q x _ (i + 1 + 1) ⟨dx',by rw [zA,rS nb (by decide)];exact af⟩ (C2.same (fF nx ndx)) hd3 (a3.same (fF nx ndx))
  refine @ay _ _ _ _ _ _ _ (bA (aA cO (pv 1) aN (aD _)) av av) ⟨_,rfl,rfl,_,rfl,eS (λh=>?_) (λh6=>bx ?_)⟩
  ·have h:=V.str.inj h
   subst h
   refine @au _ _ _ _ _ _ (aH (eT T.kR (GA T) (hr.mono (by decide)) rfl T.vB (T.zu.binds (by walk_at "2")) .nil aG (aa (pv 2) ah))) ⟨_,rfl,λx dx' nx ndx ne=>⟨x,dx',z,rfl,af,rfl,?_⟩⟩
   exact q x _ (i + 1 + 1) ⟨dx',by rw [uu,rS nb (by decide)];exact af⟩ (C2.same (fF nx ndx)) hd3 (a3.same (fF nx ndx))
  have h:s = "many" := by
   rcases dw G.sort with e | e | e | e | e | e | e
   ·exact absurd (by rw [e]) h4
   ·exact absurd (by rw [e]) h5
   ·exact absurd (by rw [e]) h6
   ·exact e
   ·exact absurd (by rw [e]) h1
   ·exact absurd (by rw [e]) h2
   ·exact absurd (by rw [e]) h3
  subst h
  refine @au _ _ _ _ _ _ (aH (eT T.sH (Ij T) (hr.mono (by decide)) rfl T.Ci (T.z5.binds (by walk_at "2")) .nil aG (aa (pv 2) ah))) ⟨_,rfl,λx dx' nx ndx ne=>⟨x,dx',z,rfl,af,rfl,?_⟩⟩
  exact q x _ (i + 1 + 1) ⟨dx',by rw [vG,rS nb (by decide)];exact af⟩ (C2.same (fF nx ndx)) hd3 (a3.same (fF nx ndx))
noncomputable def DT (t:gq):Sp:=λvs H Q _=>∃ (p dx lw d:Addr) (nw:V) (row:Int) (ws:List Str) (i g:Nat) (kvs:List (Key × V)),vs = [.ref p,.ref d,nw] /\ kW t H p dx lw row ws i /\ H d = some (.dK kvs) /\ isName (pk ws i) = true /\ iy kvs (.inr (pk ws i)) = some (.int g) /\
 ∀ H',kW t H' p dx lw row ws (i + 1) -> jL H H' p -> Q (.int g) H'
theorem G2 (T:Txt K mg t):bu P w K mg base dZ 5 t.oK t.v7 ["cursor","numbers","nowhere"] (DT t):=by
 refine T.vU.ok yV ?_ ?_
 walk_at "i"
 ·obtain ⟨p,dx,lw,d,nw,row,ws,i,g,kvs,rfl,C,hd,hn,hv,q⟩:=h
  refine @ay _ _ _ _ _ _ _ (aF (i:=3) yV.nd rfl (Or.inl rfl) (eE (aa (aZ (pv 0) rfl) (aa (aZ (pv 0) rfl) ah)))) ?_
  refine ⟨_,rfl,_,_,_,_,_,rfl,C.ob,T.aJ,T.g6,rfl,?_⟩
  refine ⟨_,rfl,_,_,_,_,_,rfl,C.ob,T.aJ,T.eB,rfl,?_⟩
  refine ⟨by show 2 <= sizeLine;decide,λpt hpt=>?_⟩
  have s1:ak H (upd H pt (.tup [.int row,.int i])):=ak.upd hpt
  have C1:=C.same s1
  refine @ay _ _ _ _ _ _ _ (aF (i:=4) yV.nd rfl (Or.inl rfl) (cu (pv 0) T.aJ T.E3 (zF T) (hr.mono (by decide)) (T.v9.binds (by walk_at "1")) .nil aG)) ⟨_,rfl,p,dx,_,rfl,C1.ob,rfl,p,dx,lw,row,ws,i,rfl,C1,hn,λH2 C2 a2=>?_⟩
  have npd:d ≠ p:=cP hd C.ob (by intro z;cases z)
  have hd2:H2 d = some (.dK kvs):=a2 _ _ (s1 _ _ hd) npd
  refine @ay _ _ _ _ _ _ _ (bA (J4 (A5 (gH hr) (pv 4) (pv 1))) av av) ⟨_,rfl,_,rfl,d,_,rfl,ux.k (k:=.inr (pk ws i)) hd2,_,rfl,?_⟩
  rw [hv]
  refine sq (bx ?_)
  refine @au _ _ _ _ _ _ (aH (En (gH hr) (pv 1) (pv 4) ⟨rfl,rfl,rfl,rfl⟩)) ⟨_,rfl,d,rfl,.inl ⟨kvs,.inl hd2⟩,_,rfl,_,ux.k (k:=.inr (pk ws i)) hd2,?_⟩
  rw [hv]
  exact q H2 C2 (s1.EO a2)
abbrev mK:List Str:=["stay","push","pop","into"]
abbrev dQ (d:Str):Prop:=d = "push" ∨ d = "into"
def q9 (names:List Str):Option Nat -> List Str
 | some g=>[names.getD g ""]
 | none=>[]
theorem AI {names:List Str} {g:Option Nat}:(q9 names g).length <= 1:=by cases g <;> simp [q9]
def bV (names:List Str) (R:bw):List Str:=bG R.sort R.signs ++ ((if bJ R.sort = true then [R.bC] else []) ++ ([R.aI] ++ (q9 names R.goal ++ if R.fold = "" then [] else [R.fold])))
structure gE (names:List Str) (R:bw):Prop where
 pat:sD R.sort R.signs
 col:bJ R.sort = true -> isName R.bC = true
 MU:bJ R.sort = false -> R.bC = ""
 aI:R.aI ∈ mK
 goal:dQ R.aI -> ∃ g,R.goal = some g /\ g < names.length
 Gd:¬ dQ R.aI -> R.goal = none
 fold:R.fold = "" ∨ R.fold = "open" ∨ R.fold = "close"
def numsOf (names:List Str) (kvs:List (Key × V)):Prop:=∀ (g:Nat) n,names[g]? = some n -> iy kvs (.inr n) = some (.int g)
noncomputable def BO (t:gq):Sp:=λvs H Q _=>∃ (p dx lw d:Addr) (nw:V) (row:Int) (ws:List Str) (kvs:List (Key × V)) (names:List Str) (R:bw),vs = [.ref p,.ref d,nw] /\ kW t H p dx lw row ws 0 /\ ws = bV names R /\ H d = some (.dK kvs) /\ numsOf names kvs /\
 (∀ n ∈ names,isName n = true) /\ gE names R /\ ∀ r H',dh t H' r R -> jL H H' p -> Q (.ref r) H'
theorem jm.EO {H H':Hp} {p a dx lw:Addr} {row:Int} {ws:List Str} {i:Nat} {s z:Str} (h:jm t H a s z) (C:kW t H p dx lw row ws i) (e:jL H H' p):jm t H' a s z:=by
 obtain ⟨d,x⟩:=h
 refine ⟨d,e _ _ x (cP x C.ob λq=>?_)⟩
 injection q with _ _ q
 unfold mh cf at q
 split at q
 ·cases q
 ·split at q <;> simp at q
theorem Jg (T:Txt K mg t):bu P w K mg base dZ 6 t.oQ t.uX ["cursor","numbers","nowhere"] (BO t):=by
 refine T.wJ.ok l9 ?_ ?_
 walk_at "i"
 ·obtain ⟨p,dx,lw,d,nw,row,ws,kvs,names,R,rfl,C,hws,hd,hnum,hnm,G,q⟩:=h
  have npd:d ≠ p:=cP hd C.ob (by intro z;cases z)
  obtain ⟨fe,fs,de,ds,PK⟩:=E4 (P:=P) (w:=w) (base:=base) T G.pat.sort
  refine @ay _ _ _ _ _ _ _ (aF (i:=3) l9.nd rfl (Or.inl rfl) (aM (HC T) (hr.mono (by decide)) rfl T.JT T.uq.kp (T.uq.binds (by walk_at "1")) .nil aG (aa (pv 0) ah))) ⟨_,rfl,p,dx,lw,row,ws,0,R.sort,R.signs,_,rfl,C,by rw [List.drop_zero,hws,bV],G.pat,λpa H1 j1 hp1 C1 hd1 a1=>?_⟩
  refine aB (λZ' H'=>∃ j,Z' = [some (.ref p),some (.ref d),some nw,some (.ref pa),some (.str R.bC),none,none,none] /\ kW t H' p dx lw row ws j /\ jm t H' pa R.sort R.signs /\ jL H H' p /\
   ws.drop j = R.aI :: (q9 names R.goal ++ if R.fold = "" then [] else [R.fold])) (aF (i:=4) l9.nd rfl (Or.inl rfl) (bZ (ji (cu (pv 3) PK.cl PK.ms PK.gs (hr.mono (by decide)) PK.bs .nil aG)) (cu (pv 0) T.aJ T.E3 (zF T) (hr.mono (by decide)) (T.v9.binds (by walk_at "1")) .nil aG) aN)) ?_ ?_
  ·obtain ⟨dpa,hpa⟩:=hp1
   refine ⟨_,rfl,pa,dpa,_,rfl,hpa,PK.ns _,_,rfl,_,rfl,L5 (λh=>?_) (λh=>?_)⟩
   ·rw [if_pos h] at hd1
    refine ⟨_,rfl,p,dx,_,rfl,C1.ob,rfl,p,dx,lw,row,ws,j1,rfl,C1,by rw [gA hd1];exact G.col h,λH2 C2 a2=>?_⟩
    rw [gA hd1]
    exact ⟨j1 + 1,rfl,C2,jm.EO ⟨dpa,hpa⟩ C1 a2,a1.trans a2,(drop_cons hd1).2⟩
   ·rw [h,if_neg (by decide)] at hd1
    rw [G.MU h]
    exact ⟨j1,rfl,C1,⟨dpa,hpa⟩,a1,hd1⟩
  rintro Z' H2 ⟨j2,rfl,C2,hp2,a2,hd2⟩
  refine @ay _ _ _ _ _ _ _ (aF (i:=5) l9.nd rfl (Or.inl rfl) (cj (pv 0) T.aJ T.Fi (zJ T) (hr.mono (by decide)) (T.xy.binds (by walk_at "2")) .nil aG (aa (jS rfl T.An (v:=V.ref t.iK) rfl) ah))) ⟨_,rfl,p,dx,_,rfl,C2.ob,rfl,p,dx,lw,t.iK,mK,row,ws,j2,rfl,C2,T.CY _,by rw [gA hd2];exact G.aI,λH3 C3 a3=>?_⟩
  rw [gA hd2]
  have hp3:=hp2.EO C2 a3
  have a3:=a2.trans a3
  have hd3:=(drop_cons hd2).2
  refine aB (λZ' H'=>∃ j,Z' = [some (.ref p),some (.ref d),some nw,some (.ref pa),some (.str R.bC),some (.str R.aI),some (rB R.goal),none] /\ kW t H' p dx lw row ws j /\ jm t H' pa R.sort R.signs /\ jL H H' p /\
   ws.drop j = if R.fold = "" then [] else [R.fold]) (aF (i:=6) l9.nd rfl (Or.inl rfl) (bZ (aA fP (pv 5) (jS rfl T.AS (v:=V.ref t.jk) rfl) rfl) (aM (G2 T) (hr.mono (by decide)) rfl T.HY T.vU.kp (T.vU.binds (by walk_at "3")) .nil aG (aa (pv 0) (aa (pv 1) (aa (pv 2) ah)))) cy)) ?_ ?_
  ·refine ⟨_,rfl,_,_,rfl,.inr (T.Bj _),rfl,rfl,_,rfl,?_⟩
   rw [show ([.str "push",.str "into"]:List V) = (["push","into"]:List Str).map V.str from rfl,jF]
   refine eS (λh=>?_) (λh=>?_)
   ·have h:dQ R.aI:=by simpa using h
    obtain ⟨g,eg,hg⟩:=G.goal h
    rw [eg] at hd3 ⊢
    have e:=gA hd3
    have hgn:names[g]? = some (names.getD g ""):=by simp [hg]
    have hv:=hnum g _ hgn
    have hin:isName (names.getD g "") = true:=hnm _ (List.mem_of_getElem? hgn)
    refine ⟨_,rfl,_,rfl,_,rfl,p,dx,lw,d,nw,row,ws,j2 + 1,g,kvs,rfl,C3,a3 _ _ hd npd,by rw [e];exact hin,by rw [e];exact hv,λH4 C4 a4=>?_⟩
    exact ⟨_,rfl,C4,hp3.EO C3 a4,a3.trans a4,(drop_cons hd3).2⟩
   ·have h:¬ dQ R.aI:=by simpa using h
    rw [G.Gd h] at hd3 ⊢
    exact ⟨_,rfl,C3,hp3,a3,hd3⟩
  rintro Z' H4 ⟨j4,rfl,C4,hp4,a4,hd4⟩
  refine aB (λZ' H'=>∃ j,Z' = [some (.ref p),some (.ref d),some nw,some (.ref pa),some (.str R.bC),some (.str R.aI),some (rB R.goal),some (.str R.fold)] /\ kW t H' p dx lw row ws j /\ jm t H' pa R.sort R.signs /\ jL H H' p /\
   ws.drop j = []) (aF (i:=7) l9.nd rfl (Or.inl rfl) (bZ (ji (cu (pv 0) T.aJ T.E2 (zE T) (hr.mono (by decide)) (T.uL.binds (by walk_at "1")) .nil aG)) (cj (pv 0) T.aJ T.Fi (zJ T) (hr.mono (by decide)) (T.xy.binds (by walk_at "2")) .nil aG (aa (jS rfl T.AE (v:=V.ref t.iC) rfl) ah)) aN)) ?_ ?_
  ·refine ⟨_,rfl,p,dx,_,rfl,C4.ob,rfl,p,dx,lw,row,ws,j4,rfl,C4,_,rfl,eS (λh=>?_) (λh=>?_)⟩
   ·have hf:R.fold ≠ "" := λz=>by rw [if_pos z] at hd4;have:=vI hd4;omega
    rw [if_neg hf] at hd4
    refine ⟨_,rfl,p,dx,_,rfl,C4.ob,rfl,p,dx,lw,t.iC,["open","close"],row,ws,j4,rfl,C4,T.DP _,?_,λH5 C5 a5=>?_⟩
    ·rw [gA hd4]
     rcases G.fold with z | z | z
     ·exact absurd z hf
     ·rw [z];decide
     ·rw [z];decide
    ·rw [gA hd4]
     exact ⟨_,rfl,C5,hp4.EO C4 a5,a4.trans a5,(drop_cons hd4).2⟩
   ·have hf:R.fold = "" := by
     by_cases z:R.fold = ""
     ·exact z
     ·rw [if_neg z] at hd4;exact absurd (EE hd4) h
    rw [if_pos hf] at hd4
    rw [hf]
    exact ⟨_,rfl,C4,hp4,a4,hd4⟩
  rintro Z' H5 ⟨j5,rfl,C5,hp5,a5,hd5⟩
  have hj5:=vI hd5
  refine @ay _ _ _ _ _ _ _ (bq (cj (pv 0) T.aJ T.Aj (rY T) (hr.mono (by decide)) (T.qA.binds (by walk_at "2")) .nil aG (aa (DX (cu (pv 0) T.aJ T.E2 (zE T) (hr.mono (by decide)) (T.uL.binds (by walk_at "1")) .nil aG)) ah))) ⟨_,rfl,p,dx,_,rfl,C5.ob,rfl,⟨_,rfl,p,dx,_,rfl,C5.ob,rfl,p,dx,lw,row,ws,j5,rfl,C5,_,rfl,?_⟩⟩
  rw [decide_eq_false (by omega)]
  refine ⟨_,rfl,?_⟩
  refine @au _ _ _ _ _ _ (aH (eT T.nH (DY T) (hr.mono (by decide)) rfl T.vo (T.uV.binds (by walk_at "6")) .nil aG (aa (pv 3) (aa (pv 4) (aa (pv 5) (aa (pv 6) (aa (pv 7) ah))))))) ⟨_,rfl,_,rfl,_,rfl,_,rfl,_,rfl,λx dx' nx ndx ne=>⟨x,dx',pa,R,rfl,af,rfl,?_⟩⟩
  exact q x _ ⟨dx',pa,af,hp5.same (fF nx ndx)⟩ (a5.same (fF nx ndx))
inductive Item where
 | mode (n c:Str)
 | rule (R:bw)
def Item.words (names:List Str):Item -> List Str
 | .mode n c=>["mode",n,c]
 | .rule R=>bV names R
def rowOf (names:List Str) (it:Item):Str:=Str.join ⟨#[32]⟩ (it.words names)
def iH (R:bw):List aC -> List aC
 | []=>[]
 | [m]=>[{ m with rules:=m.rules ++ [R] }]
 | m :: n :: r=>m :: iH R (n :: r)
def stepI (ms:List aC):Item -> List aC
 | .mode n c=>ms ++ [⟨n,c,[]⟩]
 | .rule R=>iH R ms
def foldI (its:List Item):List aC:=its.foldl stepI []
def t8:Item -> List Str
 | .mode n _=>[n]
 | .rule _=>[]
def namesOf (its:List Item):List Str:=its.flatMap t8
structure fM (its:List Item):Prop where
 ne:its ≠ []
 mode:∀ (i:Nat) n c,its[i]? = some (.mode n c) -> isName n = true /\ isName c = true /\ (namesOf (its.take i)).length < 12 /\ n ∉ namesOf (its.take i)
 rule:∀ (i:Nat) R,its[i]? = some (.rule R) -> gE (namesOf its) R /\ ∃ ms m,foldI (its.take i) = ms ++ [m] /\ m.rules.length < 12
theorem ja (R:bw) (m:aC):∀ ms:List aC,iH R (ms ++ [m]) = ms ++ [{ m with rules:=m.rules ++ [R] }]
 | []=>rfl
 | [x]=>rfl
 | x :: y :: r=>by
  show x :: iH R (y :: r ++ [m]) = _
  rw [ja R m (y :: r)]
  rfl
theorem ko (R:bw):∀ ms:List aC,(iH R ms).map (·.name) = ms.map (·.name)
 | []=>rfl
 | [x]=>rfl
 | x :: y :: r=>by
  show x.name :: (iH R (y :: r)).map (·.name) = _
  rw [ko R (y :: r)]
  rfl
theorem take_snoc {α:Type} {l:List α} {i:Nat} {x:α} (h:l[i]? = some x):l.take (i + 1) = l.take i ++ [x]:=by rw [List.take_succ,h];rfl
theorem oN (its:List Item) (it:Item):foldI (its ++ [it]) = stepI (foldI its) it:=by unfold foldI;rw [List.foldl_append];rfl
theorem jv (a b:List Item):namesOf (a ++ b) = namesOf a ++ namesOf b:=by unfold namesOf;rw [List.flatMap_append]
theorem ie:∀ (its:List Item) (ms:List aC),(its.foldl stepI ms).map (·.name) = ms.map (·.name) ++ namesOf its
 | [],ms=>by simp [namesOf]
 | .mode n c :: r,ms=>by
  rw [List.foldl_cons,ie r]
  simp [stepI,namesOf,t8]
 | .rule R :: r,ms=>by
  rw [List.foldl_cons,ie r]
  simp [stepI,namesOf,t8,ko]
theorem pO (its:List Item):(foldI its).map (·.name) = namesOf its:=by
 unfold foldI;rw [ie];rfl
structure iW (x:Str):Prop where
 b:32 ∉ x.cps.toList
 n:10 ∉ x.cps.toList
 l:x.length <= 202
theorem dB (x:Str):x.cps.toList.length = x.length:=by simp [Str.length]
theorem jZ {x:Str} (h:isName x = true):iW x:=by
 unfold isName at h
 simp only [Bool.and_eq_true,decide_eq_true_eq,List.all_eq_true] at h
 obtain ⟨⟨h1,h2⟩,h3⟩:=h
 refine ⟨λz=>?_,λz=>?_,by omega⟩
 ·exact absurd (h3 _ z) (by decide +kernel)
 ·exact absurd (h3 _ z) (by decide +kernel)
theorem wA {z:Str} (h:z.length <= 200) (h2:10 ∉ z.cps.toList):iW (gz z):=by
 refine ⟨λy=>?_,λy=>?_,?_⟩
 ·rw [gx] at y
  rcases List.mem_cons.mp y with y | y
  ·exact absurd y (by decide)
  ·unfold j9 at y
   obtain ⟨c,_,e⟩:=List.mem_map.mp y
   split at e <;> omega
 ·rw [gx] at y
  rcases List.mem_cons.mp y with y | y
  ·exact absurd y (by decide)
  ·unfold j9 at y
   obtain ⟨c,hc,e⟩:=List.mem_map.mp y
   split at e
   ·omega
   ·exact h2 (e ▸ hc)
 ·have:=congrArg List.length (gx z)
  rw [dB,List.length_cons,j9,List.length_map,dB] at this
  omega
theorem jQ {s:Str} (h:s ∈ sorts):iW s /\ s ≠ "mode" := by
 rcases dw h with rfl | rfl | rfl | rfl | rfl | rfl | rfl <;> exact ⟨⟨by decide +kernel,by decide +kernel,by decide +kernel⟩,by decide +kernel⟩
theorem AL {s z:Str} (G:sD s z):∀ x ∈ bG s z,iW x:=by
 intro x hx
 unfold bG at hx
 split at hx
 ·rw [List.mem_singleton.mp hx];exact (jQ G.sort).1
 ·rename_i hb
  obtain ⟨z1,z2,z3,z4⟩:=G.sg hb
  rcases List.mem_cons.mp hx with e | e
  ·rw [e];exact (jQ G.sort).1
  ·rw [List.mem_singleton.mp e];exact wA z2 z4
theorem oi {names:List Str} {R:bw} (hn:∀ n ∈ names,isName n = true) (G:gE names R):∀ x ∈ bV names R,iW x:=by
 intro x hx
 unfold bV at hx
 simp only [List.mem_append] at hx
 rcases hx with hx | hx | hx | hx | hx
 ·exact AL G.pat x hx
 ·split at hx
  ·rename_i h;rw [List.mem_singleton.mp hx];exact jZ (G.col h)
  ·cases hx
 ·rw [List.mem_singleton.mp hx]
  have:=G.aI
  simp only [List.mem_cons,List.not_mem_nil,or_false] at this
  rcases this with e | e | e | e <;> rw [e] <;> exact ⟨by decide +kernel,by decide +kernel,by decide +kernel⟩
 ·cases e:R.goal with
  | some g =>
   rw [e] at hx
   rw [List.mem_singleton.mp hx]
   have hg:g < names.length:=by
    by_cases h:dQ R.aI
    ·obtain ⟨g',e',h'⟩:=G.goal h
     rw [e] at e';cases e';exact h'
    ·rw [G.Gd h] at e;cases e
   refine jZ (hn _ ?_)
   have:names.getD g "" = names[g]:=by simp [hg]
   rw [this];exact List.getElem_mem hg
  | none=>rw [e] at hx;cases hx
 ·split at hx
  ·cases hx
  ·rw [List.mem_singleton.mp hx]
   rcases G.fold with e | e | e <;> rw [e] <;> exact ⟨by decide +kernel,by decide +kernel,by decide +kernel⟩
theorem Ac {s z:Str}:1 <= (bG s z).length /\ (bG s z).length <= 2:=by
 unfold bG
 split
 ·exact ⟨by show 1 <= 1;decide,by show 1 <= 2;decide⟩
 ·exact ⟨by show 1 <= 2;decide,by show 2 <= 2;decide⟩
theorem wF {names:List Str} {R:bw}:1 <= (bV names R).length /\ (bV names R).length <= 7:=by
 have h1:=Ac (s:=R.sort) (z:=R.signs)
 have h2:(if bJ R.sort = true then [R.bC] else []).length <= 1:=by split <;> simp
 have h3:=AI (names:=names) (g:=R.goal)
 have h4:(if R.fold = "" then [] else [R.fold]).length <= 1:=by split <;> simp
 unfold bV
 simp only [List.length_append,List.length_cons,List.length_nil]
 omega
theorem oM {its:List Item} (G:fM its):∀ n ∈ namesOf its,isName n = true:=by
 intro n hn
 unfold namesOf at hn
 obtain ⟨it,h1,h2⟩:=List.mem_flatMap.mp hn
 obtain ⟨i,h3⟩:=List.mem_iff_getElem?.mp h1
 cases it with
 | mode a c =>
  have e:n = a:=List.mem_singleton.mp h2
  rw [e]
  exact (G.mode i a c h3).1
 | rule R=>cases h2
theorem oz {its:List Item} (G:fM its) {i:Nat} {it:Item} (h:its[i]? = some it):(∀ x ∈ it.words (namesOf its),iW x) /\ it.words (namesOf its) ≠ [] /\ (it.words (namesOf its)).length <= 7:=by
 cases it with
 | mode n c =>
  obtain ⟨h1,h2,_⟩:=G.mode i n c h
  refine ⟨λx hx=>?_,by simp [Item.words],by simp [Item.words]⟩
  simp only [Item.words,List.mem_cons,List.not_mem_nil,or_false] at hx
  rcases hx with e | e | e
  ·rw [e];exact ⟨by decide +kernel,by decide +kernel,by decide +kernel⟩
  ·rw [e];exact jZ h1
  ·rw [e];exact jZ h2
 | rule R =>
  obtain ⟨h1,_⟩:=G.rule i R h
  have hl:=wF (names:=namesOf its) (R:=R)
  exact ⟨oi (oM G) h1,λz=>by simp only [Item.words] at z;rw [z] at hl;simp at hl,hl.2⟩
theorem rW {c d:Nat} (hcd:d ≠ c):∀ {ps:List (List Nat)},(∀ p ∈ ps,d ∉ p) -> d ∉ fT c ps
 | [],_,z=>by cases z
 | [x],h,z=>h x (by simp) z
 | x :: y :: r,h,z=>by
  unfold fT at z
  rcases List.mem_append.mp z with z | z
  ·exact h x (by simp) z
  ·rcases List.mem_cons.mp z with z | z
   ·exact hcd z
   ·exact rW hcd (λp hp=>h p (List.mem_cons_of_mem _ hp)) z
theorem lY {c m:Nat}:∀ {ps:List (List Nat)},(∀ p ∈ ps,p.length <= m) -> (fT c ps).length <= ps.length * (m + 1)
 | [],_=>by simp [fT]
 | [x],h=>by have:=h x (by simp);simp [fT];omega
 | x :: y :: r,h=>by
  have h1:=h x (by simp)
  have h2:=lY (c:=c) (ps:=y :: r) (λp hp=>h p (List.mem_cons_of_mem _ hp))
  unfold fT
  rw [List.length_append,List.length_cons,List.length_cons,Nat.succ_mul]
  omega
theorem jI {its:List Item} (G:fM its) {i:Nat} {it:Item} (h:its[i]? = some it):10 ∉ (rowOf (namesOf its) it).cps.toList /\ (rowOf (namesOf its) it).length <= 1421 /\ PySem.Txt.split (rowOf (namesOf its) it) ⟨#[32]⟩ = it.words (namesOf its):=by
 obtain ⟨h1,h2,h3⟩:=oz G h
 refine ⟨?_,?_,nP h2 λp hp=>(h1 p hp).b⟩
 ·unfold rowOf
  rw [gK]
  refine rW (by decide) λp hp=>?_
  obtain ⟨x,hx,rfl⟩:=List.mem_map.mp hp
  exact (h1 x hx).n
 ·have h4:=lY (c:=32) (m:=202) (ps:=(it.words (namesOf its)).map λp=>p.cps.toList) (λp hp=>by
   obtain ⟨x,hx,rfl⟩:=List.mem_map.mp hp
   rw [dB];exact (h1 x hx).l)
  rw [← gK,dB,List.length_map] at h4
  unfold rowOf
  omega
def rowsOf (its:List Item):List Str:=its.map (rowOf (namesOf its))
theorem nG {its:List Item} {i:Nat} {x:Str} (h:(rowsOf its)[i]? = some x):∃ it,its[i]? = some it /\ x = rowOf (namesOf its) it:=by
 unfold rowsOf at h
 rw [List.getElem?_map] at h
 obtain ⟨it,h1,h2⟩:=Option.map_eq_some_iff.mp h
 exact ⟨it,h1,h2.symm⟩
theorem ya {its:List Item} (G:fM its):PySem.Txt.split (Str.join ⟨#[10]⟩ (rowsOf its)) ⟨#[10]⟩ = rowsOf its:=by
 refine nP (by unfold rowsOf;simpa using G.ne) λp hp=>?_
 obtain ⟨i,h⟩:=List.mem_iff_getElem?.mp hp
 obtain ⟨it,h1,rfl⟩:=nG h
 exact (jI G h1).1
theorem text_len {its:List Item} (G:fM its) (hl:its.length <= 200):(Str.join ⟨#[10]⟩ (rowsOf its)).length <= 300000:=by
 have h4:=lY (c:=10) (m:=1421) (ps:=(rowsOf its).map λp=>p.cps.toList) (λp hp=>by
  obtain ⟨x,hx,rfl⟩:=List.mem_map.mp hp
  obtain ⟨i,h⟩:=List.mem_iff_getElem?.mp hx
  obtain ⟨it,h1,rfl⟩:=nG h
  rw [dB];exact (jI G h1).2.1)
 rw [← gK,dB,List.length_map,rowsOf,List.length_map] at h4
 unfold rowsOf
 omega
structure Nums (names:List Str) (kvs:List (Key × V)):Prop where
 has:numsOf names kvs
 not:∀ n,n ∉ names -> iy kvs (.inr n) = none
 len:kvs.length = names.length
theorem Nums.nil:Nums [] []:=⟨λg n h=>by simp at h,λ_ _=>rfl,rfl⟩
theorem Nums.put {names:List Str} {kvs:List (Key × V)} {n:Str} (N:Nums names kvs) (h:n ∉ names):Nums (names ++ [n]) (putK kvs (.inr n) (.int names.length)):=by
 refine ⟨λg m e=>?_,λm hm=>?_,?_⟩
 ·rw [uF]
  rcases cV e with e | ⟨e1,e2⟩
  ·have:m ≠ n:=λz=>h (z ▸ List.mem_of_getElem? e)
   rw [if_neg (λz=>this (Sum.inr.inj z))]
   exact N.has g m e
  ·rw [e2,if_pos rfl,e1]
 ·rw [uF,if_neg (λz=>hm (by rw [Sum.inr.inj z];simp))]
  exact N.not m λz=>hm (List.mem_append_left _ z)
 ·unfold putK
  rw [jz,N.not n h,if_neg (by decide),List.length_append,List.length_append,N.len]
  rfl
noncomputable def II:Sp:=λvs H Q _=>∃ (a:Addr) (its:List Item),vs = [.ref a] /\ H a = some (.lst ((rowsOf its).map V.str)) /\ fM its /\ its.length <= 200 /\
 ∀ d kvs H',H' d = some (.dK kvs) -> Nums (namesOf its) kvs -> ak H H' -> Q (.ref d) H'
theorem oZ {names:List Str} {R:bw} (G:gE names R):∃ x r,bV names R = x :: r /\ x ≠ "mode" := by
 unfold bV bG
 split
 ·exact ⟨R.sort,_,rfl,(jQ G.pat.sort).2⟩
 ·exact ⟨R.sort,_,rfl,(jQ G.pat.sort).2⟩
theorem J1 (T:Txt K mg t):bu P w K mg base dZ 1 t.qb t.vp ["rows"] II:=by
 refine T.xj.ok sy ?_ ?_
 walk_at "i"
 ·obtain ⟨a,its,rfl,ha,G,hlen,q⟩:=h
  have sp1:(" " : Str) = ⟨#[32]⟩:=by decide +kernel
  refine @ay _ _ _ _ _ _ _ (aF (i:=1) sy.nd rfl (Or.inl rfl) Dw) λd hd=>?_
  refine @aB _ _ _ _ _ _ _ (λZ' H'=>∃ x y kvs,Z' = [some (.ref a),some (.ref d),x,y] /\ H' d = some (.dK kvs) /\ Nums (namesOf its) kvs /\ ak H H') (dU PassesOwn.never rfl (cH (pv 0)) (b9 (i:=2) sy.nd rfl (Or.inl rfl)) av) ?_ ?_
  ·refine ⟨_,rfl,a,rfl,⟨_,aP.of (by rw [ai (aj ha hd)];exact ha)⟩,ic (xs:=(rowsOf its).map V.str) (λi Z' H'=>∃ x y kvs,Z' = [some (.ref a),some (.ref d),x,y] /\ H' d = some (.dK kvs) /\ Nums (namesOf (its.take i)) kvs /\ ak H H') ⟨_,_,[],rfl,af,Nums.nil,ak.upd hd⟩ ?_ ?_ ?_⟩
   ·rintro i Z' H' _ ⟨x,y,kvs,rfl,h1,h2,h3⟩
    exact aP.of (h3 _ _ ha)
   ·rintro i xv Z' H1 hx ⟨x,y,kvs,rfl,h1,h2,s1⟩
    rw [List.getElem?_map] at hx
    obtain ⟨row,hrow,rfl⟩:=Option.map_eq_some_iff.mp hx
    obtain ⟨it,hit,rfl⟩:=nG hrow
    obtain ⟨g1,g2,g3⟩:=jI G hit
    refine @ay _ _ _ _ _ _ _ (aF (i:=3) sy.nd rfl (Or.inl rfl) (dc F.plainAttrs_str F.slot_str_split F.type_str_split p7 (pv 2) (aa aN ah))) ⟨_,rfl,rfl,_,_,rfl,rfl,by decide,bL (by omega),λlw hlw=>?_⟩
    rw [sp1,g3]
    have s2:ak H1 (upd H1 lw (.lst ((it.words (namesOf its)).map V.str))):=ak.upd hlw
    have hw:upd H1 lw (.lst ((it.words (namesOf its)).map V.str)) lw = some (.lst ((it.words (namesOf its)).map V.str)):=af
    have hd2:=s2 _ _ h1
    generalize upd H1 lw (.lst ((it.words (namesOf its)).map V.str)) = H2 at s2 hw hd2
    cases it with
    | mode n c =>
     obtain ⟨m1,m2,m3,m4⟩:=G.mode i n c hit
     refine @au _ _ _ _ _ _ (bA (PW.pt (gw (aA cO (aK aQ (pv 3) ao (λ_ _=>rfl)) aN (aD _)) (gi (aA mG (aO bh (by rfl) T.bW (by decide +kernel) (aa (pv 3) ah)) ao (aD _))))) av av) ⟨_,rfl,_,_,_,_,rfl,rfl,aP.of hw,aS (j:=0) rfl,rfl,_,rfl,eS (λ_=>?_) (λh=>absurd rfl h)⟩
     refine ⟨_,rfl,_,_,rfl,.inl (aP.of hw),_,_,rfl,rfl,_,rfl,eS (λ_=>?_) (λh=>absurd (by simp [Item.words]) h)⟩
     refine @au _ _ _ _ _ _ (E9 (gH hr) (pv 1) (aK aQ (pv 3) ao (λ_ _=>rfl)) (aO AO (by rfl) T.bW (by decide +kernel) (aa (pv 1) ah)) rfl) ⟨_,rfl,d,kvs,rfl,hd2,_,rfl,_,rfl,_,_,_,_,rfl,rfl,aP.of hw,aS (j:=1) rfl,d,_,rfl,Ei.k (k:=.inr n) hd2 ?_,?_⟩
     ·rw [h2.len];exact cE (by omega)
     ·refine ⟨_,_,_,rfl,af,?_,λb o hb=>?_⟩
      ·rw [take_snoc hit,jv,h2.len]
       exact h2.put m4
      ·rw [ai (aj hb hd)];exact s2 _ _ (s1 _ _ hb)
    | rule R =>
     obtain ⟨r1,_⟩:=G.rule i R hit
     obtain ⟨fw,fr,e1,e2⟩:=oZ r1
     have hw':H2 lw = some (.lst (V.str fw :: fr.map V.str)):=by rw [hw];simp only [Item.words];rw [e1];rfl
     refine @au _ _ _ _ _ _ (bA (PW.pt (gw (aA cO (aK aQ (pv 3) ao (λ_ _=>rfl)) aN (aD _)) (gi (aA mG (aO bh (by rfl) T.bW (by decide +kernel) (aa (pv 3) ah)) ao (aD _))))) av av) ⟨_,rfl,_,_,_,_,rfl,rfl,aP.of hw',aS (j:=0) rfl,rfl,_,rfl,eS (λh=>absurd (V.str.inj h) e2) (λ_=>bx ?_)⟩
     refine ⟨_,_,kvs,rfl,hd2,?_,s1.trans s2⟩
     rw [take_snoc hit,jv]
     show Nums (namesOf (its.take i) ++ []) kvs
     rw [List.append_nil]
     exact h2
   ·rintro Z' H' ⟨x,y,kvs,rfl,h1,h2,h3⟩
    refine ⟨x,y,kvs,rfl,h1,?_,h3⟩
    rw [List.length_map,rowsOf,List.length_map,List.take_length] at h2
    exact h2
  rintro Z' H' ⟨x,y,kvs,rfl,h1,h2,h3⟩
  exact @au _ _ _ _ _ _ (aH (pv 1)) ⟨_,rfl,q d kvs H' h1 h2 h3⟩
noncomputable def Cw (t:gq):Sp:=λvs H Q _=>∃ (p dx lw lm:Addr) (row:Int) (n c:Str) (as ls:List Addr) (ms:List aC),vs = [.ref p,.ref lm] /\ kW t H p dx lw row ["mode",n,c] 0 /\ isName n = true /\ isName c = true /\ H lm = some (.lst (as.map V.ref)) /\ cB t H as ls ms /\ ms.length < 12 /\ n ∉ ms.map (·.name) /\
 ∀ m l2 dm H',H' m = some (.ins t.bP dm (mf ⟨n,c,[]⟩ l2)) -> H' l2 = some (.lst []) -> H l2 = none -> jL H H' p -> Q (.ref m) H'
theorem E6 {H:Hp} {m dm l p dx lw:Addr} {M:aC} {row:Int} {ws:List Str} {i:Nat} (h:H m = some (.ins t.bP dm (mf M l))) (C:kW t H p dx lw row ws i):m ≠ p:=cP h C.ob λq=>by
 injection q with _ _ q
 unfold mf cf at q
 simp at q
theorem IC (T:Txt K mg t):bu P w K mg base dZ 5 t.oJ t.wI ["cursor","modes"] (Cw t):=by
 refine T.uA.ok yp ?_ ?_
 walk_at "i"
 ·obtain ⟨p,dx,lw,lm,row,n,c,as,ls,ms,rfl,C,hn,hc,hlm,hM,hl12,hnn,q⟩:=h
  have nlp:lm ≠ p:=cP hlm C.ob (by intro z;cases z)
  refine @ay _ _ _ _ _ _ _ (bq (cj (pv 0) T.aJ T.Aj (rY T) (hr.mono (by decide)) (T.qA.binds (by walk_at "2")) .nil aG (aa (eu iQ (aO bh (by rfl) T.bW (by decide +kernel) (aa (pv 1) ah)) (fh rfl T.pL) (aD _)) ah))) ⟨_,rfl,p,dx,_,rfl,C.ob,rfl,_,rfl,_,_,rfl,.inl (aP.of hlm),_,_,rfl,rfl,?_⟩
  dsimp only
  rw [decide_eq_true (by rw [List.length_map,hM.la];omega)]
  refine ⟨_,rfl,?_⟩
  refine @ay _ _ _ _ _ _ _ (bq (cj (pv 0) T.aJ T.Fi (zJ T) (hr.mono (by decide)) (T.xy.binds (by walk_at "2")) .nil aG (aa (eE (aa aN ah)) ah))) ⟨_,rfl,p,dx,_,rfl,C.ob,rfl,by show 1 <= sizeLine;decide,λpt hpt=>?_⟩
  have s1:ak H (upd H pt (.tup [.str "mode"])):=ak.upd hpt
  have C1:=C.same s1
  refine ⟨p,dx,lw,pt,["mode"],row,_,0,rfl,C1,fL.of af,List.mem_singleton.mpr rfl,λH2 C2 a2=>?_⟩
  have a2:=s1.EO a2
  have hlm2:H2 lm = some (.lst (as.map V.ref)):=a2 _ _ hlm nlp
  refine @ay _ _ _ _ _ _ _ (@bq _ _ _ _ (@cj _ _ _ _ _ _ _ _ _ _ _ _ _ _ _ _ _ _ _ _ (pv 0) T.aJ T.Aj (rY T) (hr.mono (by decide)) (T.qA.binds (by walk_at "2")) .nil aG (@aa _ _ _ _ _ (@eu _ _ _ _ _ _ _ _ k9 (@cu _ _ _ _ _ _ _ _ _ _ _ _ _ _ _ _ _ (pv 0) T.aJ T.xH (oR T) (hr.mono (by decide)) (T.pZ.binds (by walk_at "1")) .nil aG (by left)) (@eZ _ (aq zy) _ ["cursor","modes","name","colour"] _ _ ("mode") _ _ [] _ _ (by walk_at "ck") (@cH _ _ _ _ (pv 1)) (λ_ _ _ _=>by exact (@nM _ K _ _ _ _ (pv 0) rfl (by left))) (by left) (by left) (by left) (by left)) rfl) ah (by left)) (by left) (by left) (by left)) (by left)) ?_
  refine ⟨_,rfl,p,dx,_,rfl,C2.ob,rfl,⟨_,rfl,p,dx,_,rfl,C2.ob,rfl,p,dx,lw,row,_,0 + 1,rfl,C2,?_⟩⟩
  refine ⟨_,rfl,lm,rfl,⟨_,aP.of hlm2⟩,dN (xs:=as.map V.ref) (λi ys H'=>H' = H2 /\ ys = ((ms.map (·.name)).take i).map V.str) ⟨rfl,rfl⟩ (cE (by rw [List.length_map,hM.la];omega)) ?_ ?_ ?_⟩
  ·rintro i ys H' _ ⟨rfl,_⟩
   exact aP.of hlm2
  ·rintro i xv ys H' hx hyl ⟨rfl,rfl⟩
   rw [List.getElem?_map] at hx
   obtain ⟨a,ha,rfl⟩:=Option.map_eq_some_iff.mp hx
   have hi:i < as.length:=(List.getElem?_eq_some_iff.mp ha).1
   obtain ⟨m,hm⟩:∃ m,ms[i]? = some m:=⟨ms[i]'(by rw [← hM.la];exact hi),List.getElem?_eq_getElem _⟩
   obtain ⟨l,hll⟩:∃ l,ls[i]? = some l:=⟨ls[i]'(by rw [hM.ll,← hM.la];exact hi),List.getElem?_eq_getElem _⟩
   obtain ⟨dm,rs,o1,o2,o3⟩:=hM.ob i a l m ha hll hm
   refine ⟨_,rfl,a,t.bP,dm,_,_,rfl,a2 _ _ o1 (E6 o1 C),T.eX,T.fN,rfl,?_⟩
   refine cR (by rw [List.length_map];exact hi) hyl ⟨rfl,?_⟩
   rw [take_snoc (l:=ms.map (·.name)) (x:=m.name) (by rw [List.getElem?_map,hm];rfl),List.map_append]
   rfl
  ·rintro ys H' hyl ⟨rfl,rfl⟩ D hD
   have hall:(ms.map (·.name)).take (as.map V.ref).length = ms.map (·.name):=List.take_of_length_le (by rw [List.length_map,List.length_map,hM.la];omega)
   rw [hall]
   have s3:ak H' (upd H' D (.lst ((ms.map (·.name)).map V.str))):=ak.upd hD
   have C3:=C2.same s3
   refine ⟨D,_,rfl,.inl (aP.of af),rfl,rV,?_⟩
   rw [if_pos rfl,jF,decide_eq_false (p:=pk ["mode",n,c] (0 + 1) ∈ ms.map (·.name)) hnn]
   refine ⟨_,rfl,?_⟩
   refine @ay _ _ _ _ _ _ _ (aF (i:=2) yp.nd rfl (Or.inl rfl) (cu (pv 0) T.aJ T.E3 (zF T) (hr.mono (by decide)) (T.v9.binds (by walk_at "1")) .nil aG)) ⟨_,rfl,p,dx,_,rfl,C3.ob,rfl,p,dx,lw,row,_,0 + 1,rfl,C3,hn,λH4 C4 a4=>?_⟩
   refine @ay _ _ _ _ _ _ _ (aF (i:=3) yp.nd rfl (Or.inl rfl) (cu (pv 0) T.aJ T.E3 (zF T) (hr.mono (by decide)) (T.v9.binds (by walk_at "1")) .nil aG)) ⟨_,rfl,p,dx,_,rfl,C4.ob,rfl,p,dx,lw,row,_,0 + 1 + 1,rfl,C4,hc,λH5 C5 a5=>?_⟩
   have a5:=(a2.same s3).trans (a4.trans a5)
   refine @ay _ _ _ _ _ _ _ (bq (cj (pv 0) T.aJ T.Aj (rY T) (hr.mono (by decide)) (T.qA.binds (by walk_at "2")) .nil aG (aa (DX (cu (pv 0) T.aJ T.E2 (zE T) (hr.mono (by decide)) (T.uL.binds (by walk_at "1")) .nil aG)) ah))) ⟨_,rfl,p,dx,_,rfl,C5.ob,rfl,⟨_,rfl,p,dx,_,rfl,C5.ob,rfl,p,dx,lw,row,_,0 + 1 + 1 + 1,rfl,C5,_,rfl,?_⟩⟩
   refine ⟨_,rfl,?_⟩
   refine @au _ _ _ _ _ _ (aH (eT T.nI (Cn T) (hr.mono (by decide)) rfl T.vO (T.t9.binds (by walk_at "4")) .nil aG (aa (pv 2) (aa (pv 3) (aa (bf ah) ah))))) ⟨_,rfl,_,rfl,by show 0 <= sizeLine;decide,λl1 hl1=>?_⟩
   intro x dm nx ndm ne
   have nl1:l1 ≠ x:=aj af nx
   have nl2:l1 ≠ dm:=aj af ndm
   refine ⟨x,dm,l1,n,c,[],rfl,af,by rw [ai nl1,ai nl2];exact af,λl2 H6 h1 h2 h3 h4=>⟨rfl,?_⟩⟩
   have key:∀ b o,H5 b = some o -> b ≠ x /\ b ≠ dm /\ b ≠ l1:=λb o hb=>by
    have e1:b ≠ l1:=aj hb hl1
    have hb':upd H5 l1 (.lst []) b = some o:=by rw [ai e1];exact hb
    exact ⟨aj hb' nx,aj hb' ndm,e1⟩
   have hadv:∀ b o,H5 b = some o -> H6 b = some o:=λb o hb=>by
    obtain ⟨k1,k2,k3⟩:=key b o hb
    refine h4 b o ?_ k1
    rw [ai k1,ai k2,ai k3];exact hb
   refine q x l2 dm H6 h2 h3 ?_ λb o hb nb=>hadv b o (a5 b o hb nb)
   cases e:H l2 with
   | none=>rfl
   | some o =>
    by_cases z:l2 = p
    ·have h5:=hadv p _ C5.ob
     rw [z,h5] at h3
     cases h3
    ·have h5:=a5 _ _ e z
     obtain ⟨k1,k2,k3⟩:=key _ _ h5
     rw [ai k1,ai k2,ai k3,h5] at h1
     cases h1
noncomputable def Ja (t:gq):Sp:=λvs H Q _=>∃ (its:List Item),vs = [.str (Str.join ⟨#[10]⟩ (rowsOf its))] /\ fM its /\ its.length <= 200 /\ ∀ a H',IsRules t H' a (foldI its) -> ak H H' -> Q (.ref a) H'
theorem se (its:List Item):(foldI its).length = (namesOf its).length:=by rw [← pO,List.length_map]
theorem jL.fresh {H H1 H2:Hp} {p:Addr} (s:ak H H1) (h:H p = none) (a:jL H1 H2 p):ak H H2:=λb o hb=>a b o (s b o hb) (aj hb h)
theorem dh.kL {H:Hp} {r l:Addr} {R:bw} {xs:List V} {o:HO} (h:dh t H r R) (hl:H l = some (.lst xs)):dh t (upd H l o) r R:=by
 obtain ⟨dx,p,x,⟨dp,y⟩⟩:=h
 exact ⟨dx,p,by rw [ai (cP x hl (by intro z;cases z))];exact x,dp,by rw [ai (cP y hl (by intro z;cases z))];exact y⟩
theorem cB.kL {H:Hp} {as ls:List Addr} {ms:List aC} {l:Addr} {xs:List V} {o:HO} (h:cB t H as ls ms) (hl:H l = some (.lst xs)) (hn:l ∉ ls):cB t (upd H l o) as ls ms :=
 ⟨h.la,h.ll,h.nd,λi a l' m h1 h2 h3=>by
  obtain ⟨dx,rs,x,y,z⟩:=h.ob i a l' m h1 h2 h3
  exact ⟨dx,rs,by rw [ai (cP x hl (by intro z;cases z))];exact x,by rw [ai (show l' ≠ l from λe=>hn (e ▸ List.mem_of_getElem? h2))];exact y,z.mono λ_ _ r=>r.kL hl⟩⟩
theorem cB.alive {H:Hp} {as ls:List Addr} {ms:List aC} (h:cB t H as ls ms) {l:Addr} (hl:l ∈ ls):∃ xs,H l = some (.lst xs):=by
 obtain ⟨i,e⟩:=List.mem_iff_getElem?.mp hl
 have hi:=(List.getElem?_eq_some_iff.mp e).1
 obtain ⟨dx,rs,x,y,z⟩:=h.ob i _ l _ (List.getElem?_eq_getElem (by rw [h.la,← h.ll];exact hi)) e (List.getElem?_eq_getElem (by rw [← h.ll];exact hi))
 exact ⟨_,y⟩
theorem cB.Mv {H:Hp} {as ls:List Addr} {ms:List aC} {m l dm:Addr} {n c:Str} (h:cB t H as ls ms) (hm:H m = some (.ins t.bP dm (mf ⟨n,c,[]⟩ l))) (hl:H l = some (.lst [])) (hn:l ∉ ls):cB t H (as ++ [m]) (ls ++ [l]) (ms ++ [⟨n,c,[]⟩]):=by
 refine ⟨by simp [h.la],by simp [h.ll],?_,λi a l' m' h1 h2 h3=>?_⟩
 ·refine List.nodup_append.mpr ⟨h.nd,by simp,λa ha b hb=>?_⟩
  rw [List.mem_singleton.mp hb]
  exact λe=>hn (e ▸ ha)
 ·have e1:=h.la
  have e2:=h.ll
  rcases cV h1 with h1 | ⟨i1,rfl⟩
  ·have:=(List.getElem?_eq_some_iff.mp h1).1
   rcases cV h2 with h2 | ⟨i2,rfl⟩
   ·rcases cV h3 with h3 | ⟨i3,rfl⟩
    ·exact h.ob i a l' m' h1 h2 h3
    ·omega
   ·omega
  ·rcases cV h2 with h2 | ⟨i2,rfl⟩
   ·have:=(List.getElem?_eq_some_iff.mp h2).1;omega
   ·rcases cV h3 with h3 | ⟨i3,rfl⟩
    ·have:=(List.getElem?_eq_some_iff.mp h3).1;omega
    ·exact ⟨dm,[],hm,hl,bB.nil⟩
theorem B5 {l:List Addr} (h:l.Nodup) {i j:Nat} {a:Addr} (h1:l[i]? = some a) (h2:l[j]? = some a):i = j:=by
 obtain ⟨i1,e1⟩:=List.getElem?_eq_some_iff.mp h1
 obtain ⟨j1,e2⟩:=List.getElem?_eq_some_iff.mp h2
 exact (List.getElem_inj h).mp (e1.trans e2.symm)
theorem cB.MH {H:Hp} {as ls:List Addr} {ms:List aC} {m:aC} {l r:Addr} {rs:List Addr} {R:bw} (h:cB t H as ls (ms ++ [m])) (hl:ls[ms.length]? = some l) (hH:H l = some (.lst (rs.map V.ref))) (hA:bB (dh t H) rs m.rules) (hr:dh t H r R) :
  cB t (upd H l (.lst (rs.map V.ref ++ [.ref r]))) as ls (ms ++ [{ m with rules:=m.rules ++ [R] }]):=by
 refine ⟨by rw [h.la];simp,by rw [h.ll];simp,h.nd,λi a l' m' h1 h2 h3=>?_⟩
 rcases cV h3 with h3 | ⟨i3,rfl⟩
 ·have hi:=(List.getElem?_eq_some_iff.mp h3).1
  obtain ⟨dx,rs',x,y,z⟩:=h.ob i a l' m' h1 h2 (by rw [List.getElem?_append_left hi];exact h3)
  refine ⟨dx,rs',by rw [ai (cP x hH (by intro z;cases z))];exact x,?_,z.mono λ_ _ r=>r.kL hH⟩
  rw [ai (λe=>?_)]
  ·exact y
  ·subst e
   have:=B5 h.nd h2 hl
   omega
 ·subst i3
  rw [hl] at h2
  cases h2
  obtain ⟨dx,rs',x,y,z⟩:=h.ob _ a l m h1 hl (by simp)
  refine ⟨dx,rs ++ [r],by rw [ai (cP x hH (by intro z;cases z))];exact x,by rw [af,List.map_append];rfl,?_⟩
  exact bB.snoc (hA.mono λ_ _ r=>r.kL hH) (hr.kL hH)
theorem rg {α β:Type} {f:α -> β} {as:List α} {k:Nat} {a:α} (hl:as.length = k + 1) (h:as[k]? = some a):qv (as.map f) (-1) = some (f a):=by
 unfold qv Ez
 rw [List.length_map,hl]
 have e:((-1:Int) + ((k + 1:Nat):Int)).toNat = k:=by omega
 first
  | (rw [if_neg (by omega),if_pos (by omega)];simp only [Option.bind_some];rw [show (((k + 1:Nat):Int) + (-1:Int)).toNat = k by omega,List.getElem?_map,h];rfl)
  | (rw [if_neg (by omega),if_pos (by omega)];simp only [Option.bind_some];rw [e,List.getElem?_map,h];rfl)
theorem I9 (T:Txt K mg t):bu P w K mg base dZ 7 t.pW t.v8 ["text"] (Ja t):=by
 refine T.wV.ok jg ?_ ?_
 walk_at "i"
 ·obtain ⟨its,rfl,G,hlen,q⟩:=h
  have nl1:("\n" : Str) = ⟨#[10]⟩:=by decide +kernel
  refine @ay _ _ _ _ _ _ _ (aF (i:=1) jg.nd rfl (Or.inl rfl) (dc F.plainAttrs_str F.slot_str_split F.type_str_split p7 (pv 0) (aa aN ah))) ⟨_,rfl,rfl,_,_,rfl,rfl,by decide,bL (by have:=text_len G hlen;omega),λlr hlr=>?_⟩
  rw [nl1,ya G]
  have s1:ak H (upd H lr (.lst ((rowsOf its).map V.str))):=ak.upd hlr
  have hr1:upd H lr (.lst ((rowsOf its).map V.str)) lr = some (.lst ((rowsOf its).map V.str)):=af
  generalize upd H lr (.lst ((rowsOf its).map V.str)) = H1 at s1 hr1
  refine @ay _ _ _ _ _ _ _ (aF (i:=2) jg.nd rfl (Or.inl rfl) (aM (J1 T) (hr.mono (by decide)) rfl T.JD T.xj.kp (T.xj.binds (by walk_at "1")) .nil aG (aa (pv 1) ah))) ⟨_,rfl,lr,its,rfl,hr1,G,hlen,λd kvs H2 hd2 hN s2=>?_⟩
  have hr2:=s2 _ _ hr1
  have s2:=s1.trans s2
  refine @ay _ _ _ _ _ _ _ (aF (i:=3) jg.nd rfl (Or.inl rfl) (bf ah)) ⟨by show 0 <= sizeLine;decide,λlm hlm=>?_⟩
  have s3:ak H2 (upd H2 lm (.lst [])):=ak.upd hlm
  have hm3:upd H2 lm (.lst []) lm = some (.lst []):=af
  generalize upd H2 lm (.lst []) = H3 at s3 hm3
  have hlm0:H lm = none:=s2.free hlm
  have hr3:=s3 _ _ hr2
  have hd3:=s3 _ _ hd2
  have s3:=s2.trans s3
  refine @ay _ _ _ _ _ _ _ (aF (i:=4) jg.nd rfl (Or.inl rfl) (bf ah)) ⟨by show 0 <= sizeLine;decide,λnw hnw=>?_⟩
  have s4:ak H3 (upd H3 nw (.lst [])):=ak.upd hnw
  have hw4:upd H3 nw (.lst []) nw = some (.lst []):=af
  generalize upd H3 nw (.lst []) = H4 at s4 hw4
  have hr4:=s4 _ _ hr3
  have hd4:=s4 _ _ hd3
  have hm4:=s4 _ _ hm3
  have nmw:lm ≠ nw:=aj hm3 hnw
  have s4:=s3.trans s4
  have nlr:lr ≠ lm:=aj hr2 hlm
  have nlrw:lr ≠ nw:=aj hr3 hnw
  refine @aB _ _ _ _ _ _ _ (λZ' H'=>∃ x5 x6 x7 x8 as ls,Z' = [some (.str (Str.join ⟨#[10]⟩ (rowsOf its))),some (.ref lr),some (.ref d),some (.ref lm),some (.ref nw),x5,x6,x7,x8] /\ H' lm = some (.lst (as.map V.ref)) /\ H' nw = some (.lst []) /\ cB t H' as ls (foldI its) /\ ak H H') (dU PassesOwn.never rfl (zS rfl T.iL (aa (pv 1) ah)) (yJ rfl (iT (b9 (i:=5) jg.nd rfl (Or.inl rfl)) (iT (b9 (i:=6) jg.nd rfl (Or.inl rfl)) tO))) av) ?_ ?_
  ·refine ⟨_,rfl,lr,_,rfl,aP.of hr4,rL (xs:=(rowsOf its).map V.str) (λi Z' H'=>∃ x5 x6 x7 x8 as ls,Z' = [some (.str (Str.join ⟨#[10]⟩ (rowsOf its))),some (.ref lr),some (.ref d),some (.ref lm),some (.ref nw),x5,x6,x7,x8] /\ H' lm = some (.lst (as.map V.ref)) /\ H' nw = some (.lst []) /\ H' lr = some (.lst ((rowsOf its).map V.str)) /\ H' d = some (.dK kvs) /\ cB t H' as ls (foldI (its.take i)) /\ lm ∉ ls /\ nw ∉ ls /\ lr ∉ ls /\ (∀ l ∈ ls,H l = none) /\ ak H H') ?_ ?_ ?_ ?_⟩
   ·exact ⟨_,_,_,_,[],[],rfl,hm4,hw4,hr4,hd4,⟨rfl,rfl,List.nodup_nil,λi a l m h=>by simp at h⟩,by simp,by simp,by simp,by simp,s4⟩
   ·rintro i Z' H' _ ⟨x5,x6,x7,x8,as,ls,rfl,h1,h2,h3,_⟩
    exact aP.of h3
   ·rintro i xv pt Z' H5 hx hpt ⟨x5,x6,x7,x8,as,ls,rfl,hm5,hw5,hr5,hd5,hM,nl1',nl2',nl3',hfr,s5⟩
    rw [List.getElem?_map] at hx
    obtain ⟨row,hrow,rfl⟩:=Option.map_eq_some_iff.mp hx
    obtain ⟨it,hit,rfl⟩:=nG hrow
    obtain ⟨g1,g2,g3⟩:=jI G hit
    obtain ⟨w1,w2,w3⟩:=oz G hit
    have s6:ak H5 (upd H5 pt (.tup [.int i,.str (rowOf (namesOf its) it)])):=ak.upd hpt
    refine ⟨pt,[.int i,.str (rowOf (namesOf its) it)],rfl,fL.of af,rfl,_,_,rfl,_,_,rfl,rfl,?_⟩
    generalize upd H5 pt (.tup [.int i,.str (rowOf (namesOf its) it)]) = H6 at s6
    refine @ay _ _ _ _ _ _ _ (aF (i:=7) jg.nd rfl (Or.inl rfl) (eT T.mD (KA T) (hr.mono (by decide)) rfl T.xR (T.Fj.binds (by walk_at "3")) .nil aG (aa (pv 5) (aa (pv 6) ah)))) ⟨_,rfl,_,rfl,λp dx np ndx ne=>⟨p,dx,i,_,rfl,af,by omega,by rw [g3];omega,λlw H7 hlw C7 a7=>⟨rfl,?_⟩⟩⟩
    rw [g3] at C7
    have s7:ak H5 H7:=λb o hb=>a7 b o (by rw [ai (aj (s6 _ _ hb) np),ai (aj (s6 _ _ hb) ndx)];exact s6 _ _ hb) (aj (s6 _ _ hb) np)
    have hp5:H5 p = none:=s6.free np
    have hm7:=s7 _ _ hm5
    have hM7:=hM.same s7
    have hml:as.length = (foldI (its.take i)).length:=hM.la
    cases it with
    | mode n c =>
     obtain ⟨m1,m2,m3,m4⟩:=G.mode i n c hit
     refine @au _ _ _ _ _ _ (bA (PW.pt (jM (sA (jE (pv 3) (λ_=>rfl))) (iN (aA cO (cu (pv 7) T.aJ T.xH (oR T) (hr.mono (by decide)) (T.pZ.binds (by walk_at "1")) .nil aG) aN (aD _))))) av av) ⟨_,rfl,_,.inl ⟨_,aP.of hm7,rfl⟩,?_⟩
     refine (λhb=>L5 (λ_=>xO hb) (λ_=>⟨_,rfl,p,dx,_,rfl,C7.ob,rfl,p,dx,lw,i,_,0,rfl,C7,rfl,_,rfl,eS (λ_=>hb) (λh=>absurd rfl h)⟩)) ?_
     refine @au _ _ _ _ _ _ (bq (dc F.plainAttrs_list F.slot_list_append F.type_list_append bF (pv 3) (aa (aM (IC T) (hr.mono (by decide)) rfl T.GD T.uA.kp (T.uA.binds (by walk_at "2")) .nil aG (aa (pv 7) (aa (pv 3) ah))) ah))) ⟨_,rfl,.inl ⟨rfl,_,aP.of hm7⟩,_,rfl,_,rfl,p,dx,lw,lm,i,n,c,as,ls,_,rfl,C7,m1,m2,hm7,hM7,by rw [se];exact m3,by rw [pO];exact m4,λm l2 dm H8 e1 e2 e3 a8=>?_⟩
     have s8:ak H5 H8:=jL.fresh s7 hp5 a8
     have hm8:=s8 _ _ hm5
     have n1:lm ≠ l2:=aj hm7 e3
     have hn2:l2 ∉ ls:=λz=>by
      obtain ⟨xs,hx⟩:=hM7.alive z
      rw [hx] at e3;cases e3
     refine ⟨lm,_,_,rfl,rfl,hm8,cE (by rw [List.length_map,hml,se];omega),?_⟩
     refine ⟨_,_,_,_,as ++ [m],ls ++ [l2],rfl,by rw [af,List.map_append];rfl,?_,?_,?_,?_,?_,?_,?_,?_,?_⟩
     ·rw [ai (Ne.symm nmw)];exact s8 _ _ hw5
     ·rw [ai nlr];exact s8 _ _ hr5
     ·rw [ai (cP hd5 hm5 (by intro z;cases z))];exact s8 _ _ hd5
     ·rw [take_snoc hit,oN]
      exact cB.Mv ((hM.same s8).kL hm8 nl1') (by rw [ai (cP e1 hm8 (by intro z;cases z))];exact e1) (by rw [ai (Ne.symm n1)];exact e2) hn2
     ·intro z
      rcases List.mem_append.mp z with z | z
      ·exact nl1' z
      ·exact n1 (List.mem_singleton.mp z)
     ·intro z
      rcases List.mem_append.mp z with z | z
      ·exact nl2' z
      ·exact aj (s7 _ _ hw5) e3 (List.mem_singleton.mp z)
     ·intro z
      rcases List.mem_append.mp z with z | z
      ·exact nl3' z
      ·exact aj (s7 _ _ hr5) e3 (List.mem_singleton.mp z)
     ·intro l hl
      rcases List.mem_append.mp hl with z | z
      ·exact hfr l z
      ·rw [List.mem_singleton.mp z];exact (s5.trans s7).free e3
     ·intro b o hb
      rw [ai (aj hb hlm0)]
      exact s8 _ _ (s5 _ _ hb)
    | rule R =>
     obtain ⟨r1,ms,m,hms,hm12⟩:=G.rule i R hit
     obtain ⟨fw,fr,f1,f2⟩:=oZ r1
     rw [hms] at hM hM7 hml
     have hk:as.length = ms.length + 1:=by rw [hml];simp
     obtain ⟨a,ha⟩:∃ a,as[ms.length]? = some a:=⟨as[ms.length]'(by omega),List.getElem?_eq_getElem _⟩
     obtain ⟨l,hl⟩:∃ l,ls[ms.length]? = some l:=⟨ls[ms.length]'(by rw [hM.ll];simp),List.getElem?_eq_getElem _⟩
     obtain ⟨dm,rs,o1,o2,o3⟩:=hM.ob ms.length a l m ha hl (by simp)
     have o1':=s7 _ _ o1
     have o2':=s7 _ _ o2
     have hrl:rs.length < 12:=by rw [o3.1];exact hm12
     have hl0:H l = none:=hfr l (List.mem_of_getElem? hl)
     have hnl:l ∈ ls:=List.mem_of_getElem? hl
     refine @au _ _ _ _ _ _ (bA (PW.pt (jM (sA (jE (pv 3) (λ_=>rfl))) (iN (aA cO (cu (pv 7) T.aJ T.xH (oR T) (hr.mono (by decide)) (T.pZ.binds (by walk_at "1")) .nil aG) aN (aD _))))) av av) ⟨_,rfl,_,.inl ⟨_,aP.of hm7,rfl⟩,L5 (λh=>?_) (λ_=>?_)⟩
     ·exfalso
      have:as ≠ []:=λz=>by rw [z] at hk;simp at hk
      cases as with
      | nil=>exact this rfl
      | cons _ _=>simp at h
     refine ⟨_,rfl,p,dx,_,rfl,C7.ob,rfl,p,dx,lw,i,_,0,rfl,C7,rfl,_,rfl,eS (λh=>?_) (λ_=>?_)⟩
     ·exfalso
      refine f2 ?_
      have h:=V.str.inj h
      simp only [Item.words,f1] at h
      exact h
     refine @ay _ _ _ _ _ _ _ (aF (i:=8) jg.nd rfl (Or.inl rfl) (aZ (aK aQ (pv 3) (gT e9 ao) (λ_ _=>rfl)) rfl)) ⟨_,rfl,_,rfl,_,_,_,_,rfl,rfl,aP.of hm7,rg hk ha,a,t.bP,dm,_,_,rfl,o1',T.eX,T.dF,rfl,?_⟩
     refine @ay _ _ _ _ _ _ _ (bq (cj (pv 7) T.aJ T.Aj (rY T) (hr.mono (by decide)) (T.qA.binds (by walk_at "2")) .nil aG (aa (eu iQ (aO bh (by rfl) T.bW (by decide +kernel) (aa (pv 8) ah)) (fh rfl T.pX) (aD _)) ah))) ⟨_,rfl,p,dx,_,rfl,C7.ob,rfl,_,rfl,_,_,rfl,.inl (aP.of o2'),_,_,rfl,rfl,?_⟩
     dsimp only
     rw [decide_eq_true (by rw [List.length_map];omega)]
     refine ⟨_,rfl,?_⟩
     refine @au _ _ _ _ _ _ (bq (dc F.plainAttrs_list F.slot_list_append F.type_list_append bF (pv 8) (aa (aM (Jg T) (hr.mono (by decide)) rfl T.J8 T.wJ.kp (T.wJ.binds (by walk_at "3")) .nil aG (aa (pv 7) (aa (pv 2) (aa (pv 4) ah)))) ah))) ⟨_,rfl,.inl ⟨rfl,_,aP.of o2'⟩,_,rfl,_,rfl,_,rfl,p,dx,lw,d,_,i,_,kvs,namesOf its,R,rfl,C7,rfl,s7 _ _ hd5,hN.has,oM G,r1,λr H8 hr8 a8=>?_⟩
     have s8:ak H5 H8:=jL.fresh s7 hp5 a8
     have o2'':=s8 _ _ o2
     refine ⟨l,_,_,rfl,rfl,o2'',cE (by rw [List.length_map];omega),?_⟩
     refine ⟨_,_,_,_,as,ls,rfl,?_,?_,?_,?_,?_,nl1',nl2',nl3',hfr,?_⟩
     ·rw [ai (show lm ≠ l from λz=>nl1' (z ▸ hnl))];exact s8 _ _ hm5
     ·rw [ai (show nw ≠ l from λz=>nl2' (z ▸ hnl))];exact s8 _ _ hw5
     ·rw [ai (show lr ≠ l from λz=>nl3' (z ▸ hnl))];exact s8 _ _ hr5
     ·rw [ai (cP hd5 o2 (by intro z;cases z))];exact s8 _ _ hd5
     ·rw [take_snoc hit,oN,hms]
      show cB _ _ _ _ (iH R (ms ++ [m]))
      rw [ja]
      exact (hM.same s8).MH hl o2'' (o3.mono λ_ _ r=>r.same s8) hr8
     ·intro b o hb
      rw [ai (aj hb hl0)]
      exact s8 _ _ (s5 _ _ hb)
   ·rintro Z' H' ⟨x5,x6,x7,x8,as,ls,rfl,h1,h2,h3,h4,h5,_,_,_,_,h6⟩
    rw [List.length_map,rowsOf,List.length_map,List.take_length] at h5
    exact ⟨_,_,_,_,as,ls,rfl,h1,h2,h5,h6⟩
  rintro Z' H' ⟨x5,x6,x7,x8,as,ls,rfl,h1,h2,h5,h6⟩
  refine @ay _ _ _ _ _ _ _ (bA (jE (pv 4) (λ_=>rfl)) av av) ⟨_,rfl,_,.inl ⟨_,aP.of h2,rfl⟩,sq (bx ?_)⟩
  refine @au _ _ _ _ _ _ (aH (eT T.lE (El T) (hr.mono (by decide)) rfl T.qZ (T.uY.binds (by walk_at "2")) .nil aG (aa (pv 3) ah))) ⟨_,rfl,λx dx nx ndx ne=>⟨x,dx,lm,_,rfl,af,by rw [ai (aj h1 nx),ai (aj h1 ndx)];exact h1,λl2 H8 e1 e2 e3 e4=>⟨rfl,?_⟩⟩⟩
  have s8:ak H' H8:=λb o hb=>e4 b o (by rw [ai (aj hb nx),ai (aj hb ndx)];exact hb) (aj hb nx)
  exact q x H8 ⟨dx,l2,as,ls,e2,e3,h5.same s8⟩ (h6.trans s8)
def dP (R:bw) (row:Str) (i:Nat):Bool:=decide (cF R.sort R.signs row i ≠ .cL)
def fX (row:Str) (i:Nat):Nat -> List bw -> Option Nat
 | _,[]=>none
 | k,R :: r=>if dP R row i = true then some k else fX row i (k + 1) r
def firstM (rs:List bw) (row:Str) (i:Nat):Option Nat:=fX row i 0 rs
def GoodR (R:bw):Prop:=R.sort ∈ sorts /\ R.signs.length <= 200
def tN (rs:List bw):Prop:=rs.length <= 200 /\ ∀ R ∈ rs,GoodR R
theorem lB {α:Type} {l:List α} {i:Nat} {x:α} (h:l[i]? = some x):l.drop i = x :: l.drop (i + 1):=by
 rw [List.drop_eq_getElem?_toList_append,h];rfl
theorem A7 {row:Str} {i k:Nat} {rs:List bw} {R:bw} {n:Nat} (h:rs[n]? = some R):fX row i k (rs.drop n) = if dP R row i = true then some k else fX row i (k + 1) (rs.drop (n + 1)):=by
 rw [lB h];rfl
theorem IsRules.mode {H:Hp} {a:Addr} {ms:List aC} (h:IsRules t H a ms) {k:Nat} {m:aC} (hm:ms[k]? = some m) :
  ∃ (dx lm:Addr) (as:List Addr) (b lr dm:Addr) (rs:List Addr),H a = some (.ins t.cK dx [("modes",.ref lm)]) /\ H lm = some (.lst (as.map V.ref)) /\ as.length = ms.length /\ as[k]? = some b /\ H b = some (.ins t.bP dm (mf m lr)) /\ H lr = some (.lst (rs.map V.ref)) /\ bB (dh t H) rs m.rules:=by
 obtain ⟨dx,lm,as,ls,ha,hlm,hM⟩:=h
 have hk:=(List.getElem?_eq_some_iff.mp hm).1
 obtain ⟨b,hb⟩:∃ b,as[k]? = some b:=⟨as[k]'(by rw [hM.la];exact hk),List.getElem?_eq_getElem _⟩
 obtain ⟨lr,hlr⟩:∃ b,ls[k]? = some b:=⟨ls[k]'(by rw [hM.ll];exact hk),List.getElem?_eq_getElem _⟩
 obtain ⟨dm,rs,o1,o2,o3⟩:=hM.ob k b lr m hb hlr hm
 exact ⟨dx,lm,as,b,lr,dm,rs,ha,hlm,hM.la,hb,o1,o2,o3⟩
theorem dW {as:List Addr} {k:Nat} {b:Addr} (h:as[k]? = some b):qv (as.map V.ref) ((k:Nat):Int) = some (.ref b):=aS (by rw [List.getElem?_map,h];rfl)
noncomputable def Fg (t:gq):Sp:=λvs H Q _=>∃ (a:Addr) (ms:List aC) (m:aC) (k i:Nat) (row:Str),vs = [.ref a,.int k,.str row,.int i] /\ IsRules t H a ms /\ ms[k]? = some m /\ tN m.rules /\ row.length <= 1000 /\ i <= row.length /\
 ∀ H',ak H H' -> Q (rB (firstM m.rules row i)) H'
theorem C0 (T:Txt K mg t):bu P w K mg base dZ 2 t.o5 t.w6 ["rules","mode","row","at"] (Fg t):=by
 refine T.oF.ok yw ?_ ?_
 walk_at "i"
 ·obtain ⟨a,ms,m,k,i,row,rfl,hR,hm,hok,hrow,hi,q⟩:=h
  obtain ⟨dx,lm,as,b,lr,dm,rs,ha,hlm,hal,hb,hmo,hlr,hA⟩:=hR.mode hm
  refine @aB _ _ _ _ _ _ _ (λZ' H'=>(∃ x y,Z' = [some (.ref a),some (.int k),some (.str row),some (.int i),x,y]) /\ ak H H' /\ firstM m.rules row i = none) (dU PassesOwn.never rfl (zS rfl T.iL (aa (aZ (aK aQ (aZ (pv 0) rfl) (pv 1) (λ_ _=>rfl)) rfl) ah)) (yJ rfl (iT (b9 (i:=4) yw.nd rfl (Or.inl rfl)) (iT (b9 (i:=5) yw.nd rfl (Or.inl rfl)) tO))) av) ?_ ?_
  ·refine ⟨_,rfl,_,_,_,_,_,rfl,ha,T.gC,T.bY,rfl,⟨_,rfl,_,_,_,_,rfl,rfl,aP.of hlm,dW hb,b,t.bP,dm,_,_,rfl,hmo,T.eX,T.dF,rfl,lr,_,rfl,aP.of hlr,rL (xs:=rs.map V.ref) (λn Z' H'=>(∃ x y,Z' = [some (.ref a),some (.int k),some (.str row),some (.int i),x,y]) /\ ak H H' /\ firstM m.rules row i = fX row i n (m.rules.drop n)) ⟨⟨_,_,rfl⟩,ak.refl H,rfl⟩ ?_ ?_ ?_⟩⟩
   ·rintro n Z' H' _ ⟨_,s1,_⟩
    exact aP.of (s1 _ _ hlr)
   ·rintro n xv pt Z' H1 hx hpt ⟨⟨x,y,rfl⟩,s1,hf⟩
    rw [List.getElem?_map] at hx
    obtain ⟨r,hr0,rfl⟩:=Option.map_eq_some_iff.mp hx
    obtain ⟨R,hR1⟩:∃ R,m.rules[n]? = some R:=⟨m.rules[n]'(by rw [← hA.1];exact (List.getElem?_eq_some_iff.mp hr0).1),List.getElem?_eq_getElem _⟩
    obtain ⟨dr,pa,hr1,dp,hp1⟩:=hA.2 n r R hr0 hR1
    obtain ⟨g1,g2⟩:=hok.2 R (List.mem_of_getElem? hR1)
    obtain ⟨fe,fs,de,ds,PK⟩:=E4 (P:=P) (w:=w) (base:=base) T g1
    have s2:ak H (upd H1 pt (.tup [.int n,.ref r])):=s1.trans (ak.upd hpt)
    refine ⟨pt,[.int n,.ref r],rfl,fL.of af,rfl,_,_,rfl,_,_,rfl,rfl,?_⟩
    rw [A7 hR1] at hf
    generalize upd H1 pt (.tup [.int n,.ref r]) = H2 at s2
    refine @au _ _ _ _ _ _ (bA (aA iJ (cj (aZ (pv 5) rfl) PK.cl PK.me PK.ge (hr.mono (by decide)) PK.be .nil aG (aa (pv 2) (aa (pv 3) ah))) cy (aD _)) av av) (⟨_,rfl,_,_,_,_,_,rfl,(s2 _ _ hr1),T.cz,T.cU,rfl,⟨pa,dp,_,rfl,s2 _ _ hp1,PK.ne _,_,rfl,_,rfl,pa,dp,R.signs,row,i,rfl,s2 _ _ hp1,by omega,hrow,hi,rfl,_,rfl,iX (λh=>?_) (λh=>bx ⟨⟨_,_,rfl⟩,s2,?_⟩)⟩⟩)
    ·refine @au _ _ _ _ _ _ (aH (pv 4)) ⟨_,rfl,?_⟩
     rw [if_pos (show dP R row i = true from decide_eq_true h)] at hf
     have:=q H2 s2
     rw [hf] at this
     exact this
    ·rw [if_neg (by rw [dP,decide_eq_false (λz=>z h)];decide)] at hf
     exact hf
   ·rintro Z' H' ⟨h1,h2,h3⟩
    rw [List.length_map,hA.1,List.drop_length] at h3
    exact ⟨h1,h2,h3⟩
  rintro Z' H' ⟨⟨x,y,rfl⟩,s1,hn⟩
  refine @au _ _ _ _ _ _ (aH cy) ?_
  have:=q H' s1
  rw [hn] at this
  exact this
def bD (n:Nat):V:=.int (n:Int)
def aT (on:List Nat) (d:Str) (g:Option Nat):List Nat :=
 if d = "push" then on ++ [g.getD 0] else if d = "into" then on.dropLast ++ [g.getD 0] else if d = "pop" then (if on.length = 1 then [0] else on.dropLast) else on
def Gh (R:bw):Prop:=dQ R.aI -> ∃ g,R.goal = some g
theorem tT {α:Type}:∀ (l:List α) (x:α),l ≠ [] -> l.set (l.length - 1) x = l.dropLast ++ [x]
 | [],_,h=>absurd rfl h
 | [a],x,_=>rfl
 | a :: b :: r,x,_=>by
  have:=tT (b :: r) x (by simp)
  show a :: (b :: r).set ((b :: r).length - 1) x = a :: ((b :: r).dropLast ++ [x])
  rw [this]
theorem FD {n:Nat} (h:0 < n):Ez n (-1) = some (n - 1):=by
 unfold Ez
 first
  | (rw [if_neg (by omega),if_pos (by omega)];congr 1;omega)
  | (rw [if_pos (by omega)];congr 1;omega)
noncomputable def Ig (t:gq):Sp:=λvs H Q _=>∃ (lo r:Addr) (on:List Nat) (R:bw),vs = [.ref lo,.ref r] /\ H lo = some (.lst (on.map bD)) /\ dh t H r R /\ on ≠ [] /\ on.length <= 100000 /\ Gh R /\ Q .cL (upd H lo (.lst ((aT on R.aI R.goal).map bD)))
theorem IQ {H:Hp} {a:Addr} {o:HO} (h:H a = some o):upd H a o = H:=by
 funext b
 by_cases e:b = a
 ·rw [e,af,h]
 ·rw [ai e]
theorem Ep (T:Txt K mg t):bu P w K mg base dZ 1 t.pP t.ue ["modes","rule"] (Ig t):=by
 refine T.pq.ok G0 ?_ ?_
 walk_at "i"
 ·obtain ⟨lo,r,on,R,rfl,hlo,⟨dr,pa,hr1,hp1⟩,hne,hlen,hg,q⟩:=h
  have nlr:r ≠ lo:=cP hr1 hlo (by intro z;cases z)
  have hpos:0 < on.length:=by cases on with | nil=>exact absurd rfl hne | cons _ _=>simp
  refine @au _ _ _ _ _ _ (bA (aA cO (aZ (pv 1) rfl) aN (aD _)) av av) (⟨_,rfl,_,_,_,_,_,rfl,hr1,T.cz,T.dR,rfl,⟨rfl,_,rfl,eS (λh=>?_) (λh1=>?_)⟩⟩)
  ·have h:=V.str.inj h
   obtain ⟨g,eg⟩:=hg (.inl h)
   refine @au _ _ _ _ _ _ (bq (dc F.plainAttrs_list F.slot_list_append F.type_list_append bF (pv 0) (aa (aZ (pv 1) rfl) ah))) ⟨_,rfl,.inl ⟨rfl,_,aP.of hlo⟩,⟨_,rfl,_,_,_,_,_,rfl,hr1,T.cz,T.fR,rfl,⟨lo,_,_,rfl,rfl,hlo,cE (by rw [List.length_map];omega),?_⟩⟩⟩
   rw [aT,if_pos h,eg,List.map_append] at q
   rw [eg]
   exact q
  ·have h1:R.aI ≠ "push" := λz=>h1 (by rw [z])
   refine @au _ _ _ _ _ _ (bA (aA cO (aZ (pv 1) rfl) aN (aD _)) av av) (⟨_,rfl,_,_,_,_,_,rfl,hr1,T.cz,T.dR,rfl,⟨rfl,_,rfl,eS (λh=>?_) (λh2=>?_)⟩⟩)
   ·have h:=V.str.inj h
    obtain ⟨g,eg⟩:=hg (.inr h)
    refine @au _ _ _ _ _ _ (CO (aZ (pv 1) rfl) (J0 (pv 0) (gT e9 ao) set_list)) (⟨_,rfl,_,_,_,_,_,rfl,hr1,T.cz,T.fR,rfl,⟨_,rfl,_,rfl,lo,_,_,_,rfl,rfl,hlo,FD (by rw [List.length_map];exact hpos),?_⟩⟩)
    rw [aT,if_neg h1,if_pos h,eg,List.map_append] at q
    rw [tT _ _ (by simpa using hne),eg,← List.map_dropLast]
    exact q
   ·have h2:R.aI ≠ "into" := λz=>h2 (by rw [z])
    refine @au _ _ _ _ _ _ (bA (aA cO (aZ (pv 1) rfl) aN (aD _)) av av) (⟨_,rfl,_,_,_,_,_,rfl,hr1,T.cz,T.dR,rfl,⟨rfl,_,rfl,eS (λh=>?_) (λh3=>bx ?_)⟩⟩)
    ·have h:=V.str.inj h
     rw [aT,if_neg h1,if_neg h2,if_pos h] at q
     obtain ⟨y,hy⟩:∃ y,(on.map bD)[(on.map bD).length - 1]? = some y:=⟨_,List.getElem?_eq_getElem (by rw [List.length_map];omega)⟩
     refine @ay _ _ _ _ _ _ _ (bq (DB F.plainAttrs_list F.slot_list_pop F.type_list_pop BK (pv 0))) ⟨_,rfl,.inl ⟨rfl,_,aP.of hlo⟩,lo,_,y,rfl,rfl,hlo,hy,?_⟩
     refine @au _ _ _ _ _ _ (bA (sA (jE (pv 0) (λ_=>rfl))) av av) ⟨_,rfl,_,.inl ⟨_,aP.of af,rfl⟩,?_⟩
     rw [← List.map_dropLast]
     by_cases h1l:on.length = 1
     ·rw [if_pos h1l] at q
      have e:on.dropLast = []:=List.eq_nil_of_length_eq_zero (by rw [List.length_dropLast,h1l])
      rw [e]
      refine xO (@au _ _ _ _ _ _ (bq (dc F.plainAttrs_list F.slot_list_append F.type_list_append bF (pv 0) (aa (fh rfl T.iY) ah))) ⟨_,rfl,.inl ⟨rfl,_,aP.of af⟩,lo,_,_,rfl,rfl,af,by decide,?_⟩)
      rw [gX]
      exact q
     ·rw [if_neg h1l] at q
      have e:on.dropLast ≠ []:=λz=>by
       have:=congrArg List.length z
       rw [List.length_dropLast] at this
       simp at this
       omega
      cases hd:on.dropLast with
      | nil=>exact absurd hd e
      | cons x r =>
       rw [hd] at q
       exact sq (bx q)
    ·have h3:R.aI ≠ "pop" := λz=>h3 (by rw [z])
     rw [aT,if_neg h1,if_neg h2,if_neg h3,IQ hlo] at q
     exact q
theorem zO {on:List Nat} {d:Str} {g:Option Nat} (h:on ≠ []):aT on d g ≠ []:=by
 unfold aT
 split
 ·simp
 ·split
  ·simp
  ·split
   ·split
    ·simp
    ·intro z
     have:=congrArg List.length z
     rw [List.length_dropLast] at this
     cases on with
     | nil=>exact h rfl
     | cons x r =>
      cases r with
      | nil=>rename_i h1 _ ;simp at *
      | cons y r=>simp at this
   ·exact h
theorem dX {on:List Nat} {k:Nat} (h:on.getLast? = some k):qv (on.map bD) (-1) = some (bD k):=by
 obtain ⟨pre,rfl⟩:∃ pre,on = pre ++ [k]:=by
  rcases List.eq_nil_or_concat on with rfl | ⟨p,x,rfl⟩
  ·simp at h
  ·simp at h
   exact ⟨p,by rw [h,List.concat_eq_append]⟩
 exact rg (k:=pre.length) (by simp) (by simp)
structure cW (ms:List aC):Prop where
 pos:0 < ms.length
 len:ms.length <= 200
 ok:∀ m ∈ ms,tN m.rules
 aI:∀ m ∈ ms,∀ R ∈ m.rules,R.aI ∈ mK
 goal:∀ m ∈ ms,∀ R ∈ m.rules,dQ R.aI -> ∃ g,R.goal = some g /\ g < ms.length
theorem cW.gd {ms:List aC} (G:cW ms) {m:aC} {R:bw} (h:m ∈ ms) (h2:R ∈ m.rules):Gh R:=λz=>let ⟨g,e,_⟩:=G.goal m h R h2 z;⟨g,e⟩
def fV (ms:List aC) (on:List Nat):Prop:=on ≠ [] /\ ∀ x ∈ on,x < ms.length
theorem fV.aI {ms:List aC} (G:cW ms) {on:List Nat} (h:fV ms on) {m:aC} {R:bw} (h1:m ∈ ms) (h2:R ∈ m.rules):fV ms (aT on R.aI R.goal):=by
 refine ⟨zO h.1,λx hx=>?_⟩
 unfold aT at hx
 split at hx
 ·rename_i e
  obtain ⟨g,eg,hg⟩:=G.goal m h1 R h2 (.inl e)
  rcases List.mem_append.mp hx with hx | hx
  ·exact h.2 x hx
  ·rw [List.mem_singleton.mp hx,eg];exact hg
 ·split at hx
  ·rename_i e
   obtain ⟨g,eg,hg⟩:=G.goal m h1 R h2 (.inr e)
   rcases List.mem_append.mp hx with hx | hx
   ·exact h.2 x (List.dropLast_subset _ hx)
   ·rw [List.mem_singleton.mp hx,eg];exact hg
  ·split at hx
   ·split at hx
    ·rw [List.mem_singleton.mp hx];exact G.pos
    ·exact h.2 x (List.dropLast_subset _ hx)
   ·exact h.2 x hx
def bg (on:List Nat):Nat:=on.getLastD 0
theorem fB {on:List Nat} (h:on ≠ []):on.getLast? = some (bg on):=by
 unfold bg
 rw [List.getLastD_eq_getLast?,List.getLast?_eq_some_getLast h]
 rfl
theorem lQ {on:List Nat} (h:on ≠ []):bg on ∈ on:=List.mem_of_getLast? (fB h)
theorem fV.mode {ms:List aC} {on:List Nat} (h:fV ms on):∃ m,ms[bg on]? = some m:=⟨ms[bg on]'(h.2 _ (lQ h.1)),List.getElem?_eq_getElem _⟩
def d8 (rs:List bw) (row:Str) (i:Nat):Option bw:=(firstM rs row i).bind (rs[·]?)
def e8 (rs:List bw) (row:Str):Option bw:=(d8 rs row 0).bind λR=>if bJ R.sort = true then none else some R
theorem gF {row:Str} {i:Nat}:∀ {rs:List bw} {k n:Nat},fX row i k rs = some n -> k <= n /\ ∃ R,rs[n - k]? = some R /\ dP R row i = true /\ ∀ j,j < n - k -> ∀ R',rs[j]? = some R' -> dP R' row i = false
 | [],k,n,h=>by cases h
 | R :: r,k,n,h=>by
  rw [fX] at h
  split at h
  ·rename_i hf
   cases h
   refine ⟨Nat.le_refl _,R,by rw [Nat.sub_self];rfl,hf,λj hj=>?_⟩
   omega
  ·rename_i hf
   obtain ⟨h1,R',h2,h3,h4⟩:=gF h
   have e:n - k = (n - (k + 1)) + 1:=by omega
   refine ⟨by omega,R',by rw [e,List.getElem?_cons_succ];exact h2,h3,λj hj R'' hR=>?_⟩
   cases j with
   | zero =>
    rw [List.getElem?_cons_zero] at hR
    cases hR
    simpa using hf
   | succ j=>exact h4 j (by omega) R'' (by rw [List.getElem?_cons_succ] at hR;exact hR)
theorem vW {rs:List bw} {row:Str} {i n:Nat} (h:firstM rs row i = some n):∃ R,rs[n]? = some R /\ d8 rs row i = some R /\ dP R row i = true:=by
 obtain ⟨_,R,h2,h3,_⟩:=gF h
 rw [Nat.sub_zero] at h2
 exact ⟨R,h2,by rw [d8,h];exact h2,h3⟩
noncomputable def Io (t:gq):Sp:=λvs H Q _=>∃ (a:Addr) (ms:List aC) (m:aC) (k:Nat) (row:Str),vs = [.ref a,.int k,.str row] /\ IsRules t H a ms /\ ms[k]? = some m /\ tN m.rules /\ row.length <= 1000 /\
 ∀ H',ak H H' -> (e8 m.rules row = none -> Q .cL H') /\ ∀ R r,e8 m.rules row = some R -> dh t H r R -> Q (.ref r) H'
theorem Bo (T:Txt K mg t):bu P w K mg base dZ 3 t.o6 t.vL ["rules","mode","row"] (Io t):=by
 refine T.n8.ok xY ?_ ?_
 walk_at "i"
 ·obtain ⟨a,ms,m,k,row,rfl,hR,hm,hok,hrow,q⟩:=h
  refine @ay _ _ _ _ _ _ _ (aF (i:=3) xY.nd rfl (Or.inl rfl) (aM (C0 T) (hr.mono (by decide)) rfl T.DS T.oF.kp (T.oF.binds (by walk_at "4")) .nil aG (aa (pv 0) (aa (pv 1) (aa (pv 2) (aa ao ah)))))) ⟨_,rfl,_,rfl,_,rfl,a,ms,m,k,0,row,rfl,hR,hm,hok,hrow,by omega,λH1 s1=>?_⟩
  obtain ⟨dx,lm,as,b,lr,dm,rs,ha,hlm,hal,hb,hmo,hlr,hA⟩:=hR.mode hm
  cases hf:firstM m.rules row 0 with
  | none =>
   have e:e8 m.rules row = none:=by rw [e8,d8,hf];rfl
   exact @ay _ _ _ _ _ _ _ (bA (aA sW (pv 3) cy (aD _)) av av) ⟨_,rfl,rfl,_,rfl,eS (λ_=>@au _ _ _ _ _ _ (aH cy) ((q H1 s1).1 e)) (λh=>absurd rfl h)⟩
  | some n =>
   obtain ⟨R,hn,hru,_⟩:=vW hf
   obtain ⟨r,hr0,hr1⟩:=hA.at hn
   obtain ⟨g1,g2⟩:=hok.2 R (List.mem_of_getElem? hn)
   obtain ⟨fe,fs,de,ds,PK⟩:=E4 (P:=P) (w:=w) (base:=base) T g1
   refine @ay _ _ _ _ _ _ _ (bA (aA sW (pv 3) cy (aD _)) av av) ⟨_,rfl,rfl,_,rfl,eS (λh=>by cases h) (λ_=>bx ?_)⟩
   refine @ay _ _ _ _ _ _ _ (aF (i:=4) xY.nd rfl (Or.inl rfl) (aK aQ (aZ (aK aQ (aZ (pv 0) rfl) (pv 1) (λ_ _=>rfl)) rfl) (pv 3) (λ_ _=>rfl))) (⟨_,rfl,_,_,_,_,_,rfl,(s1 _ _ ha),T.gC,T.bY,rfl,⟨_,rfl,_,_,_,_,rfl,rfl,aP.of (s1 _ _ hlm),dW hb,b,t.bP,dm,_,_,rfl,s1 _ _ hmo,T.eX,T.dF,rfl,_,rfl,_,_,_,_,rfl,rfl,aP.of (s1 _ _ hlr),dW hr0,?_⟩⟩)
   obtain ⟨dr,pa,o1,dp,o2⟩:=id hr1
   have e:e8 m.rules row = if bJ R.sort = true then none else some R:=by rw [e8,hru];rfl
   refine @au _ _ _ _ _ _ (aH (bZ (ji (cu (aZ (pv 4) rfl) PK.cl PK.ms PK.gs (hr.mono (by decide)) PK.bs .nil aG)) cy (pv 4))) (⟨_,rfl,_,_,_,_,_,rfl,(s1 _ _ o1),T.cz,T.cU,rfl,⟨pa,dp,_,rfl,s1 _ _ o2,PK.ns _,_,rfl,_,rfl,L5 (λh=>?_) (λh=>⟨_,rfl,?_⟩)⟩⟩)
   ·rw [if_pos h] at e
    exact (q H1 s1).1 e
   ·rw [if_neg (by rw [h];decide)] at e
    exact (q H1 s1).2 R r e hr1
def bO (ms:List aC) (k:Nat) (row:Str):Option bw:=(ms[k]?).bind λm=>e8 m.rules row
def dH (ms:List aC) (row:Str) (first:Nat):Nat -> List Nat -> List Nat -> Option (List Nat)
 | 0,_,_=>none
 | f + 1,on,ring=>match bO ms (bg on) row with
  | none=>none
  | some R=>if R.aI = "pop" /\ on.length = 1 /\ first ≠ 0 then none else if bg (aT on R.aI R.goal) = first then some (ring ++ [bg on]) else dH ms row first f (aT on R.aI R.goal) (ring ++ [bg on])
def bU (ms:List aC) (first:Nat) (row:Str):Option (List Nat):=dH ms row first ms.length [first] []
theorem ju {on:List Nat} {d:Str} {g:Option Nat}:(aT on d g).length <= on.length + 1:=by
 unfold aT
 split
 ·simp
 ·split
  ·simp
  ·split
   ·split
    ·simp
    ·simp;omega
   ·omega
theorem iV {rs:List bw} {row:Str} {R:bw} (h:e8 rs row = some R):R ∈ rs:=by
 unfold e8 at h
 cases e:d8 rs row 0 with
 | none=>rw [e] at h;cases h
 | some R' =>
  rw [e] at h
  have:(if bJ R'.sort = true then none else some R') = some R:=h
  split at this
  ·cases this
  ·cases this
   unfold d8 at e
   cases e2:firstM rs row 0 with
   | none=>rw [e2] at e;cases e
   | some n=>rw [e2] at e;exact List.mem_of_getElem? e
noncomputable def yW (t:gq):Sp:=λvs H Q _=>∃ (a:Addr) (ms:List aC) (first:Nat) (row:Str),vs = [.ref a,.int first,.str row] /\ IsRules t H a ms /\ cW ms /\ first < ms.length /\ row.length <= 1000 /\
 ∀ H',ak H H' -> (bU ms first row = none -> Q .cL H') /\ ∀ ring l,bU ms first row = some ring -> H' l = some (.lst (ring.map bD)) -> H l = none -> Q (.ref l) H'
theorem Bq (T:Txt K mg t):bu P w K mg base dZ 4 t.nZ t.u7 ["rules","first","row"] (yW t):=by
 refine T.qq.ok p9 ?_ ?_
 walk_at "i"
 ·obtain ⟨a,ms,first,row,rfl,hR,G,hfirst,hrow,q⟩:=h
  refine @ay _ _ _ _ _ _ _ (aF (i:=3) p9.nd rfl (Or.inl rfl) (bf ah)) ⟨by show 0 <= sizeLine;decide,λlg hlg=>?_⟩
  have s1:ak H (upd H lg (.lst [])):=ak.upd hlg
  have hg1:upd H lg (.lst []) lg = some (.lst []):=af
  generalize upd H lg (.lst []) = H1 at s1 hg1
  refine @ay _ _ _ _ _ _ _ (aF (i:=4) p9.nd rfl (Or.inl rfl) (bf (aa (pv 1) ah))) ⟨_,rfl,by show 1 <= sizeLine;decide,λlo hlo=>?_⟩
  have s2:ak H1 (upd H1 lo (.lst [.int first])):=ak.upd hlo
  have ho2:upd H1 lo (.lst [.int first]) lo = some (.lst ([first].map bD)):=af
  have hg2:=s2 _ _ hg1
  have ngo:lg ≠ lo:=aj hg1 hlo
  have hlo0:H lo = none:=s1.free hlo
  generalize upd H1 lo (.lst [.int first]) = H2 at s2 ho2 hg2
  have s2:=s1.trans s2
  show At _ _ _ [some (.ref a),some (.int first),some (.str row),some (.ref lg),some (.ref lo),none] H2
  obtain ⟨dx,lm,as,ls,ha,hlm,hM⟩:=id hR
  refine @aB _ _ _ _ _ _ _ (λZ' H'=>(∃ x,Z' = [some (.ref a),some (.int first),some (.str row),some (.ref lg),some (.ref lo),x]) /\ ak H H' /\ bU ms first row = none) (ly PassesOwn.never (aA iQ (aO bh (by rfl) T.bW (by decide +kernel) (aa (pv 3) ah)) (aO bh (by rfl) T.bW (by decide +kernel) (aa (aZ (pv 0) rfl) ah)) (aD _)) av) ?_ ?_
  ·refine ⟨λf Z' H'=>∃ (on ring:List Nat),(∃ x,Z' = [some (.ref a),some (.int first),some (.str row),some (.ref lg),some (.ref lo),x]) /\ H' lg = some (.lst (ring.map bD)) /\ H' lo = some (.lst (on.map bD)) /\ ak H H' /\ f + ring.length = ms.length /\ fV ms on /\ on.length <= ring.length + 1 /\ bU ms first row = dH ms row first f on ring,⟨ms.length,[first],[],⟨_,rfl⟩,hg2,ho2,s2,by simp,⟨by simp,by simpa using hfirst⟩,by simp,rfl⟩,?_⟩
   rintro f Z' H3 ⟨on,ring,⟨x,rfl⟩,hg3,ho3,s3,hfl,hon,honl,hrec⟩
   have hlen:=G.len
   refine ⟨_,rfl,_,_,rfl,.inl (aP.of hg3),⟨_,rfl,_,_,_,_,_,rfl,(s3 _ _ ha),T.gC,T.bY,rfl,⟨_,_,rfl,.inl (aP.of (s3 _ _ hlm)),_,_,rfl,rfl,_,rfl,eS (λh=>?_) (λh=>?_)⟩⟩⟩
   ·rw [List.length_map,List.length_map,hM.la] at h
    obtain ⟨f',rfl⟩:∃ f',f = f' + 1:=⟨f - 1,by omega⟩
    obtain ⟨m,hm⟩:=hon.mode
    have hmm:=List.mem_of_getElem? hm
    have hid:bO ms (bg on) row = e8 m.rules row:=by rw [bO,hm];rfl
    rw [dH,hid] at hrec
    refine ⟨_,λZ' H' z=>z,?_⟩
    obtain ⟨dx',lm',as',b,lr,dm,rs,ha',hlm',hal',hb,hmo,hlr,hA⟩:=(hR.same s3).mode hm
    cases hi0:e8 m.rules row with
    | none =>
     rw [hi0] at hrec
     refine @ay _ _ _ _ _ _ _ (aF (i:=5) p9.nd rfl (Or.inl rfl) (aM (Bo T) (hr.mono (by decide)) rfl T.DF T.n8.kp (T.n8.binds (by walk_at "3")) .nil aG (aa (pv 0) (aa (aK aQ (pv 4) (gT e9 ao) (λ_ _=>rfl)) (aa (pv 2) ah))))) ⟨_,rfl,_,rfl,_,rfl,_,_,_,_,rfl,rfl,aP.of ho3,dX (fB hon.1),_,rfl,a,ms,m,bg on,row,rfl,hR.same s3,hm,G.ok m hmm,hrow,λH4 s4=>⟨λ_=>?_,(λR r e=>by rw [hi0] at e;cases e)⟩⟩
     exact @ay _ _ _ _ _ _ _ (bA (aA sW (pv 5) cy (aD _)) av av) ⟨_,rfl,rfl,_,rfl,eS (λ_=>@au _ _ _ _ _ _ (aH cy) ((q H4 (s3.trans s4)).1 hrec)) (λh=>absurd rfl h)⟩
    | some R =>
     rw [hi0] at hrec
     have hRm:=iV hi0
     refine @ay _ _ _ _ _ _ _ (aF (i:=5) p9.nd rfl (Or.inl rfl) (aM (Bo T) (hr.mono (by decide)) rfl T.DF T.n8.kp (T.n8.binds (by walk_at "3")) .nil aG (aa (pv 0) (aa (aK aQ (pv 4) (gT e9 ao) (λ_ _=>rfl)) (aa (pv 2) ah))))) ⟨_,rfl,_,rfl,_,rfl,_,_,_,_,rfl,rfl,aP.of ho3,dX (fB hon.1),_,rfl,a,ms,m,bg on,row,rfl,hR.same s3,hm,G.ok m hmm,hrow,λH4 s4=>⟨(λe=>by rw [hi0] at e;cases e),λR' r e hr1=>?_⟩⟩
     rw [hi0] at e
     cases e
     refine @ay _ _ _ _ _ _ _ (bA (aA sW (pv 5) cy (aD _)) av av) ⟨_,rfl,rfl,_,rfl,eS (λh=>by cases h) (λ_=>bx ?_)⟩
     have hr4:=hr1.same s4
     have hg4:=s4 _ _ hg3
     have ho4:=s4 _ _ ho3
     obtain ⟨dr,pa,o1,hpat⟩:=id hr4
     refine @aB _ _ _ _ _ _ _ (λZ' H'=>Z' = [some (.ref a),some (.int first),some (.str row),some (.ref lg),some (.ref lo),some (.ref r)] /\ H' = H4 /\ ¬ (R.aI = "pop" /\ on.length = 1 /\ first ≠ 0)) (bA (PW.pt (gw (aA cO (aZ (pv 5) rfl) aN (aD _)) (gw (aA cO (aO bh (by rfl) T.bW (by decide +kernel) (aa (pv 4) ah)) ao (aD _)) (gi (aA qa (pv 1) (fh rfl T.iY) (aD _)))))) av av) ?_ ?_
     ·refine ⟨_,rfl,_,_,_,_,_,rfl,o1,T.cz,T.dR,rfl,⟨rfl,_,rfl,eS (λh1=>?_) (λh1=>bx ⟨rfl,rfl,λz=>h1 (by rw [z.1])⟩)⟩⟩
      refine ⟨_,rfl,_,_,rfl,.inl (aP.of ho4),rfl,_,rfl,eS (λh2=>?_) (λh2=>bx ⟨rfl,rfl,λz=>h2 (by rw [List.length_map,z.2.1];rfl)⟩)⟩
      refine ⟨_,rfl,rfl,_,rfl,iX (λh3=>?_) (λh3=>bx ⟨rfl,rfl,λz=>z.2.2 (by have:=V.int.inj h3;omega)⟩)⟩
      have h2:=V.int.inj h2
      rw [List.length_map] at h2
      have hc:R.aI = "pop" /\ on.length = 1 /\ first ≠ 0:=⟨V.str.inj h1,by omega,λz=>h3 (by rw [z];rfl)⟩
      simp only [if_pos hc] at hrec
      exact @au _ _ _ _ _ _ (aH cy) ((q H4 (s3.trans s4)).1 hrec)
     rintro Z' H' ⟨rfl,e,hnc⟩
     rw [e]
     clear e H'
     simp only [if_neg hnc] at hrec
     refine @ay _ _ _ _ _ _ _ (bq (dc F.plainAttrs_list F.slot_list_append F.type_list_append bF (pv 3) (aa (aK aQ (pv 4) (gT e9 ao) (λ_ _=>rfl)) ah))) ⟨_,rfl,.inl ⟨rfl,_,aP.of hg4⟩,_,rfl,_,rfl,_,_,_,_,rfl,rfl,aP.of ho4,dX (fB hon.1),lg,_,_,rfl,rfl,hg4,cE (by rw [List.length_map];omega),?_⟩
     have hg5:upd H4 lg (.lst (ring.map bD ++ [bD (bg on)])) lg = some (.lst ((ring ++ [bg on]).map bD)):=by rw [af,List.map_append];rfl
     have ho5:upd H4 lg (.lst (ring.map bD ++ [bD (bg on)])) lo = some (.lst (on.map bD)):=by rw [ai (Ne.symm ngo)];exact ho4
     have hr5:dh t (upd H4 lg (.lst (ring.map bD ++ [bD (bg on)]))) r R:=hr4.kL hg4
     have s5:ak H (upd H4 lg (.lst (ring.map bD ++ [bD (bg on)]))):=λb o hb=>by rw [ai (aj hb hlg)];exact s4 _ _ (s3 _ _ hb)
     generalize upd H4 lg (.lst (ring.map bD ++ [bD (bg on)])) = H5 at hg5 ho5 hr5 s5
     refine @ay _ _ _ _ _ _ _ (bq (aM (Ep T) (hr.mono (by decide)) rfl T.Bx T.pq.kp (T.pq.binds (by walk_at "2")) .nil aG (aa (pv 4) (aa (pv 5) ah)))) ⟨_,rfl,_,rfl,lo,r,on,R,rfl,ho5,hr5,hon.1,by omega,G.gd hmm hRm,?_⟩
     have hon6:=hon.aI G hmm hRm
     have hol6:(aT on R.aI R.goal).length <= on.length + 1:=ju
     have hg6:upd H5 lo (.lst ((aT on R.aI R.goal).map bD)) lg = some (.lst ((ring ++ [bg on]).map bD)):=by rw [ai ngo];exact hg5
     have s6:ak H (upd H5 lo (.lst ((aT on R.aI R.goal).map bD))):=λb o hb=>by rw [ai (aj hb hlo0)];exact s5 _ _ hb
     refine @au _ _ _ _ _ _ (bA (aA cO (aK aQ (pv 4) (gT e9 ao) (λ_ _=>rfl)) (pv 1) (aD _)) av av) ⟨_,rfl,_,rfl,_,_,_,_,rfl,rfl,aP.of af,dX (fB hon6.1),_,rfl,rfl,_,rfl,eS (λh=>?_) (λh=>bx ?_)⟩
     ·have h:bg (aT on R.aI R.goal) = first:=by have:=V.int.inj h;omega
      rw [if_pos h] at hrec
      exact @au _ _ _ _ _ _ (aH (pv 3)) ⟨_,rfl,(q _ s6).2 _ lg hrec hg6 hlg⟩
     ·have h:¬ bg (aT on R.aI R.goal) = first:=λz=>h (by rw [← z];rfl)
      rw [if_neg h] at hrec
      refine ⟨f',by omega,_,_,⟨_,rfl⟩,hg6,af,s6,?_,hon6,?_,hrec⟩
      ·simp only [List.length_append,List.length_cons,List.length_nil];omega
      ·simp only [List.length_append,List.length_cons,List.length_nil];omega
   ·rw [List.length_map,List.length_map,hM.la] at h
    have:f = 0:=by omega
    subst this
    exact ⟨⟨_,rfl⟩,s3,hrec⟩
  rintro Z' H' ⟨⟨x,rfl⟩,s3,hn⟩
  exact @au _ _ _ _ _ _ (aH cy) ((q H' s3).1 hn)
abbrev je:Str:=" !\"#$&'()*+,-./0123456789:;<=>?@ABCDEFGHIJKLMNOPQRSTUVWXYZ[\\]^_`abcdefghijklmnopqrstuvwxyz{|}~"
def di:List Str:="" :: je.cps.toList.map λc=>(⟨#[c]⟩:Str)
noncomputable def Fl:Sp:=λvs H Q _=>vs = [] /\ ∀ l H',H' l = some (.lst (di.map V.str)) -> H l = none -> ak H H' -> Q (.ref l) H'
theorem Jr (T:Txt K mg t):bu P w K mg base dZ 1 t.o9 t.vR [] Fl:=by
 refine T.vz.ok Ht (λvs H Q E h=>?_) (λcdv A outer s H vs Q E hr h=>sO ?_)
 ·obtain ⟨rfl,_⟩:=h
  rfl
 ·obtain ⟨rfl,q⟩:=h
  refine @au _ _ _ _ _ _ (aH (bz kQ (bf (aa aN ah)) (cQ (yH rfl) (by rfl) T.gy (by decide +kernel) (aa (fh rfl T.AX) ah)))) ⟨by show 1 <= sizeLine;decide,λl1 hl1=>⟨_,rfl,by decide +kernel,λl2 hl2=>?_⟩⟩
  refine ⟨l1,l2,_,_,rfl,rfl,ak.upd hl2 _ _ af,af,bL (by simp only [oW,List.length_map,List.length_cons,List.length_nil];decide +kernel),λl hl=>?_⟩
  refine q l _ ?_ (((ak.upd hl1).to hl2).free hl) (((ak.upd hl1).to hl2).to hl)
  rw [af,di,List.map_cons,List.map_map]
  rfl
theorem AN:∀ r ∈ di,r.length <= 1:=by
 intro r hr
 rcases List.mem_cons.mp hr with e | e
 ·rw [e];decide
 ·obtain ⟨c,_,rfl⟩:=List.mem_map.mp e
  exact Nat.le_refl 1
def fW (ms:List aC) (row:Str):Nat -> Nat -> Option (List Nat)
 | 0,_=>none
 | n + 1,k=>match bU ms k row with
  | some r=>some r
  | none=>fW ms row n (k + 1)
def gJ (ms:List aC):List Str -> Option (List Nat × Str)
 | []=>none
 | row :: r=>match fW ms row ms.length 0 with
  | some ring=>some (ring,row)
  | none=>gJ ms r
def eN (ms:List aC):Option (List Nat × Str):=gJ ms di
theorem lF {ms:List aC} {row:Str}:∀ {n k:Nat},fW ms row n k = none -> ∀ j,k <= j -> j < k + n -> bU ms j row = none
 | 0,k,_,j,h1,h2=>by omega
 | n + 1,k,h,j,h1,h2=>by
  rw [fW] at h
  cases e:bU ms k row with
  | some r=>rw [e] at h;cases h
  | none =>
   rw [e] at h
   by_cases z:j = k
   ·rw [z];exact e
   ·exact lF h j (by omega) (by omega)
theorem ku {ms:List aC}:∀ {rows:List Str},gJ ms rows = none -> ∀ row ∈ rows,∀ j,j < ms.length -> bU ms j row = none
 | [],_,row,h,_,_=>by cases h
 | r :: rs,h,row,hr,j,hj=>by
  rw [gJ] at h
  cases e:fW ms r ms.length 0 with
  | some r=>rw [e] at h;cases h
  | none =>
   rw [e] at h
   rcases List.mem_cons.mp hr with z | z
   ·rw [z];exact lF e j (Nat.zero_le _) (by omega)
   ·exact ku h row z j hj
theorem nX {ms:List aC} (h:eN ms = none):∀ row ∈ di,∀ j,j < ms.length -> bU ms j row = none:=ku h
def nameAt (ms:List aC) (k:Nat):Str:=match ms[k]? with
 | some m=>m.name
 | none=>""
def As (row:Str):V:=if row = "" then .cL else .str row
noncomputable def J2 (t:gq):Sp:=λvs H Q _=>∃ (a:Addr) (ms:List aC),vs = [.ref a] /\ IsRules t H a ms /\ cW ms /\
 ∀ H',ak H H' -> (eN ms = none -> Q .cL H') /\ ∀ ring row p l,eN ms = some (ring,row) -> H' p = some (.tup [.ref l,As row]) -> H' l = some (.lst ((ring.map (nameAt ms)).map V.str)) -> Q (.ref p) H'
theorem uP {ms:List aC} (G:cW ms) {row:Str} {first:Nat}:∀ {f:Nat} {on ring r:List Nat},fV ms on -> (∀ x ∈ ring,x < ms.length) -> dH ms row first f on ring = some r -> ∀ x ∈ r,x < ms.length
 | 0,on,ring,r,_,_,h=>by cases h
 | f + 1,on,ring,r,ho,hr,h=>by
  rw [dH] at h
  obtain ⟨m,hm⟩:=ho.mode
  have hid:bO ms (bg on) row = e8 m.rules row:=by rw [bO,hm];rfl
  rw [hid] at h
  have h2:∀ x ∈ ring ++ [bg on],x < ms.length:=λx hx=>by
   rcases List.mem_append.mp hx with hx | hx
   ·exact hr x hx
   ·rw [List.mem_singleton.mp hx];exact ho.2 _ (lQ ho.1)
  cases e:e8 m.rules row with
  | none=>rw [e] at h;cases h
  | some R =>
   rw [e] at h
   have h:(if R.aI = "pop" /\ on.length = 1 /\ first ≠ 0 then none else if bg (aT on R.aI R.goal) = first then some (ring ++ [bg on]) else dH ms row first f (aT on R.aI R.goal) (ring ++ [bg on])) = some r:=h
   split at h
   ·cases h
   ·split at h
    ·cases h;exact h2
    ·exact uP G (ho.aI G (List.mem_of_getElem? hm) (iV e)) h2 h
theorem qP {ms:List aC} {row:Str} {first:Nat}:∀ {f:Nat} {on ring r:List Nat},dH ms row first f on ring = some r -> r.length <= ring.length + f
 | 0,on,ring,r,h=>by cases h
 | f + 1,on,ring,r,h=>by
  rw [dH] at h
  cases e:bO ms (bg on) row with
  | none=>rw [e] at h;cases h
  | some R =>
   rw [e] at h
   have h:(if R.aI = "pop" /\ on.length = 1 /\ first ≠ 0 then none else if bg (aT on R.aI R.goal) = first then some (ring ++ [bg on]) else dH ms row first f (aT on R.aI R.goal) (ring ++ [bg on])) = some r:=h
   split at h
   ·cases h
   ·split at h
    ·cases h;simp
    ·have:=qP h
     rw [List.length_append,List.length_cons,List.length_nil] at this
     omega
theorem BB (T:Txt K mg t):bu P w K mg base dZ 5 t.qm t.vg ["rules"] (J2 t):=by
 refine T.pY.ok oH ?_ ?_
 walk_at "i"
 ·obtain ⟨a,ms,rfl,hR,G,q⟩:=h
  have hlen:=G.len
  refine @aB _ _ _ _ _ _ _ (λZ' H'=>(∃ x y z,Z' = [some (.ref a),x,y,z]) /\ ak H H' /\ eN ms = none) (dU PassesOwn.never rfl (cH (Bm (Jr T) (hr.mono (by decide)) rfl T.Jf T.vz.kp (T.vz.binds (by walk_at "0")) .nil aG)) (b9 (i:=1) oH.nd rfl (Or.inl rfl)) av) ?_ ?_
  ·refine ⟨rfl,λl H1 hl1 hl0 s1=>⟨l,rfl,⟨_,aP.of hl1⟩,ic (xs:=di.map V.str) (λi Z' H'=>(∃ x y z,Z' = [some (.ref a),x,y,z]) /\ H' l = some (.lst (di.map V.str)) /\ ak H H' /\ eN ms = gJ ms (di.drop i)) ⟨⟨_,_,_,rfl⟩,hl1,s1,rfl⟩ ?_ ?_ ?_⟩⟩
   ·rintro i Z' H' _ ⟨_,h,_⟩
    exact aP.of h
   ·rintro i xv Z' H2 hx ⟨⟨x,y,z,rfl⟩,hl2,s2,hrec⟩
    rw [List.getElem?_map] at hx
    obtain ⟨row,hrow,rfl⟩:=Option.map_eq_some_iff.mp hx
    have hrl:=AN row (List.mem_of_getElem? hrow)
    rw [lB hrow,gJ] at hrec
    obtain ⟨dx,lm,as,ls,ha,hlm,hM⟩:=id hR
    refine @au _ _ _ _ _ _ (dU PassesOwn.never rfl (eV rfl T.gb (aa (aO bh (by rfl) T.bW (by decide +kernel) (aa (aZ (pv 0) rfl) ah)) ah)) (b9 (i:=2) oH.nd rfl (Or.inl rfl)) av) (⟨_,rfl,_,_,_,_,_,rfl,(s2 _ _ ha),T.gC,T.bY,rfl,⟨_,_,rfl,.inl (aP.of (s2 _ _ hlm)),(ms.length:Int),by rw [List.length_map,hM.la],by omega,by omega,fJ (n:=((ms.length:Nat):Int).toNat) (λk Z' H'=>(∃ y z,Z' = [some (.ref a),some (.str row),y,z]) /\ H' l = some (.lst (di.map V.str)) /\ ak H H' /\ fW ms row ms.length 0 = fW ms row (ms.length - k) k) ⟨⟨_,_,rfl⟩,hl2,s2,rfl⟩ ?_ ?_⟩⟩)
    ·rintro k Z' H3 hk ⟨⟨y,z,rfl⟩,hl3,s3,hrow3⟩
     have hk':k < ms.length:=by omega
     rw [show ms.length - k = (ms.length - (k + 1)) + 1 by omega,fW] at hrow3
     cases hf:bU ms k row with
     | none =>
      rw [hf] at hrow3
      refine @ay _ _ _ _ _ _ _ (aF (i:=3) oH.nd rfl (Or.inl rfl) (aM (Bq T) (hr.mono (by decide)) rfl T.CN T.qq.kp (T.qq.binds (by walk_at "3")) .nil aG (aa (pv 0) (aa (pv 2) (aa (pv 1) ah))))) ⟨_,rfl,_,rfl,_,rfl,a,ms,k,row,(by rw [Int.zero_add];rfl),hR.same s3,G,hk',by omega,λH4 s4=>⟨λ_=>?_,(λring lg e=>by rw [hf] at e;cases e)⟩⟩
      exact @au _ _ _ _ _ _ (bA (aA iJ (pv 3) cy (aD _)) av av) ⟨_,rfl,rfl,_,rfl,iX (λh=>absurd rfl h) (λ_=>bx ⟨⟨_,_,rfl⟩,s4 _ _ hl3,s3.trans s4,hrow3⟩)⟩
     | some ring =>
      rw [hf] at hrow3
      have hrec:eN ms = some (ring,row):=by rw [hrec,hrow3]
      refine @ay _ _ _ _ _ _ _ (aF (i:=3) oH.nd rfl (Or.inl rfl) (aM (Bq T) (hr.mono (by decide)) rfl T.CN T.qq.kp (T.qq.binds (by walk_at "3")) .nil aG (aa (pv 0) (aa (pv 2) (aa (pv 1) ah))))) ⟨_,rfl,_,rfl,_,rfl,a,ms,k,row,(by rw [Int.zero_add];rfl),hR.same s3,G,hk',by omega,λH4 s4=>⟨(λe=>by rw [hf] at e;cases e),λring' lg e hlg hlg0=>?_⟩⟩
      rw [hf] at e
      cases e
      have s4':=s3.trans s4
      have hlt:∀ x ∈ ring,x < ms.length:=uP G ⟨by simp,by simpa using hk'⟩ (by simp) hf
      have hrl2:ring.length < 1000000:=by
       have:=qP hf
       simp only [List.length_nil] at this
       omega
      refine @au _ _ _ _ _ _ (bA (aA iJ (pv 3) cy (aD _)) av av) ⟨_,rfl,rfl,_,rfl,iX (λ_=>?_) (λh=>by cases h)⟩
      refine @au _ _ _ _ _ _ (@aH _ _ _ _ (@eE _ _ _ _ _ (@aa _ _ _ _ _ (@eZ _ (aq zj) _ ["rules","row","first","ring"] _ _ ("mode") _ _ [("rules",0)] _ _ (by walk_at "ck") (@cH _ _ _ _ (pv 3)) (λ_ _ _ _=>by exact (@nM _ K _ _ _ _ (@aK _ _ _ _ _ _ _ (B9 (K:=K) rfl) (@nM _ K _ _ _ _ (pv 0) rfl (by left)) (pv 1) (λ_ _=>rfl)) rfl (by left))) (by left) (by left) (by left) (by left)) (@aa _ _ _ _ _ (@bZ _ _ _ _ _ _ _ _ (@jE _ _ _ (pv 1) (λ_=>rfl)) (pv 1) cy) ah (by left)) (by left)))) ⟨_,rfl,lg,rfl,⟨_,aP.of hlg⟩,dN (xs:=ring.map bD) (λi ys H5=>ys = ((ring.take i).map (nameAt ms)).map V.str /\ ak H4 H5) ⟨rfl,ak.refl H4⟩ (by rw [List.length_map];exact Nat.lt_trans hrl2 (by decide)) ?_ ?_ ?_⟩
      ·rintro i ys H5 _ ⟨_,s5⟩
       exact aP.of (s5 _ _ hlg)
      ·rintro i xv ys H5 hx hyl ⟨rfl,s5⟩
       rw [List.getElem?_map] at hx
       obtain ⟨n,hn,rfl⟩:=Option.map_eq_some_iff.mp hx
       obtain ⟨m,hm⟩:∃ m,ms[n]? = some m:=⟨ms[n]'(hlt n (List.mem_of_getElem? hn)),List.getElem?_eq_getElem _⟩
       obtain ⟨dx,lm,as,b,lr,dm,rs,ha,hlm,hal,hb,hmo,hlr,hA⟩:=(hR.same (s4'.trans s5)).mode hm
       refine ⟨_,rfl,_,_,_,_,_,rfl,ha,T.gC,T.bY,rfl,⟨_,rfl,_,_,_,_,rfl,rfl,aP.of hlm,dW hb,b,t.bP,dm,_,_,rfl,hmo,T.eX,T.fN,rfl,?_⟩⟩
       have hi:=(List.getElem?_eq_some_iff.mp hn).1
       refine cR (by rw [List.length_map];exact hi) hyl ⟨?_,s5⟩
       rw [take_snoc hn,List.map_append,List.map_append]
       show _ = _ ++ [V.str (nameAt ms n)]
       rw [nameAt,hm]
      ·rintro ys H5 hyl ⟨rfl,s5⟩ D hD
       have e5:ring.take (ring.map bD).length = ring:=by rw [List.length_map,List.take_length]
       rw [e5]
       have s6:ak H (upd H5 D (.lst ((ring.map (nameAt ms)).map V.str))):=(s4'.trans s5).to hD
       have hD6:upd H5 D (.lst ((ring.map (nameAt ms)).map V.str)) D = some (.lst ((ring.map (nameAt ms)).map V.str)):=af
       generalize upd H5 D (.lst ((ring.map (nameAt ms)).map V.str)) = H6 at s6 hD6
       by_cases h0:row = ""
       ·refine ⟨_,rfl,false,⟨bL (by omega),(by rw [h0];rfl)⟩,sq ⟨by show 2 <= sizeLine;decide,λtp htp=>?_⟩⟩
        exact (q _ (s6.to htp)).2 ring row tp D hrec (by rw [af,As,if_pos h0]) (ak.upd htp _ _ hD6)
       ·have hrl1:row.length ≠ 0:=λz=>h0 (j7 (by rw [show (Str.ofString "").cps.toList = [] from by decide +kernel];exact List.eq_nil_of_length_eq_zero (by rw [dB];exact z)))
        refine ⟨_,rfl,true,⟨bL (by omega),?_⟩,xO ⟨_,rfl,by show 2 <= sizeLine;decide,λtp htp=>?_⟩⟩
        ·have:(row.length:Int) ≠ 0:=by omega
         simpa using this
        ·exact (q _ (s6.to htp)).2 ring row tp D hrec (by rw [af,As,if_neg h0]) (ak.upd htp _ _ hD6)
    ·rintro Z' H3 ⟨⟨y,z,rfl⟩,hl3,s3,hrow3⟩
     rw [Int.toNat_natCast,Nat.sub_self] at hrow3
     refine ⟨⟨_,_,_,rfl⟩,hl3,s3,?_⟩
     rw [hrec,hrow3]
     rfl
   ·rintro Z' H' ⟨h1,_,h2,h3⟩
    rw [List.length_map,List.drop_length] at h3
    exact ⟨h1,h2,h3⟩
  rintro Z' H' ⟨⟨x,y,z,rfl⟩,s1,hn⟩
  exact @au _ _ _ _ _ _ (aH cy) ((q H' s1).1 hn)
def d7 (R:bw) (row:Str) (i:Nat):Nat:=match cF R.sort R.signs row i with
 | .int n=>n.toNat
 | _=>0
structure Cfg where
 on:List Nat
 az:List Str
 marks:List (Nat × Str)
def b7 (ms:List aC) (k:Nat):Str:=match ms[k]? with
 | some m=>m.bC
 | none=>""
def dY (ms:List aC) (k:Nat):List bw:=match ms[k]? with
 | some m=>m.rules
 | none=>[]
def fu (c:Cfg) (R:bw) (row:Str):Cfg:=⟨aT c.on R.aI R.goal,c.az ++ List.replicate (d7 R row c.az.length) R.bC,if R.fold = "" then c.marks else c.marks ++ [(c.az.length,R.fold)]⟩
def ek (ms:List aC) (row:Str) (c:Cfg):Option Cfg:=match d8 (dY ms (bg c.on)) row c.az.length with
 | some R=>some (fu c R row)
 | none=>if c.az.length < row.length then some ⟨c.on,c.az ++ [b7 ms (bg c.on)],c.marks⟩ else none
def goN (ms:List aC) (row:Str):Nat -> Cfg -> Option Cfg
 | 0,c=>match ek ms row c with
  | none=>some c
  | some _=>none
 | n + 1,c=>match ek ms row c with
  | none=>some c
  | some c'=>goN ms row n c'
theorem pN {ms:List aC} {row:Str} {n:Nat} {c c' d:Cfg} (h:ek ms row c = some c') (g:goN ms row n c' = some d):goN ms row (n + 1) c = some d:=by
 rw [goN,h];exact g
theorem sJ {ms:List aC} {row:Str} {n:Nat} {c:Cfg} (h:ek ms row c = none):goN ms row n c = some c:=by
 cases n with
 | zero=>rw [goN,h]
 | succ n=>rw [goN,h]
def b8 (row:Str) (i:Nat):Str:=match row.cps.toList[i]? with
 | some c=>⟨#[c]⟩
 | none=>""
theorem z0 {s sg row:Str} {i c:Nat} (h1:s ≠ "end") (h2:s ≠ "word") (e:row.cps.toList[i]? = some c):cF s sg row i ≠ .cL ↔ ((s = "any" ∨ s = "still") ∨ (s = "none" /\ c ∉ sg.cps.toList) ∨ (s ≠ "none" /\ c ∈ sg.cps.toList)):=by
 rw [dJ h1 h2 e]
 by_cases h3:s = "any" ∨ s = "still"
 ·rw [if_pos h3]
  exact ⟨λ_=>.inl h3,λ_ z=>by cases z⟩
 ·rw [if_neg h3]
  by_cases h4:s = "none"
  ·rw [if_pos h4]
   by_cases h5:c ∈ sg.cps.toList
   ·rw [if_pos h5]
    exact ⟨λz=>absurd rfl z,λz=>by rcases z with z | z | z;(exact absurd z h3);(exact absurd h5 z.2);(exact absurd h4 z.1)⟩
   ·rw [if_neg h5]
    exact ⟨λ_=>.inr (.inl ⟨h4,h5⟩),λ_ z=>by cases z⟩
  ·rw [if_neg h4]
   by_cases h5:c ∈ sg.cps.toList
   ·rw [if_pos h5]
    exact ⟨λ_=>.inr (.inr ⟨h4,h5⟩),λ_ z=>by cases z⟩
   ·rw [if_neg h5]
    exact ⟨λz=>absurd rfl z,λz=>by rcases z with z | z | z;(exact absurd z h3);(exact absurd z.1 h4);(exact absurd z.2 h5)⟩
theorem yF {R:bw} {row:Str} {i:Nat} (hi:i <= row.length) (h:dP R (b8 row i) 0 = true) (hs:R.sort ∈ sorts):dP R row i = true:=by
 unfold dP at h ⊢
 rw [decide_eq_true_eq] at h ⊢
 have hl:=dB row
 cases e:row.cps.toList[i]? with
 | none =>
  have hi2:i = row.length:=by
   have:=List.getElem?_eq_none_iff.mp e
   omega
  have es:b8 row i = "" := by unfold b8;rw [e]
  rw [es] at h
  have ee:(Str.ofString "").cps.toList = []:=by decide +kernel
  rcases dw hs with hs | hs | hs | hs | hs | hs | hs <;> rw [hs] at h ⊢
  ·rw [cF,if_neg (by decide),if_pos rfl] at h ⊢
   rw [show (("" : Str)).cps.toList = [] from ee] at h
   have:row.cps.toList.drop i = []:=List.drop_eq_nil_of_le (by omega)
   rw [this]
   exact h
  all_goals first
   | (exfalso;exact h (gB (by decide) (by decide) (by decide)))
   | (rw [cF,if_pos rfl,if_pos hi2];intro z;cases z)
 | some c =>
  have hi2:i < row.length:=by
   have:=(List.getElem?_eq_some_iff.mp e).1
   omega
  have es:b8 row i = ⟨#[c]⟩:=by unfold b8;rw [e]
  rw [es] at h
  have e0:(⟨#[c]⟩:Str).cps.toList[0]? = some c:=rfl
  rcases dw hs with hs | hs | hs | hs | hs | hs | hs <;> rw [hs] at h ⊢
  ·rw [cF,if_neg (by decide),if_pos rfl] at h ⊢
   have hd:=lB e
   rw [hd]
   intro z
   apply h
   by_cases y:((⟨#[c]⟩:Str).cps.toList.drop 0).take R.signs.length = R.signs.cps.toList
   ·exfalso
    have y':[c].take R.signs.length = R.signs.cps.toList:=y
    have yl:=congrArg List.length y'
    rw [dB,List.length_take] at yl
    have:(c :: row.cps.toList.drop (i + 1)).take R.signs.length = R.signs.cps.toList:=by
     rw [← y']
     cases hsl:R.signs.length with
     | zero=>rfl
     | succ n =>
      rw [hsl] at yl
      have:n = 0:=by simp at yl;omega
      subst this
      rfl
    rw [if_pos this] at z
    cases z
   ·rw [if_neg y]
  all_goals first
   | (rw [cF,if_pos rfl,if_neg (by show ¬ 0 = 1;decide)] at h;exact absurd rfl h)
   | exact (z0 (by decide) (by decide) e).mpr ((z0 (by decide) (by decide) e0).mp h)
theorem kH {s:Str} (h:s ∈ sorts) (h2:bJ s = false):s = "still" ∨ s = "end" := by
 rcases dw h with rfl | rfl | rfl | rfl | rfl | rfl | rfl
 all_goals first
  | exact .inl rfl
  | exact .inr rfl
  | (exfalso;revert h2;decide +kernel)
theorem yf {R:bw} {row:Str} {i:Nat} (hi:i <= row.length) (h:dP R row i = true) (hs:R.sort ∈ sorts) (h2:bJ R.sort = false):dP R (b8 row i) 0 = true:=by
 unfold dP at h ⊢
 rw [decide_eq_true_eq] at h ⊢
 have hl:=dB row
 cases e:row.cps.toList[i]? with
 | none =>
  have hi2:i = row.length:=by
   have:=List.getElem?_eq_none_iff.mp e
   omega
  have es:b8 row i = "" := by unfold b8;rw [e]
  rw [es]
  rcases kH hs h2 with hs | hs <;> rw [hs] at h ⊢
  ·exact absurd (gB (by decide) (by decide) (by omega)) h
  ·rw [cF,if_pos rfl,if_pos (by decide +kernel)];intro z;cases z
 | some c =>
  have hi2:i < row.length:=by
   have:=(List.getElem?_eq_some_iff.mp e).1
   omega
  have es:b8 row i = ⟨#[c]⟩:=by unfold b8;rw [e]
  have e0:(⟨#[c]⟩:Str).cps.toList[0]? = some c:=rfl
  rw [es]
  rcases kH hs h2 with hs | hs <;> rw [hs] at h ⊢
  ·rw [dJ (by decide) (by decide) e0,if_pos (by decide)];intro z;cases z
  ·rw [cF,if_pos rfl,if_neg (by omega)] at h;exact absurd rfl h
theorem rZ {row:Str} {i:Nat}:∀ {rs:List bw} {k n:Nat} {R:bw},rs[n]? = some R -> dP R row i = true -> (∀ j,j < n -> ∀ R',rs[j]? = some R' -> dP R' row i = false) -> fX row i k rs = some (k + n)
 | [],k,n,R,h,_,_=>by simp at h
 | R0 :: r,k,0,R,h,hf,_=>by
  rw [List.getElem?_cons_zero] at h
  cases h
  rw [fX,if_pos hf]
  rfl
 | R0 :: r,k,n + 1,R,h,hf,hn=>by
  have h0:=hn 0 (by omega) R0 rfl
  rw [fX,if_neg (by rw [h0];decide),rZ (rs:=r) (n:=n) h hf (λj hj R' hR=>hn (j + 1) (by omega) R' hR)]
  congr 1
  omega
theorem A3 {rs:List bw} {row:Str} {i:Nat} {R:bw} (hok:∀ R ∈ rs,R.sort ∈ sorts) (hi:i <= row.length) (h:d8 rs row i = some R) (h2:bJ R.sort = false):e8 rs (b8 row i) = some R:=by
 unfold d8 at h
 cases e:firstM rs row i with
 | none=>rw [e] at h;cases h
 | some n =>
  rw [e] at h
  obtain ⟨_,R',g1,g2,g3⟩:=gF e
  rw [Nat.sub_zero] at g1 g3
  have:R' = R:=Option.some.inj (g1.symm.trans h)
  subst this
  have hm:=List.mem_of_getElem? g1
  have hf:firstM rs (b8 row i) 0 = some n:=by
   have:=rZ (row:=b8 row i) (i:=0) (k:=0) g1 (yf hi g2 (hok _ hm) h2) (λj hj R' hR=>by
    cases z:dP R' (b8 row i) 0 with
    | false=>rfl
    | true =>
     have:=yF hi z (hok _ (List.mem_of_getElem? hR))
     rw [g3 j hj R' hR] at this
     cases this)
   rw [Nat.zero_add] at this
   exact this
  rw [e8,d8,hf]
  show (rs[n]?).bind _ = _
  rw [g1]
  show (if bJ R'.sort = true then none else some R') = some R'
  rw [if_neg (by rw [h2];decide)]
theorem DK (sg:List Nat):∀ l:List Nat,gQ sg l <= l.length
 | []=>Nat.le_refl _
 | c :: r=>by
  rw [gQ]
  split
  ·have:=DK sg r;rw [List.length_cons];omega
  ·exact Nat.zero_le _
theorem IE {s sg row:Str} {i:Nat} {n:Int} (hi:i <= row.length) (h:cF s sg row i = .int n):i + n.toNat <= row.length:=by
 have hl:=dB row
 by_cases h1:s = "end"
 ·rw [cF,if_pos h1] at h
  split at h
  ·have:=V.int.inj h
   omega
  ·cases h
 ·by_cases h2:s = "word"
  ·rw [cF,if_neg h1,if_pos h2] at h
   split at h
   ·rename_i hw
    have:=congrArg List.length hw
    rw [List.length_take,List.length_drop,dB,dB] at this
    have:=V.int.inj h
    omega
   ·cases h
  ·cases e:row.cps.toList[i]? with
   | none=>rw [cF,if_neg h1,if_neg h2,e] at h;cases h
   | some c =>
    have hi2:i < row.length:=by
     have:=(List.getElem?_eq_some_iff.mp e).1
     omega
    have hr:=DK sg.cps.toList (row.cps.toList.drop (i + 1))
    rw [List.length_drop] at hr
    rw [dJ h1 h2 e] at h
    split at h
    ·have:=V.int.inj h
     split at this <;> omega
    ·split at h
     ·split at h
      ·cases h
      ·have:=V.int.inj h;omega
     ·split at h
      ·have:=V.int.inj h
       split at this <;> omega
      ·cases h
theorem yM {R:bw} {row:Str} {i:Nat} (hs:R.sort ∈ sorts) (hi:i <= row.length):i + d7 R row i <= row.length:=by
 unfold d7
 rcases kE R.sort R.signs row i with ⟨n,e⟩ | e
 ·rw [e];exact IE hi e
 ·rw [e];exact hi
theorem Fx {s sg row:Str} {i:Nat} {n:Int} (he:bJ s = true) (hg:s = "word" -> 1 <= sg.length) (h:cF s sg row i = .int n):1 <= n:=by
 have h1:s ≠ "end" := λz=>by rw [z] at he;revert he;decide +kernel
 have h1':s ≠ "still" := λz=>by rw [z] at he;revert he;decide +kernel
 by_cases h2:s = "word"
 ·rw [cF,if_neg h1,if_pos h2] at h
  split at h
  ·have:=V.int.inj h
   have:=hg h2
   omega
  ·cases h
 ·cases e:row.cps.toList[i]? with
  | none=>rw [cF,if_neg h1,if_neg h2,e] at h;cases h
  | some c =>
   rw [dJ h1 h2 e] at h
   split at h
   ·rename_i h3
    have:=V.int.inj h
    rcases h3 with h3 | h3
    ·rw [if_pos h3] at this;omega
    ·exact absurd h3 h1'
   ·split at h
    ·split at h
     ·cases h
     ·have:=V.int.inj h;omega
    ·split at h
     ·have:=V.int.inj h
      split at this <;> omega
     ·cases h
theorem zK {R:bw} {row:Str} {i:Nat} (hs:R.sort ∈ sorts) (he:bJ R.sort = true) (hg:¬ bare R.sort -> 1 <= R.signs.length) (hf:dP R row i = true):1 <= d7 R row i:=by
 unfold dP at hf
 rw [decide_eq_true_eq] at hf
 unfold d7
 rcases kE R.sort R.signs row i with ⟨n,e⟩ | e
 ·have:=Fx he (λz=>hg (by rw [z];decide)) e
  rw [e]
  show 1 <= n.toNat
  omega
 ·exact absurd e hf
theorem wu {R:bw} {row:Str} {i:Nat} (hs:R.sort ∈ sorts) (he:bJ R.sort = false):d7 R row i = 0:=by
 unfold d7
 rcases kH hs he with h | h <;> rw [h]
 ·cases e:row.cps.toList[i]? with
  | none=>rw [cF,if_neg (by decide),if_neg (by decide),e]
  | some c=>rw [dJ (by decide) (by decide) e,if_pos (by decide),if_neg (by decide)];rfl
 ·rw [cF,if_pos rfl]
  split
  ·rename_i e;split at e <;> cases e;rfl
  ·rfl
theorem gj (r:List Nat) (k:Nat):bg (r ++ [k]) = k:=by unfold bg;simp
def GM (H:Hp) (lk:Addr) (mk:List (Nat × Str)):Prop:=∃ ps,H lk = some (.lst (ps.map V.ref)) /\ bB (λp m=>H p = some (.tup [bD m.1,.str m.2])) ps mk
theorem GM.same {H H':Hp} {lk:Addr} {mk:List (Nat × Str)} (h:GM H lk mk) (s:ak H H'):GM H' lk mk:=let ⟨ps,a,b⟩:=h;⟨ps,s _ _ a,b.mono λ_ _ e=>s _ _ e⟩
theorem GM.kL {H:Hp} {lk l:Addr} {mk:List (Nat × Str)} {xs:List V} {o:HO} (h:GM H lk mk) (hl:H l = some (.lst xs)) (hn:lk ≠ l):GM (upd H l o) lk mk:=by
 obtain ⟨ps,a,b⟩:=h
 exact ⟨ps,by rw [ai hn];exact a,b.mono λp m e=>by rw [ai (cP e hl (by intro z;cases z))];exact e⟩
def GF (H0 H:Hp) (lk:Addr) (mk:List (Nat × Str)):Prop:=∃ ps:List Addr,H lk = some (.lst (ps.map V.ref)) /\ bB (λp m=>H p = some (.tup [bD m.1,.str m.2])) ps mk /\ ∀ p ∈ ps,H0 p = none
theorem GF.gm {H0 H:Hp} {lk:Addr} {mk:List (Nat × Str)} (h:GF H0 H lk mk):GM H lk mk:=let ⟨ps,a,b,_⟩:=h;⟨ps,a,b⟩
theorem GF.same {H0 H H':Hp} {lk:Addr} {mk:List (Nat × Str)} (h:GF H0 H lk mk) (s:ak H H'):GF H0 H' lk mk:=let ⟨ps,a,b,c⟩:=h;⟨ps,s _ _ a,b.mono λ_ _ e=>s _ _ e,c⟩
theorem GF.kL {H0 H:Hp} {lk l:Addr} {mk:List (Nat × Str)} {xs:List V} {o:HO} (h:GF H0 H lk mk) (hl:H l = some (.lst xs)) (hn:lk ≠ l):GF H0 (upd H l o) lk mk:=by
 obtain ⟨ps,a,b,c⟩:=h
 exact ⟨ps,by rw [ai hn];exact a,b.mono λp m e=>by rw [ai (cP e hl (by intro z;cases z))];exact e,c⟩
structure Told (H:Hp) (tp lt lo lk:Addr) (d:Cfg):Prop where
 tp:H tp = some (.tup [.ref lt,.ref lo,.ref lk])
 lt:H lt = some (.lst (d.az.map V.str))
 lo:H lo = some (.lst (d.on.map bD))
 lk:GM H lk d.marks
theorem Told.same {H H':Hp} {tp lt lo lk:Addr} {d:Cfg} (h:Told H tp lt lo lk d) (s:ak H H'):Told H' tp lt lo lk d:=⟨s _ _ h.tp,s _ _ h.lt,s _ _ h.lo,h.lk.same s⟩
noncomputable def J9 (t:gq):Sp:=λvs H Q _=>∃ (a lo:Addr) (ms:List aC) (on:List Nat) (row:Str) (n:Nat) (d:Cfg),vs = [.ref a,.ref lo,.str row] /\ IsRules t H a ms /\ cW ms /\ H lo = some (.lst (on.map bD)) /\ fV ms on /\ row.length <= 1000 /\ on.length <= 50000 /\ n <= 40000 /\ goN ms row n ⟨on,[],[]⟩ = some d /\
 ∀ tp lt lo' lk H',Told H' tp lt lo' lk d -> GF H H' lk d.marks -> H lt = none -> H lo' = none -> H lk = none -> lt ≠ lo' -> lt ≠ lk -> lo' ≠ lk -> ak H H' -> Q (.ref tp) H'
theorem oh {α:Type} (x:α):∀ n:Nat,(List.replicate n [x]).flatten = List.replicate n x
 | 0=>rfl
 | n + 1=>by rw [List.replicate_succ,List.flatten_cons,oh x n,List.replicate_succ];rfl
theorem ED {R:bw} {row:Str} {i:Nat} (h:dP R row i = true):cF R.sort R.signs row i = bD (d7 R row i):=by
 unfold dP at h
 rw [decide_eq_true_eq] at h
 unfold d7
 have hn:∀ n:Int,cF R.sort R.signs row i = .int n -> 0 <= n:=by
  intro n
  unfold cF
  intro e
  repeat' split at e
  all_goals first
   | (have:=V.int.inj e;omega)
   | cases e
 rcases kE R.sort R.signs row i with ⟨n,e⟩ | e
 ·rw [e]
  have:=hn n e
  show V.int n = V.int ((n.toNat:Nat):Int)
  rw [show ((n.toNat:Nat):Int) = n by omega]
 ·exact absurd e h
theorem By (T:Txt K mg t):bu P w K mg base dZ 3 t.o4 t.vK ["rules","modes","row"] (J9 t):=by
 refine T.pK.ok jG ?_ ?_
 walk_at "i"
 ·obtain ⟨a,lh,ms,on,row,n,d,rfl,hR,G,hlh,hok,hrow,honl,hn,hgo,q⟩:=h
  refine @ay _ _ _ _ _ _ _ (aF (i:=3) jG.nd rfl (Or.inl rfl) (cQ cG (by rfl) T.gy (by decide +kernel) (aa (pv 1) ah))) ⟨_,rfl,lh,_,rfl,.inl (aP.of hlh),λlo hlo=>?_⟩
  have s1:ak H (upd H lo (.lst (on.map bD))):=ak.upd hlo
  have ho1:upd H lo (.lst (on.map bD)) lo = some (.lst (on.map bD)):=af
  generalize upd H lo (.lst (on.map bD)) = H1 at s1 ho1
  refine @ay _ _ _ _ _ _ _ (aF (i:=4) jG.nd rfl (Or.inl rfl) (bf ah)) ⟨by show 0 <= sizeLine;decide,λlt hlt=>?_⟩
  have s2:ak H1 (upd H1 lt (.lst [])):=ak.upd hlt
  have ht2:upd H1 lt (.lst []) lt = some (.lst []):=af
  have ho2:=s2 _ _ ho1
  have not_:lo ≠ lt:=aj ho1 hlt
  have hlt0:H lt = none:=s1.free hlt
  generalize upd H1 lt (.lst []) = H2 at s2 ht2 ho2
  have s2:=s1.trans s2
  refine @ay _ _ _ _ _ _ _ (aF (i:=5) jG.nd rfl (Or.inl rfl) (bf ah)) ⟨by show 0 <= sizeLine;decide,λlk hlk=>?_⟩
  have s3:ak H2 (upd H2 lk (.lst [])):=ak.upd hlk
  have hk3:upd H2 lk (.lst []) lk = some (.lst []):=af
  have ho3:=s3 _ _ ho2
  have ht3:=s3 _ _ ht2
  have nok:lo ≠ lk:=aj ho2 hlk
  have Ge:lt ≠ lk:=aj ht2 hlk
  have hlk0:H lk = none:=s2.free hlk
  generalize upd H2 lk (.lst []) = H3 at s3 hk3 ho3 ht3
  have s3:=s2.trans s3
  show At _ _ _ [some (.ref a),some (.ref lh),some (.str row),some (.ref lo),some (.ref lt),some (.ref lk),none,none,none,none] H3
  refine @au _ _ _ _ _ _ (ly PassesOwn.never (ji jq) av) ⟨λm Z' H'=>∃ c:Cfg,(∃ x6 x7 x8 x9,Z' = [some (.ref a),some (.ref lh),some (.str row),some (.ref lo),some (.ref lt),some (.ref lk),x6,x7,x8,x9]) /\ H' lo = some (.lst (c.on.map bD)) /\ H' lt = some (.lst (c.az.map V.str)) /\ GF H H' lk c.marks /\ fV ms c.on /\ c.az.length <= row.length /\ c.on.length + m <= on.length + n /\ c.marks.length + m <= n /\ goN ms row m c = some d /\ ak H H',⟨n,⟨on,[],[]⟩,⟨_,_,_,_,rfl⟩,ho3,ht3,⟨[],hk3,bB.nil,by simp⟩,hok,Nat.zero_le _,Nat.le_refl _,by simp,hgo,s3⟩,?_⟩
  rintro m Z' H4 ⟨c,⟨x6,x7,x8,x9,rfl⟩,ho4,ht4,hk4,hok4,htl4,hol4,hml4,hgo4,s4⟩
  refine ⟨true,rfl,xO ⟨_,λZ' H' z=>z,?_⟩⟩
  refine @ay _ _ _ _ _ _ _ (aF (i:=6) jG.nd rfl (Or.inl rfl) (aO bh (by rfl) T.bW (by decide +kernel) (aa (pv 4) ah))) ⟨_,rfl,_,_,rfl,.inl (aP.of ht4),?_⟩
  rw [List.length_map]
  show At _ _ _ [some (.ref a),some (.ref lh),some (.str row),some (.ref lo),some (.ref lt),some (.ref lk),some (.int c.az.length),x7,x8,x9] H4
  obtain ⟨md,hm⟩:=hok4.mode
  have hmm:=List.mem_of_getElem? hm
  obtain ⟨dx,lm,as,b,lr,dm,rs,ha,hlm,hal,hb,hmo,hlr,hA⟩:=(hR.same s4).mode hm
  have hru:dY ms (bg c.on) = md.rules:=by rw [dY,hm]
  refine @ay _ _ _ _ _ _ _ (aF (i:=7) jG.nd rfl (Or.inl rfl) (aK aQ (aZ (pv 0) rfl) (aK aQ (pv 3) (gT e9 ao) (λ_ _=>rfl)) (λ_ _=>rfl))) (⟨_,rfl,_,_,_,_,_,rfl,ha,T.gC,T.bY,rfl,⟨_,rfl,_,rfl,_,_,_,_,rfl,rfl,aP.of ho4,dX (fB hok4.1),_,_,_,_,rfl,rfl,aP.of hlm,dW hb,?_⟩⟩)
  refine @ay _ _ _ _ _ _ _ (aF (i:=8) jG.nd rfl (Or.inl rfl) (aM (C0 T) (hr.mono (by decide)) rfl T.DS T.oF.kp (T.oF.binds (by walk_at "4")) .nil aG (aa (pv 0) (aa (aK aQ (pv 3) (gT e9 ao) (λ_ _=>rfl)) (aa (pv 2) (aa (pv 6) ah)))))) ⟨_,rfl,_,rfl,_,rfl,_,_,_,_,rfl,rfl,aP.of ho4,dX (fB hok4.1),_,rfl,_,rfl,a,ms,md,bg c.on,c.az.length,row,rfl,hR.same s4,hm,G.ok md hmm,hrow,htl4,λH5 s5=>?_⟩
  have ho5:=s5 _ _ ho4
  have ht5:=s5 _ _ ht4
  have hk5:=hk4.same s5
  have s5':=s4.trans s5
  cases hf:firstM md.rules row c.az.length with
  | none =>
   have hrn:d8 (dY ms (bg c.on)) row c.az.length = none:=by rw [hru,d8,hf];rfl
   refine @au _ _ _ _ _ _ (bA (aA iJ (pv 8) cy (aD _)) av av) ⟨_,rfl,rfl,_,rfl,iX (λh=>absurd rfl h) (λ_=>?_)⟩
   refine @au _ _ _ _ _ _ (bA (aA iQ (pv 6) (aO br (by rfl) T.bW (by decide +kernel) (aa (pv 2) ah)) (aD _)) av av) ⟨_,rfl,_,rfl,_,rfl,bL (by omega),_,_,rfl,rfl,_,rfl,eS (λh=>?_) (λh=>?_)⟩
   ·have hlt':c.az.length < row.length:=by omega
    have hst:ek ms row c = some ⟨c.on,c.az ++ [b7 ms (bg c.on)],c.marks⟩:=by
     rw [ek,hrn]
     show (if c.az.length < row.length then _ else _) = _
     rw [if_pos hlt']
    have ecol:b7 ms (bg c.on) = md.bC:=by rw [b7,hm]
    refine @au _ _ _ _ _ _ (bq (dc F.plainAttrs_list F.slot_list_append F.type_list_append bF (pv 4) (aa (aZ (pv 7) rfl) ah))) ⟨_,rfl,.inl ⟨rfl,_,aP.of ht5⟩,⟨_,rfl,_,_,_,_,_,rfl,(s5 _ _ hmo),T.eX,T.fq,rfl,⟨lt,_,_,rfl,rfl,ht5,cE (by rw [List.length_map];omega),?_⟩⟩⟩
    obtain ⟨m',rfl⟩:∃ m',m = m' + 1:=by
     cases m with
     | zero=>rw [goN,hst] at hgo4;cases hgo4
     | succ m'=>exact ⟨m',rfl⟩
    rw [goN,hst] at hgo4
    refine ⟨m',by omega,⟨c.on,c.az ++ [b7 ms (bg c.on)],c.marks⟩,⟨_,_,_,_,rfl⟩,?_,?_,hk5.kL ht5 (Ne.symm Ge),hok4,?_,?_,?_,hgo4,?_⟩
    ·rw [ai not_];exact ho5
    ·rw [af]
     show _ = some (HO.lst ((c.az ++ [b7 ms (bg c.on)]).map V.str))
     rw [List.map_append,ecol]
     rfl
    ·show (c.az ++ [b7 ms (bg c.on)]).length <= _
     rw [List.length_append,List.length_cons,List.length_nil]
     omega
    ·show c.on.length + m' <= _;omega
    ·show c.marks.length + m' <= _;omega
    ·intro b o hb
     rw [ai (aj hb hlt0)]
     exact s5' _ _ hb
   ·have hst:ek ms row c = none:=by
     rw [ek,hrn]
     show (if c.az.length < row.length then _ else _) = _
     rw [if_neg (by omega)]
    have hd:d = c:=by
     rw [sJ hst] at hgo4
     exact (Option.some.inj hgo4).symm
    subst hd
    refine @au _ _ _ _ _ _ (aH (eE (aa (pv 4) (aa (pv 3) (aa (pv 5) ah))))) ⟨_,rfl,_,rfl,_,rfl,by show 3 <= sizeLine;decide,λtp htp=>?_⟩
    refine q tp lt lo lk _ ⟨af,?_,?_,(hk5.same (ak.upd htp)).gm⟩ (hk5.same (ak.upd htp)) hlt0 hlo hlk0 (Ne.symm not_) Ge nok (s5'.to htp)
    ·exact ak.upd htp _ _ ht5
    ·exact ak.upd htp _ _ ho5
  | some j =>
   obtain ⟨R,hj,hruR,hfit⟩:=vW hf
   have hRm:=List.mem_of_getElem? hj
   obtain ⟨g1,g2⟩:=(G.ok md hmm).2 R hRm
   obtain ⟨r,hr0,hr1⟩:=hA.at hj
   obtain ⟨fe,fs,de,ds,PK⟩:=E4 (P:=P) (w:=w) (base:=base) T g1
   have hst:ek ms row c = some (fu c R row):=by rw [ek,hru,hruR]
   obtain ⟨m',rfl⟩:∃ m',m = m' + 1:=by
    cases m with
    | zero=>rw [goN,hst] at hgo4;cases hgo4
    | succ m'=>exact ⟨m',rfl⟩
   rw [goN,hst] at hgo4
   have hr5:=hr1.same s5
   have hel:=yM (R:=R) (row:=row) g1 htl4
   refine @au _ _ _ _ _ _ (bA (aA iJ (pv 8) cy (aD _)) av av) ⟨_,rfl,rfl,_,rfl,iX (λ_=>?_) (λh=>by cases h)⟩
   refine @ay _ _ _ _ _ _ _ (aF (i:=9) jG.nd rfl (Or.inl rfl) (aK aQ (aZ (pv 7) rfl) (pv 8) (λ_ _=>rfl))) (⟨_,rfl,_,_,_,_,_,rfl,(s5 _ _ hmo),T.eX,T.dF,rfl,⟨_,rfl,_,_,_,_,rfl,rfl,aP.of (s5 _ _ hlr),dW hr0,?_⟩⟩)
   obtain ⟨dr,pa,o1,dp,o2⟩:=id hr5
   refine @ay _ _ _ _ _ _ _ (bq (dc F.plainAttrs_list F.slot_list_extend F.type_list_extend AK (pv 4) (aa (bz Be (bf (aa (aZ (pv 9) rfl) ah)) (cj (aZ (pv 9) rfl) PK.cl PK.me PK.ge (hr.mono (by decide)) PK.be .nil aG (aa (pv 2) (aa (pv 6) ah)))) ah))) ⟨_,rfl,.inl ⟨rfl,_,aP.of ht5⟩,⟨_,rfl,_,_,_,_,_,rfl,o1,T.cz,T.fC,rfl,⟨by show 1 <= sizeLine;decide,λl1 hl1=>?_⟩⟩⟩
   have s6:ak H5 (upd H5 l1 (.lst [.str R.bC])):=ak.upd hl1
   have hl6:upd H5 l1 (.lst [.str R.bC]) l1 = some (.lst [.str R.bC]):=af
   generalize upd H5 l1 (.lst [.str R.bC]) = H6 at s6 hl6
   refine ⟨_,rfl,_,_,_,_,_,rfl,(s6 _ _ o1),T.cz,T.cU,rfl,⟨pa,dp,_,rfl,s6 _ _ o2,PK.ne _,_,rfl,_,rfl,pa,dp,R.signs,row,c.az.length,rfl,s6 _ _ o2,by omega,hrow,htl4,?_⟩⟩
   rw [ED hfit]
   refine ⟨l1,_,_,rfl,rfl,hl6,by omega,by omega,by rw [Int.toNat_natCast];exact bL (by simp only [List.length_cons,List.length_nil];omega),λl2 hl2=>?_⟩
   rw [Int.toNat_natCast,oh]
   have s7:ak H5 (upd H6 l2 (.lst (List.replicate (d7 R row c.az.length) (V.str R.bC)))):=s6.to hl2
   have hl7:upd H6 l2 (.lst (List.replicate (d7 R row c.az.length) (V.str R.bC))) l2 = some (.lst (List.replicate (d7 R row c.az.length) (V.str R.bC))):=af
   generalize upd H6 l2 (.lst (List.replicate (d7 R row c.az.length) (V.str R.bC))) = H7 at s7 hl7
   have ht7:=s7 _ _ ht5
   have ho7:=s7 _ _ ho5
   have hk7:=hk5.same s7
   refine ⟨lt,l2,_,_,rfl,rfl,ht7,hl7,bL (by rw [List.length_map,List.length_replicate];omega),?_⟩
   have ht8:upd H7 lt (.lst (c.az.map V.str ++ List.replicate (d7 R row c.az.length) (V.str R.bC))) lt = some (.lst ((fu c R row).az.map V.str)):=by
    rw [af]
    show _ = some (HO.lst ((c.az ++ List.replicate (d7 R row c.az.length) R.bC).map V.str))
    rw [List.map_append,List.map_replicate]
   have ho8:upd H7 lt (.lst (c.az.map V.str ++ List.replicate (d7 R row c.az.length) (V.str R.bC))) lo = some (.lst (c.on.map bD)):=by rw [ai not_];exact ho7
   have hk8:GF H (upd H7 lt (.lst (c.az.map V.str ++ List.replicate (d7 R row c.az.length) (V.str R.bC)))) lk c.marks:=hk7.kL ht7 (Ne.symm Ge)
   have hr8:dh t (upd H7 lt (.lst (c.az.map V.str ++ List.replicate (d7 R row c.az.length) (V.str R.bC)))) r R:=(hr5.same s7).kL ht7
   have s8:ak H (upd H7 lt (.lst (c.az.map V.str ++ List.replicate (d7 R row c.az.length) (V.str R.bC)))):=λb o hb=>by rw [ai (aj hb hlt0)];exact s7 _ _ (s5' _ _ hb)
   generalize upd H7 lt (.lst (c.az.map V.str ++ List.replicate (d7 R row c.az.length) (V.str R.bC))) = H8 at ht8 ho8 hk8 hr8 s8
   refine @aB _ _ _ _ _ _ _ (λZ' H'=>(∃ x7 x8,Z' = [some (.ref a),some (.ref lh),some (.str row),some (.ref lo),some (.ref lt),some (.ref lk),some (.int c.az.length),x7,x8,some (.ref r)]) /\ H' lo = some (.lst (c.on.map bD)) /\ H' lt = some (.lst ((fu c R row).az.map V.str)) /\ GF H H' lk (fu c R row).marks /\ dh t H' r R /\ ak H H') (bA (aA qa (aZ (pv 9) rfl) aN (aD _)) av av) ?_ ?_
   ·obtain ⟨dr8,pa8,o8,p8⟩:=id hr8
    refine ⟨_,rfl,_,_,_,_,_,rfl,o8,T.cz,T.fS,rfl,⟨rfl,_,rfl,iX (λh=>?_) (λh=>bx ⟨⟨_,_,rfl⟩,ho8,ht8,?_,hr8,s8⟩)⟩⟩
    ·have h:R.fold ≠ "" := λz=>h (by rw [z])
     obtain ⟨ps,hps,hAp,hfr⟩:=hk8
     refine @au _ _ _ _ _ _ (bq (dc F.plainAttrs_list F.slot_list_append F.type_list_append bF (pv 5) (aa (eE (aa (pv 6) (aa (aZ (pv 9) rfl) ah))) ah))) ⟨_,rfl,.inl ⟨rfl,_,aP.of hps⟩,_,rfl,⟨_,rfl,_,_,_,_,_,rfl,o8,T.cz,T.fS,rfl,⟨by show 2 <= sizeLine;decide,λtp htp=>?_⟩⟩⟩
     have s9:ak H8 (upd H8 tp (.tup [.int c.az.length,.str R.fold])):=ak.upd htp
     have hp9:upd H8 tp (.tup [.int c.az.length,.str R.fold]) tp = some (.tup [.int c.az.length,.str R.fold]):=af
     generalize upd H8 tp (.tup [.int c.az.length,.str R.fold]) = H9 at s9 hp9
     have hps9:=s9 _ _ hps
     have hpl:ps.length <= 100000:=by rw [hAp.1];omega
     refine ⟨lk,_,_,rfl,rfl,hps9,cE (by rw [List.length_map];omega),⟨_,_,rfl⟩,?_,?_,?_,?_,?_⟩
     ·rw [ai nok];exact s9 _ _ ho8
     ·rw [ai Ge];exact s9 _ _ ht8
     ·have em:(fu c R row).marks = c.marks ++ [(c.az.length,R.fold)]:=if_neg h
      rw [em]
      refine ⟨ps ++ [tp],by rw [af,List.map_append];rfl,bB.snoc (hAp.mono λp m e=>?_) ?_,λp hp=>?_⟩
      ·rw [ai (cP (s9 _ _ e) hps9 (by intro z;cases z))];exact s9 _ _ e
      ·rw [ai (cP hp9 hps9 (by intro z;cases z))];exact hp9
      ·rcases List.mem_append.mp hp with hp | hp
       ·exact hfr p hp
       ·rw [List.mem_singleton.mp hp];exact s8.free htp
     ·exact (hr8.same s9).kL hps9
     ·intro b o hb
      rw [ai (aj hb hlk0)]
      exact s9 _ _ (s8 _ _ hb)
    ·have h:R.fold = "" := V.str.inj h
     have em:(fu c R row).marks = c.marks:=if_pos h
     rw [em]
     exact hk8
   rintro Z' H9 ⟨⟨y7,y8,rfl⟩,ho9,ht9,hk9,hr9,s9⟩
   refine @au _ _ _ _ _ _ (bq (aM (Ep T) (hr.mono (by decide)) rfl T.Bx T.pq.kp (T.pq.binds (by walk_at "2")) .nil aG (aa (pv 3) (aa (pv 9) ah)))) ⟨_,rfl,_,rfl,lo,r,c.on,R,rfl,ho9,hr9,hok4.1,by omega,G.gd hmm hRm,?_⟩
   have hdl:=ju (on:=c.on) (d:=R.aI) (g:=R.goal)
   refine ⟨m',by omega,fu c R row,⟨_,_,_,_,rfl⟩,af,?_,hk9.kL ho9 (Ne.symm nok),hok4.aI G hmm hRm,?_,?_,?_,hgo4,?_⟩
   ·rw [ai (Ne.symm not_)];exact ht9
   ·show (c.az ++ List.replicate _ _).length <= _
    rw [List.length_append,List.length_replicate]
    exact hel
   ·show (aT c.on R.aI R.goal).length + m' <= _
    omega
   ·show (if R.fold = "" then c.marks else c.marks ++ [(c.az.length,R.fold)]).length + m' <= _
    split
    ·omega
    ·rw [List.length_append,List.length_cons,List.length_nil];omega
   ·intro b o hb
    rw [ai (aj hb hlo)]
    exact s9 _ _ hb
theorem join_eq (sep:Str) (ys:List Str):PySem.Txt.join sep ys = Str.join sep ys:=eq_of_beq (PyProof.Rows.join_plain_closes sep ys)
theorem pick {xs:List Str} {d:Int} (h0:0 <= d) (h1:d < xs.length):∃ x ∈ xs,qv (xs.map V.str) d = some (.str x):=by
 obtain ⟨v,e1,e2⟩:=xD (xs.map V.str) h0 (by rw [List.length_map];exact h1)
 rw [List.getElem?_map] at e1
 obtain ⟨x,e3,rfl⟩:=Option.map_eq_some_iff.mp e1
 exact ⟨x,List.mem_of_getElem? e3,e2⟩
theorem qx {b c:Bool} {A B:Prop} (h:b = c) (k:if c = true then A else B):if b = true then A else B:=by rw [h];exact k
noncomputable def Ic (K:PySem.W.Frag):Sp:=λvs H Q _=>∃ (a:Addr) (ns:List Int) (k m:Int),vs = [.ref a,.int k,.int m] /\ aP K H a (ns.map V.int) /\ 0 <= k /\ k <= 100000 /\ 0 < m /\ m <= 1000000 /\ ns.length <= 63 /\
 ∀ d H',0 <= d -> d < m -> ak H H' -> Q (.int d) H'
theorem gR (T:Txt K mg t):bu P w K mg base dZ 1 t.nO t.wo ["_law_script","_law_k","_law_many"] (Ic K):=by
 refine T.dM.ok sN ?_ ?_
 walk_at "i"
 ·obtain ⟨a,ns,k,m,rfl,hS,hk0,hk1,hm,hm1,hl,q⟩:=h
  refine @aB _ _ _ _ _ _ _ (λZ' H'=>∃ c:Int,Z' = [some (.ref a),some (.int k),some (.int m),some (.int c),none,none] /\ (ns = [] -> c = 0) /\ H' = H) (aF (i:=3) sN.nd rfl (Or.inl rfl) (bZ (aA mG (aO bh (by rfl) T.bW (by decide +kernel) (aa (pv 0) ah)) ao (aD _)) (aK aQ (pv 0) (bz iP (pv 1) (aO bh (by rfl) T.bW (by decide +kernel) (aa (pv 0) ah))) (λ_ _=>rfl)) ao)) ?_ ?_
  ·refine ⟨_,rfl,_,_,rfl,.inl hS,_,_,rfl,rfl,_,rfl,eS (λh=>?_) (λh=>⟨0,rfl,λ_=>rfl,rfl⟩)⟩
   refine ⟨_,rfl,_,rfl,_,rfl,_,_,rfl,.inl hS,_,_,rfl,rfl,h,?_⟩
   obtain ⟨h1,h2⟩:=pS k h
   obtain ⟨v,e1,e2⟩:=xD (ns.map V.int) h1 h2
   rw [List.getElem?_map] at e1
   obtain ⟨c,e3,rfl⟩:=Option.map_eq_some_iff.mp e1
   exact ⟨_,_,_,_,rfl,rfl,hS,e2,c,rfl,(λz=>by rw [z] at h;simp at h),rfl⟩
  rintro Z' H' ⟨c,rfl,hc0,e⟩
  rw [e]
  clear e H'
  refine @aB _ _ _ _ _ _ _ (λZ' H'=>∃ x:Int,Z' = [some (.ref a),some (.int k),some (.int m),some (.int c),some (.int x),none] /\ (ns = [] -> x = 0) /\ H' = H) (aF (i:=4) sN.nd rfl (Or.inl rfl) (bz HS (pv 3) (bz cT (bz jK ao (bz FP (pv 1) (aO (Ah rfl) (by rfl) T.Ea (by decide +kernel) (aa ao (aa (aO bh (by rfl) T.bW (by decide +kernel) (aa (pv 0) ah)) ah))))) ao))) ?_ ?_
  ·refine ⟨_,rfl,_,rfl,_,rfl,_,_,rfl,.inl hS,_,_,rfl,_,_,rfl,rfl,?_⟩
   have hmx:(1:Int) <= (if ((ns.map V.int).length:Int) > 1 then ((ns.map V.int).length:Int) else 1) /\ (if ((ns.map V.int).length:Int) > 1 then ((ns.map V.int).length:Int) else 1) < 1073741824:=by
    rw [List.length_map];split <;> omega
   refine ⟨⟨by omega,hmx.2⟩,_,_,rfl,rfl,.inl ⟨by decide,by decide⟩,_,_,rfl,rfl,_,_,rfl,rfl,?_,_,rfl,λz=>?_,rfl⟩
   ·have:0 <= k / (if ((ns.map V.int).length:Int) > 1 then ((ns.map V.int).length:Int) else 1):=Int.ediv_nonneg hk0 (by omega)
    omega
   ·rw [hc0 z,Int.zero_ediv]
  rintro Z' H' ⟨x,rfl,hx0,e⟩
  rw [e]
  clear e H'
  refine @aB _ _ _ _ _ _ _ (λZ' H'=>(Z' = [some (.ref a),some (.int k),some (.int m),some (.int c),some (.int x),none]) /\ ak H H') (bA (PW.pt (gw (aA k9 (pv 4) (eE (aa ao (aa (gT e9 ao) ah))) rfl) (gi (aA cO (bz iP (aK aQ (pv 0) ao (λ_ _=>rfl)) ao) ao (aD _))))) av av) ?_ ?_
  ·refine ⟨_,rfl,_,rfl,by show 2 <= sizeLine;decide,λp hp=>⟨p,_,rfl,.inr (fL.of af),rfl,rfl,_,rfl,?_⟩⟩
   have s1:ak H (upd H p (.tup [.int 0,.int (-1)])):=ak.upd hp
   by_cases hin:FG (V.int x) [.int 0,.int (-1)] = true
   ·refine qx (c:=false) (by show (!FG (V.int x) [.int 0,.int (-1)]) = false;rw [hin];rfl) ?_
    exact bx ⟨rfl,s1⟩
   ·refine qx (c:=true) (by show (!FG (V.int x) [.int 0,.int (-1)]) = true;rw [Bool.not_eq_true] at hin;rw [hin];rfl) ?_
    obtain ⟨n0,r0,rfl⟩:∃ n0 r0,ns = n0 :: r0:=by
     cases ns with
     | nil=>rw [hx0 rfl] at hin;exact absurd (by decide) hin
     | cons x r=>exact ⟨x,r,rfl⟩
    have hS1:=hS.same s1
    refine ⟨_,rfl,_,_,_,_,rfl,rfl,hS1,aS (j:=0) rfl,_,_,rfl,rfl,(by show (0:Int) < 2;decide),rfl,_,rfl,eS (λh2=>?_) (λh2=>bx ⟨rfl,s1⟩)⟩
    have hd:=pS (x % 1048576) hm
    exact @au _ _ _ _ _ _ (aH (bz iP (bz iP (pv 4) ao) (pv 2))) ⟨_,rfl,_,_,rfl,rfl,(by show (0:Int) < 1048576;decide),_,rfl,_,_,rfl,rfl,hm,q _ _ hd.1 hd.2 s1⟩
  rintro Z' H' ⟨rfl,s1⟩
  refine @ay _ _ _ _ _ _ _ (aF (i:=5) sN.nd rfl (Or.inl rfl) (bz cT (bz cT (bz iP (pv 3) ao) (bz jK (bz jK ao (pv 1)) (pv 1))) ao)) ?_
  walk_at "rd"
  refine ⟨by decide,.inl ⟨by decide,by decide⟩,.inr ⟨by omega,by omega⟩,?_⟩
  refine @au _ _ _ _ _ _ (aH (bz iP (bz iP (bz jK (bz iP (bz jK (pv 5) ao) ao) ao) ao) (pv 2))) ?_
  walk_at "rd"
  have hd:=pS ((c % 1000003 + 31 * k * k + 1) * 48271 % 999983 * 7919 % 524287) hm
  exact ⟨.inr ⟨by decide,by decide⟩,by decide,.inr ⟨by decide,by decide⟩,by decide,hm,q _ _ hd.1 hd.2 s1⟩
def hide (H:Hp) (x:Addr):Hp:=λb=>if b = x then none else H b
theorem qH {H:Hp} {x:Addr}:ak (hide H x) H:=λb o h=>by
 unfold hide at h
 split at h
 ·cases h
 ·exact h
theorem jd {H:Hp} {x b:Addr} {o:HO} (h:H b = some o) (h1:b ≠ x):hide H x b = some o:=by
 unfold hide
 rw [if_neg h1]
 exact h
theorem wY {H:Hp} {l:Addr} {o:HO}:hide (upd H l o) l = hide H l:=by
 funext b
 unfold hide
 split
 ·rfl
 ·rename_i h;rw [ai h]
theorem ak.K4 {H H':Hp} {l:Addr} (s:ak H H'):ak (hide H l) (hide H' l):=λb o h=>by
 unfold hide at h ⊢
 split at h
 ·cases h
 ·rename_i n;rw [if_neg n];exact s b o h
open Classical in
noncomputable def hid (S:Addr -> Prop) (H:Hp):Hp:=λb=>if S b then none else H b
theorem aR {S:Addr -> Prop} {H:Hp}:ak (hid S H) H:=λb o h=>by
 unfold hid at h
 split at h
 ·cases h
 ·exact h
theorem bS {S:Addr -> Prop} {H:Hp} {b:Addr} {o:HO} (h:H b = some o) (n:¬ S b):hid S H b = some o:=by
 unfold hid
 rw [if_neg n]
 exact h
theorem jt {S:Addr -> Prop} {H:Hp} {b:Addr} {o:HO} (h:hid S H b = some o):¬ S b:=λz=>by
 unfold hid at h
 rw [if_pos z] at h
 cases h
theorem cA {S:Addr -> Prop} {H H':Hp} (s:ak H H'):ak (hid S H) (hid S H'):=λb o h=>bS (s _ _ (aR _ _ h)) (jt h)
theorem g9 {S:Addr -> Prop} {H:Hp} {l:Addr} {o:HO} (hl:S l):hid S (upd H l o) = hid S H:=by
 funext b
 unfold hid
 split
 ·rfl
 ·rename_i h;rw [ai (λz=>h (by rw [z];exact hl))]
theorem vD {S S':Addr -> Prop} {H:Hp} (h:∀ b,S b -> S' b):ak (hid S' H) (hid S H):=λb o e=>bS (aR _ _ e) (λz=>jt e (h b z))
def Ex (S:Addr -> Prop) (H:Hp):Prop:=∀ b,S b -> ∃ o,H b = some o
theorem Ex.new {S:Addr -> Prop} {H:Hp} (e:Ex S H) {b:Addr} (h:H b = none):¬ S b:=λz=>by
 obtain ⟨o,ho⟩:=e b z
 rw [h] at ho
 cases ho
theorem Ex.same {S:Addr -> Prop} {H H':Hp} (e:Ex S H) (s:ak H H'):Ex S H':=λb z=>let ⟨o,ho⟩:=e b z;⟨o,s _ _ ho⟩
theorem Ex.none (H:Hp):Ex (λ_=>False) H:=λ_ z=>z.elim
noncomputable def KU (t:gq):Sp:=λvs H Q _=>∃ (r:Addr) (S:Addr -> Prop) (R:bw),vs = [.ref r] /\ dh t (hid S H) r R /\ Ex S H /\ ∀ r' H',dh t (hid S H') r' R -> ak H H' -> Q (.ref r') H'
theorem IS (T:Txt K mg t):bu P w K mg base dZ 3 t.pU t.wO ["rule"] (KU t):=by
 refine T.ve.ok Jo ?_ ?_
 walk_at "i"
 ·obtain ⟨r,S,R,rfl,⟨dr,pa,o1',hp⟩,hz,q⟩:=h
  have o1:=aR _ _ o1'
  refine @au _ _ _ _ _ _ (aH (eT T.nH (DY T) (hr.mono (by decide)) rfl T.vo (T.uV.binds (by walk_at "6")) .nil aG (aa (aZ (pv 0) rfl) (aa (aZ (pv 0) rfl) (aa (aZ (pv 0) rfl) (aa (aZ (pv 0) rfl) (aa (aZ (pv 0) rfl) ah))))))) ?_
  refine ⟨_,rfl,_,_,_,_,_,rfl,o1,T.cz,T.cU,rfl,?_⟩
  refine ⟨_,rfl,_,_,_,_,_,rfl,o1,T.cz,T.fC,rfl,?_⟩
  refine ⟨_,rfl,_,_,_,_,_,rfl,o1,T.cz,T.dR,rfl,?_⟩
  refine ⟨_,rfl,_,_,_,_,_,rfl,o1,T.cz,T.fR,rfl,?_⟩
  refine ⟨_,rfl,_,_,_,_,_,rfl,o1,T.cz,T.fS,rfl,?_⟩
  refine λx dx' nx ndx ne=>⟨x,dx',pa,R,rfl,af,rfl,?_⟩
  exact q x _ ⟨dx',pa,bS af (hz.new nx),hp.same (cA (fF nx ndx))⟩ (fF nx ndx)
noncomputable def KP (t:gq):Sp:=λvs H Q _=>∃ (b l dm:Addr) (S:Addr -> Prop) (m:aC) (rs:List Addr),vs = [.ref b] /\ hid S H b = some (.ins t.bP dm (mf m l)) /\ hid S H l = some (.lst (rs.map V.ref)) /\ bB (dh t (hid S H)) rs m.rules /\ Ex S H /\ m.rules.length <= 200 /\
 ∀ b' l' dm' rs' H',hid S H' b' = some (.ins t.bP dm' (mf m l')) -> hid S H' l' = some (.lst (rs'.map V.ref)) -> bB (dh t (hid S H')) rs' m.rules -> H l' = none -> ak H H' -> Q (.ref b') H'
theorem IA (T:Txt K mg t):bu P w K mg base dZ 4 t.nV t.vM ["mode"] (KP t):=by
 refine T.vQ.ok GO ?_ ?_
 walk_at "i"
 ·obtain ⟨b,l,dm,S,m,rs,rfl,hb',hl',hA,hz,hlen,q⟩:=h
  have hb:=aR _ _ hb'
  have hl:=aR _ _ hl'
  refine @au _ _ _ _ _ _ (@aH _ _ _ _ (@eT _ _ _ _ _ _ _ _ _ _ _ _ _ _ _ _ _ T.nI (Cn T) (hr.mono (by decide)) rfl T.vO (T.t9.binds (by walk_at "4")) .nil aG (@aa _ _ _ _ _ (@aZ _ _ _ _ _ (pv 0) rfl) (@aa _ _ _ _ _ (@aZ _ _ _ _ _ (pv 0) rfl) (@aa _ _ _ _ _ (@eZ _ (aq zT) _ ["mode"] _ _ ("rule") _ _ [] _ _ (by walk_at "ck") (@cH _ _ _ _ (@aZ _ _ _ _ _ (pv 0) rfl)) (λ_ _ _ _=>by exact (@aM _ _ _ _ _ _ _ _ _ _ _ _ _ _ _ _ (IS T) (hr.mono (by decide)) rfl T.HV T.ve.kp (T.ve.binds (by walk_at "1")) .nil aG (@aa _ _ _ _ _ (pv 0) ah (by left)) (by left) (by left) (by left))) (by left) (by left) (by left) (by left)) ah (by left)) (by left)) (by left)) (by left) (by left) (by left))) ?_
  refine ⟨_,rfl,_,_,_,_,_,rfl,hb,T.eX,T.fN,rfl,?_⟩
  refine ⟨_,rfl,_,_,_,_,_,rfl,hb,T.eX,T.fq,rfl,?_⟩
  refine ⟨_,rfl,_,_,_,_,_,rfl,hb,T.eX,T.dF,rfl,?_⟩
  refine ⟨l,rfl,⟨_,aP.of hl⟩,dN (xs:=rs.map V.ref) (λi ys H2=>∃ rs2:List Addr,ys = rs2.map V.ref /\ bB (dh t (hid S H2)) rs2 (m.rules.take i) /\ ak H H2) ⟨[],rfl,bB.nil,ak.refl H⟩ (cE (by rw [List.length_map,hA.1];omega)) ?_ ?_ ?_⟩
  ·rintro i ys H2 _ ⟨_,_,_,s2⟩
   exact aP.of (s2 _ _ hl)
  ·rintro i xv ys H2 hx hyl ⟨rs2,rfl,hA2,s2⟩
   rw [List.getElem?_map] at hx
   obtain ⟨r,hr0,rfl⟩:=Option.map_eq_some_iff.mp hx
   have hi:=(List.getElem?_eq_some_iff.mp hr0).1
   have hRi:m.rules[i]? = some (m.rules[i]'(by rw [← hA.1];exact hi)):=List.getElem?_eq_getElem _
   have hR:=hA.2 i r _ hr0 hRi
   refine ⟨_,rfl,r,S,_,rfl,hR.same (cA s2),hz.same s2,λr' H3 hr3 s3=>cR (by rw [List.length_map];exact hi) hyl ⟨rs2 ++ [r'],by rw [List.map_append];rfl,?_,s2.trans s3⟩⟩
   rw [take_snoc hRi]
   exact bB.snoc (hA2.mono λ_ _ y=>y.same (cA s3)) hr3
  ·rintro ys H2 hyl ⟨rs2,rfl,hA2,s2⟩ D hD
   rw [List.length_map,hA.1,List.take_length] at hA2
   have s3:ak H (upd H2 D (.lst (rs2.map V.ref))):=s2.to hD
   have hD3:upd H2 D (.lst (rs2.map V.ref)) D = some (.lst (rs2.map V.ref)):=af
   have hA3:bB (dh t (hid S (upd H2 D (.lst (rs2.map V.ref))))) rs2 m.rules:=hA2.mono λ_ _ y=>y.same (cA (ak.upd hD))
   generalize upd H2 D (.lst (rs2.map V.ref)) = H3 at s3 hD3 hA3
   refine λx dx' nx ndx ne=>⟨x,dx',D,m.name,m.bC,_,rfl,af,bE nx ndx _ _ hD3,λl2 H4 e1 e2 e3 e4=>⟨rfl,?_⟩⟩
   have s4:ak H3 H4:=λb o hb=>e4 b o (bE nx ndx _ _ hb) (aj hb nx)
   have hz3:=hz.same s3
   have nxz:¬ S x:=hz3.new nx
   have nlz:¬ S l2:=hz3.new ((bE nx ndx).free e1)
   exact q x l2 dx' rs2 H4 (bS e2 nxz) (bS e3 nlz) (hA3.mono λ_ _ y=>y.same (cA s4)) (s3.free ((bE nx ndx).free e1)) (s3.trans s4)
noncomputable def GJ (t:gq):Sp:=λvs H Q _=>∃ (a:Addr) (S:Addr -> Prop) (ms:List aC),vs = [.ref a] /\ IsRules t (hid S H) a ms /\ Ex S H /\ cW ms /\ ∀ a' H',IsRules t (hid S H') a' ms -> ak H H' -> Q (.ref a') H'
theorem GH (T:Txt K mg t):bu P w K mg base dZ 5 t.pe t.tW ["rules"] (GJ t):=by
 refine T.vH.ok HP ?_ ?_
 walk_at "i"
 ·obtain ⟨a,S,ms,rfl,⟨dx,lm,as,ls,ha',hlm',hM⟩,hz,G,q⟩:=h
  have ha:=aR _ _ ha'
  have hlm:=aR _ _ hlm'
  have hlen:=G.len
  refine @au _ _ _ _ _ _ (@aH _ _ _ _ (@eT _ _ _ _ _ _ _ _ _ _ _ _ _ _ _ _ _ T.lE (El T) (hr.mono (by decide)) rfl T.qZ (T.uY.binds (by walk_at "2")) .nil aG (@aa _ _ _ _ _ (@eZ _ (aq zN) _ ["rules"] _ _ ("mode") _ _ [] _ _ (by walk_at "ck") (@cH _ _ _ _ (@aZ _ _ _ _ _ (pv 0) rfl)) (λ_ _ _ _=>by exact (@aM _ _ _ _ _ _ _ _ _ _ _ _ _ _ _ _ (IA T) (hr.mono (by decide)) rfl T.Jd T.vQ.kp (T.vQ.binds (by walk_at "1")) .nil aG (@aa _ _ _ _ _ (pv 0) ah (by left)) (by left) (by left) (by left))) (by left) (by left) (by left) (by left)) ah (by left)) (by left) (by left) (by left))) ?_
  refine ⟨_,rfl,_,_,_,_,_,rfl,ha,T.gC,T.bY,rfl,?_⟩
  refine ⟨lm,rfl,⟨_,aP.of hlm⟩,dN (xs:=as.map V.ref) (λi ys H2=>∃ as2 Gp:List Addr,ys = as2.map V.ref /\ cB t (hid S H2) as2 Gp (ms.take i) /\ ak H H2) ⟨[],[],rfl,⟨rfl,rfl,List.nodup_nil,λi a l m h=>by simp at h⟩,ak.refl H⟩ (cE (by rw [List.length_map,hM.la];omega)) ?_ ?_ ?_⟩
  ·rintro i ys H2 _ ⟨_,_,_,_,s2⟩
   exact aP.of (s2 _ _ hlm)
  ·rintro i xv ys H2 hx hyl ⟨as2,Gp,rfl,hM2,s2⟩
   rw [List.getElem?_map] at hx
   obtain ⟨b,hb,rfl⟩:=Option.map_eq_some_iff.mp hx
   have hi:=(List.getElem?_eq_some_iff.mp hb).1
   have him:i < ms.length:=by rw [← hM.la];exact hi
   have hmi:ms[i]? = some ms[i]:=List.getElem?_eq_getElem him
   obtain ⟨l,hl⟩:∃ l,ls[i]? = some l:=⟨ls[i]'(by rw [hM.ll];exact him),List.getElem?_eq_getElem _⟩
   obtain ⟨dm,rs,o1,o2,o3⟩:=hM.ob i b l _ hb hl hmi
   have sh:=cA (S:=S) s2
   refine ⟨_,rfl,b,l,dm,S,ms[i],rs,rfl,sh _ _ o1,sh _ _ o2,o3.mono λ_ _ y=>y.same sh,hz.same s2,(G.ok _ (List.getElem_mem him)).1,λb' l' dm' rs' H3 e1 e2 e3 e4 s3=>cR (by rw [List.length_map];exact hi) hyl ⟨as2 ++ [b'],Gp ++ [l'],by rw [List.map_append];rfl,?_,s2.trans s3⟩⟩
   have hM3:=hM2.same (cA s3)
   rw [take_snoc hmi]
   refine ⟨by rw [List.length_append,List.length_append,hM3.la];rfl,by rw [List.length_append,List.length_append,hM3.ll];rfl,?_,λj a' l'' m' h1 h2 h3=>?_⟩
   ·refine List.nodup_append.mpr ⟨hM3.nd,by simp,λx hx y hy=>?_⟩
    rw [List.mem_singleton.mp hy]
    intro e
    obtain ⟨xs,hxs⟩:=hM2.alive hx
    have hxs:=aR _ _ hxs
    rw [e,e4] at hxs
    cases hxs
   ·have k1:=hM3.la
    have k2:=hM3.ll
    rcases cV h1 with h1 | ⟨i1,rfl⟩
    ·have:=(List.getElem?_eq_some_iff.mp h1).1
     rcases cV h2 with h2 | ⟨i2,rfl⟩
     ·rcases cV h3 with h3 | ⟨i3,rfl⟩
      ·exact hM3.ob j a' l'' m' h1 h2 h3
      ·omega
     ·omega
    ·rcases cV h2 with h2 | ⟨i2,rfl⟩
     ·have:=(List.getElem?_eq_some_iff.mp h2).1;omega
     ·rcases cV h3 with h3 | ⟨i3,rfl⟩
      ·have:=(List.getElem?_eq_some_iff.mp h3).1;omega
      ·exact ⟨dm',rs',e1,e2,e3⟩
  ·rintro ys H2 hyl ⟨as2,Gp,rfl,hM2,s2⟩ D hD
   rw [List.length_map,hM.la,List.take_length] at hM2
   have s3:ak H (upd H2 D (.lst (as2.map V.ref))):=s2.to hD
   have hD3:upd H2 D (.lst (as2.map V.ref)) D = some (.lst (as2.map V.ref)):=af
   have hM3:cB t (hid S (upd H2 D (.lst (as2.map V.ref)))) as2 Gp ms:=hM2.same (cA (ak.upd hD))
   generalize upd H2 D (.lst (as2.map V.ref)) = H3 at s3 hD3 hM3
   refine λx dx' nx ndx ne=>⟨x,dx',D,_,rfl,af,bE nx ndx _ _ hD3,λl2 H4 e1 e2 e3 e4=>⟨rfl,?_⟩⟩
   have s4:ak H3 H4:=λb o hb=>e4 b o (bE nx ndx _ _ hb) (aj hb nx)
   have hz3:=hz.same s3
   have nxz:¬ S x:=hz3.new nx
   have nlz:¬ S l2:=hz3.new ((bE nx ndx).free e1)
   exact q x H4 ⟨dx',l2,as2,Gp,bS e2 nxz,bS e3 nlz,hM3.same (cA s4)⟩ (s3.trans s4)
noncomputable def JU (t:gq):Sp:=λvs H Q _=>∃ (a:Addr) (ms:List aC),vs = [.ref a] /\ IsRules t H a ms /\ cW ms /\ eN ms = none /\ ∀ H',ak H H' -> Q .cL H'
theorem Jp (T:Txt K mg t):bu P w K mg base dZ 6 t.m9 t.qN ["rules"] (JU t):=by
 refine T.mL.ok sC ?_ ?_
 walk_at "i"
 ·obtain ⟨a,ms,rfl,hR,G,hn,q⟩:=h
  refine @ay _ _ _ _ _ _ _ (aF (i:=1) sC.nd rfl (Or.inl rfl) (aM (BB T) (hr.mono (by decide)) rfl T.Bw T.pY.kp (T.pY.binds (by walk_at "1")) .nil aG (aa (pv 0) ah))) ⟨_,rfl,a,ms,rfl,hR,G,λH1 s1=>⟨λ_=>?_,(λring row p l e=>by rw [hn] at e;cases e)⟩⟩
  exact @au _ _ _ _ _ _ (bA (aA iJ (pv 1) cy (aD _)) av av) ⟨_,rfl,rfl,_,rfl,iX (λh=>absurd rfl h) (λ_=>bx (q H1 s1))⟩
structure eL where
 row:Str
 before:List Nat
 d:Cfg
def gf (row:Str) (lb lt lo lk:Addr):List (Str × V):=[("signs",.str row),("before",.ref lb),("tints",.ref lt),("behind",.ref lo),("folded",.ref lk)]
structure wD (t:gq) (H:Hp) (g dx lb lt lo lk:Addr) (G:eL):Prop where
 ob:H g = some (.ins t.aY dx (gf G.row lb lt lo lk))
 lb:H lb = some (.lst (G.before.map bD))
 lt:H lt = some (.lst (G.d.az.map V.str))
 lo:H lo = some (.lst (G.d.on.map bD))
 lk:GM H lk G.d.marks
def jx (t:gq) (H:Hp) (g:Addr) (G:eL):Prop:=∃ dx lb lt lo lk,wD t H g dx lb lt lo lk G
theorem jx.same {H H':Hp} {g:Addr} {G:eL} (h:jx t H g G) (s:ak H H'):jx t H' g G :=
 let ⟨dx,lb,lt,lo,lk,e⟩:=h;⟨dx,lb,lt,lo,lk,s _ _ e.ob,s _ _ e.lb,s _ _ e.lt,s _ _ e.lo,e.lk.same s⟩
structure zU (ms:List aC) (G:eL):Prop where
 ok:fV ms G.before
 len:G.before.length <= 20000
 row:G.row.length <= 1000
 go:∃ n,n <= 5000 /\ goN ms G.row n ⟨G.before,[],[]⟩ = some G.d
 ok2:fV ms G.d.on
 len2:G.d.on.length <= 20000
 tl:G.d.az.length = G.row.length
noncomputable def ES (t:gq):Sp:=λvs H Q _=>∃ (x dx a lb:Addr) (S:Addr -> Prop) (ms:List aC) (G:eL),vs = [.ref x,.ref a,.ref lb,.str G.row] /\ H x = some (.ins t.aY dx []) /\ IsRules t H a ms /\ cW ms /\ hid S H lb = some (.lst (G.before.map bD)) /\ Ex S H /\ ¬ S x /\ zU ms G /\
 ∀ lt lo lk H',wD t (hid S H') x dx lb lt lo lk G -> jL H H' x -> Q .cL H'
theorem G8 (T:Txt K mg t):bu P w K mg base dZ 4 t.m6 t.wg ["self","rules","modes","row"] (ES t):=by
 refine T.zc.ok CI ?_ ?_
 walk_at "i"
 ·obtain ⟨x,dx,a,lb,Sh,ms,G,rfl,hx,hR,GM_,hlb',hE,hxS,S,q⟩:=h
  have hlb:=aR _ _ hlb'
  obtain ⟨n,hn,hgo⟩:=S.go
  have hbl:=S.len
  refine @ay _ _ _ _ _ _ _ (aF (i:=4) CI.nd rfl (Or.inl rfl) (aM (By T) (hr.mono (by decide)) rfl T.Dm T.pK.kp (T.pK.binds (by walk_at "3")) .nil aG (aa (pv 1) (aa (pv 2) (aa (pv 3) ah))))) ⟨_,rfl,_,rfl,_,rfl,a,lb,ms,G.before,G.row,n,G.d,rfl,hR,GM_,hlb,S.ok,S.row,by omega,by omega,hgo,λtp lt lo lk H1 D GF1 f1 f2 f3 n1 n2 n3 s1=>?_⟩
  have hx1:=s1 _ _ hx
  have nx:∀ {b o},H1 b = some o -> (∀ C dx fs,o ≠ .ins C dx fs) -> b ≠ x:=λ{b o} e h=>cP e hx1 (λz=>h _ _ _ z)
  have x1:tp ≠ x:=nx D.tp (by intro _ _ _ z;cases z)
  have x2:lt ≠ x:=nx D.lt (by intro _ _ _ z;cases z)
  have x3:lo ≠ x:=nx D.lo (by intro _ _ _ z;cases z)
  have x4:lb ≠ x:=nx (s1 _ _ hlb) (by intro _ _ _ z;cases z)
  refine @ay _ _ _ _ _ _ _ (cX (pv 0) (pv 3) rfl) ⟨_,rfl,_,rfl,x,_,dx,[],rfl,hx1,T.dG,T.fE,by decide,?_⟩
  refine @ay _ _ _ _ _ _ _ (cX (pv 0) (pv 2) rfl) ⟨_,rfl,_,rfl,x,_,dx,[("signs",.str G.row)],rfl,af,T.dG,T.eY,by show 1 < 1000;decide,?_⟩
  refine @ay _ _ _ _ _ _ _ (cX (pv 0) (aK bR (pv 4) ao (λ_ _=>rfl)) rfl) ⟨_,rfl,_,_,_,_,rfl,rfl,fL.of (by rw [ai x1,ai x1];exact D.tp),aS (j:=0) rfl,_,rfl,x,_,dx,[("signs",.str G.row),("before",.ref lb)],rfl,af,T.dG,T.fD,by show 2 < 1000;decide,?_⟩
  refine @ay _ _ _ _ _ _ _ (cX (pv 0) (aK bR (pv 4) ao (λ_ _=>rfl)) rfl) ⟨_,rfl,_,_,_,_,rfl,rfl,fL.of (by rw [ai x1,ai x1,ai x1];exact D.tp),aS (j:=1) rfl,_,rfl,x,_,dx,[("signs",.str G.row),("before",.ref lb),("tints",.ref lt)],rfl,af,T.dG,T.eW,by show 3 < 1000;decide,?_⟩
  refine @au _ _ _ _ _ _ (cX (pv 0) (aK bR (pv 4) ao (λ_ _=>rfl)) rfl) ⟨_,rfl,_,_,_,_,rfl,rfl,fL.of (by rw [ai x1,ai x1,ai x1,ai x1];exact D.tp),aS (j:=2) rfl,_,rfl,x,_,dx,[("signs",.str G.row),("before",.ref lb),("tints",.ref lt),("behind",.ref lo)],rfl,af,T.dG,T.e7,by show 4 < 1000;decide,?_⟩
  rw [gX,gX,gX,gX]
  obtain ⟨ps,k1,k2⟩:=D.lk
  have x5:lk ≠ x:=nx k1 (by intro _ _ _ z;cases z)
  obtain ⟨ps',k1',k2',k3'⟩:=GF1
  refine q lt lo lk _ ⟨bS af hxS,?_,?_,?_,ps',?_,⟨k2'.1,λi p m hp hm=>?_⟩⟩ λb o hb nb=>?_
  ·exact bS (by rw [ai x4];exact s1 _ _ hlb) (jt hlb')
  ·exact bS (by rw [ai x2];exact D.lt) (hE.new f1)
  ·exact bS (by rw [ai x3];exact D.lo) (hE.new f2)
  ·exact bS (by rw [ai x5];exact k1') (hE.new f3)
  ·have e:=k2'.2 i p m hp hm
   exact bS (by rw [ai (nx e (by intro _ _ _ z;cases z))];exact e) (hE.new (k3' p (List.mem_of_getElem? hp)))
  ·rw [ai nb];exact s1 _ _ hb
def Chain (ms:List aC):List Nat -> List Str -> List eL -> Prop
 | _,[],[]=>True
 | b,r :: rs,G :: Gs=>G.row = r /\ G.before = b /\ zU ms G /\ Chain ms G.d.on rs Gs
 | _,_,_=>False
theorem Chain.len {ms:List aC}:∀ {b:List Nat} {rs:List Str} {Gs:List eL},Chain ms b rs Gs -> Gs.length = rs.length
 | _,[],[],_=>rfl
 | _,_ :: _,_ :: _,h=>by simp [h.2.2.2.len]
 | _,[],_ :: _,h=>h.elim
 | _,_ :: _,[],h=>h.elim
theorem Chain.rows {ms:List aC}:∀ {b:List Nat} {rs:List Str} {Gs:List eL},Chain ms b rs Gs -> Gs.map (·.row) = rs
 | _,[],[],_=>rfl
 | _,_ :: _,_ :: _,h=>by rw [List.map_cons,h.1,h.2.2.2.rows]
 | _,[],_ :: _,h=>h.elim
 | _,_ :: _,[],h=>h.elim
def i7:List Nat -> List eL -> List Nat
 | b,[]=>b
 | _,G :: Gs=>i7 G.d.on Gs
theorem oS {ms:List aC} {b:List Nat} {rs:List Str} {Gs:List eL} {r:Str} {i:Nat} (hc:Chain ms b (rs.drop i) (Gs.drop i)) (hr:rs[i]? = some r):∃ G,Gs[i]? = some G /\ G.row = r /\ G.before = b /\ zU ms G /\ Chain ms G.d.on (rs.drop (i + 1)) (Gs.drop (i + 1)):=by
 rw [lB hr] at hc
 cases e:Gs.drop i with
 | nil=>rw [e] at hc;exact hc.elim
 | cons G t =>
  rw [e] at hc
  have hG:Gs[i]? = some G:=by
   have:=congrArg (λl=>l[0]?) e
   simpa [List.getElem?_drop] using this
  have ht:Gs.drop (i + 1) = t:=by rw [← List.drop_drop,e];rfl
  rw [ht]
  exact ⟨G,hG,hc⟩
structure fj (t:gq) (H:Hp) (x dx a lg:Addr) (gs:List Addr) (ms:List aC) (Gs:List eL):Prop where
 ob:H x = some (.ins t.aL dx [("rules",.ref a),("gone_rows",.ref lg)])
 ru:IsRules t H a ms
 lg:H lg = some (.lst (gs.map V.ref))
 go:bB (jx t H) gs Gs
theorem fj.same {H H':Hp} {x dx a lg:Addr} {gs:List Addr} {ms:List aC} {Gs:List eL} (h:fj t H x dx a lg gs ms Gs) (s:ak H H'):fj t H' x dx a lg gs ms Gs:=⟨s _ _ h.ob,h.ru.same s,s _ _ h.lg,h.go.mono λ_ _ z=>z.same s⟩
noncomputable def Co (t:gq):Sp:=λvs H Q _=>∃ (x dx a lb lr:Addr) (S:Addr -> Prop) (fs:List (Str × V)) (ms:List aC) (b:List Nat) (rs:List Str) (Gs:List eL),vs = [.ref x,.ref lb,.ref lr] /\ H x = some (.ins t.aL dx fs) /\ fs.lookup ("rules" : Str) = some (.ref a) /\ IsRules t H a ms /\ cW ms /\ hid S H lb = some (.lst (b.map bD)) /\ Ex S H /\ H lr = some (.lst (rs.map V.str)) /\ rs.length <= 100000 /\ Chain ms b rs Gs /\
 ∀ lg gs H',H' lg = some (.lst (gs.map V.ref)) -> bB (jx t (hid S H')) gs Gs -> H lg = none -> ak H H' -> Q (.ref lg) H'
theorem GW (T:Txt K mg t):bu P w K mg base dZ 6 t.mJ t.uS ["self","modes","rows"] (Co t):=by
 refine T.uo.ok pR ?_ ?_
 walk_at "i"
 ·obtain ⟨x,dx,a,lb,lr,S,fs,ms,b,rs,Gs,rfl,hx,hfs,hR,G,hlb,hE,hlr,hrl,hC,q⟩:=h
  have hGl:=hC.len
  refine @ay _ _ _ _ _ _ _ (aF (i:=3) pR.nd rfl (Or.inl rfl) (bf ah)) ⟨by show 0 <= sizeLine;decide,λlg hlg=>?_⟩
  have s1:ak H (upd H lg (.lst [])):=ak.upd hlg
  have hg1:upd H lg (.lst []) lg = some (.lst []):=af
  generalize upd H lg (.lst []) = H1 at s1 hg1
  obtain ⟨S2,hS2⟩:∃ S2:Addr -> Prop,S2 = λc=>S c ∨ c = lg:=⟨_,rfl⟩
  have hSl:S2 lg:=by rw [hS2];exact .inr rfl
  have hE2:∀ {H':Hp} {xs:List V},ak H H' -> H' lg = some (.lst xs) -> Ex S2 H':=λ{H' xs} s' h' c hc=>by
   rw [hS2] at hc
   rcases hc with hc | hc
   ·exact (hE.same s') c hc
   ·rw [hc];exact ⟨_,h'⟩
  refine @aB _ _ _ _ _ _ _ (λZ' H'=>∃ gs,(∃ x1 x4 x5,Z' = [some (.ref x),x1,some (.ref lr),some (.ref lg),x4,x5]) /\ H' lg = some (.lst (gs.map V.ref)) /\ bB (jx t (hid S H')) gs Gs /\ ak H H') (dU PassesOwn.never rfl (cH (pv 2)) (b9 (i:=4) pR.nd rfl (Or.inl rfl)) av) ?_ ?_
  ·refine ⟨_,rfl,lr,rfl,⟨_,aP.of (s1 _ _ hlr)⟩,ic (xs:=rs.map V.str) (λi Z' H'=>∃ (gs:List Addr) (lb:Addr) (b:List Nat),(∃ x4 x5,Z' = [some (.ref x),some (.ref lb),some (.ref lr),some (.ref lg),x4,x5]) /\ H' lg = some (.lst (gs.map V.ref)) /\ bB (jx t (hid S2 H')) gs (Gs.take i) /\ hid S2 H' lb = some (.lst (b.map bD)) /\ Chain ms b (rs.drop i) (Gs.drop i) /\ ak H H') ⟨[],lb,b,⟨_,_,rfl⟩,hg1,bB.nil,bS (s1 _ _ (aR _ _ hlb)) (by rw [hS2];rintro (z | z);(exact jt hlb z);(exact aj (aR _ _ hlb) hlg z)),hC,s1⟩ ?_ ?_ ?_⟩
   ·rintro i Z' H' _ ⟨_,_,_,_,_,_,_,_,s2⟩
    exact aP.of (s2 _ _ hlr)
   ·rintro i xv Z' H2 hxv ⟨gs,lb,b,⟨x4,x5,rfl⟩,hg2,hA2,hlb2,hC2,s2⟩
    rw [List.getElem?_map] at hxv
    obtain ⟨r,hri,rfl⟩:=Option.map_eq_some_iff.mp hxv
    obtain ⟨Gi,hGi,e1,e2,hS,hC3⟩:=oS hC2 hri
    subst e1 e2
    have hi:=(List.getElem?_eq_some_iff.mp hri).1
    have hEx:=hE2 s2 hg2
    refine @ay _ _ _ _ _ _ _ (aF (i:=5) pR.nd rfl (Or.inl rfl) (eT T.kU (G8 T) (hr.mono (by decide)) rfl T.tZ (T.zc.binds (by walk_at "4")) .nil aG (aa (aZ (pv 0) rfl) (aa (pv 1) (aa (pv 4) ah))))) (⟨_,rfl,_,_,_,_,_,rfl,(s2 _ _ hx),T.cD,T.fZ,hfs,⟨_,rfl,_,rfl,λg dg ng ndg ne=>⟨g,dg,a,lb,S2,ms,Gi,rfl,af,(hR.same s2).same (bE ng ndg),G,(cA (bE ng ndg)) _ _ hlb2,hEx.same (bE ng ndg),hEx.new ng,hS,λlt lo lk H3 hG3 a3=>⟨rfl,?_⟩⟩⟩⟩)
    have s3:ak H2 H3:=λb o hb=>a3 b o (bE ng ndg _ _ hb) (aj hb ng)
    have hg3:=s3 _ _ hg2
    have hob:=aR _ _ hG3.ob
    have ngl:g ≠ lg:=cP hob hg3 (by intro z;cases z)
    have hlen:gs.length <= 100000:=by rw [hA2.1,List.length_take];omega
    refine @ay _ _ _ _ _ _ _ (bq (dc F.plainAttrs_list F.slot_list_append F.type_list_append bF (pv 3) (aa (pv 5) ah))) ⟨_,rfl,.inl ⟨rfl,_,aP.of hg3⟩,_,rfl,lg,_,_,rfl,rfl,hg3,cE (by rw [List.length_map];omega),?_⟩
    refine @au _ _ _ _ _ _ (aF (i:=1) pR.nd rfl (Or.inl rfl) (aZ (pv 5) rfl)) ⟨_,rfl,g,t.aY,dg,_,_,rfl,(by rw [ai ngl];exact hob),T.dG,T.eW,rfl,?_⟩
    refine ⟨gs ++ [g],lo,Gi.d.on,⟨_,_,rfl⟩,by rw [af,List.map_append];rfl,?_,?_,hC3,λb o hb=>?_⟩
    ·rw [take_snoc hGi,g9 hSl]
     exact bB.snoc (hA2.mono λ_ _ z=>z.same (cA s3)) ⟨dg,lb,lt,lo,lk,hG3⟩
    ·rw [g9 hSl];exact hG3.lo
    ·rw [ai (aj hb hlg)];exact s3 _ _ (s2 _ _ hb)
   ·rintro Z' H2 ⟨gs,lb,b,⟨x4,x5,rfl⟩,hg2,hA2,_,_,s2⟩
    rw [List.length_map,← hGl,List.take_length] at hA2
    exact ⟨gs,⟨_,_,_,rfl⟩,hg2,hA2.mono λ_ _ z=>z.same (vD (λc hc=>by rw [hS2];exact .inl hc)),s2⟩
  rintro Z' H2 ⟨gs,⟨x1,x4,x5,rfl⟩,hg2,hA2,s2⟩
  exact @au _ _ _ _ _ _ (aH (pv 3)) ⟨_,rfl,q lg gs H2 hg2 hA2 hlg s2⟩
noncomputable def zg (t:gq):Sp:=λvs H Q _=>∃ (x dx a lr:Addr) (S:Addr -> Prop) (ms:List aC) (rs:List Str) (Gs:List eL),vs = [.ref x,.ref a,.ref lr] /\ H x = some (.ins t.aL dx []) /\ ¬ S x /\ Ex S H /\ IsRules t (hid (λc=>S c ∨ c = x) H) a ms /\ cW ms /\ eN ms = none /\ H lr = some (.lst (rs.map V.str)) /\ rs.length <= 100000 /\ Chain ms [0] rs Gs /\
 ∀ a' lg gs H',fj t (hid S H') x dx a' lg gs ms Gs -> H lg = none -> jL H H' x -> Q .cL H'
theorem DV (T:Txt K mg t):bu P w K mg base dZ 7 t.kj t.pM ["self","rules","rows"] (zg t):=by
 refine T.qO.ok Eb ?_ ?_
 walk_at "i"
 ·obtain ⟨x,dx,a,lr,S,ms,rs,Gs,rfl,hx,hxS,hE,hR,G,hring,hlr,hrl,hC,q⟩:=h
  obtain ⟨S2,hS2⟩:∃ S2:Addr -> Prop,S2 = λc=>S c ∨ c = x:=⟨_,rfl⟩
  rw [← hS2] at hR
  have hSx:S2 x:=by rw [hS2];exact .inr rfl
  have hE2:Ex S2 H:=λc hc=>by
   rw [hS2] at hc
   rcases hc with hc | hc
   ·exact hE c hc
   ·rw [hc];exact ⟨_,hx⟩
  have hle:∀ c,S c -> S2 c:=λc hc=>by rw [hS2];exact .inl hc
  refine @ay _ _ _ _ _ _ _ (bq (aM (Jp T) (hr.mono (by decide)) rfl T.Cy T.mL.kp (T.mL.binds (by walk_at "1")) .nil aG (aa (pv 1) ah))) ⟨_,rfl,a,ms,rfl,hR.same aR,G,hring,λH1 s1=>?_⟩
  refine @ay _ _ _ _ _ _ _ (cX (pv 0) (aM (GH T) (hr.mono (by decide)) rfl T.GU T.vH.kp (T.vH.binds (by walk_at "1")) .nil aG (aa (pv 1) ah)) rfl) ⟨_,rfl,a,S2,ms,rfl,hR.same (cA s1),hE2.same s1,G,λa' H2 hR2 s2=>?_⟩
  have s2:=s1.trans s2
  have hx2:=s2 _ _ hx
  refine ⟨_,rfl,x,_,dx,[],rfl,hx2,T.cD,T.fZ,by decide,?_⟩
  have hx3:upd H2 x (.ins t.aL dx (gO "rules" (.ref a') [])) x = some (.ins t.aL dx [("rules",.ref a')]):=af
  have a3:jL H (upd H2 x (.ins t.aL dx (gO "rules" (.ref a') []))) x:=s2.EO jL.upd
  have nl:lr ≠ x:=cP (s2 _ _ hlr) hx2 (by intro z;cases z)
  have hlr3:upd H2 x (.ins t.aL dx (gO "rules" (.ref a') [])) lr = some (.lst (rs.map V.str)):=by rw [ai nl];exact s2 _ _ hlr
  have hH3:hid S2 (upd H2 x (.ins t.aL dx (gO "rules" (.ref a') []))) = hid S2 H2:=g9 hSx
  have hE3:Ex S (upd H2 x (.ins t.aL dx (gO "rules" (.ref a') []))):=λc hc=>by
   obtain ⟨o,ho⟩:=(hE.same s2) c hc
   exact ⟨o,by rw [ai (λz=>hxS (by rw [← z];exact hc))];exact ho⟩
  rw [← hH3] at hR2
  generalize upd H2 x (.ins t.aL dx (gO "rules" (.ref a') [])) = H3 at hx3 a3 hlr3 hR2 hE3
  refine @au _ _ _ _ _ _ (cX (pv 0) (cj (pv 0) T.cD T.Ls (GW T) (hr.mono (by decide)) (T.uo.binds (by walk_at "3")) .nil aG (aa (bf (aa (fh rfl T.iY) ah)) (aa (pv 2) ah))) rfl) ⟨_,rfl,x,dx,_,rfl,hx3,rfl,by show 1 <= sizeLine;decide,λlb hlb=>⟨_,rfl,x,dx,a',lb,lr,S,_,ms,[0],rs,Gs,rfl,ak.upd hlb _ _ hx3,rfl,(hR2.same aR).same (ak.upd hlb),G,bS af (hE3.new hlb),hE3.same (ak.upd hlb),ak.upd hlb _ _ hlr3,hrl,hC,λlg gs H4 hg4 hA4 f4 s4=>?_⟩⟩
  have s34:ak H3 H4:=(ak.upd hlb).trans s4
  have hx4:=s34 _ _ hx3
  refine ⟨_,rfl,x,_,dx,[("rules",.ref a')],rfl,hx4,T.cD,T.cC,by show 1 < 1000;decide,?_⟩
  have h3n:H3 lg = none:=(ak.upd hlb).free f4
  have nlg:lg ≠ x:=cP hg4 hx4 (by intro z;cases z)
  have hlg0:H lg = none:=by
   cases e:H lg with
   | none=>rfl
   | some o=>have:=a3 _ _ e nlg;rw [h3n] at this;cases this
  have sh:ak (hid S2 H4) (hid S (upd H4 x (.ins t.aL dx (gO "gone_rows" (.ref lg) [("rules",.ref a')])))):=λb o hb=>by
   have hb2:=jt hb
   exact bS (by rw [ai (λz=>hb2 (by rw [z];exact hSx))];exact aR _ _ hb) (λz=>hb2 (hle b z))
  refine q a' lg gs _ ⟨bS af hxS,(hR2.same (cA s34)).same sh,bS (by rw [ai nlg];exact hg4) (hE3.new h3n),hA4.mono λg Gi hg=>?_⟩ hlg0 ?_
  ·obtain ⟨dg,lb',lt,lo,lk,e⟩:=hg
   have key:∀ {b o},hid S H4 b = some o -> b ≠ x -> hid S (upd H4 x (.ins t.aL dx (gO "gone_rows" (.ref lg) [("rules",.ref a')]))) b = some o:=λ{b o} hb h=>bS (by rw [ai h];exact aR _ _ hb) (jt hb)
   have nk:∀ {b o},hid S H4 b = some o -> (∀ C d fs,o ≠ .ins C d fs) -> b ≠ x:=λ{b o} hb h=>cP (aR _ _ hb) hx4 (λz=>h _ _ _ z)
   obtain ⟨ps,k1,k2⟩:=e.lk
   refine ⟨dg,lb',lt,lo,lk,key e.ob (cP (aR _ _ e.ob) hx4 (by intro z;injection z with _ _ z;cases z)),key e.lb (nk e.lb (by intro _ _ _ z;cases z)),key e.lt (nk e.lt (by intro _ _ _ z;cases z)),key e.lo (nk e.lo (by intro _ _ _ z;cases z)),ps,key k1 (nk k1 (by intro _ _ _ z;cases z)),k2.mono λp m h=>key h (nk h (by intro _ _ _ z;cases z))⟩
  ·intro b o hb nb
   rw [ai nb]
   exact s34 _ _ (a3 _ _ hb nb)
noncomputable def JF (t:gq):Sp:=λvs H Q _=>∃ (x dx a lg:Addr) (gs:List Addr) (ms:List aC) (Gs:List eL),vs = [.ref x] /\ fj t H x dx a lg gs ms Gs /\ Gs.length <= 100000 /\ ∀ l H',H' l = some (.lst ((Gs.map (·.row)).map V.str)) -> H l = none -> ak H H' -> Q (.ref l) H'
theorem HL (T:Txt K mg t):bu P w K mg base dZ 1 t.nv t.we ["self"] (JF t):=by
 refine T.t6.ok HU ?_ ?_
 walk_at "i"
 ·obtain ⟨x,dx,a,lg,gs,ms,Gs,rfl,I,hl,q⟩:=h
  refine @au _ _ _ _ _ _ (@aH _ _ _ _ (@eZ _ (aq zd) _ ["self"] _ _ ("gone") _ _ [] _ _ (by walk_at "ck") (@cH _ _ _ _ (@aZ _ _ _ _ _ (pv 0) rfl)) (λ_ _ _ _=>by exact (@nM _ K _ _ _ _ (pv 0) rfl (by left))) (by left) (by left) (by left) (by left))) (⟨_,rfl,_,_,_,_,_,rfl,I.ob,T.cD,T.cC,rfl,⟨lg,rfl,⟨_,aP.of I.lg⟩,dN (xs:=gs.map V.ref) (λi ys H2=>ys = ((Gs.take i).map (·.row)).map V.str /\ H2 = H) ⟨rfl,rfl⟩ (cE (by rw [List.length_map,I.go.1];omega)) ?_ ?_ ?_⟩⟩)
  ·rintro i ys H2 _ ⟨_,rfl⟩
   exact aP.of I.lg
  ·rintro i xv ys H2 hx hyl ⟨rfl,rfl⟩
   rw [List.getElem?_map] at hx
   obtain ⟨g,hg,rfl⟩:=Option.map_eq_some_iff.mp hx
   have hi:=(List.getElem?_eq_some_iff.mp hg).1
   have hGi:Gs[i]? = some (Gs[i]'(by rw [← I.go.1];exact hi)):=List.getElem?_eq_getElem _
   obtain ⟨dg,lb,lt,lo,lk,e⟩:=I.go.2 i g _ hg hGi
   refine ⟨_,rfl,_,_,_,_,_,rfl,e.ob,T.dG,T.fE,rfl,(cR (by rw [List.length_map];exact hi) hyl ⟨?_,rfl⟩)⟩
   rw [take_snoc hGi,List.map_append,List.map_append]
   rfl
  ·rintro ys H2 hyl ⟨rfl,rfl⟩ D hD
   have e5:Gs.take (gs.map V.ref).length = Gs:=by rw [List.length_map,I.go.1,List.take_length]
   rw [e5]
   exact q D _ af hD (ak.upd hD)
noncomputable def CH (t:gq):Sp:=λvs H Q _=>∃ (x dx a lg:Addr) (gs:List Addr) (ms:List aC) (Gs:List eL) (i:Nat),vs = [.ref x,.int i] /\ fj t H x dx a lg gs ms Gs /\ i < Gs.length /\ Q .cL H
theorem GS (T:Txt K mg t):bu P w K mg base dZ 1 t.nh t.wz ["self","row"] (CH t):=by
 refine T.ua.ok GB ?_ ?_
 walk_at "i"
 ·obtain ⟨x,dx,a,lg,gs,ms,Gs,i,rfl,I,hi,q⟩:=h
  have hl:=I.go.1
  refine @au _ _ _ _ _ _ (bA (PW.pt (jM (aA iQ (pv 1) ao (aD _)) (iN (aA Cr (pv 1) (aO bh (by rfl) T.bW (by decide +kernel) (aa (aZ (pv 0) rfl) ah)) (aD _))))) av av) ⟨_,rfl,_,_,rfl,rfl,_,rfl,eS (λh=>absurd h (by omega)) (λ_=>?_)⟩
  exact ⟨_,rfl,⟨_,rfl,_,_,_,_,_,rfl,I.ob,T.cD,T.cC,rfl,⟨_,_,rfl,.inl (aP.of I.lg),_,_,rfl,rfl,_,rfl,eS (λh=>absurd h (by rw [List.length_map];omega)) (λ_=>bx q)⟩⟩⟩
noncomputable def AG (t:gq):Sp:=λvs H Q _=>∃ (x dx a lg:Addr) (gs:List Addr) (ms:List aC) (Gs:List eL) (G:eL) (i:Nat),vs = [.ref x,.int i] /\ fj t H x dx a lg gs ms Gs /\ Gs[i]? = some G /\ ∀ g,jx t H g G -> Q (.ref g) H
theorem yC (T:Txt K mg t):bu P w K mg base dZ 2 t.mY t.ud ["self","row"] (AG t):=by
 refine T.qg.ok HQ ?_ ?_
 walk_at "i"
 ·obtain ⟨x,dx,a,lg,gs,ms,Gs,G,i,rfl,I,hG,q⟩:=h
  obtain ⟨g,hg,hgo⟩:=I.go.at hG
  refine @ay _ _ _ _ _ _ _ (bq (cj (pv 0) T.cD T.La (GS T) (hr.mono (by decide)) (T.ua.binds (by walk_at "2")) .nil aG (aa (pv 1) ah))) ⟨_,rfl,x,dx,_,rfl,I.ob,rfl,_,rfl,x,dx,a,lg,gs,ms,Gs,i,rfl,I,(List.getElem?_eq_some_iff.mp hG).1,?_⟩
  exact @au _ _ _ _ _ _ (aH (aK aQ (aZ (pv 0) rfl) (pv 1) (λ_ _=>rfl))) (⟨_,rfl,_,_,_,_,_,rfl,I.ob,T.cD,T.cC,rfl,⟨_,rfl,_,_,_,_,rfl,rfl,aP.of I.lg,dW hg,q g hgo⟩⟩)
noncomputable def CT (t:gq) (f:eL -> List V):Sp:=λvs H Q _=>∃ (x dx a lg:Addr) (gs:List Addr) (ms:List aC) (Gs:List eL) (G:eL) (i:Nat),vs = [.ref x,.int i] /\ fj t H x dx a lg gs ms Gs /\ Gs[i]? = some G /\ ∀ l H',H' l = some (.lst (f G)) -> H l = none -> ak H H' -> Q (.ref l) H'
theorem GI (T:Txt K mg t):bu P w K mg base dZ 3 t.mX t.ur ["self","row"] (CT t λG=>G.before.map bD):=by
 refine T.vY.ok Jh ?_ ?_
 walk_at "i"
 ·obtain ⟨x,dx,a,lg,gs,ms,Gs,G,i,rfl,I,hG,q⟩:=h
  refine @au _ _ _ _ _ _ (aH (cQ cG (by rfl) T.gy (by decide +kernel) (aa (aZ (cj (pv 0) T.cD T.BN (yC T) (hr.mono (by decide)) (T.qg.binds (by walk_at "2")) .nil aG (aa (pv 1) ah)) rfl) ah))) ⟨_,rfl,x,dx,_,rfl,I.ob,rfl,_,rfl,x,dx,a,lg,gs,ms,Gs,G,i,rfl,I,hG,λg ⟨dg,lb,lt,lo,lk,e⟩=>?_⟩
  exact ⟨g,t.aY,dg,_,_,rfl,e.ob,T.dG,T.eY,rfl,lb,_,rfl,.inl (aP.of e.lb),λl hl=>q l _ af hl (ak.upd hl)⟩
theorem Iv (T:Txt K mg t):bu P w K mg base dZ 3 t.nc t.uf ["self","row"] (CT t λG=>G.d.az.map V.str):=by
 refine T.vh.ok Gy ?_ ?_
 walk_at "i"
 ·obtain ⟨x,dx,a,lg,gs,ms,Gs,G,i,rfl,I,hG,q⟩:=h
  refine @au _ _ _ _ _ _ (aH (cQ cG (by rfl) T.gy (by decide +kernel) (aa (aZ (cj (pv 0) T.cD T.BN (yC T) (hr.mono (by decide)) (T.qg.binds (by walk_at "2")) .nil aG (aa (pv 1) ah)) rfl) ah))) ⟨_,rfl,x,dx,_,rfl,I.ob,rfl,_,rfl,x,dx,a,lg,gs,ms,Gs,G,i,rfl,I,hG,λg ⟨dg,lb,lt,lo,lk,e⟩=>?_⟩
  exact ⟨g,t.aY,dg,_,_,rfl,e.ob,T.dG,T.fD,rfl,lt,_,rfl,.inl (aP.of e.lt),λl hl=>q l _ af hl (ak.upd hl)⟩
noncomputable def FA (t:gq):Sp:=λvs H Q _=>∃ (x dx a lg:Addr) (gs:List Addr) (ms:List aC) (Gs:List eL) (G:eL) (i:Nat),vs = [.ref x,.int i] /\ fj t H x dx a lg gs ms Gs /\ Gs[i]? = some G /\ ∀ l H' ps,H' l = some (.lst (ps.map V.ref)) -> bB (λp m=>H p = some (.tup [bD m.1,.str m.2])) ps G.d.marks -> H l = none -> ak H H' -> Q (.ref l) H'
theorem Hj (T:Txt K mg t):bu P w K mg base dZ 3 t.nA t.xr ["self","row"] (FA t):=by
 refine T.vC.ok Gz ?_ ?_
 walk_at "i"
 ·obtain ⟨x,dx,a,lg,gs,ms,Gs,G,i,rfl,I,hG,q⟩:=h
  refine @au _ _ _ _ _ _ (aH (cQ cG (by rfl) T.gy (by decide +kernel) (aa (aZ (cj (pv 0) T.cD T.BN (yC T) (hr.mono (by decide)) (T.qg.binds (by walk_at "2")) .nil aG (aa (pv 1) ah)) rfl) ah))) ⟨_,rfl,x,dx,_,rfl,I.ob,rfl,_,rfl,x,dx,a,lg,gs,ms,Gs,G,i,rfl,I,hG,λg ⟨dg,lb,lt,lo,lk,e⟩=>?_⟩
  obtain ⟨ps,k1,k2⟩:=e.lk
  exact ⟨g,t.aY,dg,_,_,rfl,e.ob,T.dG,T.e7,rfl,lk,_,rfl,.inl (aP.of k1),λl hl=>q l _ ps af k2 hl (ak.upd hl)⟩
def TP (H0 H:Hp) (p:Addr) (G:eL):Prop:=∃ lt lo lk,Told H p lt lo lk G.d /\ H0 lt = none /\ H0 lo = none /\ H0 lk = none
theorem TP.same {H0 H H':Hp} {p:Addr} {G:eL} (h:TP H0 H p G) (s:ak H H'):TP H0 H' p G:=let ⟨lt,lo,lk,a,b⟩:=h;⟨lt,lo,lk,a.same s,b⟩
noncomputable def Kv (t:gq):Sp:=λvs H Q _=>∃ (a lr:Addr) (ms:List aC) (rs:List Str) (Gs:List eL),vs = [.ref a,.ref lr] /\ IsRules t H a ms /\ cW ms /\ H lr = some (.lst (rs.map V.str)) /\ rs.length <= 1000 /\ Chain ms [0] rs Gs /\
 ∀ la ps H',H' la = some (.lst (ps.map V.ref)) -> bB (TP H H') ps Gs -> H la = none -> ak H H' -> Q (.ref la) H'
theorem yh (T:Txt K mg t):bu P w K mg base dZ 4 t.qp t.u6 ["rules","rows"] (Kv t):=by
 refine T.k8.ok lV ?_ ?_
 walk_at "i"
 ·obtain ⟨a,lr,ms,rs,Gs,rfl,hR,GMs,hlr,hrl,hC,q⟩:=h
  have hGl:=hC.len
  refine @ay _ _ _ _ _ _ _ (aF (i:=2) lV.nd rfl (Or.inl rfl) (bf (aa (fh rfl T.iY) ah))) ⟨by show 1 <= sizeLine;decide,λlo hlo=>?_⟩
  have s1:ak H (upd H lo (.lst [.int 0])):=ak.upd hlo
  have ho1:upd H lo (.lst [.int 0]) lo = some (.lst ([0].map bD)):=af
  generalize upd H lo (.lst [.int 0]) = H1 at s1 ho1
  refine @ay _ _ _ _ _ _ _ (aF (i:=3) lV.nd rfl (Or.inl rfl) (bf ah)) ⟨by show 0 <= sizeLine;decide,λlf hlf=>?_⟩
  have s2:ak H1 (upd H1 lf (.lst [])):=ak.upd hlf
  have hf2:upd H1 lf (.lst []) lf = some (.lst []):=af
  have ho2:=s2 _ _ ho1
  have nof:lo ≠ lf:=aj ho1 hlf
  have hlf0:H lf = none:=s1.free hlf
  generalize upd H1 lf (.lst []) = H2 at s2 hf2 ho2
  have s2:=s1.trans s2
  refine @aB _ _ _ _ _ _ _ (λZ' H'=>(∃ x2 x4 x5,Z' = [some (.ref a),some (.ref lr),x2,some (.ref lf),x4,x5]) /\ ∃ ps:List Addr,H' lf = some (.lst (ps.map V.ref)) /\ bB (TP H H') ps Gs /\ ak H H') (dU PassesOwn.never rfl (cH (pv 1)) (b9 (i:=4) lV.nd rfl (Or.inl rfl)) av) ?_ ?_
  ·refine ⟨_,rfl,lr,rfl,⟨_,aP.of (s2 _ _ hlr)⟩,ic (xs:=rs.map V.str) (λi Z' H'=>∃ (ps:List Addr) (lo:Addr) (b:List Nat),(∃ x4 x5,Z' = [some (.ref a),some (.ref lr),some (.ref lo),some (.ref lf),x4,x5]) /\ H' lf = some (.lst (ps.map V.ref)) /\ bB (TP H (hide H' lf)) ps (Gs.take i) /\ hide H' lf lo = some (.lst (b.map bD)) /\ Chain ms b (rs.drop i) (Gs.drop i) /\ ak H H') ⟨[],lo,[0],⟨_,_,rfl⟩,hf2,bB.nil,jd ho2 nof,hC,s2⟩ ?_ ?_ ?_⟩
   ·rintro i Z' H' _ ⟨_,_,_,_,_,_,_,_,s3⟩
    exact aP.of (s3 _ _ hlr)
   ·rintro i xv Z' H3 hxv ⟨ps,lo,b,⟨x4,x5,rfl⟩,hf3,hA3,hlo3,hC3,s3⟩
    rw [List.getElem?_map] at hxv
    obtain ⟨r,hri,rfl⟩:=Option.map_eq_some_iff.mp hxv
    obtain ⟨G,hGi,e1,e2,hS,hC4⟩:=oS hC3 hri
    subst e1 e2
    obtain ⟨n,hn,hgo⟩:=hS.go
    have hbl:=hS.len
    have hlo3':=qH _ _ hlo3
    have hplen:ps.length <= 1000:=by rw [hA3.1,List.length_take];omega
    refine @ay _ _ _ _ _ _ _ (aF (i:=5) lV.nd rfl (Or.inl rfl) (aM (By T) (hr.mono (by decide)) rfl T.Dm T.pK.kp (T.pK.binds (by walk_at "3")) .nil aG (aa (pv 0) (aa (pv 2) (aa (pv 4) ah))))) ⟨_,rfl,_,rfl,_,rfl,a,lo,ms,G.before,G.row,n,G.d,rfl,hR.same s3,GMs,hlo3',hS.ok,hS.row,by omega,by omega,hgo,λtp lt lo' lk H4 D _ f1 f3 f2 _ _ _ s4=>?_⟩
    have hf4:=s4 _ _ hf3
    have n1:lt ≠ lf:=Ne.symm (aj hf3 f1)
    have n2:lk ≠ lf:=Ne.symm (aj hf3 f2)
    have n3:lo' ≠ lf:=Ne.symm (aj hf3 f3)
    have ntp:tp ≠ lf:=cP D.tp hf4 (by intro z;cases z)
    refine @ay _ _ _ _ _ _ _ (bq (dc F.plainAttrs_list F.slot_list_append F.type_list_append bF (pv 3) (aa (pv 5) ah))) ⟨_,rfl,.inl ⟨rfl,_,aP.of hf4⟩,_,rfl,lf,_,_,rfl,rfl,hf4,cE (by rw [List.length_map];omega),?_⟩
    refine @au _ _ _ _ _ _ (aF (i:=2) lV.nd rfl (Or.inl rfl) (aK bR (pv 5) ao (λ_ _=>rfl))) ⟨_,rfl,_,_,_,_,rfl,rfl,fL.of (by rw [ai ntp];exact D.tp),aS (j:=1) rfl,?_⟩
    refine ⟨ps ++ [tp],lo',G.d.on,⟨_,_,rfl⟩,by rw [af,List.map_append];rfl,?_,?_,hC4,λb o hb=>?_⟩
    ·rw [take_snoc hGi,wY]
     refine bB.snoc (hA3.mono λ_ _ z=>z.same (ak.K4 s4)) ⟨lt,lo',lk,⟨jd D.tp ntp,jd D.lt n1,jd D.lo n3,?_⟩,s3.free f1,s3.free f3,s3.free f2⟩
     obtain ⟨ms',k1,k2⟩:=D.lk
     exact ⟨ms',jd k1 n2,k2.mono λp m e=>jd e (cP e hf4 (by intro z;cases z))⟩
    ·rw [wY];exact jd D.lo n3
    ·rw [ai (aj hb hlf0)];exact s4 _ _ (s3 _ _ hb)
   ·rintro Z' H3 ⟨ps,lo,b,⟨x4,x5,rfl⟩,hf3,hA3,_,_,s3⟩
    rw [List.length_map,← hGl,List.take_length] at hA3
    exact ⟨⟨_,_,_,rfl⟩,ps,hf3,hA3.mono λ_ _ z=>z.same qH,s3⟩
  rintro Z' H3 ⟨⟨x2,x4,x5,rfl⟩,ps,hf3,hA3,s3⟩
  exact @au _ _ _ _ _ _ (aH (pv 3)) ⟨_,rfl,q lf ps H3 hf3 hA3 hlf0 s3⟩
def LL (H0 H:Hp) (as:List Addr) (cs:List (List V)):Prop:=bB (λa c=>H a = some (.lst c) /\ H0 a = none) as cs
theorem LL.same {H0 H H':Hp} {as:List Addr} {cs:List (List V)} (h:LL H0 H as cs) (s:ak H H'):LL H0 H' as cs:=h.mono λ_ _ z=>⟨s _ _ z.1,z.2⟩
noncomputable def Dq (t:gq):Sp:=λvs H Q _=>∃ (a lr:Addr) (ms:List aC) (rs:List Str) (Gs:List eL),vs = [.ref a,.ref lr] /\ IsRules t H a ms /\ cW ms /\ H lr = some (.lst (rs.map V.str)) /\ rs.length <= 1000 /\ Chain ms [0] rs Gs /\
 ∀ l as H',H' l = some (.lst (as.map V.ref)) -> LL H H' as (([0] :: Gs.map (·.d.on)).map λo=>o.map bD) -> H l = none -> ak H H' -> Q (.ref l) H'
theorem Jz (T:Txt K mg t):bu P w K mg base dZ 5 t.nR t.xh ["rules","rows"] (Dq t):=by
 refine T.uE.ok Hf ?_ ?_
 walk_at "i"
 ·obtain ⟨a,lr,ms,rs,Gs,rfl,hR,GMs,hlr,hrl,hC,q⟩:=h
  have hGl:=hC.len
  refine @au _ _ _ _ _ _ (@aH _ _ _ _ (@bz _ _ _ _ _ _ _ _ kQ (@bf _ _ _ _ (@aa _ _ _ _ _ (@bf _ _ _ _ (@aa _ _ _ _ _ (@fh _ _ _ _ rfl T.iY (by left)) ah (by left))) ah (by left))) (@eZ _ (aq zV) _ ["rules","rows"] _ _ ("told") _ _ [] _ _ (by walk_at "ck") (@cH _ _ _ _ (@aM _ _ _ _ _ _ _ _ _ _ _ _ _ _ _ _ (yh T) (hr.mono (by decide)) rfl T.xB T.k8.kp (T.k8.binds (by walk_at "2")) .nil aG (@aa _ _ _ _ _ (pv 0) (@aa _ _ _ _ _ (pv 1) ah (by left)) (by left)) (by left) (by left) (by left))) (λ_ _ _ _=>by exact (@aK _ _ _ _ _ _ _ (jU (K:=K) rfl) (pv 0) ao (λ_ _=>rfl))) (by left) (by left) (by left) (by left)))) ⟨by show 1 <= sizeLine;decide,λl0 hl0=>⟨by show 1 <= sizeLine;decide,λl1 hl1=>?_⟩⟩
  have s1:ak H (upd (upd H l0 (.lst [.int 0])) l1 (.lst [.ref l0])):=(ak.upd hl0).to hl1
  have h01:upd (upd H l0 (.lst [.int 0])) l1 (.lst [.ref l0]) l0 = some (.lst ([0].map bD)):=ak.upd hl1 _ _ af
  have h11:upd (upd H l0 (.lst [.int 0])) l1 (.lst [.ref l0]) l1 = some (.lst [.ref l0]):=af
  generalize upd (upd H l0 (.lst [.int 0])) l1 (.lst [.ref l0]) = H1 at s1 h01 h11
  refine ⟨_,rfl,_,rfl,a,lr,ms,rs,Gs,rfl,hR.same s1,GMs,s1 _ _ hlr,hrl,hC,λla ps H2 hla hA f2 s2=>⟨la,rfl,⟨_,aP.of hla⟩,dN (xs:=ps.map V.ref) (λi ys H3=>H3 = H2 /\ ∃ as:List Addr,ys = as.map V.ref /\ LL H H2 as ((Gs.take i).map λG=>G.d.on.map bD)) ⟨rfl,[],rfl,bB.nil⟩ (cE (by rw [List.length_map,hA.1];omega)) ?_ ?_ ?_⟩⟩
  ·rintro i ys H3 _ ⟨rfl,_⟩
   exact aP.of hla
  ·rintro i xv ys H3 hx hyl ⟨rfl,as,rfl,hLL⟩
   rw [List.getElem?_map] at hx
   obtain ⟨p,hp,rfl⟩:=Option.map_eq_some_iff.mp hx
   have hi:=(List.getElem?_eq_some_iff.mp hp).1
   have hGi:Gs[i]? = some (Gs[i]'(by rw [← hA.1];exact hi)):=List.getElem?_eq_getElem _
   obtain ⟨lt,lo,lk,D,g1,g2,g3⟩:=hA.2 i p _ hp hGi
   refine ⟨_,rfl,_,_,_,_,rfl,rfl,fL.of D.tp,aS (j:=1) rfl,cR (by rw [List.length_map];exact hi) hyl ⟨rfl,as ++ [lo],by rw [List.map_append];rfl,?_⟩⟩
   rw [take_snoc hGi,List.map_append]
   exact bB.snoc hLL ⟨D.lo,s1.free g2⟩
  ·rintro ys H3 hyl ⟨rfl,as,rfl,hLL⟩ D hD
   rw [List.length_map,hA.1,List.take_length] at hLL
   have s3:ak H3 (upd H3 D (.lst (as.map V.ref))):=ak.upd hD
   have hD3:upd H3 D (.lst (as.map V.ref)) D = some (.lst (as.map V.ref)):=af
   generalize upd H3 D (.lst (as.map V.ref)) = H4 at s3 hD3
   have hal:as.length <= 1000:=by
    have:=hLL.1
    rw [List.length_map] at this
    omega
   refine ⟨l1,D,_,_,rfl,rfl,s3 _ _ (s2 _ _ h11),hD3,bL (by simp only [List.length_map,List.length_cons,List.length_nil];omega),λl hl=>?_⟩
   have s14:=s2.trans s3
   refine q l (l0 :: as) _ (by rw [af,List.map_cons];rfl) ?_ ((s1.trans s14).free hl) ((s1.trans s14).to hl)
   refine ⟨?_,λi b c hb hc=>?_⟩
   ·have:=hLL.1
    rw [List.length_map] at this
    simp only [List.length_cons,List.length_map]
    omega
   ·cases i with
    | zero =>
     cases hb
     cases hc
     exact ⟨ak.upd hl _ _ (s14 _ _ h01),hl0⟩
    | succ i =>
     rw [List.getElem?_cons_succ] at hb
     rw [List.map_cons,List.getElem?_cons_succ,List.map_map] at hc
     obtain ⟨z1,z2⟩:=hLL.2 i b c hb hc
     exact ⟨ak.upd hl _ _ (s3 _ _ z1),z2⟩
noncomputable def Hz (t:gq):Sp:=λvs H Q _=>∃ (a lr:Addr) (ms:List aC) (rs:List Str) (Gs:List eL),vs = [.ref a,.ref lr] /\ IsRules t H a ms /\ cW ms /\ H lr = some (.lst (rs.map V.str)) /\ rs.length <= 1000 /\ Chain ms [0] rs Gs /\
 ∀ l as H',H' l = some (.lst (as.map V.ref)) -> LL H H' as (Gs.map λG=>G.d.az.map V.str) -> H l = none -> ak H H' -> Q (.ref l) H'
theorem Iz (T:Txt K mg t):bu P w K mg base dZ 5 t.oB t.uG ["rules","rows"] (Hz t):=by
 refine T.uy.ok Hy ?_ ?_
 walk_at "i"
 ·obtain ⟨a,lr,ms,rs,Gs,rfl,hR,GMs,hlr,hrl,hC,q⟩:=h
  have hGl:=hC.len
  refine @au _ _ _ _ _ _ (@aH _ _ _ _ (@eZ _ (aq zH) _ ["rules","rows"] _ _ ("told") _ _ [] _ _ (by walk_at "ck") (@cH _ _ _ _ (@aM _ _ _ _ _ _ _ _ _ _ _ _ _ _ _ _ (yh T) (hr.mono (by decide)) rfl T.xB T.k8.kp (T.k8.binds (by walk_at "2")) .nil aG (@aa _ _ _ _ _ (pv 0) (@aa _ _ _ _ _ (pv 1) ah (by left)) (by left)) (by left) (by left) (by left))) (λ_ _ _ _=>by exact (@aK _ _ _ _ _ _ _ (jU (K:=K) rfl) (pv 0) ao (λ_ _=>rfl))) (by left) (by left) (by left) (by left))) ⟨_,rfl,_,rfl,a,lr,ms,rs,Gs,rfl,hR,GMs,hlr,hrl,hC,λla ps H2 hla hA f2 s2=>⟨la,rfl,⟨_,aP.of hla⟩,dN (xs:=ps.map V.ref) (λi ys H3=>H3 = H2 /\ ∃ as:List Addr,ys = as.map V.ref /\ LL H H2 as ((Gs.take i).map λG=>G.d.az.map V.str)) ⟨rfl,[],rfl,bB.nil⟩ (cE (by rw [List.length_map,hA.1];omega)) ?_ ?_ ?_⟩⟩
  ·rintro i ys H3 _ ⟨rfl,_⟩
   exact aP.of hla
  ·rintro i xv ys H3 hx hyl ⟨rfl,as,rfl,hLL⟩
   rw [List.getElem?_map] at hx
   obtain ⟨p,hp,rfl⟩:=Option.map_eq_some_iff.mp hx
   have hi:=(List.getElem?_eq_some_iff.mp hp).1
   have hGi:Gs[i]? = some (Gs[i]'(by rw [← hA.1];exact hi)):=List.getElem?_eq_getElem _
   obtain ⟨lt,lo,lk,D,g1,g2,g3⟩:=hA.2 i p _ hp hGi
   refine ⟨_,rfl,_,_,_,_,rfl,rfl,fL.of D.tp,aS (j:=0) rfl,cR (by rw [List.length_map];exact hi) hyl ⟨rfl,as ++ [lt],by rw [List.map_append];rfl,?_⟩⟩
   rw [take_snoc hGi,List.map_append]
   exact bB.snoc hLL ⟨D.lt,g1⟩
  ·rintro ys H3 hyl ⟨rfl,as,rfl,hLL⟩ D hD
   rw [List.length_map,hA.1,List.take_length] at hLL
   exact q D as _ af (hLL.same (ak.upd hD)) (s2.free hD) (s2.to hD)
def LM (H0 H:Hp) (as:List Addr) (cs:List (List (Nat × Str))):Prop:=bB (λa c=>GM H a c /\ H0 a = none) as cs
theorem LM.same {H0 H H':Hp} {as:List Addr} {cs:List (List (Nat × Str))} (h:LM H0 H as cs) (s:ak H H'):LM H0 H' as cs:=h.mono λ_ _ z=>⟨z.1.same s,z.2⟩
noncomputable def EU (t:gq):Sp:=λvs H Q _=>∃ (a lr:Addr) (ms:List aC) (rs:List Str) (Gs:List eL),vs = [.ref a,.ref lr] /\ IsRules t H a ms /\ cW ms /\ H lr = some (.lst (rs.map V.str)) /\ rs.length <= 1000 /\ Chain ms [0] rs Gs /\
 ∀ l as H',H' l = some (.lst (as.map V.ref)) -> LM H H' as (Gs.map λG=>G.d.marks) -> H l = none -> ak H H' -> Q (.ref l) H'
theorem GC (T:Txt K mg t):bu P w K mg base dZ 5 t.qj t.uR ["rules","rows"] (EU t):=by
 refine T.vP.ok Hv ?_ ?_
 walk_at "i"
 ·obtain ⟨a,lr,ms,rs,Gs,rfl,hR,GMs,hlr,hrl,hC,q⟩:=h
  have hGl:=hC.len
  refine @au _ _ _ _ _ _ (@aH _ _ _ _ (@eZ _ (aq z8) _ ["rules","rows"] _ _ ("told") _ _ [] _ _ (by walk_at "ck") (@cH _ _ _ _ (@aM _ _ _ _ _ _ _ _ _ _ _ _ _ _ _ _ (yh T) (hr.mono (by decide)) rfl T.xB T.k8.kp (T.k8.binds (by walk_at "2")) .nil aG (@aa _ _ _ _ _ (pv 0) (@aa _ _ _ _ _ (pv 1) ah (by left)) (by left)) (by left) (by left) (by left))) (λ_ _ _ _=>by exact (@aK _ _ _ _ _ _ _ (jU (K:=K) rfl) (pv 0) ao (λ_ _=>rfl))) (by left) (by left) (by left) (by left))) ⟨_,rfl,_,rfl,a,lr,ms,rs,Gs,rfl,hR,GMs,hlr,hrl,hC,λla ps H2 hla hA f2 s2=>⟨la,rfl,⟨_,aP.of hla⟩,dN (xs:=ps.map V.ref) (λi ys H3=>H3 = H2 /\ ∃ as:List Addr,ys = as.map V.ref /\ LM H H2 as ((Gs.take i).map λG=>G.d.marks)) ⟨rfl,[],rfl,bB.nil⟩ (cE (by rw [List.length_map,hA.1];omega)) ?_ ?_ ?_⟩⟩
  ·rintro i ys H3 _ ⟨rfl,_⟩
   exact aP.of hla
  ·rintro i xv ys H3 hx hyl ⟨rfl,as,rfl,hLL⟩
   rw [List.getElem?_map] at hx
   obtain ⟨p,hp,rfl⟩:=Option.map_eq_some_iff.mp hx
   have hi:=(List.getElem?_eq_some_iff.mp hp).1
   have hGi:Gs[i]? = some (Gs[i]'(by rw [← hA.1];exact hi)):=List.getElem?_eq_getElem _
   obtain ⟨lt,lo,lk,D,g1,g2,g3⟩:=hA.2 i p _ hp hGi
   refine ⟨_,rfl,_,_,_,_,rfl,rfl,fL.of D.tp,aS (j:=2) rfl,cR (by rw [List.length_map];exact hi) hyl ⟨rfl,as ++ [lk],by rw [List.map_append];rfl,?_⟩⟩
   rw [take_snoc hGi,List.map_append]
   exact bB.snoc hLL ⟨D.lk,g3⟩
  ·rintro ys H3 hyl ⟨rfl,as,rfl,hLL⟩ D hD
   rw [List.length_map,hA.1,List.take_length] at hLL
   exact q D as _ af (hLL.same (ak.upd hD)) (s2.free hD) (s2.to hD)
noncomputable def KL (t:gq):Sp:=λvs H Q _=>∃ e l xs y,vs = [.ref e,.ref l,y] /\ H e = some (iR e t.aX none) /\ H l = some (.lst xs) /\
 ∀ tp l2 dx H1,H1 = upd (upd H tp (.tup xs)) l2 (.lst xs) -> H tp = none -> H l2 = none -> l2 ≠ tp -> H1 dx = none -> Q .cL (upd (upd (upd H1 dx (.xd [("ring",.ref l2)])) e (iR e t.aX (some dx))) dx (.xd [("sign",y),("ring",.ref l2)]))
theorem JW (T:Txt K mg t):bu P w K mg base dZ 1 t.k6 t.wm ["self","ring","sign"] (KL t):=by
 refine T.zZ.ok IK ?_ ?_
 walk_at "i"
 ·obtain ⟨e,l,xs,y,rfl,he,hl,q⟩:=h
  have nel:l ≠ e:=λz=>by rw [z,he] at hl;cases hl
  refine @ay _ _ _ _ _ _ _ (bq (DE rfl T.kr T.jf.1 T.jf.2.1 T.jf.2.2 (aa (pv 0) (aa (cQ qy rfl T.sG rfl (aa (pv 1) ah)) (aa (pv 2) ah))))) ?_
  refine ⟨_,rfl,_,rfl,l,xs,rfl,.inl ⟨aP.of hl,λtp ftp=>⟨_,rfl,e,t.aX,none,_,rfl,?_,T.jP.toExcC,by show 2 <= sizeLine;decide,?_⟩⟩⟩
  ·rw [ai (λz=>by rw [← z,he] at ftp;cases ftp)];exact he
  have hl1:upd H tp (.tup xs) l = some (.lst xs):=by rw [ai (λz=>by rw [← z,hl] at ftp;cases ftp)];exact hl
  have he1:upd H tp (.tup xs) e = some (iR e t.aX none):=by rw [ai (λz=>by rw [← z,he] at ftp;cases ftp)];exact he
  refine @ay _ _ _ _ _ _ _ (zh (pv 0) (cQ cG rfl T.gy rfl (aa (pv 1) ah)) rfl) ⟨_,rfl,l,xs,rfl,.inl (aP.of hl1),λl2 f2=>?_⟩
  have n2:l2 ≠ tp:=λz=>by rw [z,af] at f2;cases f2
  have f2':H l2 = none:=by rw [ai n2] at f2;exact f2
  have he2:upd (upd H tp (.tup xs)) l2 (.lst xs) e = some (iR e t.aX none):=by rw [ai (λz=>by rw [← z,he1] at f2;cases f2)];exact he1
  refine ⟨_,rfl,e,_,rfl,T.jP.toExcC,T.i8,.inl ⟨he2,λdx fr=>?_⟩⟩
  have ne:dx ≠ e:=λz=>by rw [z,he2] at fr;cases fr
  exact @au _ _ _ _ _ _ (zh (pv 0) (pv 2) rfl) ⟨_,rfl,_,rfl,e,_,rfl,T.jP.toExcC,T.jj,.inr ⟨dx,_,af,by rw [ai ne,af],by show 1 < 1000;decide,q tp l2 dx _ rfl ftp f2' n2 fr⟩⟩
def Rg (t:gq) (E:XK) (H:Hp) (xs:List V) (y:V):Prop:=∀ e dx l2 H',H' e = some (jb e t.aX (some dx)) -> H' dx = some (.xd [("sign",y),("ring",.ref l2)]) -> H' l2 = some (.lst xs) -> ak H H' -> E (.ref t.aX) (some e) H'
theorem Rg.go {E:XK} {H:Hp} {xs:List V} {y:V} {l e:Addr} (h:Rg t E H xs y) (hl:H l = some (.lst xs)) (he:H e = none):KL t [.ref e,.ref l,y] (upd H e (iR e t.aX none)) (λv H3=>v = .cL /\ ∃ d,H3 e = some (iR e t.aX d) /\ E (.ref t.aX) (some e) (upd H3 e (jb e t.aX d))) E0:=by
 have nl:l ≠ e:=aj hl he
 refine ⟨e,l,xs,y,rfl,af,by rw [ai nl];exact hl,λtp l2 dx H1 hH1 ftp f2 n2 fd=>⟨rfl,some dx,?_,?_⟩⟩
 ·subst hH1
  have e1:e ≠ tp:=λz=>by rw [← z,af] at ftp;cases ftp
  have e2:e ≠ l2:=λz=>by rw [← z,af] at f2;cases f2
  have ed:e ≠ dx:=λz=>by rw [← z,ai e2,ai e1,af] at fd;cases fd
  rw [ai ed,af]
 ·subst hH1
  have e1:e ≠ tp:=λz=>by rw [← z,af] at ftp;cases ftp
  have e2:e ≠ l2:=λz=>by rw [← z,af] at f2;cases f2
  have ed:e ≠ dx:=λz=>by rw [← z,ai e2,ai e1,af] at fd;cases fd
  have d2:l2 ≠ dx:=λz=>by rw [← z,af] at fd;cases fd
  have d1:dx ≠ tp:=λz=>by rw [ai (Ne.symm d2),z,af] at fd;cases fd
  have ftp':H tp = none:=by rw [ai (Ne.symm e1)] at ftp;exact ftp
  have f2':H l2 = none:=by rw [ai (Ne.symm e2)] at f2;exact f2
  have fd':H dx = none:=by rw [ai (Ne.symm d2),ai d1,ai (Ne.symm ed)] at fd;exact fd
  refine h e dx l2 _ af (by rw [ai (Ne.symm ed),af]) ?_ λb o hb=>?_
  ·rw [ai (Ne.symm e2),ai d2,ai (Ne.symm e2),ai d2,af]
  ·have n1:=aj hb he
   have n3:=aj hb ftp'
   have n4:=aj hb f2'
   have n5:=aj hb fd'
   rw [ai n1,ai n5,ai n1,ai n5,ai n4,ai n3,ai n1];exact hb
noncomputable def Fq (t:gq):Sp:=λvs H Q E=>∃ (a:Addr) (ms:List aC),vs = [.ref a] /\ IsRules t H a ms /\ cW ms /\ (eN ms = none -> ∀ H',ak H H' -> Q .cL H') /\ ∀ ring row,eN ms = some (ring,row) -> Rg t E H ((ring.map (nameAt ms)).map V.str) (As row)
theorem qB (T:Txt K mg t):bu P w K mg base (qu P w) 6 t.m9 t.qN ["rules"] (Fq t):=by
 refine T.mL.okE sC (λvs H Q E h=>?_) (λcdv A outer s H vs Q E hr h=>?_)
 ·obtain ⟨a,ms,rfl,_⟩:=h
  rfl
 ·obtain ⟨a,ms,rfl,hR,G,q1,q2⟩:=h
  refine @ay _ _ _ _ _ _ _ (aF (i:=1) sC.nd rfl (Or.inl rfl) (aM (BB T) (hr.mono (by decide)) rfl T.Bw T.pY.kp (T.pY.binds (by walk_at "1")) .nil aG (aa (pv 0) ah))) ⟨_,rfl,a,ms,rfl,hR,G,λH1 s1=>⟨λhn=>?_,λring row p l hm hp hl=>?_⟩⟩
  ·exact @au _ _ _ _ _ _ (bA (aA iJ (pv 1) cy (aD _)) av av) ⟨_,rfl,rfl,_,rfl,iX (λh=>absurd rfl h) (λ_=>bx (q1 hn H1 s1))⟩
  ·refine @au _ _ _ _ _ _ (bA (aA iJ (pv 1) cy (aD _)) av av) ⟨_,rfl,rfl,_,rfl,iX (λ_=>?_) (λh=>by cases h)⟩
   have g:Rg t E H1 ((ring.map (nameAt ms)).map V.str) (As row):=λe dx l2 H' h1 h2 h3 h4=>q2 ring row hm e dx l2 H' h1 h2 h3 (s1.trans h4)
   exact @au _ _ _ _ _ _ (Ae T.jP.toExcC T.pB.1 T.pB.2.1 T.pB.2.2 (JW T) (T.zZ.binds (by walk_at "3")) (hr.mono (by decide)) rfl T.qS (aa (aK bR (pv 1) ao (λ_ _=>rfl)) (aa (aK bR (pv 1) ao (λ_ _=>rfl)) ah))) ⟨_,rfl,_,_,_,_,rfl,rfl,fL.of hp,aS (j:=0) rfl,_,rfl,_,_,_,_,rfl,rfl,fL.of hp,aS (j:=1) rfl,by show 2 <= sizeLine;decide,λe he=>g.go hl he⟩
noncomputable def xm (t:gq):Sp:=λvs H Q E=>∃ (x dx a:Addr) (ms:List aC) (v:V) (ring:List Nat) (row:Str),vs = [.ref x,.ref a,v] /\ H x = some (.ins t.aL dx []) /\ IsRules t H a ms /\ cW ms /\ eN ms = some (ring,row) /\ Rg t E H ((ring.map (nameAt ms)).map V.str) (As row)
theorem kc (T:Txt K mg t):bu P w K mg base (qu P w) 7 t.kj t.pM ["self","rules","rows"] (xm t):=by
 refine T.qO.okE Eb (λvs H Q E h=>?_) (λcdv A outer s H vs Q E hr h=>?_)
 ·obtain ⟨x,dx,a,ms,v,ring,row,rfl,_⟩:=h
  rfl
 ·obtain ⟨x,dx,a,ms,v,ring,row,rfl,hx,hR,G,hm,g⟩:=h
  refine @ay _ _ _ _ _ _ _ (bq (aM (qB T) (hr.mono (by decide)) rfl T.Cy T.mL.kp (T.mL.binds (by walk_at "1")) .nil Ly (aa (pv 1) ah))) ⟨_,rfl,a,ms,rfl,hR,G,(λhn=>by rw [hm] at hn;cases hn),λring2 row2 hm2=>?_⟩
  rw [hm] at hm2
  have hm2:=Option.some.inj hm2
  injection hm2 with e1 e2
  subst e1 e2
  exact g
abbrev fwd (d:Str):Prop:=d = "push" ∨ d = "into"
theorem ou {on:List Nat} {d:Str} {g:Nat} (hd:fwd d):bg (aT on d (some g)) = g:=by
 unfold aT bg
 rcases hd with rfl | rfl
 ·rw [if_pos rfl,List.getLastD_eq_getLast?];simp
 ·rw [if_neg (by decide),if_pos rfl,List.getLastD_eq_getLast?];simp
theorem jR:∀ (n:Nat) (l:List Nat),l.Nodup -> (∀ x ∈ l,x < n) -> l.length <= n
 | 0,l,_,h=>by
  cases l with
  | nil=>exact Nat.le_refl _
  | cons x r=>exact absurd (h x (by simp)) (by omega)
 | n + 1,l,hd,h=>by
  have h1:=jR n (l.erase n) (hd.erase n) λx hx=>by
   obtain ⟨h2,h3⟩:=hd.mem_erase_iff.mp hx
   have:=h x h3
   omega
  rw [List.length_erase] at h1
  split at h1 <;> omega
section
variable {ms:List aC} {row:Str}
def sd (ms:List aC) (row:Str) (a b:Nat):Prop:=∃ R,bO ms a row = some R /\ fwd R.aI /\ R.goal = some b
def tR (ms:List aC) (row:Str):List Nat -> Prop
 | []=>True
 | [_]=>True
 | a :: b :: r=>sd ms row a b /\ tR ms row (b :: r)
theorem tR.tail {a:Nat} {r:List Nat} (h:tR ms row (a :: r)):tR ms row r:=by
 cases r with
 | nil=>trivial
 | cons b r=>exact h.2
theorem tR.suffix:∀ {A B:List Nat},tR ms row (A ++ B) -> tR ms row B
 | [],B,h=>h
 | a :: A,B,h=>tR.suffix (A:=A) (tR.tail h)
theorem tR.snoc:∀ {l:List Nat} {z g:Nat},tR ms row (l ++ [z]) -> sd ms row z g -> tR ms row (l ++ [z] ++ [g])
 | [],z,g,_,h=>⟨h,trivial⟩
 | [a],z,g,h,h2=>⟨h.1,h2,trivial⟩
 | a :: b :: l,z,g,h,h2=>⟨h.1,tR.snoc (l:=b :: l) h.2 h2⟩
theorem jy {first:Nat} {R:bw} {on ring:List Nat} {g fuel:Nat} (hR:bO ms (bg on) row = some R) (hd:fwd R.aI) (hg:R.goal = some g) (hx:g = first ∨ dH ms row first fuel (aT on R.aI R.goal) (ring ++ [bg on]) ≠ none):dH ms row first (fuel + 1) on ring ≠ none:=by
 have hdp:R.aI ≠ "pop" := by rcases hd with z | z <;> rw [z] <;> decide
 rw [dH,hR]
 show (if R.aI = "pop" /\ on.length = 1 /\ first ≠ 0 then none else if bg (aT on R.aI R.goal) = first then some (ring ++ [bg on]) else dH ms row first fuel (aT on R.aI R.goal) (ring ++ [bg on])) ≠ none
 have ht:bg (aT on R.aI R.goal) = g:=by rw [hg];exact ou hd
 rw [if_neg (λz=>hdp z.1),ht]
 by_cases z:g = first
 ·rw [if_pos z];intro w;cases w
 ·rw [if_neg z];exact hx.resolve_left z
theorem l7 {first:Nat}:∀ (r:List Nat) (x z:Nat) (fuel:Nat) (on ring:List Nat),tR ms row (x :: r) -> (x :: r).getLast? = some z -> sd ms row z first -> bg on = x -> (x :: r).length <= fuel -> dH ms row first fuel on ring ≠ none
 | [],x,z,fuel,on,ring,_,hl,hz,ht,hf=>by
  cases hl
  obtain ⟨R,h1,h2,h3⟩:=hz
  obtain ⟨f,rfl⟩:∃ f,fuel = f + 1:=⟨fuel - 1,by rw [List.length_singleton] at hf;omega⟩
  exact jy (by rw [ht];exact h1) h2 h3 (.inl rfl)
 | y :: r,x,z,fuel,on,ring,hp,hl,hz,ht,hf=>by
  obtain ⟨⟨R,h1,h2,h3⟩,hp2⟩:=hp
  rw [List.length_cons] at hf
  obtain ⟨f,rfl⟩:∃ f,fuel = f + 1:=⟨fuel - 1,by omega⟩
  refine jy (by rw [ht];exact h1) h2 h3 (.inr ?_)
  exact l7 r y z f _ _ hp2 (by rw [List.getLast?_cons_cons] at hl;exact hl) hz (by rw [h3];exact ou h2) (by omega)
def yv (ms:List aC) (row:Str):Nat -> Nat -> Prop
 | 0,k=>bO ms k row = none
 | m + 1,k=>∃ g,sd ms row k g /\ yv ms row m g
def sP (ms:List aC) (row:Str):Nat -> Nat -> Prop
 | 0,k=>∃ R,bO ms k row = some R /\ R.aI = "pop"
 | m + 1,k=>∃ g R,bO ms k row = some R /\ R.aI = "into" /\ R.goal = some g /\ sP ms row m g
theorem mq {us:List Nat} {q g:Nat}:aT (us ++ [q]) "into" (some g) = us ++ [g]:=by
 rw [aT,if_neg (by decide),if_pos rfl,List.dropLast_concat];rfl
theorem lD (us:List Nat) (k:Nat) (g:Option Nat):aT (us ++ [k]) "pop" g = if us = [] then [0] else us:=by
 rw [aT,if_neg (by decide),if_neg (by decide),if_pos rfl,List.dropLast_concat]
 by_cases z:us = []
 ·rw [if_pos z,if_pos (by rw [z];rfl)]
 ·rw [if_neg z,if_neg]
  have:=List.length_pos_iff.mpr z
  rw [List.length_append,List.length_singleton];omega
theorem mC (on:List Nat) (g:Option Nat):aT on "stay" g = on:=by rw [aT,if_neg (by decide),if_neg (by decide),if_neg (by decide)]
theorem uD {A B:List Nat} {g k:Nat} {vis:List Nat} (h:vis ++ [k] = A ++ g :: B):(g :: B).getLast? = some k:=by
 have e:=congrArg List.getLast? h
 rw [List.getLast?_append] at e
 cases h2:(g :: B).getLast? with
 | none=>rw [List.getLast?_eq_none_iff] at h2;cases h2
 | some z=>rw [List.getLast?_append,h2] at e;simpa using e.symm
theorem vA {first:Nat}:∀ (m q fuel:Nat) (us ring:List Nat),sP ms row m q -> us ≠ [] -> bg us = first -> m + 1 <= fuel -> dH ms row first fuel (us ++ [q]) ring ≠ none
 | 0,q,fuel,us,ring,⟨R,h1,h2⟩,hne,ht,hf=>by
  obtain ⟨f,rfl⟩:∃ f,fuel = f + 1:=⟨fuel - 1,by omega⟩
  have hl:(us ++ [q]).length ≠ 1:=by
   have:=List.length_pos_iff.mpr hne
   rw [List.length_append,List.length_singleton];omega
  rw [dH,gj,h1]
  show (if R.aI = "pop" /\ (us ++ [q]).length = 1 /\ first ≠ 0 then none else if bg (aT (us ++ [q]) R.aI R.goal) = first then some _ else dH ms row first f (aT (us ++ [q]) R.aI R.goal) _) ≠ none
  rw [if_neg (λz=>hl z.2.1),h2,lD,if_neg hne,if_pos ht]
  intro w;cases w
 | m + 1,q,fuel,us,ring,⟨g,R,h1,h2,h3,h4⟩,hne,ht,hf=>by
  obtain ⟨f,rfl⟩:∃ f,fuel = f + 1:=⟨fuel - 1,by omega⟩
  refine jy (by rw [gj];exact h1) (.inr h2) h3 (.inr ?_)
  rw [h2,h3,mq]
  exact vA m g f us _ h4 hne ht (by omega)
theorem jD:∀ (m q fuel:Nat) (ring:List Nat),sP ms row m q -> m + 1 <= fuel -> dH ms row 0 fuel [q] ring ≠ none
 | 0,q,fuel,ring,⟨R,h1,h2⟩,hf=>by
  obtain ⟨f,rfl⟩:∃ f,fuel = f + 1:=⟨fuel - 1,by omega⟩
  rw [dH,show bg [q] = q from rfl,h1]
  show (if R.aI = "pop" /\ [q].length = 1 /\ (0:Nat) ≠ 0 then none else if bg (aT [q] R.aI R.goal) = 0 then some _ else dH ms row 0 f (aT [q] R.aI R.goal) _) ≠ none
  rw [if_neg (λz=>z.2.2 rfl),h2,show aT [q] "pop" R.goal = [0] from lD [] q R.goal,if_pos (show bg [0] = 0 from rfl)]
  intro w;cases w
 | m + 1,q,fuel,ring,⟨g,R,h1,h2,h3,h4⟩,hf=>by
  obtain ⟨f,rfl⟩:∃ f,fuel = f + 1:=⟨fuel - 1,by omega⟩
  refine jy (on:=[q]) h1 (.inr h2) h3 (.inr ?_)
  have:aT [q] R.aI R.goal = [g]:=by rw [h2,h3];exact mq (us:=[])
  rw [this]
  exact jD m g f _ h4 (by omega)
theorem ends (G:cW ms) (hn:∀ j,j < ms.length -> bU ms j row = none):∀ (f:Nat) (vis:List Nat) (k:Nat),tR ms row (vis ++ [k]) -> (vis ++ [k]).Nodup -> (∀ x ∈ vis ++ [k],x < ms.length) -> ms.length <= vis.length + 1 + f -> f + 1 <= ms.length -> ∃ m,m <= f /\ (yv ms row m k ∨ sP ms row m k):=by
 intro f
 induction f with
 | zero =>
  intro vis k hp hd hlt hf hf2
  have hk:=hlt k (by simp)
  cases hR:bO ms k row with
  | none=>exact ⟨0,Nat.le_refl _,.inl hR⟩
  | some R =>
   refine ⟨0,Nat.le_refl _,.inr ⟨R,hR,?_⟩⟩
   obtain ⟨hdd,hgo⟩:R.aI ∈ mK /\ (dQ R.aI -> ∃ g,R.goal = some g /\ g < ms.length):=by
    obtain ⟨m,hm⟩:∃ m,ms[k]? = some m:=⟨ms[k],List.getElem?_eq_getElem hk⟩
    have hid:bO ms k row = e8 m.rules row:=by rw [bO,hm];rfl
    rw [hid] at hR
    exact ⟨G.aI m (List.mem_of_getElem? hm) R (iV hR),G.goal m (List.mem_of_getElem? hm) R (iV hR)⟩
   have hdd:R.aI = "stay" ∨ R.aI = "push" ∨ R.aI = "pop" ∨ R.aI = "into" := by simpa using hdd
   have nofw:¬ fwd R.aI:=λhfw=>by
    obtain ⟨g,hg,hgl⟩:=hgo hfw
    have hfg:sd ms row k g:=⟨R,hR,hfw,hg⟩
    by_cases hmem:g ∈ vis ++ [k]
    ·obtain ⟨A,B,hAB⟩:=List.append_of_mem hmem
     rw [hAB] at hp hd
     have hlast:=uD hAB
     have hB:(g :: B).length <= ms.length:=jR _ _ (List.nodup_append.mp hd).2.1 λx hx=>hlt x (by rw [hAB];exact List.mem_append_right _ hx)
     exact l7 B g k ms.length [g] [] (tR.suffix hp) hlast hfg rfl hB (hn g hgl)
    ·have:=jR ms.length (vis ++ [k] ++ [g]) (List.nodup_append.mpr ⟨hd,by simp,λx hx y hy e=>hmem (by rw [List.mem_singleton.mp hy] at e;rw [← e];exact hx)⟩) λx hx=>by
      rcases List.mem_append.mp hx with z | z
      ·exact hlt x z
      ·rw [List.mem_singleton.mp z];exact hgl
     rw [List.length_append,List.length_append,List.length_singleton,List.length_singleton] at this
     omega
   rcases hdd with z | z | z | z
   ·exfalso
    have:=hn k hk
    rw [bU] at this
    obtain ⟨n',hn'⟩:∃ n',ms.length = n' + 1:=⟨ms.length - 1,by omega⟩
    rw [hn',dH,show bg [k] = k from rfl,hR] at this
    have this:(if R.aI = "pop" /\ [k].length = 1 /\ k ≠ 0 then none else if bg (aT [k] R.aI R.goal) = k then some ([] ++ [k]) else dH ms row k n' (aT [k] R.aI R.goal) ([] ++ [k])) = none:=this
    rw [if_neg (λw=>by rw [z] at w;exact absurd w.1 (by decide)),z,mC,if_pos (show bg [k] = k from rfl)] at this
    cases this
   ·exact absurd (.inl z) nofw
   ·exact z
   ·exact absurd (.inr z) nofw
 | succ f ih =>
  intro vis k hp hd hlt hf hf2
  have hk:=hlt k (by simp)
  cases hR:bO ms k row with
  | none=>exact ⟨0,Nat.zero_le _,.inl hR⟩
  | some R =>
   obtain ⟨hdd,hgo⟩:R.aI ∈ mK /\ (dQ R.aI -> ∃ g,R.goal = some g /\ g < ms.length):=by
    obtain ⟨m,hm⟩:∃ m,ms[k]? = some m:=⟨ms[k],List.getElem?_eq_getElem hk⟩
    have hid:bO ms k row = e8 m.rules row:=by rw [bO,hm];rfl
    rw [hid] at hR
    exact ⟨G.aI m (List.mem_of_getElem? hm) R (iV hR),G.goal m (List.mem_of_getElem? hm) R (iV hR)⟩
   have hdd:R.aI = "stay" ∨ R.aI = "push" ∨ R.aI = "pop" ∨ R.aI = "into" := by simpa using hdd
   have go:fwd R.aI -> ∃ g m,R.goal = some g /\ m <= f /\ (yv ms row m g ∨ sP ms row m g):=λhfw=>by
    obtain ⟨g,hg,hgl⟩:=hgo hfw
    have hfg:sd ms row k g:=⟨R,hR,hfw,hg⟩
    by_cases hmem:g ∈ vis ++ [k]
    ·exfalso
     obtain ⟨A,B,hAB⟩:=List.append_of_mem hmem
     rw [hAB] at hp hd
     have hlast:=uD hAB
     have hB:(g :: B).length <= ms.length:=jR _ _ (List.nodup_append.mp hd).2.1 λx hx=>hlt x (by rw [hAB];exact List.mem_append_right _ hx)
     exact l7 B g k ms.length [g] [] (tR.suffix hp) hlast hfg rfl hB (hn g hgl)
    ·obtain ⟨m,h1,h2⟩:=ih (vis ++ [k]) g (tR.snoc hp hfg) (List.nodup_append.mpr ⟨hd,by simp,λx hx y hy e=>hmem (by rw [List.mem_singleton.mp hy] at e;rw [← e];exact hx)⟩) (λx hx=>by
      rcases List.mem_append.mp hx with z | z
      ·exact hlt x z
      ·rw [List.mem_singleton.mp z];exact hgl) (by rw [List.length_append,List.length_singleton];omega) (by omega)
     exact ⟨g,m,hg,h1,h2⟩
   rcases hdd with z | z | z | z
   ·exfalso
    have:=hn k hk
    rw [bU] at this
    obtain ⟨n',hn'⟩:∃ n',ms.length = n' + 1:=⟨ms.length - 1,by omega⟩
    rw [hn',dH,show bg [k] = k from rfl,hR] at this
    have this:(if R.aI = "pop" /\ [k].length = 1 /\ k ≠ 0 then none else if bg (aT [k] R.aI R.goal) = k then some ([] ++ [k]) else dH ms row k n' (aT [k] R.aI R.goal) ([] ++ [k])) = none:=this
    rw [if_neg (λw=>by rw [z] at w;exact absurd w.1 (by decide)),z,mC,if_pos (show bg [k] = k from rfl)] at this
    cases this
   ·obtain ⟨g,m,hg,hm,h | h⟩:=go (.inl z)
    ·exact ⟨m + 1,by omega,.inl ⟨g,⟨R,hR,.inl z,hg⟩,h⟩⟩
    ·exfalso
     obtain ⟨n',hn'⟩:∃ n',ms.length = n' + 1:=⟨ms.length - 1,by omega⟩
     have h0:=hn k hk
     rw [bU,hn'] at h0
     refine jy (on:=[k]) hR (.inl z) hg (.inr ?_) h0
     have:aT [k] R.aI R.goal = [k] ++ [g]:=by rw [z,hg,aT,if_pos rfl];rfl
     rw [this]
     exact vA m g n' [k] _ h (by simp) rfl (by omega)
   ·exact ⟨0,Nat.zero_le _,.inr ⟨R,hR,z⟩⟩
   ·obtain ⟨g,m,hg,hm,h | h⟩:=go (.inr z)
    ·exact ⟨m + 1,by omega,.inl ⟨g,⟨R,hR,.inr z,hg⟩,h⟩⟩
    ·exact ⟨m + 1,by omega,.inr ⟨g,R,hR,z,hg,h⟩⟩
def bN (ms:List aC) (row:Str):Nat -> List Nat -> Bool
 | 0,_=>false
 | f + 1,on=>match bO ms (bg on) row with
  | none=>true
  | some R=>bN ms row f (aT on R.aI R.goal)
theorem i6:∀ (f:Nat) (on:List Nat) (f':Nat),bN ms row f on = true -> f <= f' -> bN ms row f' on = true
 | 0,on,f',h,_=>by cases h
 | f + 1,on,f',h,hf=>by
  obtain ⟨f2,rfl⟩:∃ f2,f' = f2 + 1:=⟨f' - 1,by omega⟩
  rw [bN] at h ⊢
  cases e:bO ms (bg on) row with
  | none=>rfl
  | some R =>
   rw [e] at h
   exact i6 f _ f2 h (by omega)
theorem l6:∀ (m k:Nat) (on:List Nat),yv ms row m k -> bg on = k -> bN ms row (m + 1) on = true
 | 0,k,on,h,ht=>by
  have h:bO ms k row = none:=h
  rw [bN,ht,h]
 | m + 1,k,on,⟨g,⟨R,h1,h2,h3⟩,h4⟩,ht=>by
  rw [bN,ht,h1]
  exact l6 m g _ h4 (by rw [h3];exact ou h2)
theorem qJ:∀ (m k f:Nat) (us:List Nat),sP ms row m k -> bN ms row f (if us = [] then [0] else us) = true -> bN ms row (m + 1 + f) (us ++ [k]) = true
 | 0,k,f,us,⟨R,h1,h2⟩,h=>by
  rw [show 0 + 1 + f = f + 1 by omega,bN,gj,h1]
  show bN ms row f (aT (us ++ [k]) R.aI R.goal) = true
  rw [h2,lD];exact h
 | m + 1,k,f,us,⟨g,R,h1,h2,h3,h4⟩,h=>by
  rw [show m + 1 + 1 + f = (m + 1 + f) + 1 by omega,bN,gj,h1]
  show bN ms row (m + 1 + f) (aT (us ++ [k]) R.aI R.goal) = true
  rw [h2,h3,mq]
  exact qJ m g f us h4 h
theorem B0 (G:cW ms) (hn:∀ j,j < ms.length -> bU ms j row = none):∀ (l:Nat) (on:List Nat),on.length = l -> fV ms on -> bN ms row (ms.length * (l + 1)) on = true:=by
 have hpos:=G.pos
 have one:∀ k,k < ms.length -> ∃ m,m <= ms.length - 1 /\ (yv ms row m k ∨ sP ms row m k):=λk hk=>ends G hn (ms.length - 1) [] k trivial (by simp) (by simpa using hk) (by rw [List.length_nil];omega) (by omega)
 intro l
 induction l with
 | zero=>intro on h1 h2;exact absurd (List.length_eq_zero_iff.mp h1) h2.1
 | succ l ih =>
  intro on h1 h2
  obtain ⟨us,k,rfl⟩:∃ us k,on = us ++ [k]:=⟨on.dropLast,on.getLast h2.1,(List.dropLast_concat_getLast h2.1).symm⟩
  have hk:=h2.2 k (by simp)
  rw [List.length_append,List.length_singleton] at h1
  have e1:ms.length * (l + 1 + 1) = ms.length * (l + 1) + ms.length:=Nat.mul_succ _ _
  obtain ⟨m,hm,h | h⟩:=one k hk
  ·exact i6 (m + 1) _ _ (l6 m k _ h (gj us k)) (by rw [e1];omega)
  ·refine i6 (m + 1 + ms.length * (l + 1)) _ _ (qJ m k _ us h ?_) (by rw [e1];omega)
   by_cases z:us = []
   ·rw [if_pos z]
    obtain ⟨m0,hm0,h0 | h0⟩:=one 0 hpos
    ·refine i6 (m0 + 1) _ _ (l6 m0 0 _ h0 rfl) ?_
     have:ms.length * 1 <= ms.length * (l + 1):=Nat.mul_le_mul_left _ (by omega)
     omega
    ·exact absurd (hn 0 hpos) (jD m0 0 _ _ h0 (by omega))
   ·rw [if_neg z]
    exact ih us (by omega) ⟨z,λx hx=>h2.2 x (List.mem_append_left _ hx)⟩
end
theorem ir {on:List Nat} (h:on ≠ []):∃ r,on = r ++ [bg on]:=by
 rcases List.eq_nil_or_concat on with rfl | ⟨p,x,rfl⟩
 ·exact absurd rfl h
 ·exact ⟨p,by rw [List.concat_eq_append,gj]⟩
theorem rj {on:List Nat} {d:Str} {g:Nat} (h:d = "push"):aT on d (some g) = on ++ [g]:=by rw [aT,if_pos h];rfl
theorem mz {r:List Nat} {k:Nat} {d:Str} {g:Nat} (h:d = "into"):aT (r ++ [k]) d (some g) = r ++ [g]:=by
 rw [aT,h,if_neg (by decide),if_pos rfl,List.dropLast_concat];rfl
theorem Ao {k:Nat} {d:Str} {g:Option Nat} (h:d = "pop"):aT [k] d g = [0]:=by
 rw [aT,h,if_neg (by decide),if_neg (by decide),if_pos rfl]
 rfl
def qQ (ms:List aC) (row:Str) (c:Cfg):Prop:=∃ R,d8 (dY ms (bg c.on)) row c.az.length = some R /\ bJ R.sort = false
def Still (ms:List aC) (row:Str):Nat -> Cfg -> Cfg -> Prop
 | 0,c,d=>c = d
 | n + 1,c,d=>∃ R,d8 (dY ms (bg c.on)) row c.az.length = some R /\ bJ R.sort = false /\ Still ms row n (fu c R row) d
theorem Still.go {ms:List aC} {row:Str}:∀ {n m:Nat} {c d e:Cfg},Still ms row n c d -> goN ms row m d = some e -> goN ms row (n + m) c = some e
 | 0,m,c,d,e,h,g=>by rw [Nat.zero_add,show c = d from h];exact g
 | n + 1,m,c,d,e,⟨R,h1,_,h3⟩,g=>by
  rw [show n + 1 + m = (n + m) + 1 by omega]
  exact pN (by rw [ek,h1]) (h3.go g)
theorem yY {c:Cfg} {R:bw} {row:Str} (hs:R.sort ∈ sorts) (he:bJ R.sort = false):(fu c R row).az = c.az:=by
 show c.az ++ List.replicate (d7 R row c.az.length) R.bC = c.az
 rw [wu hs he]
 exact List.append_nil _
theorem Still.trans {ms:List aC} {row:Str}:∀ {n m:Nat} {c d e:Cfg},Still ms row n c d -> Still ms row m d e -> Still ms row (n + m) c e
 | 0,m,c,d,e,h,g=>by rw [Nat.zero_add,show c = d from h];exact g
 | n + 1,m,c,d,e,⟨R,h1,h2,h3⟩,g=>by
  rw [show n + 1 + m = (n + m) + 1 by omega]
  exact ⟨R,h1,h2,h3.trans g⟩
structure k7 (ms:List aC) (row:Str):Prop where
 g:cW ms
 three:ms.length <= 3
 sg:∀ m ∈ ms,∀ R ∈ m.rules,¬ bare R.sort -> 1 <= R.signs.length
 nr:∀ r ∈ di,∀ j,j < ms.length -> bU ms j r = none
 row:∀ c ∈ row.cps.toList,c ∈ je.cps.toList
theorem k7.short {ms:List aC} {row:Str} (G:k7 ms row) (i:Nat):b8 row i ∈ di:=by
 unfold b8
 cases e:row.cps.toList[i]? with
 | none=>exact List.mem_cons_self ..
 | some c=>exact List.mem_cons_of_mem _ (List.mem_map.mpr ⟨c,G.row c (List.mem_of_getElem? e),rfl⟩)
theorem k7.rule {ms:List aC} {row:Str} (G:k7 ms row) {k i:Nat} {R:bw} (hk:k < ms.length) (h:d8 (dY ms k) row i = some R):∃ m,ms[k]? = some m /\ R ∈ m.rules /\ R.sort ∈ sorts /\ dP R row i = true:=by
 have hm:ms[k]? = some ms[k]:=List.getElem?_eq_getElem hk
 rw [dY,hm] at h
 have h:d8 ms[k].rules row i = some R:=h
 unfold d8 at h
 cases e:firstM ms[k].rules row i with
 | none=>rw [e] at h;cases h
 | some n =>
  rw [e] at h
  obtain ⟨_,R',g1,g2,_⟩:=gF e
  rw [Nat.sub_zero] at g1
  have:R' = R:=Option.some.inj (g1.symm.trans h)
  subst this
  have hR:=List.mem_of_getElem? g1
  exact ⟨_,hm,hR,((G.g.ok _ (List.getElem_mem hk)).2 R' hR).1,g2⟩
theorem k7.idle {ms:List aC} {row:Str} (G:k7 ms row) {k i:Nat} {R:bw} (hk:k < ms.length) (hi:i <= row.length) (h:d8 (dY ms k) row i = some R) (he:bJ R.sort = false):bO ms k (b8 row i) = some R:=by
 have hm:ms[k]? = some ms[k]:=List.getElem?_eq_getElem hk
 rw [dY,hm] at h
 rw [bO,hm]
 exact A3 (λR hR=>((G.g.ok _ (List.getElem_mem hk)).2 R hR).1) hi h he
theorem k7.step {ms:List aC} {row:Str} (G:k7 ms row) {c:Cfg} (hok:fV ms c.on) (hi:c.az.length <= row.length) {us:List Nat} {k:Nat} (e:c.on = us ++ [k]) (h:qQ ms row c):∃ R,bO ms k (b8 row c.az.length) = some R /\ Still ms row 1 c (fu c R row) /\ (fu c R row).az = c.az /\ fV ms (fu c R row).on /\ (fu c R row).on = aT (us ++ [k]) R.aI R.goal:=by
 obtain ⟨R,h1,h2⟩:=h
 have hk:bg c.on < ms.length:=hok.2 _ (lQ hok.1)
 have ht:bg c.on = k:=by rw [e,gj]
 obtain ⟨m,hm,hR,hs,_⟩:=G.rule hk h1
 have h3:=G.idle hk hi h1 h2
 rw [ht] at h3
 exact ⟨R,h3,⟨R,h1,h2,rfl⟩,yY hs h2,hok.aI G.g (List.mem_of_getElem? hm) hR,by rw [← e];rfl⟩
theorem Mn {ms:List aC} {row:Str} (G:k7 ms row):∀ (m k:Nat) (us:List Nat) (c:Cfg),yv ms (b8 row c.az.length) m k -> c.on = us ++ [k] -> fV ms c.on -> c.az.length <= row.length ->
  ∃ n d,Still ms row n c d /\ ¬ qQ ms row d /\ d.az = c.az /\ fV ms d.on /\ n <= m /\ d.on.length <= c.on.length + m
 | m,k,us,c,h,e,hok,hi=>by
  by_cases hid:qQ ms row c
  ·obtain ⟨R,r1,r2,r3,r4,r5⟩:=G.step hok hi e hid
   cases m with
   | zero =>
    have h:bO ms k (b8 row c.az.length) = none:=h
    rw [h] at r1;cases r1
   | succ m =>
    obtain ⟨g,⟨R',h1,h2,h3⟩,h4⟩:=h
    rw [r1] at h1
    cases h1
    rw [← r3] at h4
    have hd:∃ vs,(fu c R row).on = vs ++ [g] /\ (fu c R row).on.length <= c.on.length + 1:=by
     rw [r5,h3,e]
     rcases h2 with z | z
     ·exact ⟨us ++ [k],by rw [rj z],by rw [rj z,List.length_append];exact Nat.le_refl _⟩
     ·exact ⟨us,by rw [mz z],by rw [mz z,List.length_append,List.length_append];exact Nat.le_add_right _ _⟩
    obtain ⟨vs,d1,d2⟩:=hd
    obtain ⟨n,d,a1,a2,a3,a4,a5,a6⟩:=Mn G m g vs (fu c R row) h4 d1 r4 (by rw [r3];exact hi)
    exact ⟨1 + n,d,r2.trans a1,a2,by rw [a3,r3],a4,by omega,by omega⟩
  ·exact ⟨0,c,rfl,hid,rfl,hok,Nat.zero_le _,Nat.le_add_right _ _⟩
theorem phP {ms:List aC} {row:Str} (G:k7 ms row):∀ (m k:Nat) (us:List Nat) (c:Cfg),sP ms (b8 row c.az.length) m k -> c.on = us ++ [k] -> fV ms c.on -> c.az.length <= row.length ->
  (∃ n d,Still ms row n c d /\ ¬ qQ ms row d /\ d.az = c.az /\ fV ms d.on /\ n <= m /\ d.on.length <= c.on.length) ∨ ∃ n d,Still ms row n c d /\ d.on = (if us = [] then [0] else us) /\ d.az = c.az /\ fV ms d.on /\ n <= m + 1
 | m,k,us,c,h,e,hok,hi=>by
  by_cases hid:qQ ms row c
  ·obtain ⟨R,r1,r2,r3,r4,r5⟩:=G.step hok hi e hid
   cases m with
   | zero =>
    obtain ⟨R',h1,h2⟩:=h
    rw [r1] at h1
    cases h1
    exact .inr ⟨1,_,r2,by rw [r5,h2,lD],r3,r4,Nat.le_refl _⟩
   | succ m =>
    obtain ⟨g,R',h1,h2,h3,h4⟩:=h
    rw [r1] at h1
    cases h1
    rw [← r3] at h4
    have d1:(fu c R row).on = us ++ [g]:=by rw [r5,h3,mz h2]
    have d2:(fu c R row).on.length = c.on.length:=by rw [d1,e,List.length_append,List.length_append];rfl
    rcases phP G m g us (fu c R row) h4 d1 r4 (by rw [r3];exact hi) with ⟨n,d,a1,a2,a3,a4,a5,a6⟩ | ⟨n,d,a1,a2,a3,a4,a5⟩
    ·exact .inl ⟨1 + n,d,r2.trans a1,a2,by rw [a3,r3],a4,by omega,by omega⟩
    ·exact .inr ⟨1 + n,d,r2.trans a1,a2,by rw [a3,r3],a4,by omega⟩
  ·exact .inl ⟨0,c,rfl,hid,rfl,hok,Nat.zero_le _,Nat.le_refl _⟩
theorem KY {ms:List aC} {row:Str} (G:k7 ms row):∀ (l:Nat) (c:Cfg),c.on.length = l -> fV ms c.on -> c.az.length <= row.length ->
  ∃ n d,Still ms row n c d /\ ¬ qQ ms row d /\ d.az = c.az /\ fV ms d.on /\ n + 3 * d.on.length <= 3 * c.on.length + 12:=by
 have h3:=G.three
 have hpos:=G.g.pos
 have one:∀ i k,k < ms.length -> ∃ m,m <= ms.length - 1 /\ (yv ms (b8 row i) m k ∨ sP ms (b8 row i) m k):=λi k hk=>ends G.g (G.nr _ (G.short i)) (ms.length - 1) [] k trivial (by simp) (by simpa using hk) (by rw [List.length_nil];omega) (by omega)
 intro l
 induction l with
 | zero=>intro c h1 h2;exact absurd (List.length_eq_zero_iff.mp h1) h2.1
 | succ l ih =>
  intro c hl hok hi
  obtain ⟨us,e⟩:=ir hok.1
  have hk:bg c.on < ms.length:=hok.2 _ (lQ hok.1)
  have el:c.on.length = us.length + 1:=by rw [e,List.length_append];rfl
  obtain ⟨m,hm,h | h⟩:=one c.az.length (bg c.on) hk
  ·obtain ⟨n,d,a1,a2,a3,a4,a5,a6⟩:=Mn G m _ us c h e hok hi
   exact ⟨n,d,a1,a2,a3,a4,by omega⟩
  ·rcases phP G m _ us c h e hok hi with ⟨n,d,a1,a2,a3,a4,a5,a6⟩ | ⟨n,d,a1,a2,a3,a4,a5⟩
   ·exact ⟨n,d,a1,a2,a3,a4,by omega⟩
   ·by_cases z:us = []
    ·rw [if_pos z] at a2
     obtain ⟨m0,hm0,h0 | h0⟩:=one d.az.length 0 hpos
     ·obtain ⟨n2,d2,b1,b2,b3,b4,b5,b6⟩:=Mn G m0 0 [] d h0 a2 a4 (by rw [a3];exact hi)
      rw [a2] at b6
      have b6:d2.on.length <= 1 + m0:=b6
      exact ⟨n + n2,d2,a1.trans b1,b2,by rw [b3,a3],b4,by omega⟩
     ·exact absurd (G.nr _ (G.short d.az.length) 0 hpos) (jD m0 0 _ _ h0 (by omega))
    ·rw [if_neg z] at a2
     obtain ⟨n2,d2,b1,b2,b3,b4,b5⟩:=ih d (by rw [a2];omega) a4 (by rw [a3];exact hi)
     rw [a2] at b5
     exact ⟨n + n2,d2,a1.trans b1,b2,by rw [b3,a3],b4,by omega⟩
theorem Lq {ms:List aC} {row:Str} (G:k7 ms row):∀ (D:Nat) (c:Cfg),row.length - c.az.length = D -> fV ms c.on -> c.az.length <= row.length ->
  ∃ n d,goN ms row n c = some d /\ d.az.length = row.length /\ fV ms d.on /\ n + 3 * d.on.length <= 3 * c.on.length + 16 * D + 12:=by
 intro D
 induction D using Nat.strongRecOn with
 | ind D ih =>
  intro c hD hok hi
  obtain ⟨n1,c1,a1,a2,a3,a4,a5⟩:=KY G _ c rfl hok hi
  have hi1:c1.az.length <= row.length:=by rw [a3];exact hi
  have hk:bg c1.on < ms.length:=a4.2 _ (lQ a4.1)
  cases hr:d8 (dY ms (bg c1.on)) row c1.az.length with
  | none =>
   by_cases hlt:c1.az.length < row.length
   ·have hst:ek ms row c1 = some ⟨c1.on,c1.az ++ [b7 ms (bg c1.on)],c1.marks⟩:=by
     rw [ek,hr]
     show (if c1.az.length < row.length then _ else _) = _
     rw [if_pos hlt]
    have hl2:(c1.az ++ [b7 ms (bg c1.on)]).length = c1.az.length + 1:=by simp
    obtain ⟨n2,d,b1,b2,b3,b4⟩:=ih (row.length - (c1.az.length + 1)) (by rw [a3] at hlt ⊢;omega) ⟨c1.on,c1.az ++ [b7 ms (bg c1.on)],c1.marks⟩ (by show row.length - (c1.az ++ [b7 ms (bg c1.on)]).length = _;rw [hl2]) a4 (by show (c1.az ++ [b7 ms (bg c1.on)]).length <= _;rw [hl2];omega)
    have b4:n2 + 3 * d.on.length <= 3 * c1.on.length + 16 * (row.length - (c1.az.length + 1)) + 12:=b4
    rw [a3] at hlt b4
    exact ⟨n1 + (n2 + 1),d,a1.go (pN hst b1),b2,b3,by omega⟩
   ·have hst:ek ms row c1 = none:=by
     rw [ek,hr]
     show (if c1.az.length < row.length then _ else _) = _
     rw [if_neg hlt]
    exact ⟨n1 + 0,c1,a1.go (sJ hst),by omega,a4,by omega⟩
  | some R =>
   obtain ⟨m,hm,hR,hs,hf⟩:=G.rule hk hr
   have hmm:=List.mem_of_getElem? hm
   have he:bJ R.sort = true:=by
    cases e:bJ R.sort with
    | true=>rfl
    | false=>exact absurd ⟨R,hr,e⟩ a2
   have hst:ek ms row c1 = some (fu c1 R row):=by rw [ek,hr]
   have e1:=zK (i:=c1.az.length) hs he (G.sg m hmm R hR) hf
   have e2:=yM (R:=R) (row:=row) (i:=c1.az.length) hs hi1
   have hl2:(fu c1 R row).az.length = c1.az.length + d7 R row c1.az.length:=by
    show (c1.az ++ List.replicate _ _).length = _
    rw [List.length_append,List.length_replicate]
   have hw:(fu c1 R row).on.length <= c1.on.length + 1:=ju
   obtain ⟨n2,d,b1,b2,b3,b4⟩:=ih (row.length - (fu c1 R row).az.length) (by rw [hl2];rw [a3] at e1 e2 ⊢;omega) (fu c1 R row) rfl (a4.aI G.g hmm hR) (by rw [hl2];exact e2)
   rw [hl2] at b4
   rw [a3] at e1 e2 b4
   exact ⟨n1 + (n2 + 1),d,a1.go (pN hst b1),b2,b3,by omega⟩
theorem rA {ms:List aC} (hG:∀ r:Str,(∀ c ∈ r.cps.toList,c ∈ je.cps.toList) -> k7 ms r):∀ (rs:List Str) (b:List Nat),fV ms b -> (∀ r ∈ rs,r.length <= 8 /\ ∀ c ∈ r.cps.toList,c ∈ je.cps.toList) -> 3 * b.length + 140 * rs.length <= 599 -> ∃ Gs,Chain ms b rs Gs /\ ∀ G ∈ Gs,∃ n,n <= 599 /\ goN ms G.row n ⟨G.before,[],[]⟩ = some G.d
 | [],_,_,_,_=>⟨[],trivial,λ_ h=>by cases h⟩
 | r :: rs,b,hb,h,hl=>by
  rw [List.length_cons] at hl
  obtain ⟨h1,h2⟩:=h r (by simp)
  obtain ⟨n,d,g1,g2,g3,g4⟩:=Lq (hG r h2) r.length ⟨b,[],[]⟩ (by simp) hb (by simp)
  have g4:n + 3 * d.on.length <= 3 * b.length + 16 * r.length + 12:=g4
  obtain ⟨Gs,k1,k2⟩:=rA hG rs d.on g3 (λx hx=>h x (List.mem_cons_of_mem _ hx)) (by omega)
  have hbl:b.length <= 200:=by omega
  have hdl:d.on.length <= 200:=by omega
  refine ⟨⟨r,b,d⟩ :: Gs,⟨rfl,rfl,⟨hb,by show b.length <= _;omega,by show r.length <= _;omega,⟨n,by omega,g1⟩,g3,by show d.on.length <= _;omega,g2⟩,k1⟩,λG hG=>?_⟩
  rcases List.mem_cons.mp hG with rfl | hG
  ·exact ⟨n,by omega,g1⟩
  ·exact k2 G hG
theorem xg {us on:List Nat} {d:Str} {g:Option Nat} (h:on ≠ []) (hp:¬ (d = "pop" /\ on.length = 1)):aT (us ++ on) d g = us ++ aT on d g:=by
 obtain ⟨r,e⟩:=ir h
 have hl:∀ y:List Nat,(us ++ on).length = 1 -> on.length = 1:=λ_ z=>by
  rw [List.length_append] at z
  have:=List.length_pos_iff.mpr h
  omega
 unfold aT
 by_cases h1:d = "push"
 ·rw [if_pos h1,if_pos h1,List.append_assoc]
 rw [if_neg h1,if_neg h1]
 by_cases h2:d = "into"
 ·rw [if_pos h2,if_pos h2,List.dropLast_append_of_ne_nil h,List.append_assoc]
 rw [if_neg h2,if_neg h2]
 by_cases h3:d = "pop"
 ·rw [if_pos h3,if_pos h3,if_neg (λz=>hp ⟨h3,hl [] z⟩),if_neg (λz=>hp ⟨h3,z⟩),List.dropLast_append_of_ne_nil h]
 ·rw [if_neg h3,if_neg h3]
theorem Di {us on:List Nat} (h:on ≠ []):bg (us ++ on) = bg on:=by
 obtain ⟨r,e⟩:=ir h
 rw [e,← List.append_assoc,gj,gj]
theorem vE {ms:List aC} {row:Str} {first:Nat}:∀ (fuel:Nat) (on ring r:List Nat),on ≠ [] -> dH ms row first fuel on ring = some r ->
  (∀ us f,(∀ f',f' < f -> ∀ us',bN ms row f' (us' ++ [first]) = false) -> bN ms row f (us ++ on) = false) ∨ (first = 0 /\ ∀ f,(∀ f',f' < f -> bN ms row f' [0] = false) -> bN ms row f on = false)
 | 0,_,_,_,_,h=>by cases h
 | fuel + 1,on,ring,r,hne,h=>by
  rw [dH] at h
  cases hR:bO ms (bg on) row with
  | none=>rw [hR] at h;cases h
  | some R =>
   rw [hR] at h
   have h:(if R.aI = "pop" /\ on.length = 1 /\ first ≠ 0 then none else if bg (aT on R.aI R.goal) = first then some (ring ++ [bg on]) else dH ms row first fuel (aT on R.aI R.goal) (ring ++ [bg on])) = some r:=h
   have st:∀ f,bN ms row (f + 1) on = bN ms row f (aT on R.aI R.goal):=λf=>by rw [bN,hR]
   have stu:∀ us f,bN ms row (f + 1) (us ++ on) = bN ms row f (aT (us ++ on) R.aI R.goal):=λus f=>by rw [bN,Di hne,hR]
   by_cases hp:R.aI = "pop" /\ on.length = 1
   ·by_cases h0:first = 0
    ·refine .inr ⟨h0,λf hf=>?_⟩
     cases f with
     | zero=>rfl
     | succ f =>
      obtain ⟨us,e⟩:=ir hne
      have hu:us = []:=by
       have:=hp.2
       rw [e,List.length_append] at this
       exact List.length_eq_zero_iff.mp (by simpa using this)
      rw [st,e,hu,List.nil_append,Ao hp.1]
      exact hf f (Nat.lt_succ_self f)
    ·rw [if_pos ⟨hp.1,hp.2,h0⟩] at h;cases h
   ·rw [if_neg (λz=>hp ⟨z.1,z.2.1⟩)] at h
    have hne2:aT on R.aI R.goal ≠ []:=zO hne
    by_cases ht:bg (aT on R.aI R.goal) = first
    ·refine .inl λus f hf=>?_
     cases f with
     | zero=>rfl
     | succ f =>
      obtain ⟨pre,e⟩:=ir hne2
      rw [stu,xg hne hp,e,ht,← List.append_assoc]
      exact hf f (Nat.lt_succ_self f) _
    ·rw [if_neg ht] at h
     rcases vE fuel _ _ r hne2 h with a | ⟨e,a⟩
     ·refine .inl λus f hf=>?_
      cases f with
      | zero=>rfl
      | succ f =>
       rw [stu,xg hne hp]
       exact a us f λf' lt=>hf f' (by omega)
     ·refine .inr ⟨e,λf hf=>?_⟩
      cases f with
      | zero=>rfl
      | succ f =>
       rw [st]
       exact a f λf' lt=>hf f' (by omega)
theorem yZ {ms:List aC} {row:Str} {first:Nat} {r:List Nat} (h:bU ms first row = some r):(∀ f us,bN ms row f (us ++ [first]) = false) ∨ (first = 0 /\ ∀ f,bN ms row f [0] = false):=by
 rcases vE _ _ _ _ (by simp) h with a | ⟨e,a⟩
 ·refine .inl λf=>?_
  induction f using Nat.strongRecOn with
  | ind f ih=>exact λus=>a us f λf' lt us'=>ih f' lt us'
 ·refine .inr ⟨e,λf=>?_⟩
  induction f using Nat.strongRecOn with
  | ind f ih =>
   have:=a f λf' lt=>ih f' lt
   rw [e] at this
   exact this
theorem mQ {row:Str} {i:Nat}:∀ (rs:List bw) (k:Nat),(fX row i k rs).bind (λn=>if k <= n then rs[n - k]? else none) = rs.find? (λR=>dP R row i)
 | [],k=>rfl
 | R :: r,k=>by
  rw [fX,List.find?_cons]
  cases hf:dP R row i with
  | true=>simp
  | false =>
   simp only [Bool.false_eq_true,if_false]
   rw [← mQ r (k + 1)]
   cases e:fX row i (k + 1) r with
   | none=>rfl
   | some n =>
    have hn:=(gF e).1
    show (if k <= n then (R :: r)[n - k]? else none) = (if k + 1 <= n then r[n - (k + 1)]? else none)
    rw [if_pos (by omega),if_pos hn,show n - k = (n - (k + 1)) + 1 by omega,List.getElem?_cons_succ]
theorem yx (rs:List bw) (row:Str) (i:Nat):d8 rs row i = rs.find? (λR=>dP R row i):=by
 rw [← mQ rs 0,d8,firstM]
 cases fX row i 0 rs with
 | none=>rfl
 | some n=>rfl
structure kG where
 sort:Str
 z:Str
 aI:Str
 g:Nat
 col:Str
 fold:Str
def r9 (x:kG):bw:=⟨x.sort,if bare x.sort then "" else x.z,x.col,x.aI,if dQ x.aI then some x.g else none,x.fold⟩
structure Ad (n:Nat) (x:kG):Prop where
 sort:x.sort ∈ sorts
 z1:1 <= x.z.length
 z2:x.z.length <= 2
 zs:∀ c ∈ x.z.cps.toList,c = 97 ∨ c = 98 ∨ c = 40
 aI:x.aI ∈ mK
 g:x.g < n
 col:if bJ x.sort = true then x.col = "red" ∨ x.col = "green" else x.col = ""
 fold:x.fold = "" ∨ x.fold = "open" ∨ x.fold = "close"
def L9 (H:Hp) (p:Addr) (x:kG):Prop:=H p = some (.tup [.str x.sort,.str x.z,.str x.aI,.int x.g,.str x.col,.str x.fold])
def iA (x:kG) (row:Str) (i:Nat):Int:=match cF x.sort x.z row i with
 | .int n=>n
 | _=>-1
theorem ow {x:kG} {row:Str} {i:Nat} (h:cF x.sort x.z row i = .cL):iA x row i = -1:=by unfold iA;rw [h]
theorem oO {x:kG} {row:Str} {i:Nat} {n:Int} (h:cF x.sort x.z row i = .int n):iA x row i = n:=by unfold iA;rw [h]
noncomputable def JY:Sp:=λvs H Q _=>∃ (tr:Addr) (n:Nat) (x:kG) (row:Str) (i:Nat),vs = [.ref tr,.str row,.int i] /\ L9 H tr x /\ Ad n x /\ row.length <= 100 /\ i <= row.length /\ ∀ H',ak H H' -> Q (.int (iA x row i)) H'
theorem rm (x:Str) (i n:Nat) (hi:i <= x.length):(PySem.Txt.slice x (some (i:Int)) (some ((i:Int) + (n:Int)))).cps.toList = (x.cps.toList.drop i).take n:=by
 by_cases h:i + n <= x.length
 ·have:=eq_of_beq (PyProof.Rows.slice_closesL (x:=x) (i:=(i:Int)) (j:=(i:Int) + (n:Int)) (by omega) (by omega) (by omega))
  rw [this]
  have e:((i:Int) + (n:Int) - (i:Int)).toNat = n:=by omega
  simp [e]
 ·have e:PySem.Txt.slice x (some (i:Int)) (some ((i:Int) + (n:Int))) = PySem.Txt.slice x (some (i:Int)) (some (x.length:Int)):=by
   have e2:PySem.Builtin.Str.strSliceIndices (some (i:Int)) (some ((i:Int) + (n:Int))) 1 x.length = PySem.Builtin.Str.strSliceIndices (some (i:Int)) (some (x.length:Int)) 1 x.length:=by
    have h0:¬ ((i:Int) + (n:Int) < 0):=by omega
    have h1:¬ ((x.length:Int) < 0):=by omega
    have h2:(1:Int) > 0:=by decide
    have h3:(x.length:Int) <= (i:Int) + (n:Int):=by omega
    simp only [PySem.Builtin.Str.strSliceIndices,h0,h1,h2,if_false,if_true,Int.min_eq_right h3,Int.min_self]
   unfold PySem.Txt.slice
   rw [e2]
  have:=eq_of_beq (PyProof.Rows.slice_closesL (x:=x) (i:=(i:Int)) (j:=(x.length:Int)) (by omega) (by omega) (by omega))
  rw [e,this]
  show (x.cps.toList.drop (i:Int).toNat).take ((x.length:Int) - (i:Int)).toNat = _
  rw [Int.toNat_natCast,List.take_of_length_le (by rw [List.length_drop,dB];omega),List.take_of_length_le (by rw [List.length_drop,dB];omega)]
theorem D8 (s a b:Str):FG (.str s) [.str a,.str b] = decide (s = a ∨ s = b):=by
 rw [show ([.str a,.str b]:List V) = ([a,b]:List Str).map V.str from rfl,jF]
 simp only [List.mem_cons,List.not_mem_nil,or_false]
theorem oX (T:Txt K mg t):bu P w K mg base dZ 1 t.nN t.uZ ["_law_rule","_law_row","_law_at"] JY:=by
 refine T.iZ.ok yE ?_ ?_
 walk_at "i"
 ·obtain ⟨tr,n,x,row,i,rfl,htr,O,hrow,hi,q⟩:=h
  have htr:H tr = some (.tup [.str x.sort,.str x.z,.str x.aI,.int x.g,.str x.col,.str x.fold]):=htr
  have hT0:=fL.of (K:=K) htr
  have hzl:=O.z2
  have qn:=λH' (s':ak H H') (e:cF x.sort x.z row i = .cL)=>(by have:=q H' s';rw [ow e] at this;exact this:Q (.int (-1)) H')
  have qi:=λH' (s':ak H H') (m:Int) (e:cF x.sort x.z row i = .int m)=>(by have:=q H' s';rw [oO e] at this;exact this:Q (.int m) H')
  refine @ay _ _ _ _ _ _ _ (bA (aA cO (aK bR (pv 0) ao (λ_ _=>rfl)) aN (aD _)) av av) ⟨_,rfl,_,_,_,_,rfl,rfl,hT0,aS (j:=0) rfl,rfl,_,rfl,eS (λh=>?_) (λh1=>bx ?_)⟩
  ·have h:=V.str.inj h
   refine @au _ _ _ _ _ _ (aH (bZ (aA cO (pv 2) (aO br (by rfl) T.bW (by decide +kernel) (aa (pv 1) ah)) (aD _)) ao (gT e9 ao))) ⟨_,rfl,_,rfl,_,rfl,bL (by omega),rfl,_,rfl,eS (λe=>?_) (λe=>?_)⟩
   ·exact qi H (ak.refl H) 0 (by rw [cF,if_pos h,if_pos (by have:=V.int.inj e;omega)])
   ·exact ⟨_,rfl,qn H (ak.refl H) (by rw [cF,if_pos h,if_neg (λz=>e (by rw [z]))])⟩
  have h1:x.sort ≠ "end" := λy=>h1 (by rw [y])
  refine @ay _ _ _ _ _ _ _ (bA (aA cO (aK bR (pv 0) ao (λ_ _=>rfl)) aN (aD _)) av av) ⟨_,rfl,_,_,_,_,rfl,rfl,hT0,aS (j:=0) rfl,rfl,_,rfl,eS (λh=>?_) (λh2=>bx ?_)⟩
  ·have h:=V.str.inj h
   refine @au _ _ _ _ _ _ (aH (bZ (aA cO (wX DI (pv 1) (sj (pv 2)) (sj (bz cT (pv 2) (aO br (by rfl) T.bW (by decide +kernel) (aa (aK bR (pv 0) ao (λ_ _=>rfl)) ah))))) (aK bR (pv 0) ao (λ_ _=>rfl)) (aD _)) (aO br (by rfl) T.bW (by decide +kernel) (aa (aK bR (pv 0) ao (λ_ _=>rfl)) ah)) (gT e9 ao))) ⟨_,rfl,_,rfl,_,rfl,_,rfl,_,rfl,_,_,_,_,rfl,rfl,hT0,aS (j:=1) rfl,_,rfl,bL (by omega),_,_,rfl,rfl,_,rfl,_,rfl,bL (by omega),_,rfl,_,_,_,_,rfl,rfl,hT0,aS (j:=1) rfl,rfl,_,rfl,eS (λe=>?_) (λe=>?_)⟩
   ·refine ⟨_,rfl,_,_,_,_,rfl,rfl,hT0,aS (j:=1) rfl,_,rfl,bL (by omega),qi H (ak.refl H) _ ?_⟩
    rw [cF,if_neg h1,if_pos h,← rm row i x.z.length hi,if_pos (by rw [V.str.inj e])]
   ·refine ⟨_,rfl,qn H (ak.refl H) ?_⟩
    rw [cF,if_neg h1,if_pos h,← rm row i x.z.length hi,if_neg (λz=>e (by rw [j7 z]))]
  have h2:x.sort ≠ "word" := λy=>h2 (by rw [y])
  refine @ay _ _ _ _ _ _ _ (bA (aA cO (pv 2) (aO br (by rfl) T.bW (by decide +kernel) (aa (pv 1) ah)) (aD _)) av av) ⟨_,rfl,_,rfl,_,rfl,bL (by omega),rfl,_,rfl,eS (λh=>?_) (λh3=>bx ?_)⟩
  ·have h:=V.int.inj h
   exact @au _ _ _ _ _ _ (aH (gT e9 ao)) ⟨_,rfl,qn H (ak.refl H) (gB h1 h2 (by omega))⟩
  have h3:i < row.length:=by
   have:¬ i = row.length:=λy=>h3 (by rw [y])
   omega
  obtain ⟨c,e1,e2⟩:=strAt (row:=row) (i:=(i:Int)) (by omega) (by omega)
  rw [Int.toNat_natCast] at e1
  have hd:=dJ (sg:=x.z) h1 h2 e1
  refine @ay _ _ _ _ _ _ _ (bA (aA fP (aK bR (pv 0) ao (λ_ _=>rfl)) (eE (aa aN (aa aN ah))) rfl) av av) ⟨_,rfl,_,_,_,_,rfl,rfl,hT0,aS (j:=0) rfl,by show 2 <= sizeLine;decide,λpt hpt=>⟨pt,_,rfl,.inr (fL.of af),rfl,rfl,_,rfl,?_⟩⟩
  have s1:ak H (upd H pt (.tup [.str "any",.str "still"])):=ak.upd hpt
  generalize upd H pt (.tup [.str "any",.str "still"]) = H1 at s1
  have hT1:=fL.of (K:=K) (s1 _ _ htr)
  refine qx (D8 _ _ _) (eS (λh=>?_) (λh4=>bx ?_))
  ·rw [if_pos h] at hd
   have q1:=qi H1 s1 _ hd
   refine @au _ _ _ _ _ _ (aH (cQ Bc (by rfl) T.Cs (by decide +kernel) (aa (eu cO (aK bR (pv 0) ao (λ_ _=>rfl)) aN (aD _)) ah))) ⟨_,rfl,_,_,_,_,rfl,rfl,hT1,aS (j:=0) rfl,rfl,.inr ⟨_,rfl,?_⟩⟩
   by_cases z:x.sort = "any"
   ·rw [if_pos z] at q1
    rw [decide_eq_true (show V.str x.sort = V.str "any" by rw [z])]
    exact q1
   ·rw [if_neg z] at q1
    rw [decide_eq_false (show ¬ V.str x.sort = V.str "any" from λy=>z (V.str.inj y))]
    exact q1
  rw [if_neg h4] at hd
  refine @ay _ _ _ _ _ _ _ (bA (aA cO (eu iS (aK kM (pv 1) (pv 2) (λ_ _=>rfl)) (aK bR (pv 0) ao (λ_ _=>rfl)) rfl) (eu cO (aK bR (pv 0) ao (λ_ _=>rfl)) aN (aD _)) (aD _)) av av) ⟨_,rfl,_,rfl,_,_,c,rfl,rfl,bL (by omega),e2,_,rfl,_,_,_,_,rfl,rfl,hT1,aS (j:=1) rfl,_,_,rfl,rfl,_,rfl,_,_,_,_,rfl,rfl,hT1,aS (j:=0) rfl,rfl,rfl,_,rfl,?_⟩
  rw [PySem.StrLaws.found_one]
  have fits:∀ {G:Prop},((V.bl (decide (c ∈ x.z.cps.toList)) = V.bl (decide (V.str x.sort = V.str "none"))) -> cF x.sort x.z row i = .cL -> G) -> (¬ (V.bl (decide (c ∈ x.z.cps.toList)) = V.bl (decide (V.str x.sort = V.str "none"))) -> (cF x.sort x.z row i = .int (if x.sort = "many" then gQ x.z.cps.toList (row.cps.toList.drop i) else 1)) -> G) -> G:=λ{G} a b=>by
   have hrs:=jw (sg:=x.z.cps.toList) e1
   by_cases hn:x.sort = "none"
   ·rw [if_pos hn] at hd
    rw [decide_eq_true (p:=V.str x.sort = V.str "none") (by rw [hn])] at a b
    by_cases hm:c ∈ x.z.cps.toList
    ·rw [if_pos hm] at hd
     rw [decide_eq_true hm] at a
     exact a rfl hd
    ·rw [if_neg hm] at hd
     rw [decide_eq_false hm] at b
     exact b (by intro z;cases z) (by rw [hd,if_neg (by rw [hn];decide)])
   ·rw [if_neg hn] at hd
    rw [decide_eq_false (p:=V.str x.sort = V.str "none") (λy=>hn (V.str.inj y))] at a b
    by_cases hm:c ∈ x.z.cps.toList
    ·rw [if_pos hm] at hd hrs
     rw [decide_eq_true hm] at b
     exact b (by intro z;cases z) (by rw [hd,hrs];by_cases y:x.sort = "many" <;> simp [y])
    ·rw [if_neg hm] at hd
     rw [decide_eq_false hm] at a
     exact a rfl hd
  refine fits (λhb he=>?_) (λhb he=>?_)
  ·exact qx (decide_eq_true hb) (@au _ _ _ _ _ _ (aH (gT e9 ao)) ⟨_,rfl,qn H1 s1 he⟩)
  refine qx (c:=false) (decide_eq_false hb) (bx ?_)
  refine @ay _ _ _ _ _ _ _ (aF (i:=3) yE.nd rfl (Or.inl rfl) ao) ?_
  show At _ _ _ [some (.ref tr),some (.str row),some (.int i),some (.int 1)] H1
  refine @aB _ _ _ _ _ _ _ (λZ' H'=>H' = H1 /\ Z' = [some (.ref tr),some (.str row),some (.int i),some (.int (if x.sort = "many" then gQ x.z.cps.toList (row.cps.toList.drop i) else 1:Nat))]) (ly PassesOwn.never (PW.pt (gw (aA cO (aK bR (pv 0) ao (λ_ _=>rfl)) aN (aD _)) (gw (aA iQ (bz cT (pv 2) (pv 3)) (aO br (by rfl) T.bW (by decide +kernel) (aa (pv 1) ah)) (aD _)) (gi (aA iS (aK kM (pv 1) (bz cT (pv 2) (pv 3)) (λ_ _=>rfl)) (aK bR (pv 0) ao (λ_ _=>rfl)) rfl))))) av) ?_ ?_
  ·have hc:x.sort = "many" -> gQ x.z.cps.toList (row.cps.toList.drop i) = 1 + gQ x.z.cps.toList (row.cps.toList.drop (i + 1)):=λy=>by
    have hrs:=jw (sg:=x.z.cps.toList) e1
    by_cases hm:c ∈ x.z.cps.toList
    ·rw [if_pos hm] at hrs;exact hrs
    ·exfalso
     rw [if_neg (by rw [y];decide),if_neg hm] at hd
     rw [hd] at he
     cases he
   refine ⟨λm Z' H'=>H' = H1 /\ ∃ j:Nat,Z' = [some (.ref tr),some (.str row),some (.int i),some (.int j)] /\ 1 <= j /\ i + j <= row.length /\ m = row.length - j /\ (x.sort = "many" -> gQ x.z.cps.toList (row.cps.toList.drop i) = j + gQ x.z.cps.toList (row.cps.toList.drop (i + j))) /\ (x.sort ≠ "many" -> j = 1),⟨_,rfl,1,rfl,Nat.le_refl _,by omega,rfl,hc,λ_=>rfl⟩,?_⟩
   rintro m Z' H' ⟨e,j,rfl,hj1,hj,rfl,hm,ho⟩
   rw [e]
   clear e H'
   refine ⟨_,rfl,_,_,_,_,rfl,rfl,hT1,aS (j:=0) rfl,rfl,_,rfl,eS (λh=>?_) (λh=>?_)⟩
   ·have h:=V.str.inj h
    have hm:=hm h
    refine ⟨_,rfl,_,rfl,_,_,rfl,rfl,_,rfl,_,rfl,bL (by omega),_,_,rfl,rfl,_,rfl,eS (λh5=>?_) (λh5=>?_)⟩
    ·obtain ⟨c2,g1,g2⟩:=strAt (row:=row) (i:=(i:Int) + (j:Int)) (by omega) (by omega)
     rw [show ((i:Int) + (j:Int)).toNat = i + j by omega] at g1
     refine ⟨_,rfl,_,rfl,_,rfl,_,_,rfl,rfl,_,_,c2,rfl,rfl,bL (by omega),g2,_,rfl,_,_,_,_,rfl,rfl,hT1,aS (j:=1) rfl,_,_,rfl,rfl,_,rfl,?_⟩
     rw [PySem.StrLaws.found_one]
     have hst:=jw (sg:=x.z.cps.toList) g1
     refine eS (λh6=>?_) (λh6=>?_)
     ·rw [if_pos h6] at hst
      exact ⟨_,λZ' H' z=>z,@au _ _ _ _ _ _ (aF (i:=3) yE.nd rfl (Or.inl rfl) (bz cT (pv 3) ao)) ⟨_,rfl,_,_,rfl,rfl,row.length - (j + 1),by omega,rfl,j + 1,by simp,by omega,by omega,rfl,λ_=>by rw [hm,hst,show i + (j + 1) = i + j + 1 by omega];omega,λy=>absurd h y⟩⟩
     ·rw [if_neg h6] at hst
      exact ⟨rfl,by rw [if_pos h,hm,hst,Nat.add_zero]⟩
    ·refine ⟨rfl,?_⟩
     have:row.cps.toList.drop (i + j) = []:=List.drop_of_length_le (by rw [dB];omega)
     rw [if_pos h,hm,this]
     rfl
   ·have h:x.sort ≠ "many" := λy=>h (by rw [y])
    exact ⟨rfl,by rw [if_neg h,ho h]⟩
  rintro Z' H' ⟨e,rfl⟩
  rw [e]
  refine @au _ _ _ _ _ _ (aH (pv 3)) ⟨_,rfl,?_⟩
  have:=qi H1 s1 _ he
  by_cases y:x.sort = "many"
  ·rw [if_pos y] at this ⊢;exact this
  ·rw [if_neg y] at this ⊢;exact this
theorem DC {on:List Nat} {d:Str} {g:Nat} (hne:on ≠ []) (h:d ∈ mK):aT on d (if dQ d then some g else none) = if (if d = "pop" ∨ d = "into" then on.dropLast else on) ++ (if d = "push" ∨ d = "into" then [g] else []) = [] then [0] else (if d = "pop" ∨ d = "into" then on.dropLast else on) ++ (if d = "push" ∨ d = "into" then [g] else []):=by
 have hdd:d = "stay" ∨ d = "push" ∨ d = "pop" ∨ d = "into" := by simpa using h
 have key:∀ os os1 os2:List Nat,(if d = "pop" ∨ d = "into" then on.dropLast else on) = os1 -> (if d = "push" ∨ d = "into" then [g] else []) = os2 -> os = os1 ++ os2 -> aT on d (if dQ d then some g else none) = (if os = [] then [0] else os) -> aT on d (if dQ d then some g else none) = if (if d = "pop" ∨ d = "into" then on.dropLast else on) ++ (if d = "push" ∨ d = "into" then [g] else []) = [] then [0] else (if d = "pop" ∨ d = "into" then on.dropLast else on) ++ (if d = "push" ∨ d = "into" then [g] else []):=λos os1 os2 a b c e=>by rw [a,b,← c];exact e
 rcases hdd with rfl | rfl | rfl | rfl
 ·refine key on on [] (if_neg (by decide)) (if_neg (by decide)) (List.append_nil _).symm ?_
  rw [mC,if_neg hne]
 ·refine key (on ++ [g]) on [g] (if_neg (by decide)) (if_pos (by decide)) rfl ?_
  rw [show (if dQ "push" then some g else none) = some g from if_pos (by decide),if_neg (show ¬ on ++ [g] = [] by simp)];rfl
 ·refine key on.dropLast on.dropLast [] (if_pos (by decide)) (if_neg (by decide)) (List.append_nil _).symm ?_
  rw [aT,if_neg (by decide),if_neg (by decide),if_pos rfl]
  by_cases y:on.length = 1
  ·rw [if_pos y,if_pos]
   exact List.length_eq_zero_iff.mp (by rw [List.length_dropLast];omega)
  ·rw [if_neg y,if_neg]
   intro w
   have:=congrArg List.length w
   have hp:=List.length_pos_iff.mpr hne
   rw [List.length_dropLast] at this
   simp at this
   omega
 ·refine key (on.dropLast ++ [g]) on.dropLast [g] (if_pos (by decide)) (if_pos (by decide)) rfl ?_
  rw [show (if dQ "into" then some g else none) = some g from if_pos (by decide),if_neg (show ¬ on.dropLast ++ [g] = [] by simp),aT,if_neg (by decide),if_pos rfl];rfl
noncomputable def B4:Sp:=λvs H Q _=>∃ (ls tr:Addr) (n:Nat) (x:kG) (on:List Nat),vs = [.ref ls,.ref tr] /\ H ls = some (.lst (on.map bD)) /\ on ≠ [] /\ on.length <= 30000 /\ L9 H tr x /\ Ad n x /\ ∀ l H',H' l = some (.lst ((aT on x.aI (r9 x).goal).map bD)) -> H l = none -> ak H H' -> Q (.ref l) H'
theorem CD (T:Txt K mg t):bu P w K mg base dZ 1 t.oj t.wU ["_law_stack","_law_rule"] B4:=by
 refine T.om.ok Dh ?_ ?_
 walk_at "i"
 ·obtain ⟨ls,tr,n,x,on,rfl,hls,hne,hlen,htr,O,q⟩:=h
  have htr:H tr = some (.tup [.str x.sort,.str x.z,.str x.aI,.int x.g,.str x.col,.str x.fold]):=htr
  have sz:=sizeLine_eq
  have hpos:0 < on.length:=List.length_pos_iff.mpr hne
  refine @aB _ _ _ _ _ _ _ (λZ' H'=>∃ lf,Z' = [some (.ref ls),some (.ref tr),some (.ref lf)] /\ H' lf = some (.lst (on.map bD)) /\ H lf = none /\ ak H H') (aF (i:=2) Dh.nd rfl (Or.inl rfl) (cQ cG (by rfl) T.gy (by decide +kernel) (aa (pv 0) ah))) ⟨_,rfl,ls,_,rfl,.inl (aP.of hls),λl hl=>⟨l,rfl,af,hl,ak.upd hl⟩⟩ ?_
  rintro Z' H1 ⟨lf,rfl,h1,f1,s1⟩
  have kp:∀ {H':Hp} {os:List V},ak H H' -> ak H (upd H' lf (.lst os)):=λs' b o hb=>by rw [ai (aj hb f1)];exact s' _ _ hb
  refine @aB _ _ _ _ _ _ _ (λZ' H'=>Z' = [some (.ref ls),some (.ref tr),some (.ref lf)] /\ H' lf = some (.lst ((if x.aI = "pop" ∨ x.aI = "into" then on.dropLast else on).map bD)) /\ ak H H') (bA (aA fP (aK bR (pv 1) ao (λ_ _=>rfl)) (eE (aa aN (aa aN ah))) rfl) av av) ?_ ?_
  ·refine ⟨_,rfl,_,_,_,_,rfl,rfl,fL.of (s1 _ _ htr),aS (j:=2) rfl,by show 2 <= sizeLine;decide,λpt hpt=>⟨pt,_,rfl,.inr (fL.of af),rfl,rfl,_,rfl,qx (D8 _ _ _) (eS (λh=>?_) (λh=>?_))⟩⟩
   ·obtain ⟨y,hy⟩:∃ y,(on.map bD)[(on.map bD).length - 1]? = some y:=⟨_,List.getElem?_eq_getElem (by rw [List.length_map];omega)⟩
    have h2:=ak.upd (o:=.tup [.str "pop",.str "into"]) hpt _ _ h1
    refine @au _ _ _ _ _ _ (bq (DB F.plainAttrs_list F.slot_list_pop F.type_list_pop BK (pv 2))) ⟨_,rfl,.inl ⟨rfl,_,aP.of h2⟩,lf,_,y,rfl,rfl,h2,hy,rfl,?_,kp (s1.to hpt)⟩
    rw [af,if_pos h,List.map_dropLast]
   ·exact bx ⟨rfl,by rw [if_neg h];exact ak.upd hpt _ _ h1,s1.to hpt⟩
  rintro Z' H2 ⟨rfl,h2,s2⟩
  refine @aB _ _ _ _ _ _ _ (λZ' H'=>Z' = [some (.ref ls),some (.ref tr),some (.ref lf)] /\ H' lf = some (.lst (((if x.aI = "pop" ∨ x.aI = "into" then on.dropLast else on) ++ (if x.aI = "push" ∨ x.aI = "into" then [x.g] else [])).map bD)) /\ ak H H') (bA (aA fP (aK bR (pv 1) ao (λ_ _=>rfl)) (eE (aa aN (aa aN ah))) rfl) av av) ?_ ?_
  ·refine ⟨_,rfl,_,_,_,_,rfl,rfl,fL.of (s2 _ _ htr),aS (j:=2) rfl,by show 2 <= sizeLine;decide,λpt hpt=>⟨pt,_,rfl,.inr (fL.of af),rfl,rfl,_,rfl,qx (D8 _ _ _) (eS (λh=>?_) (λh=>?_))⟩⟩
   ·have h3:=ak.upd (o:=.tup [.str "push",.str "into"]) hpt _ _ h2
    refine @au _ _ _ _ _ _ (bq (dc F.plainAttrs_list F.slot_list_append F.type_list_append bF (pv 2) (aa (aK bR (pv 1) ao (λ_ _=>rfl)) ah))) ⟨_,rfl,.inl ⟨rfl,_,aP.of h3⟩,_,rfl,_,_,_,_,rfl,rfl,fL.of ((s2.to hpt) _ _ htr),aS (j:=3) rfl,lf,_,_,rfl,rfl,h3,?_,rfl,?_,kp (s2.to hpt)⟩
    ·rw [List.length_map]
     split
     ·rw [List.length_dropLast];exact cE (by omega)
     ·exact cE (by omega)
    ·rw [af,if_pos h,List.map_append];rfl
   ·exact bx ⟨rfl,by rw [if_neg h,List.append_nil];exact ak.upd hpt _ _ h2,s2.to hpt⟩
  rintro Z' H3 ⟨rfl,h3,s3⟩
  obtain ⟨os,eos⟩:∃ os,os = (if x.aI = "pop" ∨ x.aI = "into" then on.dropLast else on) ++ (if x.aI = "push" ∨ x.aI = "into" then [x.g] else []):=⟨_,rfl⟩
  rw [← eos] at h3
  have hd:aT on x.aI (r9 x).goal = if os = [] then [0] else os:=by rw [eos];exact DC hne O.aI
  refine @aB _ _ _ _ _ _ _ (λZ' H'=>Z' = [some (.ref ls),some (.ref tr),some (.ref lf)] /\ H' lf = some (.lst ((if os = [] then [0] else os).map bD)) /\ ak H H') (bA (aA (gW (Nat.lt_of_succ_lt (gH hr))) (pv 2) (bf ah) (aD _)) av av) ?_ ?_
  ·refine ⟨_,rfl,by show 0 <= sizeLine;decide,λl0 g0=>⟨lf,l0,_,[],rfl,rfl,aP.of (ak.upd g0 _ _ h3),aP.of af,(λa _ b hb=>by cases hb),_,rfl,eS (λh=>?_) (λh=>?_)⟩⟩
   ·have hos:os = []:=List.map_eq_nil_iff.mp h
    have h4:=ak.upd (o:=.lst []) g0 _ _ h3
    refine @au _ _ _ _ _ _ (bq (dc F.plainAttrs_list F.slot_list_append F.type_list_append bF (pv 2) (aa ao ah))) ⟨_,rfl,.inl ⟨rfl,_,aP.of h4⟩,lf,_,_,rfl,rfl,h4,?_,rfl,?_,kp (s3.to g0)⟩
    ·rw [h];exact cE (by decide)
    ·rw [af,if_pos hos,h];rfl
   ·have hos:¬ os = []:=λz=>h (by rw [z];rfl)
    exact bx ⟨rfl,by rw [if_neg hos];exact ak.upd g0 _ _ h3,s3.to g0⟩
  rintro Z' H4 ⟨rfl,h4,s4⟩
  exact @au _ _ _ _ _ _ (aH (pv 2)) ⟨_,rfl,q lf H4 (by rw [hd];exact h4) f1 s4⟩
theorem Bg {names:List Str} {n c:Str}:(Str.ofString "mode " ++ n ++ Str.ofString " " ++ c:Str) = rowOf names (.mode n c):=by
 refine j7 ?_
 unfold rowOf
 rw [gK,fY,fY,fY]
 show _ = (Str.ofString "mode").cps.toList ++ 32 :: (n.cps.toList ++ 32 :: c.cps.toList)
 have e1:(Str.ofString "mode ").cps.toList = (Str.ofString "mode").cps.toList ++ [32]:=by decide +kernel
 have e2:(Str.ofString " ").cps.toList = [32]:=by decide +kernel
 rw [e1,e2]
 simp
def fc (m:aC):List Item:=.mode m.name m.bC :: m.rules.map .rule
def itemsOf (ms:List aC):List Item:=ms.flatMap fc
theorem gD (a b:List aC):itemsOf (a ++ b) = itemsOf a ++ itemsOf b:=by unfold itemsOf;rw [List.flatMap_append]
theorem gG (m:aC):itemsOf [m] = fc m:=by unfold itemsOf;simp
theorem wH (rs:List bw):namesOf (rs.map Item.rule) = []:=by
 induction rs with
 | nil=>rfl
 | cons r t ih=>show t8 (.rule r) ++ namesOf (t.map Item.rule) = [];rw [ih];rfl
theorem E8 (m:aC):namesOf (fc m) = [m.name]:=by
 show t8 (.mode m.name m.bC) ++ namesOf (m.rules.map Item.rule) = _
 rw [wH];rfl
theorem gI (ms:List aC):namesOf (itemsOf ms) = ms.map (·.name):=by
 induction ms with
 | nil=>rfl
 | cons m r ih =>
  rw [show m :: r = [m] ++ r from rfl,gD,jv,gG,E8,ih]
  rfl
theorem nC (rs:List bw):∀ (ms:List aC) (m:aC),(rs.map Item.rule).foldl stepI (ms ++ [m]) = ms ++ [{ m with rules:=m.rules ++ rs }]:=by
 induction rs with
 | nil=>intro ms m;simp
 | cons r t ih =>
  intro ms m
  rw [List.map_cons,List.foldl_cons,show stepI (ms ++ [m]) (Item.rule r) = iH r (ms ++ [m]) from rfl,ja,ih]
  simp
theorem BI (ms:List aC) (m:aC):(fc m).foldl stepI ms = ms ++ [m]:=by
 rw [fc,List.foldl_cons]
 show (m.rules.map Item.rule).foldl stepI (ms ++ [⟨m.name,m.bC,[]⟩]) = _
 rw [nC]
 simp
theorem kZ (ms:List aC):∀ acc:List aC,(itemsOf ms).foldl stepI acc = acc ++ ms:=by
 induction ms with
 | nil=>intro acc;simp [itemsOf]
 | cons m r ih =>
  intro acc
  rw [show m :: r = [m] ++ r from rfl,gD,List.foldl_append,gG,BI,ih]
  simp
theorem yN (ms:List aC):foldI (itemsOf ms) = ms:=by
 have:=kZ ms []
 simpa [foldI] using this
structure EB (ms:List aC):Prop where
 pos:0 < ms.length
 yg:ms.length <= 12
 nd:(ms.map (·.name)).Nodup
 nm:∀ m ∈ ms,isName m.name = true /\ isName m.bC = true
 six:∀ m ∈ ms,m.rules.length <= 12
 rule:∀ m ∈ ms,∀ R ∈ m.rules,gE (ms.map (·.name)) R
theorem rH {ms:List aC} (B:EB ms):∀ n,n <= ms.length -> ∀ (i:Nat) it,(itemsOf (ms.take n))[i]? = some it ->
  (∀ nm c,it = .mode nm c -> isName nm = true /\ isName c = true /\ (namesOf ((itemsOf (ms.take n)).take i)).length < 12 /\ nm ∉ namesOf ((itemsOf (ms.take n)).take i)) /\
  (∀ R,it = .rule R -> gE (ms.map (·.name)) R /\ ∃ ms' m,foldI ((itemsOf (ms.take n)).take i) = ms' ++ [m] /\ m.rules.length < 12)
 | 0,_,i,it,h=>by simp [itemsOf] at h
 | n + 1,hn,i,it,h=>by
  have hm:ms[n]? = some ms[n]:=List.getElem?_eq_getElem hn
  have e:itemsOf (ms.take (n + 1)) = itemsOf (ms.take n) ++ fc ms[n]:=by rw [take_snoc hm,gD,gG]
  rw [e] at h ⊢
  have hmm:=List.getElem_mem hn
  have r6:=B.six _ hmm
  have h4:=B.yg
  by_cases hi:i < (itemsOf (ms.take n)).length
  ·rw [List.getElem?_append_left hi] at h
   rw [List.take_append_of_le_length (by omega)]
   exact rH B n (by omega) i it h
  ·rw [List.getElem?_append_right (by omega)] at h
   rw [show (itemsOf (ms.take n) ++ fc ms[n]).take i = itemsOf (ms.take n) ++ (fc ms[n]).take (i - (itemsOf (ms.take n)).length) by
    rw [List.take_append,List.take_of_length_le (by omega)]]
   generalize i - (itemsOf (ms.take n)).length = j at h
   cases j with
   | zero =>
    have h:Item.mode ms[n].name ms[n].bC = it:=by simpa [fc] using h
    subst h
    refine ⟨λnm c e=>?_,(λR e=>by cases e)⟩
    cases e
    obtain ⟨n1,n2⟩:=B.nm _ hmm
    rw [List.take_zero,List.append_nil,gI]
    refine ⟨n1,n2,by rw [List.length_map,List.length_take];omega,λhmem=>?_⟩
    rw [List.map_take] at hmem
    have hnd:=B.nd
    obtain ⟨j,hj⟩:=List.mem_iff_getElem?.mp hmem
    have hjn:j < n:=by
     have:=(List.getElem?_eq_some_iff.mp hj).1
     rw [List.length_take] at this
     omega
    rw [List.getElem?_take_of_lt hjn] at hj
    have hk:(ms.map (·.name))[n]? = some ms[n].name:=by rw [List.getElem?_map,hm];rfl
    obtain ⟨j1,e1⟩:=List.getElem?_eq_some_iff.mp hj
    obtain ⟨k1,e2⟩:=List.getElem?_eq_some_iff.mp hk
    have:=(List.getElem_inj hnd).mp (e1.trans e2.symm)
    omega
   | succ j =>
    have h:(ms[n].rules.map Item.rule)[j]? = some it:=by simpa [fc] using h
    rw [List.getElem?_map] at h
    obtain ⟨R0,hR0,rfl⟩:=Option.map_eq_some_iff.mp h
    refine ⟨(λnm c e=>by cases e),λR e=>?_⟩
    cases e
    refine ⟨B.rule _ hmm _ (List.mem_of_getElem? hR0),ms.take n,⟨ms[n].name,ms[n].bC,ms[n].rules.take j⟩,?_,?_⟩
    ·unfold foldI
     rw [List.foldl_append,kZ,List.nil_append]
     have:=BI (ms.take n) ⟨ms[n].name,ms[n].bC,ms[n].rules.take j⟩
     rw [← this]
     congr 1
     rw [fc,fc,List.take_succ_cons,List.map_take]
    ·show (ms[n].rules.take j).length < 12
     have hj0:=(List.getElem?_eq_some_iff.mp hR0).1
     rw [List.length_take]
     omega
theorem EB.items {ms:List aC} (B:EB ms):fM (itemsOf ms):=by
 have h:=rH B ms.length (Nat.le_refl _)
 rw [List.take_length] at h
 refine ⟨?_,λi n c e=>(h i _ e).1 n c rfl,λi R e=>?_⟩
 ·intro z
  have:=gI ms
  rw [z] at this
  have hl:=congrArg List.length this
  rw [List.length_map] at hl
  have:=B.pos
  simp [namesOf] at hl
  omega
 ·rw [gI]
  exact (h i _ e).2 R rfl
theorem EB.len {ms:List aC} (B:EB ms):∀ n,n <= ms.length -> (itemsOf (ms.take n)).length <= n * 13
 | 0,_=>by simp [itemsOf]
 | n + 1,hn=>by
  have hm:ms[n]? = some ms[n]:=List.getElem?_eq_getElem hn
  have ih:=B.len n (by omega)
  have h6:=B.six _ (List.getElem_mem hn)
  rw [take_snoc hm,gD,gG,List.length_append,fc,List.length_cons,List.length_map]
  omega
theorem EB.Ju {ms:List aC} (B:EB ms):(itemsOf ms).length <= 200:=by
 have:=B.len ms.length (Nat.le_refl _)
 rw [List.take_length] at this
 have:=B.yg
 omega
theorem EB.good {ms:List aC} (B:EB ms):cW ms:=by
 have h12:=B.yg
 refine ⟨B.pos,by omega,λm hm=>⟨by have:=B.six m hm;omega,λR hR=>?_⟩,λm hm R hR=>(B.rule m hm R hR).aI,λm hm R hR hg=>?_⟩
 ·have g:=(B.rule m hm R hR).pat
  refine ⟨g.sort,?_⟩
  by_cases hb:bare R.sort
  ·rw [g.ML hb];decide +kernel
  ·exact (g.sg hb).2.1
 ·obtain ⟨g,e,h⟩:=(B.rule m hm R hR).goal hg
  exact ⟨g,e,by rw [List.length_map] at h;exact h⟩
structure MD where
 col:Str
 rs:List kG
def cY (names:List Str) (C:List MD):List aC:=List.zipWith (λn m=>⟨n,m.col,m.rs.map r9⟩) names C
theorem HK {names:List Str} {C:List MD} {i:Nat} {n:Str} {m:MD} (h1:names[i]? = some n) (h2:C[i]? = some m):(cY names C)[i]? = some ⟨n,m.col,m.rs.map r9⟩:=by
 unfold cY
 rw [List.getElem?_zipWith,h1,h2]
theorem jc {names:List Str} {C:List MD} (h:names.length = C.length):(cY names C).length = C.length:=by
 unfold cY
 rw [List.length_zipWith,h,Nat.min_self]
theorem jX:∀ {names:List Str} {C:List MD},names.length = C.length -> (cY names C).map (·.name) = names
 | [],[],_=>rfl
 | n :: ns,p :: pm,h=>by
  show n :: (cY ns pm).map (·.name) = _
  rw [jX (by simpa using h)]
 | [],_ :: _,h=>by simp at h
 | _ :: _,[],h=>by simp at h
abbrev names3:List Str:=["a","ab","x"]
structure j8 (names:List Str) (C:List MD):Prop where
 len:names.length = C.length
 pos:0 < C.length
 three:C.length <= 3
 nm:∃ n,names = names3.take n
 yj:∀ m ∈ C,m.rs.length <= 5
 col:∀ m ∈ C,m.col = "blue" ∨ m.col = "grey"
 ok:∀ m ∈ C,∀ x ∈ m.rs,Ad C.length x
theorem j8.names {names:List Str} {C:List MD} (L:j8 names C):names.Nodup /\ ∀ n ∈ names,isName n = true:=by
 obtain ⟨n,e⟩:=L.nm
 have hn:(names3.take n) = names3.take (min n 3):=by
  rcases Nat.le_total n 3 with h | h
  ·rw [Nat.min_eq_left h]
  ·rw [Nat.min_eq_right h,List.take_of_length_le (by show 3 <= n;exact h)];rfl
 have h4:min n 3 <= 3:=Nat.min_le_right _ _
 rw [e,hn]
 generalize min n 3 = m at h4
 have:m = 0 ∨ m = 1 ∨ m = 2 ∨ m = 3:=by omega
 rcases this with rfl | rfl | rfl | rfl <;> exact ⟨by decide +kernel,by decide +kernel⟩
theorem Ad.rule {names:List Str} {n:Nat} {x:kG} (h:Ad n x) (hn:names.length = n):gE names (r9 x):=by
 have hc:=h.col
 refine ⟨⟨h.sort,λhb=>if_pos hb,λhb=>?_⟩,λhe=>?_,λhe=>?_,h.aI,λhg=>?_,λhg=>?_,h.fold⟩
 ·have hb:¬ bare x.sort:=hb
  rw [show (r9 x).signs = x.z from if_neg hb]
  exact ⟨h.z1,by have:=h.z2;omega,λz=>by have:=h.zs 95 z;omega,λz=>by have:=h.zs 10 z;omega⟩
 ·have he:bJ x.sort = true:=he
  show isName x.col = true
  rw [if_pos he] at hc
  rcases hc with z | z <;> rw [z] <;> decide +kernel
 ·show x.col = ""
  rw [if_neg (by rw [show bJ x.sort = false from he];exact Bool.false_ne_true)] at hc
  exact hc
 ·exact ⟨x.g,if_pos hg,by rw [hn];exact h.g⟩
 ·exact if_neg hg
theorem j8.look {names:List Str} {C:List MD} (L:j8 names C) {k:Nat} {m:aC} (hm:(cY names C)[k]? = some m):∃ n c,names[k]? = some n /\ C[k]? = some c /\ m = ⟨n,c.col,c.rs.map r9⟩:=by
 have hk:=(List.getElem?_eq_some_iff.mp hm).1
 rw [jc L.len] at hk
 have h1:names[k]? = some (names[k]'(by rw [L.len];exact hk)):=List.getElem?_eq_getElem _
 have h2:C[k]? = some C[k]:=List.getElem?_eq_getElem hk
 rw [HK h1 h2] at hm
 exact ⟨_,_,h1,h2,(Option.some.inj hm).symm⟩
theorem j8.fit {names:List Str} {C:List MD} (L:j8 names C):EB (cY names C):=by
 have hl:=jc L.len
 have hn:=jX L.len
 have h4:=L.three
 have hnm:=L.names
 refine ⟨by rw [hl];exact L.pos,by rw [hl];omega,by rw [hn];exact hnm.1,λm hm=>?_,λm hm=>?_,λm hm R hR=>?_⟩
 ·obtain ⟨k,hk⟩:=List.mem_iff_getElem?.mp hm
  obtain ⟨n,c,h1,h2,rfl⟩:=L.look hk
  refine ⟨hnm.2 n (List.mem_of_getElem? h1),?_⟩
  show isName c.col = true
  rcases L.col c (List.mem_of_getElem? h2) with z | z <;> rw [z] <;> decide +kernel
 ·obtain ⟨k,hk⟩:=List.mem_iff_getElem?.mp hm
  obtain ⟨n,c,h1,h2,rfl⟩:=L.look hk
  show (c.rs.map r9).length <= 12
  rw [List.length_map]
  have:=L.yj c (List.mem_of_getElem? h2)
  omega
 ·obtain ⟨k,hk⟩:=List.mem_iff_getElem?.mp hm
  obtain ⟨n,c,h1,h2,rfl⟩:=L.look hk
  have hR:R ∈ c.rs.map r9:=hR
  obtain ⟨x,hx,rfl⟩:=List.mem_map.mp hR
  rw [hn]
  exact (L.ok c (List.mem_of_getElem? h2) x hx).rule L.len
def M9 (H:Hp) (tm:Addr) (m:MD):Prop:=∃ lr ps,H tm = some (.tup [.str m.col,.ref lr]) /\ H lr = some (.lst (ps.map V.ref)) /\ bB (L9 H) ps m.rs
def GL (H:Hp) (lm:Addr) (C:List MD):Prop:=∃ ts:List Addr,H lm = some (.lst (ts.map V.ref)) /\ bB (M9 H) ts C
theorem M9.same {H H':Hp} {l:Addr} {m:MD} (h:M9 H l m) (s:ak H H'):M9 H' l m:=let ⟨lr,ps,a,b,c⟩:=h;⟨lr,ps,s _ _ a,s _ _ b,c.mono λ_ _ z=>s _ _ z⟩
theorem GL.same {H H':Hp} {l:Addr} {C:List MD} (h:GL H l C) (s:ak H H'):GL H' l C:=let ⟨ps,a,b⟩:=h;⟨ps,s _ _ a,b.mono λ_ _ z=>z.same s⟩
theorem DR {s a b row:Str} {i:Nat} (h:bare s):cF s a row i = cF s b row i:=by
 unfold cF
 by_cases h1:s = "end"
 ·rw [if_pos h1,if_pos h1]
 have h2:s ≠ "word" := λz=>by rw [z] at h;exact absurd h (by decide)
 have h3:s = "any" ∨ s = "still" := by
  rcases h with z | z | z
  ·exact .inl z
  ·exact .inr z
  ·exact absurd z h1
 rw [if_neg h1,if_neg h2,if_neg h1,if_neg h2]
 cases row.cps.toList[i]? with
 | none=>rfl
 | some c =>
  show (if s = "any" ∨ s = "still" then V.int (if s = "any" then 1 else 0) else _) = (if s = "any" ∨ s = "still" then V.int (if s = "any" then 1 else 0) else _)
  rw [if_pos h3,if_pos h3]
theorem Lm (x:kG) (row:Str) (i:Nat):cF (r9 x).sort (r9 x).signs row i = cF x.sort x.z row i:=by
 show cF x.sort (if bare x.sort then "" else x.z) row i = _
 by_cases h:bare x.sort
 ·rw [if_pos h];exact DR h
 ·rw [if_neg h]
theorem qV (s z row:Str) (i:Nat):cF s z row i = .cL ∨ ∃ n:Nat,cF s z row i = .int n:=by
 unfold cF
 by_cases h1:s = "end"
 ·rw [if_pos h1]
  by_cases h:i = row.length
  ·rw [if_pos h];exact .inr ⟨0,rfl⟩
  ·rw [if_neg h];exact .inl rfl
 rw [if_neg h1]
 by_cases h2:s = "word"
 ·rw [if_pos h2]
  by_cases h:(row.cps.toList.drop i).take z.length = z.cps.toList
  ·rw [if_pos h];exact .inr ⟨_,rfl⟩
  ·rw [if_neg h];exact .inl rfl
 rw [if_neg h2]
 cases row.cps.toList[i]? with
 | none=>exact .inl rfl
 | some c =>
  show (if s = "any" ∨ s = "still" then V.int (if s = "any" then 1 else 0) else if s = "none" then (if c ∈ z.cps.toList then .cL else .int 1) else if c ∈ z.cps.toList then .int (if s = "many" then 1 + gQ z.cps.toList (row.cps.toList.drop (i + 1)) else 1) else .cL) = .cL ∨ ∃ n:Nat,(if s = "any" ∨ s = "still" then V.int (if s = "any" then 1 else 0) else if s = "none" then (if c ∈ z.cps.toList then .cL else .int 1) else if c ∈ z.cps.toList then .int (if s = "many" then 1 + gQ z.cps.toList (row.cps.toList.drop (i + 1)) else 1) else .cL) = .int n
  by_cases h3:s = "any" ∨ s = "still"
  ·rw [if_pos h3]
   by_cases h:s = "any"
   ·rw [if_pos h];exact .inr ⟨1,rfl⟩
   ·rw [if_neg h];exact .inr ⟨0,rfl⟩
  rw [if_neg h3]
  by_cases h4:s = "none"
  ·rw [if_pos h4]
   by_cases h:c ∈ z.cps.toList
   ·rw [if_pos h];exact .inl rfl
   ·rw [if_neg h];exact .inr ⟨1,rfl⟩
  rw [if_neg h4]
  by_cases h:c ∈ z.cps.toList
  ·rw [if_pos h]
   by_cases h5:s = "many"
   ·rw [if_pos h5];exact .inr ⟨_,rfl⟩
   ·rw [if_neg h5];exact .inr ⟨1,rfl⟩
  ·rw [if_neg h];exact .inl rfl
theorem KD (x:kG) (row:Str) (i:Nat):dP (r9 x) row i = decide (0 <= iA x row i):=by
 unfold dP
 rw [Lm]
 rcases qV x.sort x.z row i with e | ⟨n,e⟩
 ·rw [ow e,e];rfl
 ·rw [oO e,e,decide_eq_true (show (0:Int) <= (n:Int) by omega)]
  exact decide_eq_true (by intro z;cases z)
theorem zI {x:kG} {row:Str} {i:Nat} (h:0 <= iA x row i):iA x row i = (d7 (r9 x) row i:Nat):=by
 unfold d7
 rw [Lm]
 rcases qV x.sort x.z row i with e | ⟨n,e⟩
 ·rw [ow e] at h;omega
 ·rw [oO e,e];rfl
def g7 (row:Str) (i:Nat) (x:kG):Bool:=decide (0 <= iA x row i)
theorem FU (row:Str) (i:Nat):∀ (rs:List kG),d8 (rs.map r9) row i = ((rs.filter (g7 row i)).head?).map r9:=by
 intro rs
 rw [yx,List.head?_filter,List.find?_map]
 congr 1
 congr 1
 funext x
 exact KD x row i
theorem head_mem {α:Type} {l:List α} {x:α} (h:l.head? = some x):x ∈ l:=List.mem_of_head? h
theorem K0 {n:Nat} {x:kG} {row:Str} {i:Nat} (O:Ad n x) (h:0 <= iA x row i):(0 < iA x row i) ↔ bJ (r9 x).sort = true:=by
 have e:=zI h
 have hs:(r9 x).sort ∈ sorts:=O.sort
 constructor
 ·intro z
  cases he:bJ (r9 x).sort with
  | true=>rfl
  | false=>rw [e,wu hs he] at z;omega
 ·intro he
  have:=zK (R:=r9 x) (row:=row) (i:=i) hs he (λhb=>by
   rw [show (r9 x).signs = x.z from if_neg hb];exact O.z1) (by rw [KD];exact decide_eq_true h)
  rw [e];omega
theorem Cz {rs:List kG} {n:Nat} {row:Str} (O:∀ x ∈ rs,Ad n x):e8 (rs.map r9) row = match (rs.filter (g7 row 0)).head? with
  | some x=>if 0 < iA x row 0 then none else some (r9 x)
  | none=>none:=by
 unfold e8
 rw [FU]
 cases e:(rs.filter (g7 row 0)).head? with
 | none=>rfl
 | some x =>
  obtain ⟨hx,hf⟩:=List.mem_filter.mp (head_mem e)
  have hk:=K0 (O x hx) (of_decide_eq_true hf)
  show (if bJ (r9 x).sort = true then none else some (r9 x)) = if 0 < iA x row 0 then none else some (r9 x)
  by_cases z:0 < iA x row 0
  ·rw [if_pos z,if_pos (hk.mp z)]
  ·rw [if_neg z,if_neg (λy=>z (hk.mpr y))]
theorem bB.EJ {H:Hp} {x:kG} {tr:Addr} {fs:List Addr} {ys:List kG} {p:kG -> Bool} (h:bB (L9 H) fs (ys.filter p)) (hx:L9 H tr x):bB (L9 H) (if p x = true then fs ++ [tr] else fs) ((ys ++ [x]).filter p):=by
 rw [List.filter_append,List.filter_cons]
 by_cases z:p x = true
 ·rw [if_pos z,if_pos z];exact bB.snoc h hx
 ·rw [if_neg z,if_neg z];simpa using h
def nJ (b:Nat):List Nat:=if b = 0 then [b] else [0,0,0,b]
noncomputable def BL:Sp:=λvs H Q _=>∃ (lm:Addr) (names:List Str) (C:List MD) (b:Nat) (row:Str),vs = [.ref lm,.int b,.str row] /\ GL H lm C /\ j8 names C /\ b < C.length /\ row.length <= 1 /\ ∀ H',ak H H' -> Q (.bl (!bN (cY names C) row 40 (nJ b))) H'
theorem IT (T:Txt K mg t):bu P w K mg base dZ 2 t.qk t.uN ["_law_modes","_law_begin","_law_row"] BL:=by
 refine T.uB.ok oq ?_ ?_
 walk_at "i"
 ·obtain ⟨lm,names,C,b,row,rfl,hM,L,hb,hrow,q⟩:=h
  have G:=L.fit.good
  have hml:=jc L.len
  have hok0:fV (cY names C) (nJ b):=by
   have hp:=L.pos
   unfold nJ
   by_cases z:b = 0
   ·rw [if_pos z];exact ⟨by simp,λx hx=>by rw [List.mem_singleton.mp hx,hml];exact hb⟩
   ·rw [if_neg z]
    refine ⟨by simp,λx hx=>?_⟩
    rw [hml]
    simp only [List.mem_cons,List.not_mem_nil,or_false] at hx
    rcases hx with rfl | rfl | rfl | rfl
    ·exact hp
    ·exact hp
    ·exact hp
    ·exact hb
  refine @aB _ _ _ _ _ _ _ (λZ' H'=>∃ ls,Z' = [some (.ref lm),some (.int b),some (.str row),some (.ref ls),none,none] /\ H' ls = some (.lst ((nJ b).map bD)) /\ ak H H') (aF (i:=3) oq.nd rfl (Or.inl rfl) (bZ (aA cO (pv 1) ao (aD _)) (bf (aa (pv 1) ah)) (bf (aa ao (aa ao (aa ao (aa (pv 1) ah))))))) ?_ ?_
  ·refine ⟨_,rfl,rfl,_,rfl,eS (λh=>?_) (λh=>?_)⟩
   ·have h:b = 0:=by have:=V.int.inj h;omega
    exact ⟨_,rfl,by show 1 <= sizeLine;decide,λl hl=>⟨l,rfl,by rw [af,nJ,if_pos h];rfl,ak.upd hl⟩⟩
   ·have h:¬ b = 0:=λz=>h (by rw [z];rfl)
    exact ⟨_,rfl,by show 4 <= sizeLine;decide,λl hl=>⟨l,rfl,by rw [af,nJ,if_neg h];rfl,ak.upd hl⟩⟩
  rintro Z' H1 ⟨EA,rfl,h1,s1⟩
  refine @aB _ _ _ _ _ _ _ (λZ' H'=>bN (cY names C) row 40 (nJ b) = false /\ ak H H') (dU PassesOwn.never rfl (eV rfl T.gb (aa ao ah)) (b9 (i:=4) oq.nd rfl (Or.inl rfl)) av) ?_ ?_
  ·refine ⟨40,rfl,by decide,by decide,fJ (n:=40) (λk Z' H'=>k <= 40 /\ ∃ (on:List Nat) (ls:Addr) (x4 x5:Option V),Z' = [some (.ref lm),some (.int b),some (.str row),some (.ref ls),x4,x5] /\ H' ls = some (.lst (on.map bD)) /\ fV (cY names C) on /\ on.length <= 4 + k /\ bN (cY names C) row 40 (nJ b) = bN (cY names C) row (40 - k) on /\ ak H H') ⟨by decide,nJ b,EA,_,_,rfl,h1,hok0,by unfold nJ;split <;> simp,rfl,s1⟩ ?_ ?_⟩
   ·rintro k Z' H2 hk ⟨_,on,ls,x4,x5,rfl,h2,hok,hlen,hcalm,s2⟩
    have hk:k < 40:=hk
    obtain ⟨ts,hts,hA⟩:=hM
    obtain ⟨md,hmd⟩:=hok.mode
    obtain ⟨nm,c,c1,c2,rfl⟩:=L.look hmd
    obtain ⟨tm,htm,lr,ps,t1,t2,t3⟩:=hA.at c2
    have hOk:∀ x ∈ c.rs,Ad C.length x:=L.ok c (List.mem_of_getElem? c2)
    have h5:=L.yj c (List.mem_of_getElem? c2)
    have hid:bO (cY names C) (bg on) row = e8 (c.rs.map r9) row:=by rw [bO,hmd];rfl
    rw [Cz hOk] at hid
    show At _ _ _ [some (.ref lm),some (.int b),some (.str row),some (.ref ls),some (.int (0 + (k:Int))),x5] H2
    refine @aB _ _ _ _ _ _ _ (λZ' H'=>∃ lf fs,Z' = [some (.ref lm),some (.int b),some (.str row),some (.ref ls),some (.int (0 + (k:Int))),some (.ref lf)] /\ H' lf = some (.lst (fs.map V.ref)) /\ bB (L9 H') fs (c.rs.filter (g7 row 0)) /\ ak H2 H') (@qU _ 5 _ (aq zP) _ ["_law_modes","_law_begin","_law_row","_law_stack","_law_k","_law_fits"] _ _ _ ("_law_rule") _ _ _ _ [("_law_row",2)] _ _ _ oq.nd rfl (Or.inl rfl) (by walk_at "ck") (@cH _ _ _ _ (@aK _ _ _ _ _ _ _ bR (@aK _ _ _ _ _ _ _ aQ (pv 0) (@aK _ _ _ _ _ _ _ aQ (pv 3) (@gT _ _ _ _ _ _ e9 ao) (λ_ _=>rfl)) (λ_ _=>rfl)) ao (λ_ _=>rfl))) (λ_ _ _ _=>by exact (@aA _ _ _ _ _ _ _ _ Cr (@aM _ _ _ _ _ _ _ _ _ _ _ _ _ _ _ _ (oX T) (hr.mono (by decide)) rfl T.pG T.iZ.kp (T.iZ.binds (by walk_at "3")) .nil aG (@aa _ _ _ _ _ (pv 1) (@aa _ _ _ _ _ (pv 0) (@aa _ _ _ _ _ ao ah (by left)) (by left)) (by left)) (by left) (by left) (by left)) ao (aD _))) (λ_ _ _ _=>by exact (pv 1)) (by left) (by left) (by left) (by left) (by left) (by left)) ?_ ?_
    ·refine ⟨_,rfl,_,rfl,_,rfl,_,_,_,_,rfl,rfl,aP.of h2,dX (fB hok.1),_,_,_,_,rfl,rfl,aP.of (s2 _ _ hts),dW htm,_,_,_,_,rfl,rfl,fL.of (s2 _ _ t1),aS (j:=1) rfl,lr,rfl,⟨_,aP.of (s2 _ _ t2)⟩,iD (xs:=ps.map V.ref) (λi ys H'=>∃ fs:List Addr,ys = fs.map V.ref /\ bB (L9 H') fs ((c.rs.take i).filter (g7 row 0)) /\ ak H2 H') ⟨[],rfl,bB.nil,ak.refl _⟩ (cE (by rw [List.length_map,t3.1];omega)) ?_ ?_ ?_⟩
     ·rintro i ys H' _ ⟨_,_,_,s'⟩
      exact aP.of (s' _ _ (s2 _ _ t2))
     ·rintro i v ys H3 hv hyl ⟨fs,rfl,hF,s3⟩
      rw [List.getElem?_map] at hv
      obtain ⟨tr,htr,rfl⟩:=Option.map_eq_some_iff.mp hv
      have hil:=(List.getElem?_eq_some_iff.mp htr).1
      obtain ⟨x,hx⟩:∃ x,c.rs[i]? = some x:=⟨c.rs[i]'(by rw [← t3.1];exact hil),List.getElem?_eq_getElem _⟩
      have hL9:L9 H tr x:=t3.2 i tr x htr hx
      have hL3:L9 H3 tr x:=s3 _ _ (s2 _ _ hL9)
      have htake:=take_snoc hx
      have hxl:i < (ps.map V.ref).length:=by rw [List.length_map];exact hil
      refine ⟨_,rfl,_,rfl,tr,C.length,x,row,0,rfl,hL3,hOk x (List.mem_of_getElem? hx),by omega,Nat.zero_le _,λH4 s4=>⟨_,_,rfl,rfl,_,rfl,eS (λh=>?_) (λh=>?_)⟩⟩
      ·have hp:g7 row 0 x = true:=decide_eq_true h
       have:=bB.EJ (p:=g7 row 0) (hF.mono λ_ _ z=>s4 _ _ z) (s4 _ _ hL3)
       rw [if_pos hp,← htake] at this
       exact ⟨_,rfl,cM hxl (by rw [List.length_append];simpa using hyl) ⟨fs ++ [tr],by rw [List.map_append];rfl,this,s3.trans s4⟩⟩
      ·have hp:¬ g7 row 0 x = true:=λz=>h (of_decide_eq_true z)
       have:=bB.EJ (p:=g7 row 0) (hF.mono λ_ _ z=>s4 _ _ z) (s4 _ _ hL3)
       rw [if_neg hp,← htake] at this
       exact cM hxl (by omega) ⟨fs,rfl,this,s3.trans s4⟩
     ·rintro ys H3 hyl ⟨fs,rfl,hF,s3⟩ D hD
      rw [List.length_map,t3.1,List.take_length] at hF
      exact ⟨D,fs,rfl,af,hF.mono λ_ _ z=>ak.upd hD _ _ z,s3.to hD⟩
    rintro Z' H3 ⟨lf,fs,rfl,h3,hF,s3⟩
    have stp:∀ f,bN (cY names C) row (f + 1) on = match bO (cY names C) (bg on) row with | none=>true | some R=>bN (cY names C) row f (aT on R.aI R.goal):=λf=>by rw [bN] <;> rfl
    obtain ⟨f,hf⟩:∃ f,40 - k = f + 1:=⟨40 - k - 1,by omega⟩
    cases hh:(c.rs.filter (g7 row 0)).head? with
    | none =>
     have hnil:c.rs.filter (g7 row 0) = []:=List.head?_eq_none_iff.mp hh
     have hfs:fs = []:=by
      have:=hF.1
      rw [hnil] at this
      exact List.length_eq_zero_iff.mp this
     rw [hh] at hid
     rw [hf,stp,hid] at hcalm
     refine @ay _ _ _ _ _ _ _ (bA (PW.pt (jM (aA (gW (Nat.lt_of_succ_lt (gH hr))) (pv 5) (bf ah) (aD _)) (iN (aA mG (aM (oX T) (hr.mono (by decide)) rfl T.pG T.iZ.kp (T.iZ.binds (by walk_at "3")) .nil aG (aa (aK aQ (pv 5) ao (λ_ _=>rfl)) (aa (pv 2) (aa ao ah)))) ao (aD _))))) av av) ⟨_,rfl,by show 0 <= sizeLine;decide,λl0 g0=>⟨lf,l0,_,[],rfl,rfl,aP.of (ak.upd g0 _ _ h3),aP.of af,(λa _ b hb=>by cases hb),_,rfl,eS (λ_=>?_) (λh=>absurd (by rw [hfs];rfl) h)⟩⟩
     have:=q _ ((s2.trans s3).to (o:=.lst []) g0)
     rw [hcalm] at this
     exact @au _ _ _ _ _ _ (aH jq) this
    | some x =>
     obtain ⟨hx,hfx⟩:=List.mem_filter.mp (head_mem hh)
     have hO:=hOk x hx
     have hne:fs ≠ []:=λz=>by
      have:=hF.1
      rw [z] at this
      rw [List.length_eq_zero_iff.mp this.symm] at hh
      cases hh
     obtain ⟨tr,htr⟩:∃ tr,fs[0]? = some tr:=⟨fs[0]'(List.length_pos_iff.mpr hne),List.getElem?_eq_getElem _⟩
     have hL3:L9 H3 tr x:=hF.2 0 tr x htr (by rw [← List.head?_eq_getElem?];exact hh)
     rw [hh] at hid
     have hid:bO (cY names C) (bg on) row = if 0 < iA x row 0 then none else some (r9 x):=hid
     refine @aB _ _ _ _ _ _ _ (λZ' H'=>¬ 0 < iA x row 0 /\ Z' = [some (.ref lm),some (.int b),some (.str row),some (.ref ls),some (.int (0 + (k:Int))),some (.ref lf)] /\ ak H3 H') (bA (PW.pt (jM (aA (gW (Nat.lt_of_succ_lt (gH hr))) (pv 5) (bf ah) (aD _)) (iN (aA mG (aM (oX T) (hr.mono (by decide)) rfl T.pG T.iZ.kp (T.iZ.binds (by walk_at "3")) .nil aG (aa (aK aQ (pv 5) ao (λ_ _=>rfl)) (aa (pv 2) (aa ao ah)))) ao (aD _))))) av av) ?_ ?_
     ·refine ⟨_,rfl,by show 0 <= sizeLine;decide,λl0 g0=>⟨lf,l0,_,[],rfl,rfl,aP.of (ak.upd g0 _ _ h3),aP.of af,(λa _ b hb=>by cases hb),_,rfl,eS (λh=>absurd (List.map_eq_nil_iff.mp h) hne) (λ_=>?_)⟩⟩
      have sg:ak H3 (upd H3 l0 (.lst [])):=ak.upd g0
      refine ⟨_,rfl,_,_,_,_,rfl,rfl,aP.of (sg _ _ h3),dW (k:=0) htr,_,rfl,tr,C.length,x,row,0,rfl,sg _ _ hL3,hO,by omega,Nat.zero_le _,λH4 s4=>⟨_,_,rfl,rfl,_,rfl,eS (λh=>?_) (λh=>bx ⟨h,rfl,sg.trans s4⟩)⟩⟩
      rw [if_pos h] at hid
      rw [hf,stp,hid] at hcalm
      have:=q _ (((s2.trans s3).trans sg).trans s4)
      rw [hcalm] at this
      exact @au _ _ _ _ _ _ (aH jq) this
     rintro Z' H4 ⟨hn,rfl,s4⟩
     rw [if_neg hn] at hid
     rw [hf,stp,hid] at hcalm
     have hRm:r9 x ∈ c.rs.map r9:=List.mem_map_of_mem hx
     have hdl:=ju (on:=on) (d:=x.aI) (g:=(r9 x).goal)
     refine @au _ _ _ _ _ _ (aF (i:=3) oq.nd rfl (Or.inl rfl) (aM (CD T) (hr.mono (by decide)) rfl T.Dr T.om.kp (T.om.binds (by walk_at "2")) .nil aG (aa (pv 3) (aa (aK aQ (pv 5) ao (λ_ _=>rfl)) ah)))) ⟨_,rfl,_,rfl,_,_,_,_,rfl,rfl,aP.of (s4 _ _ h3),dW (k:=0) htr,ls,tr,C.length,x,on,rfl,(s3.trans s4) _ _ h2,hok.1,by omega,s4 _ _ hL3,hO,λl H5 h5 f5 s5=>⟨by omega,aT on x.aI (r9 x).goal,l,_,_,rfl,h5,hok.aI G (List.mem_of_getElem? hmd) hRm,by omega,?_,((s2.trans s3).trans s4).trans s5⟩⟩
     rw [hcalm,show 40 - (k + 1) = f by omega]
     rfl
   ·rintro Z' H' ⟨_,on,ls,x4,x5,_,_,_,_,hcalm,s'⟩
    exact ⟨hcalm,s'⟩
  rintro Z' H2 ⟨hc,s2⟩
  have:=q H2 s2
  rw [hc] at this
  exact @au _ _ _ _ _ _ (aH jq) this
noncomputable def Fb:Sp:=λvs H Q _=>∃ (lm lb:Addr) (names:List Str) (C:List MD) (b:List Nat) (row:Str) (n:Nat) (d:Cfg),vs = [.ref lm,.ref lb,.str row] /\ GL H lm C /\ j8 names C /\ H lb = some (.lst (b.map bD)) /\ fV (cY names C) b /\ row.length <= 100 /\ b.length <= 20000 /\ n <= 599 /\ goN (cY names C) row n ⟨b,[],[]⟩ = some d /\
 ∀ tp lt lk lo H',H' tp = some (.tup [.ref lb,.ref lt,.ref lk,.ref lo]) -> H' lt = some (.lst (d.az.map V.str)) -> GM H' lk d.marks -> H' lo = some (.lst (d.on.map bD)) -> H lt = none -> H lk = none -> H lo = none -> ak H H' -> Q (.ref tp) H'
structure L3 (H H':Hp) (ms:List aC) (row:Str) (ls lt lk:Addr) (c d:Cfg) (B j n:Nat):Prop where
 s:H' ls = some (.lst (c.on.map bD))
 t:H' lt = some (.lst (c.az.map V.str))
 k:GM H' lk c.marks
 ft:H lt = none
 fs:H ls = none
 LQ:ls ≠ lt
 Mf:ls ≠ lk
 Ge:lt ≠ lk
 ok:fV ms c.on
 tl:c.az.length <= row.length
 ol:c.on.length <= B + j
 ml:c.marks.length <= j
 kn:j <= n
 go:goN ms row (n - j) c = some d
 same:ak H H'
theorem L3.to {H H' H'':Hp} {ms:List aC} {row:Str} {ls lt lk:Addr} {c d:Cfg} {B k n:Nat} (h:L3 H H' ms row ls lt lk c d B k n) (z:ak H' H''):L3 H H'' ms row ls lt lk c d B k n:=⟨z _ _ h.s,z _ _ h.t,h.k.same z,h.ft,h.fs,h.LQ,h.Mf,h.Ge,h.ok,h.tl,h.ol,h.ml,h.kn,h.go,h.same.trans z⟩
theorem HB (T:Txt K mg t):bu P w K mg base dZ 2 t.oU t.uU ["_law_modes","_law_begin","_law_row"] Fb:=by
 refine T.v5.ok gM ?_ ?_
 walk_at "i"
 ·obtain ⟨lm,lb,names,C,b,row,n,d,rfl,hM,L,hlb,hok0,hrow,hbl,hn,hgo,q⟩:=h
  have G:=L.fit.good
  refine @aB _ _ _ _ _ _ _ (λZ' H'=>∃ ls,Z' = [some (.ref lm),some (.ref lb),some (.str row),some (.ref ls),none,none,none,none,none,none] /\ H' ls = some (.lst (b.map bD)) /\ H ls = none /\ ak H H') (aF (i:=3) gM.nd rfl (Or.inl rfl) (cQ cG (by rfl) T.gy (by decide +kernel) (aa (pv 1) ah))) ⟨_,rfl,lb,_,rfl,.inl (aP.of hlb),λl hl=>⟨l,rfl,af,hl,ak.upd hl⟩⟩ ?_
  rintro Z' H1 ⟨EA,rfl,h1,fls0,s1⟩
  refine @aB _ _ _ _ _ _ _ (λZ' H'=>∃ lt,Z' = [some (.ref lm),some (.ref lb),some (.str row),some (.ref EA),some (.ref lt),none,none,none,none,none] /\ H' lt = some (.lst []) /\ H1 lt = none /\ ak H1 H') (aF (i:=4) gM.nd rfl (Or.inl rfl) (bf ah)) ⟨by show 0 <= sizeLine;decide,λl hl=>⟨l,rfl,af,hl,ak.upd hl⟩⟩ ?_
  rintro Z' H2 ⟨lt0,rfl,h2,f2,s2⟩
  refine @aB _ _ _ _ _ _ _ (λZ' H'=>∃ lk,Z' = [some (.ref lm),some (.ref lb),some (.str row),some (.ref EA),some (.ref lt0),some (.ref lk),none,none,none,none] /\ H' lk = some (.lst []) /\ H2 lk = none /\ ak H2 H') (aF (i:=5) gM.nd rfl (Or.inl rfl) (bf ah)) ⟨by show 0 <= sizeLine;decide,λl hl=>⟨l,rfl,af,hl,ak.upd hl⟩⟩ ?_
  rintro Z' H3 ⟨lk,rfl,h3,f3,s3⟩
  have flk:H lk = none:=(s1.trans s2).free f3
  refine @ay _ _ _ _ _ _ _ (aF (i:=6) gM.nd rfl (Or.inr rfl) ao) ?_
  show At _ _ _ [some (.ref lm),some (.ref lb),some (.str row),some (.ref EA),some (.ref lt0),some (.ref lk),some (.int 0),none,none,none] H3
  refine @aB _ _ _ _ _ _ _ (λ_ _=>False) (dU PassesOwn.never rfl (eV rfl T.gb (aa ao ah)) (b9 (i:=7) gM.nd rfl (Or.inl rfl)) av) ?_ (λ_ _ h=>h.elim)
  refine ⟨600,rfl,by decide,by decide,fJ (n:=600) (λk Z' H'=>∃ (c:Cfg) (ls lt:Addr) (x7 x8 x9:Option V),Z' = [some (.ref lm),some (.ref lb),some (.str row),some (.ref ls),some (.ref lt),some (.ref lk),some (.int c.az.length),x7,x8,x9] /\ L3 H H' (cY names C) row ls lt lk c d b.length k n) ⟨⟨b,[],[]⟩,EA,lt0,_,_,_,rfl,(s2.trans s3) _ _ h1,s3 _ _ h2,⟨[],h3,bB.nil⟩,s1.free f2,fls0,aj h1 f2,aj (s2 _ _ h1) f3,aj h2 f3,hok0,Nat.zero_le _,Nat.le_refl _,Nat.le_refl _,Nat.zero_le _,hgo,(s1.trans s2).trans s3⟩ ?_ ?_⟩
  ·rintro k Z' H4 hk ⟨c,ls,lt,x7,x8,x9,rfl,S⟩
   obtain ⟨ts,hts,hA⟩:=hM
   obtain ⟨md,hmd⟩:=S.ok.mode
   obtain ⟨nm,cm,c1,c2,rfl⟩:=L.look hmd
   obtain ⟨tm,htm,lr,ps,t1,t2,t3⟩:=hA.at c2
   have hOk:∀ x ∈ cm.rs,Ad C.length x:=L.ok cm (List.mem_of_getElem? c2)
   have h5:=L.yj cm (List.mem_of_getElem? c2)
   have hmm:=List.mem_of_getElem? hmd
   have hru:d8 (dY (cY names C) (bg c.on)) row c.az.length = ((cm.rs.filter (g7 row c.az.length)).head?).map r9:=by
    rw [← FU,dY,hmd]
   have htl:=S.tl
   have hkn:=S.kn
   have hol:=S.ol
   have hml:=S.ml
   show At _ _ _ [some (.ref lm),some (.ref lb),some (.str row),some (.ref ls),some (.ref lt),some (.ref lk),some (.int c.az.length),some (.int (0 + (k:Int))),x8,x9] H4
   refine @aB _ _ _ _ _ _ _ (λZ' H'=>∃ lf fs,Z' = [some (.ref lm),some (.ref lb),some (.str row),some (.ref ls),some (.ref lt),some (.ref lk),some (.int c.az.length),some (.int (0 + (k:Int))),some (.ref lf),x9] /\ H' lf = some (.lst (fs.map V.ref)) /\ bB (L9 H') fs (cm.rs.filter (g7 row c.az.length)) /\ H4 lf = none /\ ak H4 H') (@qU _ 8 _ (aq zp) _ ["_law_modes","_law_begin","_law_row","_law_stack","_law_shades","_law_met","_law_at","_law_k","_law_fits","_law_many"] _ _ _ ("_law_rule") _ _ _ _ [("_law_row",2),("_law_at",6)] _ _ _ gM.nd rfl (Or.inl rfl) (by walk_at "ck") (@cH _ _ _ _ (@aK _ _ _ _ _ _ _ bR (@aK _ _ _ _ _ _ _ aQ (pv 0) (@aK _ _ _ _ _ _ _ aQ (pv 3) (@gT _ _ _ _ _ _ e9 ao) (λ_ _=>rfl)) (λ_ _=>rfl)) ao (λ_ _=>rfl))) (λ_ _ _ _=>by exact (@aA _ _ _ _ _ _ _ _ Cr (@aM _ _ _ _ _ _ _ _ _ _ _ _ _ _ _ _ (oX T) (hr.mono (by decide)) rfl T.pG T.iZ.kp (T.iZ.binds (by walk_at "3")) .nil aG (@aa _ _ _ _ _ (pv 2) (@aa _ _ _ _ _ (pv 0) (@aa _ _ _ _ _ (pv 1) ah (by left)) (by left)) (by left)) (by left) (by left) (by left)) ao (aD _))) (λ_ _ _ _=>by exact (pv 2)) (by left) (by left) (by left) (by left) (by left) (by left)) ?_ ?_
   ·refine ⟨_,rfl,_,rfl,_,rfl,_,_,_,_,rfl,rfl,aP.of S.s,dX (fB S.ok.1),_,_,_,_,rfl,rfl,aP.of (S.same _ _ hts),dW htm,_,_,_,_,rfl,rfl,fL.of (S.same _ _ t1),aS (j:=1) rfl,lr,rfl,⟨_,aP.of (S.same _ _ t2)⟩,iD (xs:=ps.map V.ref) (λi ys H'=>∃ fs:List Addr,ys = fs.map V.ref /\ bB (L9 H') fs ((cm.rs.take i).filter (g7 row c.az.length)) /\ ak H4 H') ⟨[],rfl,bB.nil,ak.refl _⟩ (cE (by rw [List.length_map,t3.1];omega)) ?_ ?_ ?_⟩
    ·rintro i ys H' _ ⟨_,_,_,s'⟩
     exact aP.of (s' _ _ (S.same _ _ t2))
    ·rintro i v ys H5 hv hyl ⟨fs,rfl,hF,s5⟩
     rw [List.getElem?_map] at hv
     obtain ⟨tr,htr,rfl⟩:=Option.map_eq_some_iff.mp hv
     have hil:=(List.getElem?_eq_some_iff.mp htr).1
     obtain ⟨x,hx⟩:∃ x,cm.rs[i]? = some x:=⟨cm.rs[i]'(by rw [← t3.1];exact hil),List.getElem?_eq_getElem _⟩
     have hL9:L9 H tr x:=t3.2 i tr x htr hx
     have hL5:L9 H5 tr x:=s5 _ _ (S.same _ _ hL9)
     have htake:=take_snoc hx
     have hxl:i < (ps.map V.ref).length:=by rw [List.length_map];exact hil
     refine ⟨_,rfl,_,rfl,_,rfl,tr,C.length,x,row,c.az.length,rfl,hL5,hOk x (List.mem_of_getElem? hx),hrow,htl,λH6 s6=>⟨_,_,rfl,rfl,_,rfl,eS (λh=>?_) (λh=>?_)⟩⟩
     ·have hp:g7 row c.az.length x = true:=decide_eq_true h
      have:=bB.EJ (p:=g7 row c.az.length) (hF.mono λ_ _ z=>s6 _ _ z) (s6 _ _ hL5)
      rw [if_pos hp,← htake] at this
      exact ⟨_,rfl,cM hxl (by rw [List.length_append];simpa using hyl) ⟨fs ++ [tr],by rw [List.map_append];rfl,this,s5.trans s6⟩⟩
     ·have hp:¬ g7 row c.az.length x = true:=λz=>h (of_decide_eq_true z)
      have:=bB.EJ (p:=g7 row c.az.length) (hF.mono λ_ _ z=>s6 _ _ z) (s6 _ _ hL5)
      rw [if_neg hp,← htake] at this
      exact cM hxl (by omega) ⟨fs,rfl,this,s5.trans s6⟩
    ·rintro ys H5 hyl ⟨fs,rfl,hF,s5⟩ D hD
     rw [List.length_map,t3.1,List.take_length] at hF
     exact ⟨D,fs,rfl,af,hF.mono λ_ _ z=>ak.upd hD _ _ z,s5.free hD,s5.to hD⟩
   rintro Z' H5 ⟨lf,fs,rfl,h5f,hF,f5,s5⟩
   have S5:=S.to s5
   have stepN:∀ c',ek (cY names C) row c = some c' -> k + 1 <= n /\ goN (cY names C) row (n - (k + 1)) c' = some d:=λc' hst=>by
    have hg:=S.go
    cases e:n - k with
    | zero=>rw [e,goN,hst] at hg;cases hg
    | succ m =>
     rw [e,goN,hst] at hg
     refine ⟨by omega,?_⟩
     rw [show n - (k + 1) = m by omega]
     exact hg
   cases hh:(cm.rs.filter (g7 row c.az.length)).head? with
   | none =>
    have hnil:cm.rs.filter (g7 row c.az.length) = []:=List.head?_eq_none_iff.mp hh
    have hfs:fs = []:=by
     have:=hF.1
     rw [hnil] at this
     exact List.length_eq_zero_iff.mp this
    subst hfs
    rw [hh] at hru
    have hru:d8 (dY (cY names C) (bg c.on)) row c.az.length = none:=hru
    by_cases hend:c.az.length = row.length
    ·have hst:ek (cY names C) row c = none:=by
      rw [ek,hru]
      exact if_neg (by omega)
     have hd:d = c:=by
      have hg:=S.go
      rw [sJ hst] at hg
      exact (Option.some.inj hg).symm
     subst hd
     refine @ay _ _ _ _ _ _ _ (bA (PW.pt (gw (aA (gW (Nat.lt_of_succ_lt (gH hr))) (pv 8) (bf ah) (aD _)) (gi (aA cO (pv 6) (aO br (by rfl) T.bW (by decide +kernel) (aa (pv 2) ah)) (aD _))))) av av) ⟨_,rfl,by show 0 <= sizeLine;decide,λl0 g0=>⟨lf,l0,_,[],rfl,rfl,aP.of (ak.upd g0 _ _ h5f),aP.of af,(λa _ b hb=>by cases hb),_,rfl,eS (λ_=>?_) (λh=>absurd rfl h)⟩⟩
     refine ⟨_,rfl,_,rfl,_,rfl,bL (by omega),rfl,_,rfl,eS (λ_=>?_) (λh=>absurd (by rw [hend]) h)⟩
     have S6:=S5.to (ak.upd (o:=.lst []) g0)
     refine @au _ _ _ _ _ _ (aH (eE (aa (pv 1) (aa (pv 4) (aa (pv 5) (aa (pv 3) ah)))))) ⟨_,rfl,_,rfl,_,rfl,_,rfl,by show 4 <= sizeLine;decide,λtp htp=>?_⟩
     have S7:=S6.to (ak.upd (o:=.tup [.ref lb,.ref lt,.ref lk,.ref ls]) htp)
     exact q tp lt lk ls _ af S7.t S7.k S7.s S7.ft flk S7.fs S7.same
    ·have hlt:c.az.length < row.length:=by omega
     have hst:ek (cY names C) row c = some ⟨c.on,c.az ++ [b7 (cY names C) (bg c.on)],c.marks⟩:=by
      rw [ek,hru]
      exact if_pos hlt
     obtain ⟨hk1,hg1⟩:=stepN _ hst
     have ecol:b7 (cY names C) (bg c.on) = cm.col:=by rw [b7,hmd]
     refine @aB _ _ _ _ _ _ _ (λZ' H'=>Z' = [some (.ref lm),some (.ref lb),some (.str row),some (.ref ls),some (.ref lt),some (.ref lk),some (.int c.az.length),some (.int (0 + (k:Int))),some (.ref lf),x9] /\ ak H5 H') (bA (PW.pt (gw (aA (gW (Nat.lt_of_succ_lt (gH hr))) (pv 8) (bf ah) (aD _)) (gi (aA cO (pv 6) (aO br (by rfl) T.bW (by decide +kernel) (aa (pv 2) ah)) (aD _))))) av av) ?_ ?_
     ·refine ⟨_,rfl,by show 0 <= sizeLine;decide,λl0 g0=>⟨lf,l0,_,[],rfl,rfl,aP.of (ak.upd g0 _ _ h5f),aP.of af,(λa _ b hb=>by cases hb),_,rfl,eS (λ_=>?_) (λh=>absurd rfl h)⟩⟩
      exact ⟨_,rfl,_,rfl,_,rfl,bL (by omega),rfl,_,rfl,eS (λh=>absurd (V.int.inj h) (by omega)) (λ_=>bx ⟨rfl,ak.upd g0⟩)⟩
     rintro Z' H6 ⟨rfl,s6⟩
     have S6:=S5.to s6
     refine @au _ _ _ _ _ _ (bA (aA (gW (Nat.lt_of_succ_lt (gH hr))) (pv 8) (bf ah) (aD _)) av av) ⟨_,rfl,by show 0 <= sizeLine;decide,λl0 g0=>⟨lf,l0,_,[],rfl,rfl,aP.of (ak.upd g0 _ _ (s6 _ _ h5f)),aP.of af,(λa _ b hb=>by cases hb),_,rfl,eS (λ_=>?_) (λh=>absurd rfl h)⟩⟩
     have S7:=S6.to (ak.upd (o:=.lst []) g0)
     generalize upd H6 l0 (.lst []) = H7 at S7
     refine @ay _ _ _ _ _ _ _ (bq (dc F.plainAttrs_list F.slot_list_append F.type_list_append bF (pv 4) (aa (aK bR (aK aQ (pv 0) (aK aQ (pv 3) (gT e9 ao) (λ_ _=>rfl)) (λ_ _=>rfl)) ao (λ_ _=>rfl)) ah))) ⟨_,rfl,.inl ⟨rfl,_,aP.of S7.t⟩,_,rfl,_,rfl,_,rfl,_,_,_,_,rfl,rfl,aP.of S7.s,dX (fB S7.ok.1),_,_,_,_,rfl,rfl,aP.of (S7.same _ _ hts),dW htm,_,_,_,_,rfl,rfl,fL.of (S7.same _ _ t1),aS (j:=0) rfl,lt,_,_,rfl,rfl,S7.t,cE (by rw [List.length_map];omega),?_⟩
     refine @au _ _ _ _ _ _ (aF (i:=6) gM.nd rfl (Or.inr rfl) (bz cT (pv 6) ao)) ⟨_,rfl,_,_,rfl,rfl,⟨c.on,c.az ++ [b7 (cY names C) (bg c.on)],c.marks⟩,ls,lt,some (.int (0 + (k:Int))),some (.ref lf),x9,?_,?_,?_,S7.k.kL S7.t (Ne.symm S7.Ge),S7.ft,S7.fs,S7.LQ,S7.Mf,S7.Ge,S7.ok,?_,by show c.on.length <= _;omega,by show c.marks.length <= _;omega,hk1,hg1,?_⟩
     ·show _ = [some (V.ref lm),some (.ref lb),some (.str row),some (.ref ls),some (.ref lt),some (.ref lk),some (.int (((c.az ++ [b7 (cY names C) (bg c.on)]).length:Nat):Int)),some (.int (0 + (k:Int))),some (.ref lf),x9]
      rw [List.length_append,Int.natCast_add]
      rfl
     ·rw [ai S7.LQ];exact S7.s
     ·rw [af]
      show _ = some (HO.lst ((c.az ++ [b7 (cY names C) (bg c.on)]).map V.str))
      rw [List.map_append,ecol]
      rfl
     ·show (c.az ++ [b7 (cY names C) (bg c.on)]).length <= _
      rw [List.length_append,List.length_cons,List.length_nil]
      omega
     ·intro b o hb
      rw [ai (aj hb S7.ft)]
      exact S7.same _ _ hb
   | some x =>
    obtain ⟨hx,hfx⟩:=List.mem_filter.mp (head_mem hh)
    have hO:=hOk x hx
    have hfx:0 <= iA x row c.az.length:=of_decide_eq_true hfx
    have hne:fs ≠ []:=λz=>by
     have:=hF.1
     rw [z] at this
     rw [List.length_eq_zero_iff.mp this.symm] at hh
     cases hh
    obtain ⟨tr,htr⟩:∃ tr,fs[0]? = some tr:=⟨fs[0]'(List.length_pos_iff.mpr hne),List.getElem?_eq_getElem _⟩
    have hL5:L9 H5 tr x:=hF.2 0 tr x htr (by rw [← List.head?_eq_getElem?];exact hh)
    rw [hh] at hru
    have hru:d8 (dY (cY names C) (bg c.on)) row c.az.length = some (r9 x):=hru
    have hst:ek (cY names C) row c = some (fu c (r9 x) row):=by rw [ek,hru]
    obtain ⟨hk1,hg1⟩:=stepN _ hst
    have hRm:r9 x ∈ cm.rs.map r9:=List.mem_map_of_mem hx
    have hdl:=ju (on:=c.on) (d:=x.aI) (g:=(r9 x).goal)
    have hel:=yM (R:=r9 x) (row:=row) hO.sort htl
    have hee:=zI hfx
    refine @aB _ _ _ _ _ _ _ (λZ' H'=>Z' = [some (.ref lm),some (.ref lb),some (.str row),some (.ref ls),some (.ref lt),some (.ref lk),some (.int c.az.length),some (.int (0 + (k:Int))),some (.ref lf),x9] /\ ak H5 H') (bA (PW.pt (gw (aA (gW (Nat.lt_of_succ_lt (gH hr))) (pv 8) (bf ah) (aD _)) (gi (aA cO (pv 6) (aO br (by rfl) T.bW (by decide +kernel) (aa (pv 2) ah)) (aD _))))) av av) ?_ ?_
    ·exact ⟨_,rfl,by show 0 <= sizeLine;decide,λl0 g0=>⟨lf,l0,_,[],rfl,rfl,aP.of (ak.upd g0 _ _ h5f),aP.of af,(λa _ b hb=>by cases hb),_,rfl,eS (λh=>absurd (List.map_eq_nil_iff.mp h) hne) (λ_=>bx ⟨rfl,ak.upd g0⟩)⟩⟩
    rintro Z' H6 ⟨rfl,s6⟩
    refine @au _ _ _ _ _ _ (bA (aA (gW (Nat.lt_of_succ_lt (gH hr))) (pv 8) (bf ah) (aD _)) av av) ⟨_,rfl,by show 0 <= sizeLine;decide,λl0 g0=>⟨lf,l0,_,[],rfl,rfl,aP.of (ak.upd g0 _ _ (s6 _ _ h5f)),aP.of af,(λa _ b hb=>by cases hb),_,rfl,eS (λh=>absurd (List.map_eq_nil_iff.mp h) hne) (λ_=>?_)⟩⟩
    have s57:=s6.trans (ak.upd (o:=.lst []) g0)
    generalize upd H6 l0 (.lst []) = H7 at s57
    refine @ay _ _ _ _ _ _ _ (aF (i:=9) gM.nd rfl (Or.inl rfl) (aM (oX T) (hr.mono (by decide)) rfl T.pG T.iZ.kp (T.iZ.binds (by walk_at "3")) .nil aG (aa (aK aQ (pv 8) ao (λ_ _=>rfl)) (aa (pv 2) (aa (pv 6) ah))))) ⟨_,rfl,_,_,_,_,rfl,rfl,aP.of (s57 _ _ h5f),dW (k:=0) htr,_,rfl,_,rfl,tr,C.length,x,row,c.az.length,rfl,s57 _ _ hL5,hO,hrow,htl,λH8 s8=>?_⟩
    rw [hee]
    have s58:=s57.trans s8
    have S8:=S5.to s58
    have hf8:=s58 _ _ h5f
    have u8:H8 tr = some (.tup [.str x.sort,.str x.z,.str x.aI,.int x.g,.str x.col,.str x.fold]):=s58 _ _ hL5
    refine @ay _ _ _ _ _ _ _ (aF (i:=4) gM.nd rfl (Or.inl rfl) (bz kQ (pv 4) (bz Be (bf (aa (aK bR (aK aQ (pv 8) ao (λ_ _=>rfl)) ao (λ_ _=>rfl)) ah)) (pv 9)))) ⟨_,rfl,_,rfl,_,_,_,_,rfl,rfl,aP.of hf8,dW (k:=0) htr,_,_,_,_,rfl,rfl,fL.of u8,aS (j:=4) rfl,by show 1 <= sizeLine;decide,λl1 hl1=>⟨_,rfl,l1,_,_,rfl,rfl,af,by omega,by omega,(by rw [Int.toNat_natCast];exact bL (by simp only [List.length_cons,List.length_nil];omega)),λl2 hl2=>?_⟩⟩
    rw [Int.toNat_natCast,oh]
    have s9:ak H8 (upd (upd H8 l1 (.lst [.str x.col])) l2 (.lst (List.replicate (d7 (r9 x) row c.az.length) (V.str x.col)))):=(ak.upd hl1).to hl2
    have hl9:upd (upd H8 l1 (.lst [.str x.col])) l2 (.lst (List.replicate (d7 (r9 x) row c.az.length) (V.str x.col))) l2 = some (.lst (List.replicate (d7 (r9 x) row c.az.length) (V.str x.col))):=af
    generalize upd (upd H8 l1 (.lst [.str x.col])) l2 (.lst (List.replicate (d7 (r9 x) row c.az.length) (V.str x.col))) = H9 at s9 hl9
    have S9:=S8.to s9
    refine ⟨lt,l2,_,_,rfl,rfl,S9.t,hl9,bL (by rw [List.length_map,List.length_replicate];omega),λlt' hlt'=>?_⟩
    have s10:ak H9 (upd H9 lt' (.lst (c.az.map V.str ++ List.replicate (d7 (r9 x) row c.az.length) (V.str x.col)))):=ak.upd hlt'
    have ht10:upd H9 lt' (.lst (c.az.map V.str ++ List.replicate (d7 (r9 x) row c.az.length) (V.str x.col))) lt' = some (.lst ((fu c (r9 x) row).az.map V.str)):=by
     rw [af]
     show _ = some (HO.lst ((c.az ++ List.replicate (d7 (r9 x) row c.az.length) x.col).map V.str))
     rw [List.map_append,List.map_replicate]
    generalize upd H9 lt' (.lst (c.az.map V.str ++ List.replicate (d7 (r9 x) row c.az.length) (V.str x.col))) = H10 at s10 ht10
    have S10:=S9.to s10
    have u10:=(s9.trans s10) _ _ u8
    have hf10:=(s9.trans s10) _ _ hf8
    have nst':ls ≠ lt':=aj S9.s hlt'
    obtain ⟨pk9,hpk9,_⟩:=id S9.k
    have nkt':lk ≠ lt':=aj hpk9 hlt'
    have ft':H lt' = none:=S9.same.free hlt'
    show At _ _ _ [some (.ref lm),some (.ref lb),some (.str row),some (.ref ls),some (.ref lt'),some (.ref lk),some (.int c.az.length),some (.int (0 + (k:Int))),some (.ref lf),some (.int (d7 (r9 x) row c.az.length:Nat))] H10
    refine @aB _ _ _ _ _ _ _ (λZ' H'=>Z' = [some (.ref lm),some (.ref lb),some (.str row),some (.ref ls),some (.ref lt'),some (.ref lk),some (.int c.az.length),some (.int (0 + (k:Int))),some (.ref lf),some (.int (d7 (r9 x) row c.az.length:Nat))] /\ H' ls = some (.lst (c.on.map bD)) /\ H' lt' = some (.lst ((fu c (r9 x) row).az.map V.str)) /\ GM H' lk (fu c (r9 x) row).marks /\ H' tr = some (.tup [.str x.sort,.str x.z,.str x.aI,.int x.g,.str x.col,.str x.fold]) /\ H' lf = some (.lst (fs.map V.ref)) /\ ak H H') (bA (aA qa (aK bR (aK aQ (pv 8) ao (λ_ _=>rfl)) ao (λ_ _=>rfl)) aN (aD _)) av av) ?_ ?_
    ·refine ⟨_,rfl,_,_,_,_,rfl,rfl,aP.of hf10,dW (k:=0) htr,_,_,_,_,rfl,rfl,fL.of u10,aS (j:=5) rfl,rfl,_,rfl,iX (λh=>?_) (λh=>bx ⟨rfl,S10.s,ht10,?_,u10,hf10,S10.same⟩)⟩
     ·have h:x.fold ≠ "" := λz=>h (by rw [z])
      obtain ⟨ps',hps,hAp⟩:=S10.k
      refine @au _ _ _ _ _ _ (bq (dc F.plainAttrs_list F.slot_list_append F.type_list_append bF (pv 5) (aa (eE (aa (pv 6) (aa (aK bR (aK aQ (pv 8) ao (λ_ _=>rfl)) ao (λ_ _=>rfl)) ah))) ah))) ⟨_,rfl,.inl ⟨rfl,_,aP.of hps⟩,_,rfl,_,rfl,_,_,_,_,rfl,rfl,aP.of hf10,dW (k:=0) htr,_,_,_,_,rfl,rfl,fL.of u10,aS (j:=5) rfl,by show 2 <= sizeLine;decide,λtp htp=>?_⟩
      have s11:ak H10 (upd H10 tp (.tup [.int c.az.length,.str x.fold])):=ak.upd htp
      have hp11:upd H10 tp (.tup [.int c.az.length,.str x.fold]) tp = some (.tup [.int c.az.length,.str x.fold]):=af
      generalize upd H10 tp (.tup [.int c.az.length,.str x.fold]) = H11 at s11 hp11
      have hps11:=s11 _ _ hps
      have hpl:ps'.length <= 100000:=by rw [hAp.1];omega
      refine ⟨lk,_,_,rfl,rfl,hps11,cE (by rw [List.length_map];omega),rfl,?_,?_,?_,?_,?_,?_⟩
      ·rw [ai S.Mf];exact s11 _ _ S10.s
      ·rw [ai (Ne.symm nkt')];exact s11 _ _ ht10
      ·have em:(fu c (r9 x) row).marks = c.marks ++ [(c.az.length,x.fold)]:=if_neg h
       rw [em]
       refine ⟨ps' ++ [tp],by rw [af,List.map_append];rfl,bB.snoc (hAp.mono λp m e=>?_) ?_⟩
       ·rw [ai (cP (s11 _ _ e) hps11 (by intro z;cases z))];exact s11 _ _ e
       ·rw [ai (cP hp11 hps11 (by intro z;cases z))];exact hp11
      ·rw [ai (cP (s11 _ _ u10) hps11 (by intro z;cases z))];exact s11 _ _ u10
      ·obtain ⟨pk4,hpk4,_⟩:=id S.k
       rw [ai (Ne.symm (aj hpk4 f5))]
       exact s11 _ _ hf10
      ·intro b o hb
       rw [ai (aj hb flk)]
       exact s11 _ _ (S10.same _ _ hb)
     ·have h:x.fold = "" := V.str.inj h
      have em:(fu c (r9 x) row).marks = c.marks:=if_pos h
      rw [em]
      exact S10.k
    rintro Z' H11 ⟨rfl,hs11,ht11,hk11,u11,hf11,s11⟩
    obtain ⟨pk11,hpk11,_⟩:=id hk11
    refine @ay _ _ _ _ _ _ _ (aF (i:=3) gM.nd rfl (Or.inl rfl) (aM (CD T) (hr.mono (by decide)) rfl T.Dr T.om.kp (T.om.binds (by walk_at "2")) .nil aG (aa (pv 3) (aa (aK aQ (pv 8) ao (λ_ _=>rfl)) ah)))) ⟨_,rfl,_,rfl,_,_,_,_,rfl,rfl,aP.of hf11,dW (k:=0) htr,ls,tr,C.length,x,c.on,rfl,hs11,S.ok.1,by omega,u11,hO,λls' H12 h12 f12 s12=>?_⟩
    refine @au _ _ _ _ _ _ (aF (i:=6) gM.nd rfl (Or.inr rfl) (bz cT (pv 6) (pv 9))) ⟨_,rfl,_,rfl,_,_,rfl,rfl,fu c (r9 x) row,ls',lt',some (.int (0 + (k:Int))),some (.ref lf),some (.int (d7 (r9 x) row c.az.length:Nat)),?_,h12,s12 _ _ ht11,hk11.same s12,ft',s11.free f12,Ne.symm (aj ht11 f12),Ne.symm (aj hpk11 f12),Ne.symm nkt',S.ok.aI G hmm hRm,?_,by show (aT c.on x.aI (r9 x).goal).length <= _;omega,?_,hk1,hg1,s11.trans s12⟩
    ·show _ = [some (V.ref lm),some (.ref lb),some (.str row),some (.ref ls'),some (.ref lt'),some (.ref lk),some (.int (((c.az ++ List.replicate (d7 (r9 x) row c.az.length) x.col).length:Nat):Int)),some (.int (0 + (k:Int))),some (.ref lf),some (.int (d7 (r9 x) row c.az.length:Nat))]
     rw [List.length_append,List.length_replicate,Int.natCast_add]
     rfl
    ·show (c.az ++ List.replicate (d7 (r9 x) row c.az.length) x.col).length <= _
     rw [List.length_append,List.length_replicate]
     exact hel
    ·show (if x.fold = "" then c.marks else c.marks ++ [(c.az.length,x.fold)]).length <= _
     by_cases h:x.fold = ""
     ·rw [if_pos h];omega
     ·rw [if_neg h,List.length_append];show c.marks.length + 1 <= _;omega
  ·rintro Z' H' ⟨c,ls,lt,x7,x8,x9,_,S⟩
   have:=S.kn
   have h6:(600:Nat) <= n:=this
   omega
structure B8 (H0 H:Hp) (l:Addr) (ws:List Str):Prop where
 at_:H l = some (.lst (ws.map V.str))
 new:H0 l = none
 same:ak H0 H
theorem B8.add {H0 H:Hp} {l:Addr} {ws:List Str} {x:Str} (W:B8 H0 H l ws):B8 H0 (upd H l (.lst (ws.map V.str ++ [.str x]))) l (ws ++ [x]) :=
 ⟨by rw [af,List.map_append];rfl,W.new,λb o hb=>by rw [ai (aj hb W.new)];exact W.same _ _ hb⟩
theorem B8.to {H0 H H':Hp} {l:Addr} {ws:List Str} (W:B8 H0 H l ws) (s:ak H H'):B8 H0 H' l ws:=⟨s _ _ W.at_,W.new,W.same.trans s⟩
theorem yz {m:Nat}:∀ (ys:List Str),(∀ y ∈ ys,y.length <= m) -> (ys.map (·.length)).sum <= ys.length * m
 | [],_=>by simp
 | x :: r,h=>by
  have h1:=h x (by simp)
  have h2:=yz r (λz hz=>h z (List.mem_cons_of_mem _ hz))
  rw [List.map_cons,List.sum_cons,List.length_cons,Nat.succ_mul]
  omega
theorem Mi {z:Str} (h:32 ∉ z.cps.toList):Str.ofString "'" ++ z = gz z:=by
 refine j7 ?_
 unfold gz
 rw [fY,fY,show (Str.ofString " ") = ⟨#[32]⟩ by decide +kernel,show (Str.ofString "_") = ⟨#[95]⟩ by decide +kernel,jJ,jY h]
theorem IY {names:List Str} {x:kG}:bV names (r9 x) = bG x.sort (if bare x.sort then "" else x.z) ++ (if bJ x.sort = true then [x.col] else []) ++ [x.aI] ++ (if dQ x.aI then [names.getD x.g ""] else []) ++ (if x.fold = "" then [] else [x.fold]):=by
 unfold bV
 show bG x.sort (if bare x.sort then "" else x.z) ++ ((if bJ x.sort = true then [x.col] else []) ++ ([x.aI] ++ (q9 names (if dQ x.aI then some x.g else none) ++ if x.fold = "" then [] else [x.fold]))) = _
 have e2:q9 names (if dQ x.aI then some x.g else none) = (if dQ x.aI then [names.getD x.g ""] else []):=by
  by_cases h:dQ x.aI
  ·rw [if_pos h,if_pos h];rfl
  ·rw [if_neg h,if_neg h];rfl
 rw [e2,List.append_assoc,List.append_assoc,List.append_assoc]
def Aw (x:Str):Bool:=decide (x ≠ "")
theorem Fd {c d:Str} (hd:d ≠ ""):[c,d].filter Aw = (if c = "" then [] else [c]) ++ [d]:=by
 rw [List.filter_cons,List.filter_cons,List.filter_nil,show Aw d = true from decide_eq_true hd]
 by_cases h:c = ""
 ·rw [if_pos h,show Aw c = false from decide_eq_false (λz=>z h)];rfl
 ·rw [if_neg h,show Aw c = true from decide_eq_true h];rfl
theorem FL {c:Str}:[c].filter Aw = (if c = "" then [] else [c]):=by
 rw [List.filter_cons,List.filter_nil]
 by_cases h:c = ""
 ·rw [if_pos h,show Aw c = false from decide_eq_false (λz=>z h)];rfl
 ·rw [if_neg h,show Aw c = true from decide_eq_true h];rfl
def iU (k:Nat):Str:=if k % 2 = 0 then "blue" else "grey"
theorem BU {k:Nat}:qv [V.str "blue",.str "grey"] (((0:Int) + (k:Int)) % 2) = some (.str (iU k)):=by
 unfold iU
 by_cases h:k % 2 = 0
 ·rw [if_pos h,show (((0:Int) + (k:Int)) % 2) = ((0:Nat):Int) by omega];rfl
 ·rw [if_neg h,show (((0:Int) + (k:Int)) % 2) = ((1:Nat):Int) by omega];rfl
theorem DQ (k:Nat):(iU k).length = 4:=by unfold iU;split <;> decide +kernel
theorem EL (k:Nat):iU k = "blue" ∨ iU k = "grey" := by unfold iU;split;exact .inl rfl;exact .inr rfl
def gu (names:List Str) (C:List MD):List Str:=(itemsOf (cY names C)).map (rowOf names)
theorem BE {names:List Str} {C:List MD} {m:MD} {n:Str} (h:names[C.length]? = some n):cY names (C ++ [m]) = cY names C ++ [⟨n,m.col,m.rs.map r9⟩]:=by
 have e:names = names.take C.length ++ n :: names.drop (C.length + 1):=by rw [← lB h,List.take_append_drop]
 have hl:(names.take C.length).length = C.length:=by
  have:=(List.getElem?_eq_some_iff.mp h).1
  rw [List.length_take];omega
 unfold cY
 conv=>lhs;rw [e]
 conv=>rhs;rw [e]
 rw [List.zipWith_append hl]
 have e2:List.zipWith (λn m=>(⟨n,m.col,m.rs.map r9⟩:aC)) (names.take C.length ++ n :: names.drop (C.length + 1)) C = List.zipWith (λn m=>⟨n,m.col,m.rs.map r9⟩) (names.take C.length) C:=by
  have:=List.zipWith_append (f:=λn (m:MD)=>(⟨n,m.col,m.rs.map r9⟩:aC)) (l₁':=n :: names.drop (C.length + 1)) (l₂':=[]) hl
  rw [List.append_nil] at this
  rw [this]
  simp
 rw [e2]
 simp
theorem yL {names:List Str} {C:List MD} {m:MD} {n:Str} (h:names[C.length]? = some n):gu names (C ++ [m]) = gu names C ++ [rowOf names (.mode n m.col)] ++ m.rs.map λx=>rowOf names (.rule (r9 x)):=by
 unfold gu
 rw [BE h,gD,gG,List.map_append,fc,List.map_cons,List.map_map,List.map_map,List.append_assoc]
 rfl
structure xK (H H':Hp) (lm lw lr tm:Addr) (ts:List Addr) (C:List MD) (col:Str) (ps:List Addr) (rs:List kG) (rows:List Str):Prop where
 zl:H' lm = some (.lst ((ts ++ [tm]).map V.ref))
 zC:H' lw = some (.lst (rows.map V.str))
 Ke:H' lr = some (.lst (ps.map V.ref))
 KO:bB (L9 (hid (λc=>c = lm ∨ c = lw ∨ c = lr) H')) ps rs
 Ky:hid (λc=>c = lm ∨ c = lw ∨ c = lr) H' tm = some (.tup [.str col,.ref lr])
 EC:bB (M9 (hid (λc=>c = lm ∨ c = lw ∨ c = lr) H')) ts C
 same:ak H (hid (λc=>c = lm ∨ c = lw ∨ c = lr) H')
 n1:lm ≠ lw
 n2:lm ≠ lr
 n3:lw ≠ lr
theorem xK.to {H H' H'':Hp} {lm lw lr tm:Addr} {ts:List Addr} {C:List MD} {col:Str} {ps:List Addr} {rs:List kG} {rows:List Str} (h:xK H H' lm lw lr tm ts C col ps rs rows) (s:ak H' H''):xK H H'' lm lw lr tm ts C col ps rs rows :=
 ⟨s _ _ h.zl,s _ _ h.zC,s _ _ h.Ke,h.KO.mono λ_ _ z=>(cA s) _ _ z,(cA s) _ _ h.Ky,h.EC.mono λ_ _ z=>z.same (cA s),h.same.trans (cA s),h.n1,h.n2,h.n3⟩
theorem xK.row {H H':Hp} {lm lw lr tm:Addr} {ts:List Addr} {C:List MD} {col:Str} {ps:List Addr} {rs:List kG} {rows:List Str} (h:xK H H' lm lw lr tm ts C col ps rs rows) (r:Str):xK H (upd H' lw (.lst (rows.map V.str ++ [.str r]))) lm lw lr tm ts C col ps rs (rows ++ [r]):=by
 have e:hid (λc=>c = lm ∨ c = lw ∨ c = lr) (upd H' lw (.lst (rows.map V.str ++ [.str r]))) = hid (λc=>c = lm ∨ c = lw ∨ c = lr) H':=g9 (.inr (.inl rfl))
 exact ⟨by rw [ai h.n1];exact h.zl,by rw [af,List.map_append];rfl,by rw [ai (Ne.symm h.n3)];exact h.Ke,by rw [e];exact h.KO,by rw [e];exact h.Ky,by rw [e];exact h.EC,by rw [e];exact h.same,h.n1,h.n2,h.n3⟩
theorem xK.rule {H H':Hp} {lm lw lr tm p:Addr} {ts:List Addr} {C:List MD} {col:Str} {ps:List Addr} {rs:List kG} {rows:List Str} {x:kG} (h:xK H H' lm lw lr tm ts C col ps rs rows) (hp:H' p = some (.tup [.str x.sort,.str x.z,.str x.aI,.int x.g,.str x.col,.str x.fold])):xK H (upd H' lr (.lst (ps.map V.ref ++ [.ref p]))) lm lw lr tm ts C col (ps ++ [p]) (rs ++ [x]) rows:=by
 have e:hid (λc=>c = lm ∨ c = lw ∨ c = lr) (upd H' lr (.lst (ps.map V.ref ++ [.ref p]))) = hid (λc=>c = lm ∨ c = lw ∨ c = lr) H':=g9 (.inr (.inr rfl))
 have hx:L9 (hid (λc=>c = lm ∨ c = lw ∨ c = lr) H') p x:=bS hp (λz=>by
  rcases z with z | z | z
  ·rw [z,h.zl] at hp;cases hp
  ·rw [z,h.zC] at hp;cases hp
  ·rw [z,h.Ke] at hp;cases hp)
 exact ⟨by rw [ai h.n2];exact h.zl,by rw [ai h.n3];exact h.zC,by rw [af,List.map_append];rfl,by rw [e];exact bB.snoc h.KO hx,by rw [e];exact h.Ky,by rw [e];exact h.EC,by rw [e];exact h.same,h.n1,h.n2,h.n3⟩
structure Aq (H H':Hp) (lm lw:Addr) (ts:List Addr) (C:List MD) (rows:List Str):Prop where
 zl:H' lm = some (.lst (ts.map V.ref))
 zC:H' lw = some (.lst (rows.map V.str))
 EC:bB (M9 (hid (λc=>c = lm ∨ c = lw) H')) ts C
 same:ak H (hid (λc=>c = lm ∨ c = lw) H')
 n1:lm ≠ lw
theorem Aq.to {H H' H'':Hp} {lm lw:Addr} {ts:List Addr} {C:List MD} {rows:List Str} (h:Aq H H' lm lw ts C rows) (s:ak H' H''):Aq H H'' lm lw ts C rows:=⟨s _ _ h.zl,s _ _ h.zC,h.EC.mono λ_ _ z=>z.same (cA s),h.same.trans (cA s),h.n1⟩
theorem Aq.row {H H':Hp} {lm lw:Addr} {ts:List Addr} {C:List MD} {rows:List Str} (h:Aq H H' lm lw ts C rows) (r:Str):Aq H (upd H' lw (.lst (rows.map V.str ++ [.str r]))) lm lw ts C (rows ++ [r]):=by
 have e:hid (λc=>c = lm ∨ c = lw) (upd H' lw (.lst (rows.map V.str ++ [.str r]))) = hid (λc=>c = lm ∨ c = lw) H':=g9 (.inr rfl)
 exact ⟨by rw [ai h.n1];exact h.zl,by rw [af,List.map_append];rfl,by rw [e];exact h.EC,by rw [e];exact h.same,h.n1⟩
theorem xK.out {H H':Hp} {lm lw lr tm:Addr} {ts:List Addr} {C:List MD} {col:Str} {ps:List Addr} {rs:List kG} {rows:List Str} (h:xK H H' lm lw lr tm ts C col ps rs rows):Aq H H' lm lw (ts ++ [tm]) (C ++ [⟨col,rs⟩]) rows:=by
 have s:ak (hid (λc=>c = lm ∨ c = lw ∨ c = lr) H') (hid (λc=>c = lm ∨ c = lw) H'):=vD λb z=>z.elim .inl (λz=>.inr (.inl z))
 exact ⟨h.zl,h.zC,bB.snoc (h.EC.mono λ_ _ z=>z.same s) ⟨lr,ps,s _ _ h.Ky,bS h.Ke (λz=>z.elim (Ne.symm h.n2) (Ne.symm h.n3)),h.KO.mono λ_ _ z=>s _ _ z⟩,h.same.trans s,h.n1⟩
theorem Aq.into {H H':Hp} {lm lw lr tm:Addr} {ts:List Addr} {C:List MD} {col:Str} {rows:List Str} (h:Aq H H' lm lw ts C rows) (hr:H' lr = none) {H2:Hp} (hm:H2 tm = some (.tup [.str col,.ref lr])) (s:ak (upd H' lr (.lst [])) H2):xK H (upd H2 lm (.lst (ts.map V.ref ++ [.ref tm]))) lm lw lr tm ts C col [] [] rows:=by
 have n2:lm ≠ lr:=aj h.zl hr
 have n3:lw ≠ lr:=aj h.zC hr
 have s0:ak H' H2:=(ak.upd hr).trans s
 have e:hid (λc=>c = lm ∨ c = lw ∨ c = lr) (upd H2 lm (.lst (ts.map V.ref ++ [.ref tm]))) = hid (λc=>c = lm ∨ c = lw ∨ c = lr) H2:=g9 (.inl rfl)
 have s1:ak (hid (λc=>c = lm ∨ c = lw) H') (hid (λc=>c = lm ∨ c = lw ∨ c = lr) H2):=λb o z=>bS (s0 _ _ (aR _ _ z)) (λy=>by
  rcases y with y | y | y
  ·exact jt (S:=λc=>c = lm ∨ c = lw) z (.inl y)
  ·exact jt (S:=λc=>c = lm ∨ c = lw) z (.inr y)
  ·exact aj (aR _ _ z) hr y)
 have hlr:=s _ _ af
 have htm:hid (λc=>c = lm ∨ c = lw ∨ c = lr) H2 tm = some (.tup [.str col,.ref lr]):=bS hm (λz=>by
  rcases z with z | z | z
  ·rw [z,s0 _ _ h.zl] at hm;cases hm
  ·rw [z,s0 _ _ h.zC] at hm;cases hm
  ·rw [z,hlr] at hm;cases hm)
 exact ⟨by rw [af,List.map_append];rfl,by rw [ai (Ne.symm h.n1)];exact s0 _ _ h.zC,by rw [ai (Ne.symm n2)];exact hlr,bB.nil,by rw [e];exact htm,by rw [e];exact h.EC.mono λ_ _ z=>z.same s1,by rw [e];exact h.same.trans s1,h.n1,n2,n3⟩
theorem IJ {d:Int} (h0:0 <= d) (h1:d < 3):∃ c,(c = 97 ∨ c = 98 ∨ c = 40) /\ qv (Str.ofString "ab(").cps.toList d = some c:=by
 obtain ⟨k,rfl⟩:∃ k:Nat,d = k:=⟨d.toNat,by omega⟩
 have e:(Str.ofString "ab(").cps.toList = [97,98,40]:=by decide +kernel
 rw [e]
 rcases k with _ | _ | _ | k
 ·exact ⟨97,.inl rfl,rfl⟩
 ·exact ⟨98,.inr (.inl rfl),rfl⟩
 ·exact ⟨40,.inr (.inr rfl),rfl⟩
 ·omega
theorem sg9 {c:Nat} {y:Str} (hc:c = 97 ∨ c = 98 ∨ c = 40) (hy:y ∈ (["","a","b"]:List Str)):1 <= ((⟨#[c]⟩:Str) ++ y).length /\ ((⟨#[c]⟩:Str) ++ y).length <= 2 /\ ∀ d ∈ ((⟨#[c]⟩:Str) ++ y).cps.toList,d = 97 ∨ d = 98 ∨ d = 40:=by
 have hy2:y.length <= 1 /\ ∀ d ∈ y.cps.toList,d = 97 ∨ d = 98 ∨ d = 40:=by
  simp only [List.mem_cons,List.not_mem_nil,or_false] at hy
  rcases hy with rfl | rfl | rfl <;> decide +kernel
 have hl:(⟨#[c]⟩:Str).length = 1:=rfl
 refine ⟨by rw [PySem.strLen_append,hl];omega,by rw [PySem.strLen_append,hl];have:=hy2.1;omega,λd hd=>?_⟩
 rw [fY] at hd
 rcases List.mem_append.mp hd with z | z
 ·have:d = c:=by simpa using z
  rw [this];exact hc
 ·exact hy2.2 d z
theorem rQ:∀ (names:List Str) (C:List MD),(∀ m ∈ C,m.rs.length <= 5) -> (itemsOf (cY names C)).length <= C.length * 6
 | [],_,_=>by unfold cY;rw [List.zipWith_nil_left];exact Nat.zero_le _
 | _ :: _,[],_=>by unfold cY;rw [List.zipWith_nil_right];exact Nat.zero_le _
 | n :: ns,c :: C,h=>by
  have ih:=rQ ns C (λm hm=>h m (List.mem_cons_of_mem _ hm))
  have h1:=h c (by simp)
  have e:itemsOf (cY (n :: ns) (c :: C)) = fc ⟨n,c.col,c.rs.map r9⟩ ++ itemsOf (cY ns C):=rfl
  rw [e,List.length_append,fc,List.length_cons,List.length_map,List.length_map,List.length_cons]
  omega
structure ME (n:Nat) (C:List MD):Prop where
 yj:∀ m ∈ C,m.rs.length <= 5
 col:∀ m ∈ C,m.col = "blue" ∨ m.col = "grey"
 ok:∀ m ∈ C,∀ x ∈ m.rs,Ad n x
noncomputable def BQ (K:PySem.W.Frag):Sp:=λvs H Q _=>∃ (a ln:Addr) (ns:List Int) (names:List Str),vs = [.ref a,.ref ln] /\ aP K H a (ns.map V.int) /\ ns.length <= 63 /\ H ln = some (.lst (names.map V.str)) /\ (∃ n,names = names3.take n) /\ 0 < names.length /\ names.length <= 3 /\
 ∀ tp lm C H',j8 names C -> H' tp = some (.tup [.str (Str.join ⟨#[10]⟩ (rowsOf (itemsOf (cY names C)))),.ref lm]) -> GL H' lm C -> ak H H' -> Q (.ref tp) H'
theorem GY (T:Txt K mg t):bu P w K mg base dZ 2 t.nU t.xq ["_law_script","_law_names"] (BQ K):=by
 refine T.vv.ok gk ?_ ?_
 walk_at "i"
 ·obtain ⟨a,ln,ns,names,rfl,hS,hl,hln,hnm,hn0,hn3,q⟩:=h
  have sz:=sizeLine_eq
  have nml:∀ n ∈ names,n.length <= 8:=λn hn=>by
   obtain ⟨m,e⟩:=hnm
   rw [e] at hn
   have:∀ n ∈ names3,n.length <= 8:=by decide +kernel
   exact this n (List.mem_of_mem_take hn)
  refine @aB _ _ _ _ _ _ _ (λZ' H'=>∃ lm,Z' = [some (.ref a),some (.ref ln),some (.ref lm),none,none,none,none,none,none,none,none,none,none,none] /\ H' lm = some (.lst []) /\ H lm = none /\ ak H H') (aF (i:=2) gk.nd rfl (Or.inl rfl) (bf ah)) ⟨by show 0 <= sizeLine;decide,λl hl=>⟨l,rfl,af,hl,ak.upd hl⟩⟩ ?_
  rintro Z' H1 ⟨lm,rfl,h1,f1,s1⟩
  refine @aB _ _ _ _ _ _ _ (λZ' H'=>∃ lw,Z' = [some (.ref a),some (.ref ln),some (.ref lm),some (.ref lw),none,none,none,none,none,none,none,none,none,none] /\ H' lw = some (.lst []) /\ H1 lw = none /\ ak H1 H') (aF (i:=3) gk.nd rfl (Or.inl rfl) (bf ah)) ⟨by show 0 <= sizeLine;decide,λl hl=>⟨l,rfl,af,hl,ak.upd hl⟩⟩ ?_
  rintro Z' H2 ⟨lw,rfl,h2,f2,s2⟩
  have O2:Aq H H2 lm lw [] [] []:=⟨s2 _ _ h1,h2,bB.nil,λb o hb=>bS (s2 _ _ (s1 _ _ hb)) (λz=>z.elim (aj hb f1) (aj (s1 _ _ hb) f2)),aj h1 f2⟩
  have rl:∀ C:List MD,ME names.length C -> C.length <= 3 -> (gu names C).length <= 100:=λC hC hc=>by
   unfold gu
   rw [List.length_map]
   have:=rQ names C hC.yj
   omega
  have nmN:∀ n ∈ names,isName n = true:=λn hn=>by
   obtain ⟨m,e⟩:=hnm
   rw [e] at hn
   have:∀ n ∈ names3,isName n = true:=by decide +kernel
   exact this n (List.mem_of_mem_take hn)
  refine @aB _ _ _ _ _ _ _ (λZ' H'=>∃ (C:List MD) (ts:List Addr) (y4 y5 y6 y7 y8 y9 y10 y11 y12 y13:Option V),Z' = [some (.ref a),some (.ref ln),some (.ref lm),some (.ref lw),y4,y5,y6,y7,y8,y9,y10,y11,y12,y13] /\ C.length = names.length /\ Aq H H' lm lw ts C (gu names C) /\ ME names.length C) (dU PassesOwn.never rfl (eV rfl T.gb (aa (aO bh (by rfl) T.bW (by decide +kernel) (aa (pv 1) ah)) ah)) (b9 (i:=4) gk.nd rfl (Or.inl rfl)) av) ?_ ?_
  ·refine ⟨_,rfl,_,_,rfl,.inl (aP.of ((s1.trans s2) _ _ hln)),_,rfl,by rw [List.length_map];omega,by rw [List.length_map];omega,?_⟩
   rw [show (((names.map V.str).length:Nat):Int).toNat = names.length by rw [List.length_map];omega]
   refine fJ (n:=names.length) (λk Z' H'=>∃ (C:List MD) (ts:List Addr) (y4 y5 y6 y7 y8 y9 y10 y11 y12 y13:Option V),Z' = [some (.ref a),some (.ref ln),some (.ref lm),some (.ref lw),y4,y5,y6,y7,y8,y9,y10,y11,y12,y13] /\ C.length = k /\ Aq H H' lm lw ts C (gu names C) /\ ME names.length C) ⟨[],[],_,_,_,_,_,_,_,_,_,_,rfl,rfl,by unfold gu cY;rw [List.zipWith_nil_right];exact O2,⟨(λm h=>by cases h),(λm h=>by cases h),(λm h=>by cases h)⟩⟩ ?_ ?_
   ·rintro k Z' H3 hk ⟨C,ts,y4,y5,y6,y7,y8,y9,y10,y11,y12,y13,rfl,hCk,O3,hC⟩
    have hrl:=rl C hC (by omega)
    obtain ⟨nm,h1n⟩:∃ n,names[k]? = some n:=⟨names[k],List.getElem?_eq_getElem hk⟩
    have hnl:=nml nm (List.mem_of_getElem? h1n)
    have hat:qv (names.map V.str) ((0:Int) + (k:Int)) = some (.str nm):=by
     rw [Int.zero_add]
     exact aS (by rw [List.getElem?_map,h1n];rfl)
    have hS3:∀ {H'},ak H3 H' -> aP K H' a (ns.map V.int):=λs'=>(hS.same (O3.same.trans aR)).same s'
    have hln3:∀ {H'},ak H3 H' -> H' ln = some (.lst (names.map V.str)):=λs'=>s' _ _ (aR _ _ (O3.same _ _ hln))
    have e5:(Str.ofString "mode ").length = 5:=by decide +kernel
    have e1:(Str.ofString " ").length = 1:=by decide +kernel
    have ecl:=DQ k
    have htl:ts.length = C.length:=O3.EC.1
    refine @aB _ _ _ _ _ _ _ (λZ' H'=>Z' = [some (.ref a),some (.ref ln),some (.ref lm),some (.ref lw),some (.int (0 + (k:Int))),y5,y6,y7,y8,y9,y10,y11,y12,y13] /\ Aq H H' lm lw ts C (gu names C ++ [rowOf names (.mode nm (iU k))])) (bq (dc F.plainAttrs_list F.slot_list_append F.type_list_append bF (pv 3) (aa (bz ig (bz ig (bz ig aN (aK aQ (pv 1) (pv 4) (λ_ _=>rfl))) aN) (aK aQ (bf (aa aN (aa aN ah))) (bz iP (pv 4) ao) (λ_ _=>rfl))) ah))) ?_ ?_
    ·refine ⟨_,rfl,.inl ⟨rfl,_,aP.of O3.zC⟩,_,rfl,_,rfl,_,_,_,_,rfl,rfl,aP.of (hln3 (ak.refl _)),hat,_,_,rfl,rfl,bL (by show (Str.ofString "mode ").length + _ <= _;omega),_,_,rfl,rfl,bL (by rw [PySem.strLen_append];show (Str.ofString "mode ").length + _ + (Str.ofString " ").length <= _;omega),by show 2 <= sizeLine;decide,λl1 g1=>⟨_,rfl,_,_,rfl,rfl,(by show (0:Int) < 2;decide),_,_,_,_,rfl,rfl,aP.of af,BU,_,_,rfl,rfl,bL (by rw [PySem.strLen_append,PySem.strLen_append];show (Str.ofString "mode ").length + _ + (Str.ofString " ").length + _ <= _;omega),?_⟩⟩
     have O4:=O3.to (ak.upd (o:=.lst [.str "blue",.str "grey"]) g1)
     generalize upd H3 l1 (.lst [.str "blue",.str "grey"]) = H4 at O4
     refine ⟨lw,_,_,rfl,rfl,O4.zC,cE (by rw [List.length_map];omega),rfl,?_⟩
     rw [show (Str.ofString "mode " ++ nm ++ Str.ofString " " ++ iU k:Str) = rowOf names (.mode nm (iU k)) from Bg]
     exact O4.row _
    rintro Z' H4 ⟨rfl,O4⟩
    refine @aB _ _ _ _ _ _ _ (λZ' H'=>∃ lr tm,Z' = [some (.ref a),some (.ref ln),some (.ref lm),some (.ref lw),some (.int (0 + (k:Int))),y5,y6,y7,y8,y9,y10,y11,y12,y13] /\ xK H H' lm lw lr tm ts C (iU k) [] [] (gu names C ++ [rowOf names (.mode nm (iU k))])) (bq (dc F.plainAttrs_list F.slot_list_append F.type_list_append bF (pv 2) (aa (eE (aa (aK aQ (bf (aa aN (aa aN ah))) (bz iP (pv 4) ao) (λ_ _=>rfl)) (aa (bf ah) ah))) ah))) ?_ ?_
    ·refine ⟨_,rfl,.inl ⟨rfl,_,aP.of O4.zl⟩,by show 2 <= sizeLine;decide,λl1 g1=>⟨_,rfl,_,_,rfl,rfl,(by show (0:Int) < 2;decide),_,_,_,_,rfl,rfl,aP.of af,BU,?_⟩⟩
     have O5:=O4.to (ak.upd (o:=.lst [.str "blue",.str "grey"]) g1)
     generalize upd H4 l1 (.lst [.str "blue",.str "grey"]) = H5 at O5
     refine ⟨by show 0 <= sizeLine;decide,λlr gr=>⟨by show 2 <= sizeLine;decide,λtm gm=>⟨lm,_,_,rfl,rfl,ak.upd gm _ _ (ak.upd gr _ _ O5.zl),cE (by rw [List.length_map];omega),lr,tm,rfl,?_⟩⟩⟩
     exact O5.into gr af (ak.upd gm)
    rintro Z' H5 ⟨lr,tm,rfl,R5⟩
    have same5:ak H H5:=R5.same.trans aR
    refine @au _ _ _ _ _ _ (dU PassesOwn.never rfl (eV rfl T.gb (aa (aM (gR T) (hr.mono (by decide)) rfl T.gP T.dM.kp (T.dM.binds (by walk_at "3")) .nil aG (aa (pv 0) (aa (bz cT ao (pv 4)) (aa ao ah)))) ah)) (b9 (i:=5) gk.nd rfl (Or.inl rfl)) av) ⟨_,rfl,_,rfl,_,_,rfl,rfl,a,ns,_,_,rfl,hS.same same5,(by omega),(by omega),(by decide),(by decide),hl,λd0 H6 h0 h6 s6=>⟨d0,rfl,by omega,by omega,?_⟩⟩
    have R6:=R5.to s6
    refine fJ (n:=d0.toNat) (λi Z' H'=>∃ (rs:List kG) (ps:List Addr) (y5 y6 y7 y8 y9 y10 y11 y12 y13:Option V),Z' = [some (.ref a),some (.ref ln),some (.ref lm),some (.ref lw),some (.int (0 + (k:Int))),y5,y6,y7,y8,y9,y10,y11,y12,y13] /\ rs.length = i /\ xK H H' lm lw lr tm ts C (iU k) ps rs (gu names C ++ [rowOf names (.mode nm (iU k))] ++ rs.map λx=>rowOf names (.rule (r9 x))) /\ ∀ x ∈ rs,Ad names.length x) ⟨[],[],_,_,_,_,_,_,_,_,_,rfl,rfl,by rw [List.map_nil,List.append_nil];exact R6,(λx hx=>by cases hx)⟩ ?_ ?_
    ·rintro i Z' H7 hi ⟨rs,ps,y5,y6,y7,y8,y9,y10,y11,y12,y13,rfl,hri,R7,hrs⟩
     have hi5:i < 5:=by omega
     have S7:∀ {H'},ak H7 H' -> aP K H' a (ns.map V.int):=λs'=>(hS.same (R7.same.trans aR)).same s'
     have ln7:∀ {H'},ak H7 H' -> H' ln = some (.lst (names.map V.str)):=λs'=>s' _ _ (aR _ _ (R7.same _ _ hln))
     refine @aB _ _ _ _ _ _ _ (λZ' H'=>∃ bs:Nat,bs <= 400 /\ H7 = H' /\ Z' = [some (.ref a),some (.ref ln),some (.ref lm),some (.ref lw),some (.int (0 + (k:Int))),some (.int (0 + (i:Int))),some (.int bs),y7,y8,y9,y10,y11,y12,y13]) (aF (i:=6) gk.nd rfl (Or.inl rfl) (bz cT (bz cT ao (bz jK ao (pv 4))) (bz jK ao (pv 5)))) ⟨_,rfl,_,_,rfl,rfl,.inl ⟨by decide,by decide⟩,_,_,rfl,rfl,_,rfl,_,_,rfl,rfl,.inl ⟨by decide,by decide⟩,_,_,rfl,rfl,100 + 60 * k + 10 * i,by omega,rfl,?_⟩ ?_
     ·rw [show ((100 + 60 * k + 10 * i:Nat):Int) = 100 + 60 * (0 + (k:Int)) + 10 * (0 + (i:Int)) by omega];rfl
     rintro Z' H7' ⟨bs,hbs,rfl,rfl⟩
     refine @aB _ _ _ _ _ _ _ (λZ' H'=>∃ st:Str,st ∈ sorts /\ ak H7 H' /\ Z' = [some (.ref a),some (.ref ln),some (.ref lm),some (.ref lw),some (.int (0 + (k:Int))),some (.int (0 + (i:Int))),some (.int bs),some (.str st),y8,y9,y10,y11,y12,y13]) (@aF _ _ 7 _ _ _ _ gk.nd rfl (Or.inl rfl) (@aK _ _ _ _ _ _ _ aQ (@bf _ _ _ _ (@iG _ _ ["word","one","none","many","many","any","still","end"] rfl)) (@aM _ _ _ _ _ _ _ _ _ _ _ _ _ _ _ _ (gR T) (hr.mono (by decide)) rfl T.gP T.dM.kp (T.dM.binds (by walk_at "3")) .nil aG (@aa _ _ _ _ _ (pv 0) (@aa _ _ _ _ _ (pv 6) (@aa _ _ _ _ _ ao ah (by left)) (by left)) (by left)) (by left) (by left) (by left)) (λ_ _=>rfl)) (by left) (by left)) ?_ ?_
     ·refine ⟨by show 8 <= sizeLine;decide,λl1 g1=>⟨_,rfl,_,rfl,a,ns,_,_,rfl,S7 (ak.upd g1),(by omega),(by omega),(by decide),(by decide),hl,λd H8 h0 h8 s8=>?_⟩⟩
      obtain ⟨st,hst,e⟩:=pick (xs:=["word","one","none","many","many","any","still","end"]) h0 h8
      exact ⟨_,_,_,_,rfl,rfl,aP.of (s8 _ _ af),e,st,(show ∀ y ∈ (["word","one","none","many","many","any","still","end"]:List Str),y ∈ sorts by decide) st hst,(ak.upd g1).trans s8,rfl⟩
     rintro Z' H8 ⟨st,hst,s8,rfl⟩
     refine @aB _ _ _ _ _ _ _ (λZ' H'=>∃ z:Str,(1 <= z.length /\ z.length <= 2 /\ ∀ d ∈ z.cps.toList,d = 97 ∨ d = 98 ∨ d = 40) /\ ak H7 H' /\ Z' = [some (.ref a),some (.ref ln),some (.ref lm),some (.ref lw),some (.int (0 + (k:Int))),some (.int (0 + (i:Int))),some (.int bs),some (.str st),some (.str z),y9,y10,y11,y12,y13]) (@aF _ _ 8 _ _ _ _ gk.nd rfl (Or.inl rfl) (@bz _ _ _ _ _ _ _ _ ig (@aK _ _ _ _ _ _ _ kM aN (@aM _ _ _ _ _ _ _ _ _ _ _ _ _ _ _ _ (gR T) (hr.mono (by decide)) rfl T.gP T.dM.kp (T.dM.binds (by walk_at "3")) .nil aG (@aa _ _ _ _ _ (pv 0) (@aa _ _ _ _ _ (@bz _ _ _ _ _ _ _ _ cT (pv 6) ao) (@aa _ _ _ _ _ ao ah (by left)) (by left)) (by left)) (by left) (by left) (by left)) (λ_ _=>rfl)) (@aK _ _ _ _ _ _ _ aQ (@bf _ _ _ _ (@iG _ _ ["","a","b"] rfl)) (@aM _ _ _ _ _ _ _ _ _ _ _ _ _ _ _ _ (gR T) (hr.mono (by decide)) rfl T.gP T.dM.kp (T.dM.binds (by walk_at "3")) .nil aG (@aa _ _ _ _ _ (pv 0) (@aa _ _ _ _ _ (@bz _ _ _ _ _ _ _ _ cT (pv 6) ao) (@aa _ _ _ _ _ ao ah (by left)) (by left)) (by left)) (by left) (by left) (by left)) (λ_ _=>rfl))) (by left) (by left)) ?_ ?_
     ·refine ⟨_,rfl,_,rfl,_,_,rfl,rfl,a,ns,_,_,rfl,S7 s8,(by omega),(by omega),(by decide),(by decide),hl,λd H9 h0 h9 s9=>?_⟩
      obtain ⟨c,hc,e⟩:=IJ h0 h9
      refine ⟨_,_,c,rfl,rfl,by decide,e,by show 3 <= sizeLine;decide,λl1 g1=>⟨_,rfl,_,rfl,_,_,rfl,rfl,a,ns,_,_,rfl,S7 ((s8.trans s9).to g1),(by omega),(by omega),(by decide),(by decide),hl,λd2 H10 h2 h10 s10=>?_⟩⟩
      obtain ⟨y,hy,e2⟩:=pick (xs:=["","a","b"]) h2 h10
      have hz:=sg9 hc hy
      refine ⟨_,_,_,_,rfl,rfl,aP.of (s10 _ _ af),e2,_,_,rfl,rfl,?_,_,hz,((s8.trans s9).to g1).trans s10,rfl⟩
      have:=hz.2.1
      rw [PySem.strLen_append] at this
      exact bL (by omega)
     rintro Z' H9 ⟨z,hz,s9,rfl⟩
     refine @aB _ _ _ _ _ _ _ (λZ' H'=>∃ dd:Str,dd ∈ mK /\ ak H7 H' /\ Z' = [some (.ref a),some (.ref ln),some (.ref lm),some (.ref lw),some (.int (0 + (k:Int))),some (.int (0 + (i:Int))),some (.int bs),some (.str st),some (.str z),some (.str dd),y10,y11,y12,y13]) (@aF _ _ 9 _ _ _ _ gk.nd rfl (Or.inl rfl) (@aK _ _ _ _ _ _ _ aQ (@bf _ _ _ _ (@iG _ _ ["stay","push","pop","into"] rfl)) (@aM _ _ _ _ _ _ _ _ _ _ _ _ _ _ _ _ (gR T) (hr.mono (by decide)) rfl T.gP T.dM.kp (T.dM.binds (by walk_at "3")) .nil aG (@aa _ _ _ _ _ (pv 0) (@aa _ _ _ _ _ (@bz _ _ _ _ _ _ _ _ cT (pv 6) ao) (@aa _ _ _ _ _ ao ah (by left)) (by left)) (by left)) (by left) (by left) (by left)) (λ_ _=>rfl)) (by left) (by left)) ?_ ?_
     ·refine ⟨by show 4 <= sizeLine;decide,λl1 g1=>⟨_,rfl,_,rfl,_,_,rfl,rfl,a,ns,_,_,rfl,S7 (s9.to g1),(by omega),(by omega),(by decide),(by decide),hl,λd H10 h0 h10 s10=>?_⟩⟩
      obtain ⟨dd,hdd,e⟩:=pick (xs:=["stay","push","pop","into"]) h0 h10
      exact ⟨_,_,_,_,rfl,rfl,aP.of (s10 _ _ af),e,dd,hdd,(s9.to g1).trans s10,rfl⟩
     rintro Z' H10 ⟨dd,hdd,s10,rfl⟩
     refine @aB _ _ _ _ _ _ _ (λZ' H'=>∃ g:Nat,g < names.length /\ ak H7 H' /\ Z' = [some (.ref a),some (.ref ln),some (.ref lm),some (.ref lw),some (.int (0 + (k:Int))),some (.int (0 + (i:Int))),some (.int bs),some (.str st),some (.str z),some (.str dd),some (.int g),y11,y12,y13]) (aF (i:=10) gk.nd rfl (Or.inl rfl) (aM (gR T) (hr.mono (by decide)) rfl T.gP T.dM.kp (T.dM.binds (by walk_at "3")) .nil aG (aa (pv 0) (aa (bz cT (pv 6) ao) (aa (aO bh (by rfl) T.bW (by decide +kernel) (aa (pv 1) ah)) ah))))) ?_ ?_
     ·refine ⟨_,rfl,_,rfl,_,_,rfl,rfl,_,rfl,_,_,rfl,.inl (aP.of (ln7 s10)),a,ns,_,_,rfl,S7 s10,(by omega),(by omega),(by rw [List.length_map];omega),(by rw [List.length_map];omega),hl,λd H11 h0 h11 s11=>⟨d.toNat,by rw [List.length_map] at h11;omega,s10.trans s11,by rw [show (d.toNat:Int) = d by omega];rfl⟩⟩
     rintro Z' H11 ⟨g,hg,s11,rfl⟩
     refine @aB _ _ _ _ _ _ _ (λZ' H'=>∃ co:Str,(if bJ st = true then co = "red" ∨ co = "green" else co = "") /\ ak H7 H' /\ Z' = [some (.ref a),some (.ref ln),some (.ref lm),some (.ref lw),some (.int (0 + (k:Int))),some (.int (0 + (i:Int))),some (.int bs),some (.str st),some (.str z),some (.str dd),some (.int g),some (.str co),y12,y13]) (aF (i:=11) gk.nd rfl (Or.inl rfl) (bZ (aA fP (pv 7) (eE (aa aN (aa aN ah))) rfl) aN (aK aQ (bf (aa aN (aa aN ah))) (aM (gR T) (hr.mono (by decide)) rfl T.gP T.dM.kp (T.dM.binds (by walk_at "3")) .nil aG (aa (pv 0) (aa (bz cT (pv 6) ao) (aa ao ah)))) (λ_ _=>rfl)))) ?_ ?_
     ·refine ⟨_,rfl,by show 2 <= sizeLine;decide,λpt hpt=>⟨pt,_,rfl,.inr (fL.of af),rfl,rfl,_,rfl,qx (D8 _ _ _) (eS (λh=>?_) (λh=>?_))⟩⟩
      ·have he:bJ st = false:=by rcases h with rfl | rfl <;> decide +kernel
       exact ⟨"",by rw [he];rfl,s11.to hpt,rfl⟩
      ·have he:bJ st = true:=by
        rcases dw hst with rfl | rfl | rfl | rfl | rfl | rfl | rfl
        ·decide +kernel
        ·decide +kernel
        ·decide +kernel
        ·decide +kernel
        ·decide +kernel
        ·exact absurd (.inl rfl) h
        ·exact absurd (.inr rfl) h
       refine ⟨by show 2 <= sizeLine;decide,λl1 g1=>⟨_,rfl,_,rfl,_,_,rfl,rfl,a,ns,_,_,rfl,S7 ((s11.to hpt).to g1),(by omega),(by omega),(by decide),(by decide),hl,λd H12 h0 h12 s12=>?_⟩⟩
       obtain ⟨co,hco,e⟩:=pick (xs:=["red","green"]) h0 h12
       exact ⟨_,_,_,_,rfl,rfl,aP.of (s12 _ _ af),e,co,by rw [if_pos he];simpa using hco,((s11.to hpt).to g1).trans s12,rfl⟩
     rintro Z' H12 ⟨co,hco,s12,rfl⟩
     refine @aB _ _ _ _ _ _ _ (λZ' H'=>∃ fo:Str,(fo = "" ∨ fo = "open" ∨ fo = "close") /\ ak H7 H' /\ Z' = [some (.ref a),some (.ref ln),some (.ref lm),some (.ref lw),some (.int (0 + (k:Int))),some (.int (0 + (i:Int))),some (.int bs),some (.str st),some (.str z),some (.str dd),some (.int g),some (.str co),some (.str fo),y13]) (@aF _ _ 12 _ _ _ _ gk.nd rfl (Or.inl rfl) (@aK _ _ _ _ _ _ _ aQ (@bf _ _ _ _ (@iG _ _ ["","open","close"] rfl)) (@aM _ _ _ _ _ _ _ _ _ _ _ _ _ _ _ _ (gR T) (hr.mono (by decide)) rfl T.gP T.dM.kp (T.dM.binds (by walk_at "3")) .nil aG (@aa _ _ _ _ _ (pv 0) (@aa _ _ _ _ _ (@bz _ _ _ _ _ _ _ _ cT (pv 6) ao) (@aa _ _ _ _ _ ao ah (by left)) (by left)) (by left)) (by left) (by left) (by left)) (λ_ _=>rfl)) (by left) (by left)) ?_ ?_
     ·refine ⟨by show 3 <= sizeLine;decide,λl1 g1=>⟨_,rfl,_,rfl,_,_,rfl,rfl,a,ns,_,_,rfl,S7 (s12.to g1),(by omega),(by omega),(by decide),(by decide),hl,λd H13 h0 h13 s13=>?_⟩⟩
      obtain ⟨fo,hfo,e⟩:=pick (xs:=["","open","close"]) h0 h13
      exact ⟨_,_,_,_,rfl,rfl,aP.of (s13 _ _ af),e,fo,by simpa using hfo,(s12.to g1).trans s13,rfl⟩
     rintro Z' H13 ⟨fo,hfo,s13,rfl⟩
     obtain ⟨x,ex⟩:∃ x:kG,x = ⟨st,z,dd,g,co,fo⟩:=⟨_,rfl⟩
     have O:Ad names.length x:=by rw [ex];exact ⟨hst,hz.1,hz.2.1,hz.2.2,hdd,hg,hco,hfo⟩
     have GR:gE names (r9 x):=O.rule rfl
     have w9:=IY (names:=names) (x:=x)
     rw [ex] at w9
     have w9:bV names (r9 ⟨st,z,dd,g,co,fo⟩) = bG st (if bare st then "" else z) ++ (if bJ st = true then [co] else []) ++ [dd] ++ (if dQ dd then [names.getD g ""] else []) ++ (if fo = "" then [] else [fo]):=w9
     have R13:=R7.to s13
     have hne:dd ≠ "" := λy=>by rw [y] at hdd;exact absurd hdd (by decide)
     have hco2:(if co = "" then [] else [co]) = (if bJ st = true then [co] else []):=by
      by_cases he:bJ st = true
      ·rw [if_pos he] at hco ⊢
       rw [if_neg (by rcases hco with y | y <;> rw [y] <;> decide)]
      ·rw [if_neg he] at hco ⊢
       rw [if_pos hco]
     refine @aB _ _ _ _ _ _ _ (λZ' H'=>∃ l,Z' = [some (.ref a),some (.ref ln),some (.ref lm),some (.ref lw),some (.int (0 + (k:Int))),some (.int (0 + (i:Int))),some (.int bs),some (.str st),some (.str z),some (.str dd),some (.int g),some (.str co),some (.str fo),some (.ref l)] /\ B8 H13 H' l [st]) (aF (i:=13) gk.nd rfl (Or.inl rfl) (bf (aa (pv 7) ah))) ⟨_,rfl,by show 1 <= sizeLine;decide,λl hl0=>⟨l,rfl,af,hl0,ak.upd hl0⟩⟩ ?_
     rintro Z' H14 ⟨l,rfl,V14⟩
     refine @aB _ _ _ _ _ _ _ (λZ' H'=>Z' = [some (.ref a),some (.ref ln),some (.ref lm),some (.ref lw),some (.int (0 + (k:Int))),some (.int (0 + (i:Int))),some (.int bs),some (.str st),some (.str z),some (.str dd),some (.int g),some (.str co),some (.str fo),some (.ref l)] /\ B8 H13 H' l (bG st (if bare st then "" else z))) (@bA _ _ _ _ _ _ _ _ (@aA _ _ _ _ _ _ _ _ fP (pv 7) (@eE _ _ _ _ _ (@iG _ _ ["word","one","none","many"] rfl)) rfl) av av) ?_ ?_
     ·refine ⟨_,rfl,by show 4 <= sizeLine;decide,λpt hpt=>⟨pt,_,rfl,.inr (fL.of af),rfl,rfl,_,rfl,?_⟩⟩
      have V1:B8 H13 (upd H14 pt (.tup ((["word","one","none","many"]:List Str).map V.str))) l [st]:=V14.to (ak.upd hpt)
      generalize upd H14 pt (.tup ((["word","one","none","many"]:List Str).map V.str)) = H5 at V1
      have hin:FG (.str st) [.str "word",.str "one",.str "none",.str "many"] = decide (¬ bare st):=by
       rw [show ([.str "word",.str "one",.str "none",.str "many"]:List V) = (["word","one","none","many"]:List Str).map V.str from rfl,jF]
       rcases dw hst with rfl | rfl | rfl | rfl | rfl | rfl | rfl <;> decide +kernel
      refine qx hin (eS (λh=>?_) (λh=>bx ⟨rfl,?_⟩))
      ·refine @au _ _ _ _ _ _ (bq (dc F.plainAttrs_list F.slot_list_append F.type_list_append bF (pv 13) (aa (bz ig aN (pv 8)) ah))) ⟨_,rfl,.inl ⟨rfl,_,aP.of V1.at_⟩,_,rfl,_,_,rfl,rfl,bL (by rw [show (Str.ofString "'").length = 1 from by decide +kernel];have:=hz.2.1;omega),l,_,_,rfl,rfl,V1.at_,by show 1 < sizeLine;decide,rfl,?_⟩
       rw [Mi (λy=>by have:=hz.2.2 32 y;omega),bG,if_neg h,if_neg h]
       exact V1.add (x:=gz z)
      ·rw [bG,if_pos (Decidable.not_not.mp h)]
       exact V1
     rintro Z' H15 ⟨rfl,V15⟩
     have plen:=Ac (s:=st) (z:=if bare st then "" else z)
     refine @aB _ _ _ _ _ _ _ (λZ' H'=>∃ l,Z' = [some (.ref a),some (.ref ln),some (.ref lm),some (.ref lw),some (.int (0 + (k:Int))),some (.int (0 + (i:Int))),some (.int bs),some (.str st),some (.str z),some (.str dd),some (.int g),some (.str co),some (.str fo),some (.ref l)] /\ B8 H13 H' l (bG st (if bare st then "" else z) ++ ((if bJ st = true then [co] else []) ++ [dd]))) (@aF _ _ 13 _ _ _ _ gk.nd rfl (Or.inl rfl) (@bz _ _ _ _ _ _ _ _ kQ (pv 13) (@mj _ (aq uc) _ ["_law_script","_law_names","_law_modes","_law_rows","_law_k","_law_i","_law_base","_law_sort","_law_signs","_law_deed","_law_goal","_law_colour","_law_fold","_law_words"] _ _ _ ("_law_word") _ _ [] _ _ _ (by walk_at "ck") (@cH _ _ _ _ (@bf _ _ _ _ (@aa _ _ _ _ _ (pv 11) (@aa _ _ _ _ _ (pv 9) ah (by left)) (by left)))) (λ_ _ _ _=>by exact (@aA _ _ _ _ _ _ _ _ qa (pv 0) aN (aD _))) (λ_ _ _ _=>by exact (pv 0)) (by left) (by left) (by left) (by left))) (by left) (by left)) ?_ ?_
     ·refine ⟨_,rfl,_,rfl,_,rfl,by show 2 <= sizeLine;decide,λl1 g1=>?_⟩
      have V16:=V15.to (ak.upd (o:=.lst [.str co,.str dd]) g1)
      have hl1:upd H15 l1 (.lst [.str co,.str dd]) l1 = some (.lst (([co,dd]:List Str).map V.str)):=af
      generalize upd H15 l1 (.lst [.str co,.str dd]) = H16 at V16 hl1
      refine ⟨l1,rfl,⟨_,aP.of hl1⟩,iD (xs:=([co,dd]:List Str).map V.str) (λi ys H'=>ys = ((([co,dd]:List Str).take i).filter Aw).map V.str /\ H' = H16) ⟨rfl,rfl⟩ (by show 2 < sizeLine;decide) ?_ ?_ ?_⟩
      ·rintro i ys H' _ ⟨_,e⟩
       rw [e];exact aP.of hl1
      ·rintro i v ys H' hv hyl ⟨rfl,e⟩
       have hxl:=(List.getElem?_eq_some_iff.mp hv).1
       rw [List.getElem?_map] at hv
       obtain ⟨u,hu,rfl⟩:=Option.map_eq_some_iff.mp hv
       have htk:=take_snoc hu
       refine ⟨_,rfl,rfl,_,rfl,iX (λh=>⟨_,rfl,cM hxl (by rw [List.length_append];simpa using hyl) ⟨?_,e⟩⟩) (λh=>cM hxl (by omega) ⟨?_,e⟩)⟩
       ·have hp:Aw u = true:=decide_eq_true (λy=>h (by rw [y]))
        rw [htk,List.filter_append,List.filter_cons,hp,List.map_append];rfl
       ·have hp:Aw u = false:=decide_eq_false (λy=>y (V.str.inj h))
        rw [htk,List.filter_append,List.filter_cons,hp,List.map_append];exact (List.append_nil _).symm
      ·rintro ys H' hyl ⟨rfl,rfl⟩ D hD
       clear hyl
       rw [List.length_map,List.take_length,Fd hne,hco2]
       have hyl:((if bJ st = true then [co] else []) ++ [dd]).length <= 2:=by split <;> simp
       have V17:=V16.to (ak.upd (o:=.lst (((if bJ st = true then [co] else []) ++ [dd]).map V.str)) hD)
       refine ⟨l,D,_,_,rfl,rfl,V17.at_,af,?_,λl2 g2=>⟨l2,rfl,by rw [af,← List.map_append],V17.same.free g2,V17.same.to g2⟩⟩
       rw [List.length_map,List.length_map]
       exact bL (by omega)
     rintro Z' H16 ⟨l,rfl,V16⟩
     have l4:((if bJ st = true then [co] else []) ++ [dd]).length <= 2:=by split <;> simp
     refine @aB _ _ _ _ _ _ _ (λZ' H'=>Z' = [some (.ref a),some (.ref ln),some (.ref lm),some (.ref lw),some (.int (0 + (k:Int))),some (.int (0 + (i:Int))),some (.int bs),some (.str st),some (.str z),some (.str dd),some (.int g),some (.str co),some (.str fo),some (.ref l)] /\ B8 H13 H' l (bG st (if bare st then "" else z) ++ ((if bJ st = true then [co] else []) ++ [dd]) ++ (if dQ dd then [names.getD g ""] else []))) (bA (aA fP (pv 9) (eE (aa aN (aa aN ah))) rfl) av av) ?_ ?_
     ·refine ⟨_,rfl,by show 2 <= sizeLine;decide,λpt hpt=>⟨pt,_,rfl,.inr (fL.of af),rfl,rfl,_,rfl,?_⟩⟩
      have V8:=V16.to (ak.upd (o:=.tup [.str "push",.str "into"]) hpt)
      generalize upd H16 pt (.tup [.str "push",.str "into"]) = H8 at V8
      refine qx (D8 _ _ _) (eS (λh=>?_) (λh=>bx ⟨rfl,?_⟩))
      ·have hatg:qv (names.map V.str) (g:Int) = some (.str (names.getD g "")):=aS (by rw [List.getElem?_map,List.getD_eq_getElem?_getD,List.getElem?_eq_getElem hg];rfl)
       refine @au _ _ _ _ _ _ (bq (dc F.plainAttrs_list F.slot_list_append F.type_list_append bF (pv 13) (aa (aK aQ (pv 1) (pv 10) (λ_ _=>rfl)) ah))) ⟨_,rfl,.inl ⟨rfl,_,aP.of V8.at_⟩,_,rfl,_,rfl,_,_,_,_,rfl,rfl,aP.of (ln7 (s13.trans V8.same)),hatg,l,_,_,rfl,rfl,V8.at_,cE (by rw [List.length_map,List.length_append];omega),rfl,?_⟩
       rw [if_pos (show dQ dd from h)]
       exact V8.add (x:=names.getD g "")
      ·rw [if_neg (show ¬ dQ dd from h),List.append_nil]
       exact V8
     rintro Z' H17 ⟨rfl,V17⟩
     have l5:(if dQ dd then [names.getD g ""] else []).length <= 1:=by split <;> simp
     have ew:bV names (r9 x) = bG st (if bare st then "" else z) ++ ((if bJ st = true then [co] else []) ++ [dd]) ++ (if dQ dd then [names.getD g ""] else []) ++ (if fo = "" then [] else [fo]):=by rw [ex,w9,List.append_assoc (bG st _)]
     have R17:=R13.to V17.same
     have rln:=wF (names:=names) (R:=r9 x)
     have hrl2:(gu names C ++ [rowOf names (.mode nm (iU k))] ++ rs.map λx=>rowOf names (.rule (r9 x))).length <= 200:=by
      rw [List.length_append,List.length_append,List.length_map]
      show (gu names C).length + 1 + rs.length <= 200
      omega
     refine @aB _ _ _ _ _ _ _ (λZ' H'=>Z' = [some (.ref a),some (.ref ln),some (.ref lm),some (.ref lw),some (.int (0 + (k:Int))),some (.int (0 + (i:Int))),some (.int bs),some (.str st),some (.str z),some (.str dd),some (.int g),some (.str co),some (.str fo),some (.ref l)] /\ xK H H' lm lw lr tm ts C (iU k) ps rs (gu names C ++ [rowOf names (.mode nm (iU k))] ++ (rs.map λx=>rowOf names (.rule (r9 x))) ++ [rowOf names (.rule (r9 x))])) (@bq _ _ _ _ (@dc _ _ _ _ _ _ _ _ _ _ _ _ F.plainAttrs_list F.slot_list_append F.type_list_append bF (pv 3) (@aa _ _ _ _ _ (@dc _ _ _ _ _ _ _ _ _ _ _ _ F.plainAttrs_str F.slot_str_join F.type_str_join tF aN (@aa _ _ _ _ _ (@bz _ _ _ _ _ _ _ _ kQ (pv 13) (@mj _ (aq uc) _ ["_law_script","_law_names","_law_modes","_law_rows","_law_k","_law_i","_law_base","_law_sort","_law_signs","_law_deed","_law_goal","_law_colour","_law_fold","_law_words"] _ _ _ ("_law_word") _ _ [] _ _ _ (by walk_at "ck") (@cH _ _ _ _ (@bf _ _ _ _ (@aa _ _ _ _ _ (pv 12) ah (by left)))) (λ_ _ _ _=>by exact (@aA _ _ _ _ _ _ _ _ qa (pv 0) aN (aD _))) (λ_ _ _ _=>by exact (pv 0)) (by left) (by left) (by left) (by left))) ah (by left)) (by left) (by left) (by left) (by left) (by left)) ah (by left)) (by left) (by left) (by left) (by left) (by left)) (by left)) ?_ ?_
     ·refine ⟨_,rfl,.inl ⟨rfl,_,aP.of R17.zC⟩,rfl,_,rfl,_,rfl,by show 1 <= sizeLine;decide,λl1 g1=>?_⟩
      have V18:=V17.to (ak.upd (o:=.lst [.str fo]) g1)
      have R18:=R17.to (ak.upd (o:=.lst [.str fo]) g1)
      have hl1:upd H17 l1 (.lst [.str fo]) l1 = some (.lst (([fo]:List Str).map V.str)):=af
      generalize upd H17 l1 (.lst [.str fo]) = H18 at V18 hl1 R18
      refine ⟨l1,rfl,⟨_,aP.of hl1⟩,iD (xs:=([fo]:List Str).map V.str) (λi ys H'=>ys = ((([fo]:List Str).take i).filter Aw).map V.str /\ H' = H18) ⟨rfl,rfl⟩ (by show 1 < sizeLine;decide) ?_ ?_ ?_⟩
      ·rintro i ys H' _ ⟨_,e⟩
       rw [e];exact aP.of hl1
      ·rintro i v ys H' hv hyl ⟨rfl,e⟩
       have hxl:=(List.getElem?_eq_some_iff.mp hv).1
       rw [List.getElem?_map] at hv
       obtain ⟨u,hu,rfl⟩:=Option.map_eq_some_iff.mp hv
       have htk:=take_snoc hu
       refine ⟨_,rfl,rfl,_,rfl,iX (λh=>⟨_,rfl,cM hxl (by rw [List.length_append];simpa using hyl) ⟨?_,e⟩⟩) (λh=>cM hxl (by omega) ⟨?_,e⟩)⟩
       ·have hp:Aw u = true:=decide_eq_true (λy=>h (by rw [y]))
        rw [htk,List.filter_append,List.filter_cons,hp,List.map_append];rfl
       ·have hp:Aw u = false:=decide_eq_false (λy=>y (V.str.inj h))
        rw [htk,List.filter_append,List.filter_cons,hp,List.map_append];exact (List.append_nil _).symm
      ·rintro ys H' hyl ⟨rfl,rfl⟩ D hD
       clear hyl
       rw [List.length_map,List.take_length,FL]
       have hyl:(if fo = "" then [] else [fo]).length <= 1:=by split <;> simp
       have V19:=V18.to (ak.upd (o:=.lst ((if fo = "" then [] else [fo]).map V.str)) hD)
       have R19:=R18.to (ak.upd (o:=.lst ((if fo = "" then [] else [fo]).map V.str)) hD)
       refine ⟨l,D,_,_,rfl,rfl,V19.at_,af,?_,λl2 g2=>?_⟩
       ·rw [List.length_map,List.length_map,List.length_append,List.length_append]
        exact bL (by omega)
       rw [← List.map_append,← ew]
       have R20:=R19.to (ak.upd (o:=.lst ((bV names (r9 x)).map V.str)) g2)
       refine ⟨_,l2,_,rfl,rfl,aP.of af,?_,?_⟩
       ·have h5:=yz (m:=202) (bV names (r9 x)) (λy hy=>(oi nmN GR y hy).l)
        have h6:(bV names (r9 x)).length * 202 <= 7 * 202:=Nat.mul_le_mul_right _ rln.2
        rw [show (Str.ofString " ").length = 1 from by decide +kernel]
        omega
       ·rw [join_eq,show (Str.ofString " ") = ⟨#[32]⟩ from by decide +kernel]
        exact ⟨lw,_,_,rfl,rfl,R20.zC,cE (by rw [List.length_map];omega),rfl,R20.row (rowOf names (.rule (r9 x)))⟩
     rintro Z' H18 ⟨rfl,R18⟩
     have hatm:qv ((ts ++ [tm]).map V.ref) ((0:Int) + (k:Int)) = some (.ref tm):=by
      rw [Int.zero_add]
      exact dW (by rw [List.getElem?_append_right (by omega),htl,hCk,Nat.sub_self];rfl)
     refine @au _ _ _ _ _ _ (bq (dc F.plainAttrs_list F.slot_list_append F.type_list_append bF (aK bR (aK aQ (pv 2) (pv 4) (λ_ _=>rfl)) ao (λ_ _=>rfl)) (aa (eE (aa (pv 7) (aa (pv 8) (aa (pv 9) (aa (pv 10) (aa (pv 11) (aa (pv 12) ah))))))) ah))) ⟨_,rfl,_,rfl,_,_,_,_,rfl,rfl,aP.of R18.zl,hatm,_,_,_,_,rfl,rfl,fL.of (aR _ _ R18.Ky),aS (j:=1) rfl,.inl ⟨rfl,_,aP.of R18.Ke⟩,_,rfl,_,rfl,_,rfl,_,rfl,_,rfl,_,rfl,by show 6 <= sizeLine;decide,λp gp=>?_⟩
     have R19:=R18.to (ak.upd (o:=.tup [.str st,.str z,.str dd,.int g,.str co,.str fo]) gp)
     have hpl:ps.length = rs.length:=R18.KO.1
     refine ⟨lr,_,_,rfl,rfl,R19.Ke,cE (by rw [List.length_map];omega),rs ++ [x],ps ++ [p],_,_,_,_,_,_,_,_,_,rfl,by rw [List.length_append,hri];rfl,?_,λy hy=>?_⟩
     ·have:=R19.rule (x:=x) (p:=p) (by rw [ex];exact af)
      rw [List.map_append,← List.append_assoc]
      exact this
     ·rcases List.mem_append.mp hy with y1 | y1
      ·exact hrs y y1
      ·rw [List.mem_singleton.mp y1];exact O
    ·rintro Z' H7 ⟨rs,ps,y5,y6,y7,y8,y9,y10,y11,y12,y13,rfl,hri,R7,hrs⟩
     refine ⟨C ++ [⟨iU k,rs⟩],ts ++ [tm],_,_,_,_,_,_,_,_,_,_,rfl,by rw [List.length_append,hCk];rfl,?_,?_⟩
     ·rw [yL (by rw [hCk];exact h1n)]
      exact R7.out
     ·have snoc:∀ {P:MD -> Prop},(∀ m ∈ C,P m) -> P ⟨iU k,rs⟩ -> ∀ m ∈ C ++ [⟨iU k,rs⟩],P m:=λa b m hm=>by
       rcases List.mem_append.mp hm with z | z
       ·exact a m z
       ·rw [List.mem_singleton.mp z];exact b
      exact ⟨snoc hC.yj (by show rs.length <= 5;omega),snoc hC.col (EL k),snoc hC.ok hrs⟩
   ·rintro Z' H3 h
    exact h
  rintro Z' H3 ⟨C,ts,y4,y5,y6,y7,y8,y9,y10,y11,y12,y13,rfl,hCn,O3,hC⟩
  have L:j8 names C:=⟨hCn.symm,by omega,by omega,hnm,hC.yj,hC.col,by rw [hCn];exact hC.ok⟩
  have er:gu names C = rowsOf (itemsOf (cY names C)):=by
   unfold gu rowsOf
   rw [gI,jX L.len]
  have hrl:=rl C hC (by omega)
  have B:=L.fit
  have hGI:=B.items
  refine @au _ _ _ _ _ _ (aH (eE (aa (dc F.plainAttrs_str F.slot_str_join F.type_str_join tF aN (aa (pv 3) ah)) (aa (pv 2) ah)))) ⟨rfl,_,rfl,_,lw,_,rfl,rfl,aP.of O3.zC,?_,?_⟩
  ·have h5:=yz (m:=1421) (gu names C) (λy hy=>by
    obtain ⟨it,hi,rfl⟩:=List.mem_map.mp hy
    obtain ⟨i,e⟩:=List.mem_iff_getElem?.mp hi
    have:=(jI hGI e).2.1
    rw [gI,jX L.len] at this
    exact this)
   have h6:(gu names C).length * 1421 <= 100 * 1421:=Nat.mul_le_mul_right _ hrl
   rw [show (Str.ofString "\n").length = 1 from by decide +kernel]
   omega
  ·rw [join_eq,show (Str.ofString "\n") = ⟨#[10]⟩ from by decide +kernel,er]
   refine ⟨_,rfl,by show 2 <= sizeLine;decide,λtp htp=>?_⟩
   have O4:=O3.to (ak.upd (o:=.tup [.str (Str.join ⟨#[10]⟩ (rowsOf (itemsOf (cY names C)))),.ref lm]) htp)
   exact q tp lm C _ L af ⟨ts,O4.zl,O4.EC.mono λ_ _ z=>z.same aR⟩ (O4.same.trans aR)
theorem lG {H:Hp} {ps qs:List Addr} {mk:List (Nat × Str)} (a2:bB (λp (m:Nat × Str)=>H p = some (.tup [bD m.1,.str m.2])) ps mk) (b2:bB (λp (m:Nat × Str)=>H p = some (.tup [bD m.1,.str m.2])) qs mk):∀ (j:Nat) (x y:V),(ps.map V.ref)[j]? = some x -> (qs.map V.ref)[j]? = some y -> jl K H 1 x y:=by
 intro j x y hx hy
 rw [List.getElem?_map] at hx hy
 obtain ⟨p,hp,rfl⟩:=Option.map_eq_some_iff.mp hx
 obtain ⟨q,hq,rfl⟩:=Option.map_eq_some_iff.mp hy
 have hj:j < mk.length:=by rw [← a2.1];exact (List.getElem?_eq_some_iff.mp hp).1
 have hm:mk[j]? = some mk[j]:=List.getElem?_eq_getElem hj
 have e1:=a2.2 j p _ hp hm
 have e2:=b2.2 j q _ hq hm
 refine .inr ⟨p,q,_,_,rfl,rfl,.inr ⟨fL.of e1,fL.of e2⟩,rfl,λj' x y hx hy=>?_⟩
 rw [hx] at hy
 cases hy
 cases j' with
 | zero=>cases hx;exact ⟨rfl,.inl rfl⟩
 | succ j' =>
  cases j' with
  | zero=>cases hx;exact ⟨rfl,.inl rfl⟩
  | succ j'=>cases hx
theorem nQ {ms:List aC}:∀ {b:List Nat} {rs:List Str} {Gs:List eL},Chain ms b rs Gs -> b :: Gs.map (·.d.on) = Gs.map (·.before) ++ [i7 b Gs]
 | b,[],[],_=>rfl
 | b,r :: rs,G :: Gs,h=>by
  have ih:=nQ h.2.2.2
  have e:i7 b (G :: Gs) = i7 G.d.on Gs:=rfl
  rw [List.map_cons,ih,List.map_cons,e,h.2.1]
  rfl
 | _,[],_ :: _,h=>h.elim
 | _,_ :: _,[],h=>h.elim
def CL (H:Hp) (as:List Addr) (cs:List (List V)):Prop:=bB (λa c=>H a = some (.lst c)) as cs
theorem CL.same {H H':Hp} {as:List Addr} {cs:List (List V)} (h:CL H as cs) (s:ak H H'):CL H' as cs:=h.mono λ_ _ z=>s _ _ z
theorem qF {H:Hp} {as bs:List Addr} {cs:List (List V)} (h1:CL H as cs) (h2:CL H bs cs) (hf:∀ c ∈ cs,∀ x ∈ c,gv x = true):∀ (j:Nat) (x y:V),(as.map V.ref)[j]? = some x -> (bs.map V.ref)[j]? = some y -> jl K H 1 x y:=by
 intro j x y hx hy
 rw [List.getElem?_map] at hx hy
 obtain ⟨p,hp,rfl⟩:=Option.map_eq_some_iff.mp hx
 obtain ⟨q,hq,rfl⟩:=Option.map_eq_some_iff.mp hy
 have hj:j < cs.length:=by rw [← h1.1];exact (List.getElem?_eq_some_iff.mp hp).1
 have hm:cs[j]? = some cs[j]:=List.getElem?_eq_getElem hj
 refine .inr ⟨p,q,cs[j],cs[j],rfl,rfl,.inl ⟨aP.of (h1.2 j p _ hp hm),aP.of (h2.2 j q _ hq hm)⟩,rfl,λj' x y hx hy=>?_⟩
 rw [hx] at hy
 cases hy
 exact ⟨rfl,.inl (hf _ (List.getElem_mem hj) x (List.mem_of_getElem? hx))⟩
theorem A2 {H:Hp} {as bs:List Addr} {cs:List (List (Nat × Str))} (h1:bB (GM H) as cs) (h2:bB (GM H) bs cs):∀ (j:Nat) (x y:V),(as.map V.ref)[j]? = some x -> (bs.map V.ref)[j]? = some y -> jl K H 2 x y:=by
 intro j x y hx hy
 rw [List.getElem?_map] at hx hy
 obtain ⟨p,hp,rfl⟩:=Option.map_eq_some_iff.mp hx
 obtain ⟨q,hq,rfl⟩:=Option.map_eq_some_iff.mp hy
 have hj:j < cs.length:=by rw [← h1.1];exact (List.getElem?_eq_some_iff.mp hp).1
 have hm:cs[j]? = some cs[j]:=List.getElem?_eq_getElem hj
 obtain ⟨ps,a1,a2⟩:=h1.2 j p _ hp hm
 obtain ⟨qs,b1,b2⟩:=h2.2 j q _ hq hm
 exact .inr ⟨p,q,_,_,rfl,rfl,.inl ⟨aP.of a1,aP.of b1⟩,by rw [List.length_map,List.length_map,a2.1,b2.1],lG a2 b2⟩
theorem BS (os:List (List Nat)):∀ c ∈ os.map (λo=>o.map bD),∀ x ∈ c,gv x = true:=by
 intro c hc x hx
 obtain ⟨o,_,rfl⟩:=List.mem_map.mp hc
 obtain ⟨n,_,rfl⟩:=List.mem_map.mp hx
 rfl
theorem yy (Gs:List eL):∀ c ∈ Gs.map (λG=>G.d.az.map V.str),∀ x ∈ c,gv x = true:=by
 intro c hc x hx
 obtain ⟨o,_,rfl⟩:=List.mem_map.mp hc
 obtain ⟨n,_,rfl⟩:=List.mem_map.mp hx
 rfl
theorem JG {xs:List V} {j:Nat} (hj:j <= xs.length):yu xs none (some (j:Int)) = xs.take j:=by
 rw [yu,HT.EM,HT.Bs,Nat.min_eq_left hj];rfl
theorem lU {S:Addr -> Prop} {G H:Hp} (s:ak G H) (h:∀ b o,G b = some o -> ¬ S b):ak G (hid S H):=λb o e=>bS (s _ _ e) (h b o e)
theorem Ma {CX:qw} {k:Nat} {f:Addr} {fd:FuncData} {ps:List Str} {sp sp2:Sp} (F:bu P w K mg base CX k f fd ps sp) (F2:bu P w K mg base CX k f fd ps sp2):bu P w K mg base CX k f fd ps (λvs H Q E=>sp vs H Q E ∨ sp2 vs H Q E) :=
 ⟨λvs H Q E h=>h.elim (F.len vs H Q E) (F2.len vs H Q E),λA outer s H args us vs Q E hr e0 hb r h=>h.elim (λh=>F.run A outer s H args us vs Q E hr e0 hb r h) (λh=>F2.run A outer s H args us vs Q E hr e0 hb r h)⟩
theorem kg (T:Txt K mg t):bu P w K mg base (qu P w) 7 t.kj t.pM ["self","rules","rows"] (λvs H Q E=>xm t vs H Q E ∨ zg t vs H Q E):=Ma (kc T) (DV T).calm
def lC (ms:List aC):Str:=if eN ms = none then "let by" else "rings"
noncomputable def Ag (t:gq):Sp:=λvs H Q _=>∃ (r lr:Addr) (ms:List aC) (rs:List Str),vs = [.ref r,.ref lr] /\ IsRules t H r ms /\ cW ms /\ H lr = some (.lst (rs.map V.str)) /\ rs.length <= 1000 /\ (eN ms = none -> ∃ Gs,Chain ms [0] rs Gs) /\ ∀ H',ak H H' -> Q (.str (lC ms)) H'
theorem ID (T:Txt K mg t):bu P w K mg base dZ 9 t.qf t.wK ["_law_rules_here","_law_rows"] (Ag t):=by
 refine T.wk.ok sI ?_ ?_
 walk_at "i"
 ·obtain ⟨r,lr,ms,rs,rfl,hR,G,hlr,hrl,hC,q⟩:=h
  refine @ay _ _ _ _ _ _ _ (aF (i:=2) sI.nd rfl (Or.inl rfl) aN) ?_
  show At _ _ _ [some (.ref r),some (.ref lr),some (.str "let by"),none] H
  refine @aB _ _ _ _ _ _ _ (λZ' H'=>ak H H' /\ ∃ y,Z' = [some (.ref r),some (.ref lr),some (.str (lC ms)),y]) (EI (i:=3) rfl rfl sI.nd rfl rfl rfl T.kr (by decide) T.wB.at_) ?_ ?_
  ·refine ⟨λZ' C e H'=>Z' = [some (.ref r),some (.ref lr),some (.str "let by"),none] /\ C = t.aX /\ ak H H' /\ eN ms ≠ none /\ ∃ dx fs,H' e = some (jb e t.aX (some dx)) /\ H' dx = some (.xd fs),λpins=>?_,?_⟩
   ·refine @au _ _ _ _ _ _ (bq (Ca T.jO (kg T) (hr.mono (by decide)) rfl T.p6 (T.qO.binds (by walk_at "3")) .nil (aa (pv 0) (aa (pv 1) ah)))) ⟨_,rfl,_,rfl,λCv eo H'=>∃ e,Cv = .ref t.aX /\ eo = some e /\ ak H H' /\ eN ms ≠ none /\ ∃ dx fs,H' e = some (jb e t.aX (some dx)) /\ H' dx = some (.xd fs),Ej rfl rfl (λC e H'=>?_),λx dx nx ndx ne=>?_⟩
    ·rintro ⟨e2,z1,z2,h3⟩
     cases z1
     cases z2
     exact ⟨rfl,rfl,h3⟩
    ·cases hm:eN ms with
     | none =>
      obtain ⟨Gs,hC⟩:=hC hm
      refine .inr ⟨x,dx,r,lr,λ_=>False,ms,rs,Gs,rfl,af,(λz=>z),Ex.none _,?_,G,hm,bE nx ndx _ _ hlr,by omega,hC,λa1 lg gs H6 I6 f6 a6=>⟨rfl,?_⟩⟩
      ·exact hR.same (lU (bE nx ndx) λb o e z=>z.elim (λz=>z) (λz=>aj e nx z))
      ·refine ⟨λb o hb=>a6 b o (bE nx ndx _ _ hb) (aj hb nx),none,?_⟩
       rw [lC,if_pos hm]
     | some rr =>
      refine .inl ⟨x,dx,r,ms,.ref lr,rr.1,rr.2,rfl,af,hR.same (bE nx ndx),G,hm,λe dx2 l2 H' h1 h2 h3 h4=>?_⟩
      exact ⟨e,rfl,rfl,(bE nx ndx).trans h4,(by intro z;cases z),dx2,_,h1,h2⟩
   ·rintro Z' C e H3 ⟨rfl,rfl,s3,hm,dx,fs,he,hx⟩
    refine ⟨T.jP.at_,T.fK,?_⟩
    refine @au _ _ _ _ _ _ (aF (i:=2) sI.nd rfl (Or.inl rfl) (bZ (ji (aO A1 (by rfl) T.i9 (by decide +kernel) (aa (pv 3) (aa (jS rfl T.qS (v:=V.ref _) rfl) ah)))) aN aN)) ⟨_,rfl,e,_,some dx,_,true,rfl,he,(λd z=>by cases z;exact ⟨_,hx⟩),T.jP,T.iz,true,rfl,xO ⟨s3,?_⟩⟩
    rw [lC,if_neg hm]
    exact ⟨_,rfl⟩
  rintro Z' H3 ⟨s3,y,rfl⟩
  exact @au _ _ _ _ _ _ (aH (pv 2)) ⟨_,rfl,q H3 s3⟩
theorem rO {n:Nat} {x:kG} (O:Ad n x) {c:Nat} (hc:c ≠ 97 /\ c ≠ 98 /\ c ≠ 40):cF x.sort x.z ⟨#[c]⟩ 0 = if x.sort = "any" then .int 1 else if x.sort = "still" then .int 0 else if x.sort = "none" then .int 1 else .cL:=by
 have hcz:c ∉ x.z.cps.toList:=λh=>by have:=O.zs c h;omega
 have e1:(⟨#[c]⟩:Str).cps.toList[0]? = some c:=rfl
 rcases dw O.sort with e | e | e | e | e | e | e
 ·rw [e,if_neg (by decide),if_neg (by decide),if_neg (by decide),cF,if_neg (by decide),if_pos rfl,if_neg]
  intro h
  have hz:=O.z1
  have:c ∈ x.z.cps.toList:=by
   rw [← h]
   obtain ⟨k,hk⟩:∃ k,x.z.length = k + 1:=⟨x.z.length - 1,by omega⟩
   rw [hk]
   exact List.mem_cons_self ..
  exact hcz this
 ·rw [e,if_neg (by decide),if_neg (by decide),if_neg (by decide),dJ (by decide) (by decide) e1,if_neg (by decide),if_neg (by decide),if_neg hcz]
 ·rw [e,if_neg (by decide),if_neg (by decide),if_pos rfl,dJ (by decide) (by decide) e1,if_neg (by decide),if_pos rfl,if_neg hcz]
 ·rw [e,if_neg (by decide),if_neg (by decide),if_neg (by decide),dJ (by decide) (by decide) e1,if_neg (by decide),if_neg (by decide),if_neg hcz]
 ·rw [e,if_pos rfl,dJ (by decide) (by decide) e1,if_pos (.inl rfl),if_pos rfl]
 ·rw [e,if_neg (by decide),if_pos rfl,dJ (by decide) (by decide) e1,if_pos (.inr rfl),if_neg (by decide)]
 ·rw [e,if_neg (by decide),if_neg (by decide),if_neg (by decide),cF,if_pos rfl];rfl
theorem rP {n:Nat} {x:kG} (O:Ad n x) {c d:Nat} (hc:c ≠ 97 /\ c ≠ 98 /\ c ≠ 40) (hd:d ≠ 97 /\ d ≠ 98 /\ d ≠ 40):iA x ⟨#[c]⟩ 0 = iA x ⟨#[d]⟩ 0:=by
 unfold iA
 rw [rO O hc,rO O hd]
theorem xP {names:List Str} {C:List MD} (L:j8 names C) (k:Nat) {c d:Nat} (hc:c ≠ 97 /\ c ≠ 98 /\ c ≠ 40) (hd:d ≠ 97 /\ d ≠ 98 /\ d ≠ 40):bO (cY names C) k ⟨#[c]⟩ = bO (cY names C) k ⟨#[d]⟩:=by
 unfold bO
 cases hm:(cY names C)[k]? with
 | none=>rfl
 | some m =>
  obtain ⟨n,cm,h1,h2,rfl⟩:=L.look hm
  have O:=L.ok cm (List.mem_of_getElem? h2)
  show e8 (cm.rs.map r9) _ = e8 (cm.rs.map r9) _
  rw [Cz O,Cz O]
  have e:cm.rs.filter (g7 ⟨#[c]⟩ 0) = cm.rs.filter (g7 ⟨#[d]⟩ 0):=by
   refine List.filter_congr λx hx=>?_
   unfold g7
   rw [rP (O x hx) hc hd]
  rw [e]
  cases hh:(cm.rs.filter (g7 ⟨#[d]⟩ 0)).head? with
  | none=>rfl
  | some x =>
   have hx:=(List.mem_filter.mp (head_mem hh)).1
   show (if 0 < iA x ⟨#[c]⟩ 0 then none else some (r9 x)) = if 0 < iA x ⟨#[d]⟩ 0 then none else some (r9 x)
   rw [rP (O x hx) hc hd]
theorem oE {names:List Str} {C:List MD} (L:j8 names C) {c d:Nat} (hc:c ≠ 97 /\ c ≠ 98 /\ c ≠ 40) (hd:d ≠ 97 /\ d ≠ 98 /\ d ≠ 40):∀ (f:Nat) (on:List Nat),bN (cY names C) ⟨#[c]⟩ f on = bN (cY names C) ⟨#[d]⟩ f on
 | 0,_=>rfl
 | f + 1,on=>by
  rw [bN,bN,xP L (bg on) hc hd]
  cases bO (cY names C) (bg on) ⟨#[d]⟩ with
  | none=>rfl
  | some R=>exact oE L hc hd f _
abbrev iF:List Str:=["","a","b","(","z"]
theorem m7:∀ r ∈ iF,r ∈ di /\ r.length <= 1:=by decide +kernel
theorem Ks {names:List Str} {C:List MD} (L:j8 names C) (h:eN (cY names C) = none) {row:Str} (hr:row ∈ iF) {b:Nat} (hb:b < C.length):bN (cY names C) row 40 (nJ b) = true:=by
 have hml:=jc L.len
 have h3:=L.three
 have hp:=L.pos
 have hok:fV (cY names C) (nJ b):=by
  unfold nJ
  by_cases z:b = 0
  ·rw [if_pos z];exact ⟨by simp,λx hx=>by rw [List.mem_singleton.mp hx,hml];exact hb⟩
  ·rw [if_neg z]
   refine ⟨by simp,λx hx=>?_⟩
   rw [hml]
   simp only [List.mem_cons,List.not_mem_nil,or_false] at hx
   rcases hx with rfl | rfl | rfl | rfl
   ·exact hp
   ·exact hp
   ·exact hp
   ·exact hb
 have hl:(nJ b).length <= 4:=by unfold nJ;split <;> simp
 refine i6 _ _ _ (B0 L.fit.good (nX h row (m7 row hr).1) _ _ rfl hok) ?_
 rw [hml]
 have:C.length * ((nJ b).length + 1) <= 3 * 5:=Nat.mul_le_mul h3 (by omega)
 omega
theorem lI {ms:List aC} {row:Str}:∀ {n k:Nat} {x},fW ms row n k = some x -> ∃ j r,k <= j /\ j < k + n /\ bU ms j row = some r
 | 0,k,x,h=>by cases h
 | n + 1,k,x,h=>by
  rw [fW] at h
  cases e:bU ms k row with
  | some r=>exact ⟨k,r,Nat.le_refl _,by omega,e⟩
  | none =>
   rw [e] at h
   obtain ⟨j,r,h1,h2,h3⟩:=lI h
   exact ⟨j,r,by omega,by omega,h3⟩
theorem ki {ms:List aC}:∀ {rows:List Str} {x},gJ ms rows = some x -> ∃ row ∈ rows,∃ j r,j < ms.length /\ bU ms j row = some r
 | [],x,h=>by cases h
 | row :: rows,x,h=>by
  rw [gJ] at h
  cases e:fW ms row ms.length 0 with
  | some r =>
   obtain ⟨j,r,h1,h2,h3⟩:=lI e
   exact ⟨row,by simp,j,r,by omega,h3⟩
  | none =>
   rw [e] at h
   obtain ⟨row',h1,h2⟩:=ki h
   exact ⟨row',List.mem_cons_of_mem _ h1,h2⟩
theorem Jq {names:List Str} {C:List MD} (L:j8 names C) (h:eN (cY names C) ≠ none):∃ row ∈ iF,∃ b,b < C.length /\ bN (cY names C) row 40 (nJ b) = false:=by
 have hml:=jc L.len
 obtain ⟨x,hx⟩:∃ x,eN (cY names C) = some x:=by
  cases e:eN (cY names C) with
  | none=>exact absurd e h
  | some x=>exact ⟨x,rfl⟩
 obtain ⟨row,hrow,j,r,hj,hr⟩:=ki hx
 rw [hml] at hj
 have never:bN (cY names C) row 40 (nJ j) = false:=by
  unfold nJ
  rcases yZ hr with a | ⟨e,a⟩
  ·by_cases z:j = 0
   ·rw [if_pos z];exact a 40 []
   ·rw [if_neg z];exact a 40 [0,0,0]
  ·rw [if_pos e,e];exact a 40
 rcases List.mem_cons.mp hrow with rfl | hrow
 ·exact ⟨"",by simp,j,hj,never⟩
 ·obtain ⟨c,hc,rfl⟩:=List.mem_map.mp hrow
  by_cases h1:c = 97
  ·exact ⟨"a",by simp,j,hj,by rw [h1] at never;exact never⟩
  by_cases h2:c = 98
  ·exact ⟨"b",by simp,j,hj,by rw [h2] at never;exact never⟩
  by_cases h3:c = 40
  ·exact ⟨"(",by simp,j,hj,by rw [h3] at never;exact never⟩
  ·refine ⟨"z",by simp,j,hj,?_⟩
   rw [show (Str.ofString "z") = ⟨#[122]⟩ by decide +kernel,← oE L ⟨h1,h2,h3⟩ (by decide)]
   exact never
theorem KQ {names:List Str} {C:List MD} (L:j8 names C) (h:eN (cY names C) = none) (r:Str) (hr:∀ c ∈ r.cps.toList,c ∈ je.cps.toList):k7 (cY names C) r:=by
 refine ⟨L.fit.good,by rw [jc L.len];exact L.three,λm hm R hR hb=>?_,nX h,hr⟩
 have g:=(L.fit.rule m hm R hR).pat
 exact (g.sg hb).1
theorem pV:∀ (cs:List Nat),(Str.join "" (cs.map λc=>(⟨#[c]⟩:Str))).cps.toList = cs
 | []=>by decide +kernel
 | [c]=>rfl
 | c :: d :: r=>by
  have ih:=pV (d :: r)
  show ((⟨#[c]⟩:Str) ++ "" ++ Str.join "" ((d :: r).map λc=>(⟨#[c]⟩:Str))).cps.toList = _
  rw [fY,fY,ih,show (Str.ofString "").cps.toList = [] from by decide +kernel]
  rfl
theorem rD:∀ (cs:List Nat),((cs.map λc=>(⟨#[c]⟩:Str)).map (·.length)).sum = cs.length
 | []=>rfl
 | c :: r=>by
  rw [List.map_cons,List.map_cons,List.sum_cons,rD r,List.length_cons]
  show 1 + _ = _
  omega
theorem MQ {d:Int} (h0:0 <= d) (h1:d < 3):∃ n,yu (names3.map V.str) none (some (1 + d)) = (names3.take n).map V.str /\ 0 < (names3.take n).length /\ (names3.take n).length <= 3:=by
 obtain ⟨k,rfl⟩:∃ k:Nat,d = k:=⟨d.toNat,by omega⟩
 refine ⟨1 + k,?_,?_,?_⟩
 ·rw [show ((1:Int) + (k:Int)) = ((1 + k:Nat):Int) by omega,JG (by rw [List.length_map];show 1 + k <= 3;omega),List.map_take]
 ·rw [List.length_take];show 0 < min (1 + k) 3;omega
 ·rw [List.length_take];show min (1 + k) 3 <= 3;omega
theorem Ji {d:Int} (h0:0 <= d) (h1:d < 4):∃ c,(c ∈ [97,98,40,122]) /\ qv (Str.ofString "ab(z").cps.toList d = some c:=by
 obtain ⟨k,rfl⟩:∃ k:Nat,d = k:=⟨d.toNat,by omega⟩
 have e:(Str.ofString "ab(z").cps.toList = [97,98,40,122]:=by decide +kernel
 rw [e]
 rcases k with _ | _ | _ | _ | k
 ·exact ⟨97,by simp,rfl⟩
 ·exact ⟨98,by simp,rfl⟩
 ·exact ⟨40,by simp,rfl⟩
 ·exact ⟨122,by simp,rfl⟩
 ·omega
def Gf (rs:List Str):Prop:=∀ x ∈ rs,x.length <= 8 /\ ∀ c ∈ x.cps.toList,c ∈ je.cps.toList
theorem MR {ms:List aC} (h:0 < ms.length):fV ms [0]:=⟨by simp,λx hx=>by rw [List.mem_singleton.mp hx];exact h⟩
def D9 (H:Hp) (p:Addr) (G:eL):Prop:=∃ lb lt lk lo,H p = some (.tup [.ref lb,.ref lt,.ref lk,.ref lo]) /\ H lb = some (.lst (G.before.map bD)) /\ H lt = some (.lst (G.d.az.map V.str)) /\ GM H lk G.d.marks /\ H lo = some (.lst (G.d.on.map bD))
theorem D9.same {H H':Hp} {p:Addr} {G:eL} (h:D9 H p G) (s:ak H H'):D9 H' p G:=let ⟨lb,lt,lk,lo,a,b,c,d,e⟩:=h;⟨lb,lt,lk,lo,s _ _ a,s _ _ b,s _ _ c,d.same s,s _ _ e⟩
theorem rF:∀ {ms:List aC} {b:List Nat} {rs:List Str} {Gs:List eL} {j:Nat} {G:eL},Chain ms b rs Gs -> Gs[j]? = some G -> G.before = i7 b (Gs.take j) /\ i7 b (Gs.take (j + 1)) = G.d.on /\ zU ms G /\ rs[j]? = some G.row
 | ms,b,r :: rs,G :: Gs,0,G',h,hG=>by cases hG;exact ⟨h.2.1,rfl,h.2.2.1,by rw [h.1];rfl⟩
 | ms,b,r :: rs,G :: Gs,j + 1,G',h,hG=>by
  have:=rF (b:=G.d.on) (rs:=rs) (Gs:=Gs) (j:=j) h.2.2.2 (by simpa using hG)
  exact ⟨this.1,this.2.1,this.2.2.1,by simpa using this.2.2.2⟩
 | ms,b,[],[],j,G',h,hG=>by simp at hG
 | ms,b,[],_ :: _,_,_,h,_=>h.elim
 | ms,b,_ :: _,[],_,_,h,_=>h.elim
noncomputable def zR (K:PySem.W.Frag):Sp:=λvs H Q _=>∃ (a:Addr) (ns:List Int),vs = [.ref a] /\ aP K H a (ns.map V.int) /\ ns.length <= 63 /\ ∀ H',Q (.bl true) H'
theorem GK {f:Addr} {fd:FuncData} (F:bK K "law" "law" mU f fd) (T:Txt K mg t):bu P w K mg base dZ 10 f fd ["_law_script"] (zR K):=by
 refine F.ok d9 ?_ ?_
 walk_at "i"
 ·obtain ⟨a,ns,rfl,hS,hl,q⟩:=h
  have sz:=sizeLine_eq
  refine @aB _ _ _ _ _ _ _ (λZ' H'=>∃ (names:List Str) (ln:Addr),(∃ n,names = names3.take n) /\ 0 < names.length /\ names.length <= 3 /\ H' ln = some (.lst (names.map V.str)) /\ ak H H' /\ Z' = [some (.ref a),some (.ref ln),none,none,none,none,none,none,none,none,none,none,none,none]) (@aF _ _ 1 _ _ _ _ d9.nd rfl (Or.inl rfl) (@wX _ _ _ _ _ _ _ _ _ _ Fe (@bf _ _ _ _ (@iG _ _ ["a","ab","x"] rfl)) FO (@sj _ _ _ (@bz _ _ _ _ _ _ _ _ cT ao (@aM _ _ _ _ _ _ _ _ _ _ _ _ _ _ _ _ (gR T) (hr.mono (by decide)) rfl T.gP T.dM.kp (T.dM.binds (by walk_at "3")) .nil aG (@aa _ _ _ _ _ (pv 0) (@aa _ _ _ _ _ ao (@aa _ _ _ _ _ ao ah (by left)) (by left)) (by left)) (by left) (by left) (by left))))) (by left) (by left)) ?_ ?_
  ·refine ⟨by show 3 <= sizeLine;decide,λl0 g0=>⟨_,rfl,a,ns,_,_,rfl,hS.same (ak.upd g0),(by decide),(by decide),(by decide),(by decide),hl,λd H1 h0 h1 s1=>⟨_,_,rfl,rfl,_,rfl,l0,_,rfl,aP.of (s1 _ _ af),λln gn=>?_⟩⟩⟩
   obtain ⟨n,e1,e2,e3⟩:=MQ h0 h1
   exact ⟨names3.take n,ln,⟨n,rfl⟩,e2,e3,by rw [af];exact congrArg (λx=>some (HO.lst x)) e1,((ak.upd g0).trans s1).to gn,rfl⟩
  rintro Z' H1 ⟨names,ln,hnm,hn0,hn3,hln,s1,rfl⟩
  refine @aB _ _ _ _ _ _ _ (λZ' H'=>∃ (C:List MD) (lm:Addr),j8 names C /\ GL H' lm C /\ ak H1 H' /\ Z' = [some (.ref a),some (.ref ln),some (.str (Str.join ⟨#[10]⟩ (rowsOf (itemsOf (cY names C))))),some (.ref lm),none,none,none,none,none,none,none,none,none,none]) (CO (aM (GY T) (hr.mono (by decide)) rfl T.Ih T.vv.kp (T.vv.binds (by walk_at "2")) .nil aG (aa (pv 0) (aa (pv 1) ah))) (yJ rfl (iT (b9 (i:=2) d9.nd rfl (Or.inl rfl)) (iT (b9 (i:=3) d9.nd rfl (Or.inr rfl)) tO)))) ⟨_,rfl,_,rfl,a,ln,ns,names,rfl,hS.same s1,hl,hln,hnm,hn0,hn3,λtp lm C H2 L htp hM s2=>⟨tp,_,rfl,fL.of htp,rfl,_,_,rfl,_,_,rfl,rfl,C,lm,L,hM,s2,rfl⟩⟩ ?_
  rintro Z' H2 ⟨C,lm,L,hM2,s2,rfl⟩
  have B:=L.fit
  have GG:=B.good
  have hml:=jc L.len
  have h3:=L.three
  refine @aB _ _ _ _ _ _ _ (λZ' H'=>∃ r,IsRules t H' r (cY names C) /\ ak H2 H' /\ Z' = [some (.ref a),some (.ref ln),some (.str (Str.join ⟨#[10]⟩ (rowsOf (itemsOf (cY names C))))),some (.ref lm),some (.ref r),none,none,none,none,none,none,none,none,none]) (aF (i:=4) d9.nd rfl (Or.inl rfl) (aM (I9 T) (hr.mono (by decide)) rfl T.J5 T.wV.kp (T.wV.binds (by walk_at "1")) .nil aG (aa (pv 2) ah))) ⟨_,rfl,itemsOf (cY names C),rfl,B.items,B.Ju,λr H3 hR s3=>⟨r,by rw [yN] at hR;exact hR,s3,rfl⟩⟩ ?_
  rintro Z' H3 ⟨r,hR3,s3,rfl⟩
  have hM3:=hM2.same s3
  have hln3:=(s2.trans s3) _ _ hln
  have hS3:=hS.same ((s1.trans s2).trans s3)
  obtain ⟨tx,etx⟩:∃ tx,tx = Str.join ⟨#[10]⟩ (rowsOf (itemsOf (cY names C))):=⟨_,rfl⟩
  rw [← etx]
  clear etx s1 s2 s3 hM2 hln hS hnm
  refine @aB _ _ _ _ _ _ _ (λZ' H'=>∃ lr,H' lr = some (.lst []) /\ H3 lr = none /\ ak H3 H' /\ Z' = [some (.ref a),some (.ref ln),some (.str tx),some (.ref lm),some (.ref r),some (.ref lr),none,none,none,none,none,none,none,none]) (aF (i:=5) d9.nd rfl (Or.inl rfl) (bf ah)) ⟨by show 0 <= sizeLine;decide,λl hl0=>⟨l,af,hl0,ak.upd hl0,rfl⟩⟩ ?_
  rintro Z' H4 ⟨lr,hlr4,flr,s4,rfl⟩
  have hh:∀ {H'},ak H3 (hid (λc=>c = lr) H') -> aP K H' a (ns.map V.int):=λs'=>(hS3.same s').same aR
  refine @aB _ _ _ _ _ _ _ (λZ' H'=>∃ (rs:List Str) (y6 y7:Option V),rs ≠ [] /\ rs.length <= 3 /\ Gf rs /\ H' lr = some (.lst (rs.map V.str)) /\ ak H3 (hid (λc=>c = lr) H') /\ Z' = [some (.ref a),some (.ref ln),some (.str tx),some (.ref lm),some (.ref r),some (.ref lr),y6,y7,none,none,none,none,none,none]) (dU PassesOwn.never rfl (eV rfl T.gb (aa (bz cT ao (aM (gR T) (hr.mono (by decide)) rfl T.gP T.dM.kp (T.dM.binds (by walk_at "3")) .nil aG (aa (pv 0) (aa ao (aa ao ah))))) ah)) (b9 (i:=6) d9.nd rfl (Or.inr rfl)) av) ?_ ?_
  ·refine ⟨_,rfl,a,ns,_,_,rfl,hS3.same s4,(by decide),(by decide),(by decide),(by decide),hl,λd H5 h0 h5 s5=>⟨_,_,rfl,rfl,1 + d,rfl,by omega,by omega,fJ (n:=(1 + d).toNat) (λj Z' H'=>∃ (rs:List Str) (y6 y7:Option V),rs.length = j /\ Gf rs /\ H' lr = some (.lst (rs.map V.str)) /\ ak H3 (hid (λc=>c = lr) H') /\ Z' = [some (.ref a),some (.ref ln),some (.str tx),some (.ref lm),some (.ref r),some (.ref lr),y6,y7,none,none,none,none,none,none]) ⟨[],_,_,rfl,(λx hx=>by cases hx),s5 _ _ hlr4,lU (s4.trans s5) (λb o hb z=>aj hb flr z),rfl⟩ ?_ ?_⟩⟩
   ·rintro j Z' H6 hj ⟨rs,y6,y7,hrj,hrs,hlr6,s6,rfl⟩
    have hj3:j < 3:=by omega
    refine @aB _ _ _ _ _ _ _ (λZ' H'=>∃ sz:Nat,sz <= 8 /\ ak H6 H' /\ Z' = [some (.ref a),some (.ref ln),some (.str tx),some (.ref lm),some (.ref r),some (.ref lr),some (.int (0 + (j:Int))),some (.int sz),none,none,none,none,none,none]) (aF (i:=7) d9.nd rfl (Or.inl rfl) (aM (gR T) (hr.mono (by decide)) rfl T.gP T.dM.kp (T.dM.binds (by walk_at "3")) .nil aG (aa (pv 0) (aa (bz cT ao (pv 6)) (aa ao ah))))) ⟨_,rfl,_,rfl,_,_,rfl,rfl,a,ns,_,_,rfl,hh s6,(by omega),(by omega),(by decide),(by decide),hl,λd H7 h0 h7 s7=>⟨d.toNat,by omega,s7,by rw [show (d.toNat:Int) = d by omega];rfl⟩⟩ ?_
    rintro Z' H7 ⟨sz,hsz,s7,rfl⟩
    have hlr7:=s7 _ _ hlr6
    have s37:=s6.trans (cA s7)
    refine @au _ _ _ _ _ _ (@bq _ _ _ _ (@dc _ _ _ _ _ _ _ _ _ _ _ _ PySem.F.plainAttrs_list PySem.F.slot_list_append PySem.F.type_list_append bF (pv 5) (@aa _ _ _ _ _ (@dc _ _ _ _ _ _ _ _ _ _ _ _ PySem.F.plainAttrs_str PySem.F.slot_str_join PySem.F.type_str_join tF aN (@aa _ _ _ _ _ (@eZ _ (aq mU) _ ["_law_script","_law_names","_law_text","_law_modes","_law_rules_here","_law_rows","_law_k","_law_size","_law_stands_here","_law_row","_law_told","_law_stack","_law_due","_law_tinted"] _ _ ("_law_i") _ _ [("_law_script",0),("_law_k",6)] _ _ (by walk_at "ck") (@eV _ _ _ _ _ _ rfl T.gb (@aa _ _ _ _ _ (pv 7) ah (by left)) (by left)) (λ_ _ _ _=>by exact (@aK _ _ _ _ _ _ _ kM aN (@aM _ _ _ _ _ _ _ _ _ _ _ _ _ _ _ _ (gR T) (hr.mono (by decide)) rfl T.gP T.dM.kp (T.dM.binds (by walk_at "3")) .nil aG (@aa _ _ _ _ _ (pv 0) (@aa _ _ _ _ _ (@bz _ _ _ _ _ _ _ _ cT (@bz _ _ _ _ _ _ _ _ cT ao (@bz _ _ _ _ _ _ _ _ jK ao (pv 1))) (pv 2)) (@aa _ _ _ _ _ ao ah (by left)) (by left)) (by left)) (by left) (by left) (by left)) (λ_ _=>rfl))) (by left) (by left) (by left) (by left)) ah (by left)) (by left) (by left) (by left) (by left) (by left)) ah (by left)) (by left) (by left) (by left) (by left) (by left)) (by left)) ⟨_,rfl,.inl ⟨rfl,_,aP.of hlr7⟩,rfl,_,rfl,sz,rfl,by omega,by omega,yk (n:=sz) (λi ys H'=>∃ cs:List Nat,ys = (cs.map λc=>(⟨#[c]⟩:Str)).map V.str /\ cs.length = i /\ (∀ c ∈ cs,c ∈ [97,98,40,122]) /\ ak H7 H') ⟨[],rfl,rfl,(λc h=>by cases h),ak.refl _⟩ (cE (by omega)) ?_ ?_⟩
    ·rintro i ys H8 hi hyl ⟨cs,rfl,hcl,hcs,s8⟩
     refine ⟨_,rfl,_,rfl,_,_,rfl,rfl,.inl ⟨by decide,by decide⟩,_,_,rfl,rfl,_,rfl,_,_,rfl,rfl,a,ns,_,_,rfl,(hh s37).same s8,(by omega),(by omega),(by decide),(by decide),hl,λd H9 h0 h9 s9=>?_⟩
     obtain ⟨c,hc,e⟩:=Ji h0 h9
     refine ⟨_,_,c,rfl,rfl,by decide,e,cR hi hyl ⟨cs ++ [c],by rw [List.map_append,List.map_append];rfl,by rw [List.length_append,hcl];rfl,λy hy=>?_,s8.trans s9⟩⟩
     rcases List.mem_append.mp hy with z | z
     ·exact hcs y z
     ·rw [List.mem_singleton.mp z];exact hc
    ·rintro ys H8 hyl ⟨cs,rfl,hcl,hcs,s8⟩ D hD
     refine ⟨_,D,_,rfl,rfl,aP.of af,?_,?_⟩
     ·rw [rD,show (Str.ofString "").length = 0 by decide +kernel]
      exact bL (by omega)
     ·rw [join_eq]
      have s9:=s8.to (o:=.lst ((cs.map λc=>(⟨#[c]⟩:Str)).map V.str)) hD
      have hlr9:=s9 _ _ hlr7
      have s39:=s37.trans (cA s9)
      generalize upd H8 D (.lst ((cs.map λc=>(⟨#[c]⟩:Str)).map V.str)) = H9 at s9 hlr9 s39
      have ejs:=pV cs
      refine ⟨lr,_,_,rfl,rfl,hlr9,cE (by rw [List.length_map];omega),rs ++ [Str.join "" (cs.map λc=>(⟨#[c]⟩:Str))],_,_,by rw [List.length_append,hrj];rfl,λx hx=>?_,by rw [af,List.map_append];rfl,by rw [g9 (S:=λc=>c = lr) rfl];exact s39,rfl⟩
      rcases List.mem_append.mp hx with z | z
      ·exact hrs x z
      ·rw [List.mem_singleton.mp z]
       refine ⟨by rw [← dB,ejs];omega,λc hc=>?_⟩
       rw [ejs] at hc
       exact (show ∀ c ∈ [97,98,40,122],c ∈ je.cps.toList by decide +kernel) c (hcs c hc)
   ·rintro Z' H6 ⟨rs,y6,y7,hrj,hrs,hlr6,s6,rfl⟩
    exact ⟨rs,y6,y7,(λz=>by rw [z] at hrj;simp at hrj;omega),by omega,hrs,hlr6,s6,rfl⟩
  rintro Z' H5 ⟨rs,y6,y7,hne,hrl,hrs,hlr,s5,rfl⟩
  have hM5:=(hM3.same s5).same aR
  have hR5:=hR3.same s5
  have hln5:=aR _ _ (s5 _ _ hln3)
  clear s4 s5 hM3 hln3 hS3 hR3 hlr4 flr hh
  have hR5:=hR5.same aR
  refine @aB _ _ _ _ _ _ _ (λZ' H'=>∃ ls,H' ls = some (.lst []) /\ ak H5 H' /\ Z' = [some (.ref a),some (.ref ln),some (.str tx),some (.ref lm),some (.ref r),some (.ref lr),y6,y7,some (.ref ls),none,none,none,none,none]) (aF (i:=8) d9.nd rfl (Or.inl rfl) (bf ah)) ⟨by show 0 <= sizeLine;decide,λl hl0=>⟨l,af,ak.upd hl0,rfl⟩⟩ ?_
  rintro Z' H6 ⟨EA,hls6,s6,rfl⟩
  refine @aB _ _ _ _ _ _ _ (λZ' H'=>∃ (ls:Addr) (zs:List Nat) (y9:Option V),H' ls = some (.lst (zs.map bD)) /\ (zs = [] ↔ ∀ row ∈ iF,∀ b,b < C.length -> bN (cY names C) row 40 (nJ b) = true) /\ ak H5 H' /\ Z' = [some (.ref a),some (.ref ln),some (.str tx),some (.ref lm),some (.ref r),some (.ref lr),y6,y7,some (.ref ls),y9,none,none,none,none]) (@dU _ _ _ _ _ _ _ _ PassesOwn.never rfl (@cH _ _ _ _ (@bf _ _ _ _ (@iG _ _ ["","a","b","(","z"] rfl))) (@b9 _ _ 9 _ d9.nd rfl (Or.inr rfl) (by left)) av (by left)) ?_ ?_
  ·refine ⟨by show 5 <= sizeLine;decide,λl5 g5=>?_⟩
   have s7:=s6.to (o:=.lst (iF.map V.str)) g5
   have hl5:upd H6 l5 (.lst (iF.map V.str)) l5 = some (.lst (iF.map V.str)):=af
   have hls7:=ak.upd (o:=.lst (iF.map V.str)) g5 _ _ hls6
   refine ⟨l5,rfl,⟨_,aP.of af⟩,ic (xs:=iF.map V.str) (λj Z' H'=>∃ (ls:Addr) (zs:List Nat) (y9:Option V),H' ls = some (.lst (zs.map bD)) /\ (zs = [] ↔ ∀ row ∈ iF.take j,∀ b,b < C.length -> bN (cY names C) row 40 (nJ b) = true) /\ zs.length <= 3 * j /\ ak (upd H6 l5 (.lst (iF.map V.str))) H' /\ Z' = [some (.ref a),some (.ref ln),some (.str tx),some (.ref lm),some (.ref r),some (.ref lr),y6,y7,some (.ref ls),y9,none,none,none,none]) ⟨EA,[],_,hls7,⟨λ_ row h=>(by cases h),λ_=>rfl⟩,Nat.le_refl _,ak.refl _,rfl⟩ ?_ ?_ ?_⟩
   ·rintro j Z' H' _ ⟨_,_,_,_,_,_,s',_⟩
    exact aP.of (s' _ _ hl5)
   ·rintro j v Z' H8 hv ⟨ls,zs,y9,hls8,hzs,hzl,s8,rfl⟩
    rw [List.getElem?_map] at hv
    obtain ⟨row,hrow,rfl⟩:=Option.map_eq_some_iff.mp hv
    have hj5:j < 5:=(List.getElem?_eq_some_iff.mp hrow).1
    have hrm:=List.mem_of_getElem? hrow
    have hrl1:=(m7 row hrm).2
    have s58:=s7.trans s8
    have htk:=take_snoc hrow
    refine @au _ _ _ _ _ _ (@aF _ _ 8 _ _ _ _ d9.nd rfl (Or.inl rfl) (@bz _ _ _ _ _ _ _ _ kQ (pv 8) (@mj _ (aq mU) _ ["_law_script","_law_names","_law_text","_law_modes","_law_rules_here","_law_rows","_law_k","_law_size","_law_stands_here","_law_row","_law_told","_law_stack","_law_due","_law_tinted"] _ _ _ ("_law_k") _ _ [("_law_modes",3),("_law_row",9)] _ _ _ (by walk_at "ck") (@eV _ _ _ _ _ _ rfl T.gb (@aa _ _ _ _ _ (@aO _ _ _ _ _ _ _ _ _ bh (by rfl) T.bW (by decide +kernel) (@aa _ _ _ _ _ (pv 1) ah (by left)) (by left) (by left) (by left) (by left)) ah (by left)) (by left)) (λ_ _ _ _=>by exact (@ji _ _ _ (@aM _ _ _ _ _ _ _ _ _ _ _ _ _ _ _ _ (IT T) (hr.mono (by decide)) rfl T.IU T.uB.kp (T.uB.binds (by walk_at "3")) .nil aG (@aa _ _ _ _ _ (pv 0) (@aa _ _ _ _ _ (pv 2) (@aa _ _ _ _ _ (pv 1) ah (by left)) (by left)) (by left)) (by left) (by left) (by left)) (by left))) (λ_ _ _ _=>by exact (pv 2)) (by left) (by left) (by left) (by left))) (by left) (by left)) ⟨_,rfl,_,rfl,_,_,rfl,.inl (aP.of (s58 _ _ hln5)),_,rfl,by rw [List.length_map];omega,by rw [List.length_map];omega,?_⟩
    rw [show (((names.map V.str).length:Nat):Int).toNat = C.length by rw [List.length_map,L.len];omega]
    refine tM (n:=C.length) (λi ys H'=>∃ ks:List Nat,ys = ks.map bD /\ (ks = [] ↔ ∀ b,b < i -> bN (cY names C) row 40 (nJ b) = true) /\ ak H8 H') ⟨[],rfl,⟨λ_ b hb=>absurd hb (Nat.not_lt_zero _),λ_=>rfl⟩,ak.refl _⟩ (cE (by omega)) ?_ ?_
    ·rintro i ys H9 hi hyl ⟨ks,rfl,hks,s9⟩
     refine ⟨_,rfl,_,rfl,_,rfl,lm,names,C,i,row,by rw [Int.zero_add];rfl,(hM5.same s58).same s9,L,hi,hrl1,λH10 s10=>⟨!bN (cY names C) row 40 (nJ i),rfl,?_⟩⟩
     cases hc:bN (cY names C) row 40 (nJ i) with
     | false =>
      refine xO ⟨_,rfl,cM hi (by rw [List.length_append];simpa using hyl) ⟨ks ++ [i],by rw [List.map_append,Int.zero_add];rfl,⟨λz=>by simp at z,λz=>?_⟩,s9.trans s10⟩⟩
      have:=z i (Nat.lt_succ_self i)
      rw [hc] at this
      cases this
     | true =>
      refine sq (cM hi (by omega) ⟨ks,rfl,⟨λz b hb=>?_,λz=>hks.mpr λb hb=>z b (by omega)⟩,s9.trans s10⟩)
      by_cases y:b = i
      ·rw [y];exact hc
      ·exact hks.mp z b (by omega)
    ·rintro ys H9 hyl ⟨ks,rfl,hks,s9⟩ D hD
     rw [List.length_map] at hyl
     have s10:=s9.to (o:=.lst (ks.map bD)) hD
     refine ⟨ls,D,_,_,rfl,rfl,s10 _ _ hls8,af,?_,λl2 g2=>⟨l2,zs ++ ks,_,by rw [af,List.map_append],?_,?_,(s8.trans s10).to g2,rfl⟩⟩
     ·rw [List.length_map,List.length_map]
      exact bL (by omega)
     ·rw [htk]
      constructor
      ·intro z row' hr' b hb
       obtain ⟨z1,z2⟩:=List.append_eq_nil_iff.mp z
       rcases List.mem_append.mp hr' with y | y
       ·exact hzs.mp z1 row' y b hb
       ·rw [List.mem_singleton.mp y];exact hks.mp z2 b hb
      ·intro z
       rw [hzs.mpr λrow' hr' b hb=>z row' (List.mem_append_left _ hr') b hb,hks.mpr λb hb=>z row (by simp) b hb]
       rfl
     ·rw [List.length_append];omega
   ·rintro Z' H8 ⟨ls,zs,y9,hls8,hzs,hzl,s8,rfl⟩
    have e5:iF.take (iF.map V.str).length = iF:=rfl
    rw [e5] at hzs
    exact ⟨ls,zs,y9,hls8,hzs,s7.trans s8,rfl⟩
  rintro Z' H7 ⟨ls,zs,y9,hls,hzs,s7,rfl⟩
  have hlr7:=s7 _ _ hlr
  have hR7:=hR5.same s7
  have hM7:=hM5.same s7
  have hchain:eN (cY names C) = none -> ∃ Gs,Chain (cY names C) [0] rs Gs /\ ∀ G ∈ Gs,∃ n,n <= 599 /\ goN (cY names C) G.row n ⟨G.before,[],[]⟩ = some G.d:=λhn=>rA (KQ L hn) rs [0] (MR GG.pos) hrs (by show 3 * 1 + _ <= _;omega)
  refine @aB _ _ _ _ _ _ _ (λZ' H'=>ak H7 H' /\ Z' = [some (.ref a),some (.ref ln),some (.str tx),some (.ref lm),some (.ref r),some (.ref lr),y6,y7,some (.ref ls),y9,some (.str (lC (cY names C))),none,none,none]) (aF (i:=10) d9.nd rfl (Or.inl rfl) (aM (ID T) (hr.mono (by decide)) rfl T.Jy T.wk.kp (T.wk.binds (by walk_at "2")) .nil aG (aa (pv 4) (aa (cQ cG (by rfl) T.gy (by decide +kernel) (aa (pv 5) ah)) ah)))) ?_ ?_
  ·refine ⟨_,rfl,_,rfl,lr,_,rfl,.inl (aP.of hlr7),λl2 g2=>⟨r,l2,cY names C,rs,rfl,hR7.same (ak.upd g2),GG,af,by omega,λhn=>let ⟨Gs,h,_⟩:=hchain hn;⟨Gs,h⟩,λH8 s8=>⟨(ak.upd g2).trans s8,rfl⟩⟩⟩
  rintro Z' H8 ⟨s8,rfl⟩
  have hls8:=s8 _ _ hls
  cases hm:eN (cY names C) with
  | some rr =>
   have hz:zs ≠ []:=λz=>by
    obtain ⟨row,h1,b,h2,h4⟩:=Jq L (by rw [hm];intro y;cases y)
    rw [hzs.mp z row h1 b h2] at h4
    cases h4
   have hne2:¬ zs.map bD = []:=λz=>hz (List.map_eq_nil_iff.mp z)
   have et:lC (cY names C) = "rings" := by rw [lC,if_neg (by rw [hm];intro y;cases y)]
   rw [et]
   refine @ay _ _ _ _ _ _ _ (bA (PW.pt (jM (aA (lq (Nat.lt_of_succ_lt (gH hr))) (pv 8) (bf ah) (aD _)) (iN (aA qa (pv 10) aN (aD _))))) av av) ⟨_,rfl,by show 0 <= sizeLine;decide,λl0 g0=>⟨ls,l0,_,[],rfl,rfl,aP.of (ak.upd g0 _ _ hls8),aP.of af,(λa _ b hb=>by cases hb),_,rfl,iX (λ_=>?_) (λh=>absurd h hne2)⟩⟩
   refine @au _ _ _ _ _ _ (aH (yT (eu (lq (Nat.lt_of_succ_lt (gH hr))) (pv 8) (bf ah) (aD _)) (yR (eu cO (pv 10) aN (aD _))))) ⟨_,rfl,by show 0 <= sizeLine;decide,λl1 g1=>⟨ls,l1,_,[],rfl,rfl,aP.of (ak.upd g1 _ _ (ak.upd g0 _ _ hls8)),aP.of af,(λa _ b hb=>by cases hb),_,rfl,iX (λ_=>?_) (λh=>absurd h hne2)⟩⟩
   exact ⟨_,rfl,rfl,by rw [decide_eq_true (p:=V.str "rings" = V.str "rings") rfl];exact q _⟩
  | none =>
   obtain ⟨Gs,hC,hgo⟩:=hchain hm
   have hz:zs = []:=hzs.mpr λrow hr b hb=>Ks L hm hr hb
   have et:lC (cY names C) = "let by" := by rw [lC,if_pos hm]
   rw [et]
   refine @aB _ _ _ _ _ _ _ (λZ' H'=>ak H8 H' /\ Z' = [some (.ref a),some (.ref ln),some (.str tx),some (.ref lm),some (.ref r),some (.ref lr),y6,y7,some (.ref ls),y9,some (.str "let by"),none,none,none]) (bA (PW.pt (jM (aA (lq (Nat.lt_of_succ_lt (gH hr))) (pv 8) (bf ah) (aD _)) (iN (aA qa (pv 10) aN (aD _))))) av av) ⟨_,rfl,by show 0 <= sizeLine;decide,λl0 g0=>⟨ls,l0,_,[],rfl,rfl,aP.of (ak.upd g0 _ _ hls8),aP.of af,(λa _ b hb=>by cases hb),_,rfl,iX (λh=>absurd (by rw [hz];rfl) h) (λ_=>⟨_,rfl,rfl,_,rfl,iX (λh=>absurd rfl h) (λ_=>bx ⟨ak.upd g0,rfl⟩)⟩)⟩⟩ ?_
   rintro Z' H9 ⟨s9,rfl⟩
   have s79:=s8.trans s9
   have hlr9:=s79 _ _ hlr7
   have hR9:=hR7.same s79
   have hM9:=hM7.same s79
   have hGl:=hC.len
   clear hls hls8 hzs hlr7 hR7 hM7 hlr hR5 hM5 hln5 s7 s8 s9 s79
   refine @aB _ _ _ _ _ _ _ (λZ' H'=>∃ lo,H' lo = some (.lst (([0]:List Nat).map bD)) /\ ak H9 H' /\ Z' = [some (.ref a),some (.ref ln),some (.str tx),some (.ref lm),some (.ref r),some (.ref lr),y6,y7,some (.ref ls),y9,some (.str "let by"),some (.ref lo),none,none]) (aF (i:=11) d9.nd rfl (Or.inl rfl) (bf (aa ao ah))) ⟨by show 1 <= sizeLine;decide,λl g=>⟨l,af,ak.upd g,rfl⟩⟩ ?_
   rintro Z' H10 ⟨lo0,hlo10,s10,rfl⟩
   refine @aB _ _ _ _ _ _ _ (λZ' H'=>∃ ld,H' ld = some (.lst []) /\ H10 ld = none /\ ak H10 H' /\ Z' = [some (.ref a),some (.ref ln),some (.str tx),some (.ref lm),some (.ref r),some (.ref lr),y6,y7,some (.ref ls),y9,some (.str "let by"),some (.ref lo0),some (.ref ld),none]) (aF (i:=12) d9.nd rfl (Or.inl rfl) (bf ah)) ⟨by show 0 <= sizeLine;decide,λl g=>⟨l,af,g,ak.upd g,rfl⟩⟩ ?_
   rintro Z' H11 ⟨ld,hld11,fld,s11,rfl⟩
   have base11:ak H9 (hid (λc=>c = ld) H11):=lU (s10.trans s11) (λb o hb z=>aj (s10 _ _ hb) fld z)
   refine @aB _ _ _ _ _ _ _ (λZ' H'=>∃ (lo:Addr) (ps:List Addr) (y9:Option V),H' ld = some (.lst (ps.map V.ref)) /\ bB (D9 H') ps Gs /\ H' lo = some (.lst ((i7 [0] Gs).map bD)) /\ ak H9 H' /\ Z' = [some (.ref a),some (.ref ln),some (.str tx),some (.ref lm),some (.ref r),some (.ref lr),y6,y7,some (.ref ls),y9,some (.str "let by"),some (.ref lo),some (.ref ld),none]) (dU PassesOwn.never rfl (cH (pv 5)) (b9 (i:=9) d9.nd rfl (Or.inr rfl)) av) ?_ ?_
   ·refine ⟨_,rfl,lr,rfl,⟨_,aP.of ((s10.trans s11) _ _ hlr9)⟩,ic (xs:=rs.map V.str) (λj Z' H'=>∃ (lo:Addr) (ps:List Addr) (y9:Option V),H' ld = some (.lst (ps.map V.ref)) /\ bB (D9 (hid (λc=>c = ld) H')) ps (Gs.take j) /\ hid (λc=>c = ld) H' lo = some (.lst ((i7 [0] (Gs.take j)).map bD)) /\ ak H9 (hid (λc=>c = ld) H') /\ Z' = [some (.ref a),some (.ref ln),some (.str tx),some (.ref lm),some (.ref r),some (.ref lr),y6,y7,some (.ref ls),y9,some (.str "let by"),some (.ref lo),some (.ref ld),none]) ⟨lo0,[],_,hld11,bB.nil,bS (s11 _ _ hlo10) (aj hlo10 fld),base11,rfl⟩ ?_ ?_ ?_⟩
    ·rintro j Z' H' _ ⟨_,_,_,_,_,_,s',_⟩
     exact aP.of (aR _ _ (s' _ _ hlr9))
    ·rintro j v Z' H12 hv ⟨lo,ps,y9,hld12,hA12,hlo12,s12,rfl⟩
     rw [List.getElem?_map] at hv
     obtain ⟨row,hrow,rfl⟩:=Option.map_eq_some_iff.mp hv
     have hjl:=(List.getElem?_eq_some_iff.mp hrow).1
     obtain ⟨G,hG⟩:∃ G,Gs[j]? = some G:=⟨Gs[j]'(by omega),List.getElem?_eq_getElem _⟩
     obtain ⟨e1,e2,hSG,e3⟩:=rF hC hG
     rw [hrow] at e3
     have e3:=Option.some.inj e3
     subst e3
     obtain ⟨n,hn,hgoG⟩:=hgo G (List.mem_of_getElem? hG)
     have hfr:=hrs G.row (List.mem_of_getElem? hrow)
     rw [← e1] at hlo12
     have hM12:=(hM9.same s12).same aR
     have hbl:=hSG.len
     have hpl:ps.length <= 3:=by rw [hA12.1,List.length_take];omega
     refine @ay _ _ _ _ _ _ _ (bq (dc PySem.F.plainAttrs_list PySem.F.slot_list_append PySem.F.type_list_append bF (pv 12) (aa (aM (HB T) (hr.mono (by decide)) rfl T.Ho T.v5.kp (T.v5.binds (by walk_at "3")) .nil aG (aa (pv 3) (aa (pv 11) (aa (pv 9) ah)))) ah))) ⟨_,rfl,.inl ⟨rfl,_,aP.of hld12⟩,_,rfl,_,rfl,_,rfl,lm,lo,names,C,G.before,G.row,n,G.d,rfl,hM12,L,aR _ _ hlo12,hSG.ok,by omega,hbl,hn,hgoG,λtp lt lk lo' H13 t1 t2 t3 t4 ft fk fo s13=>?_⟩
     have hld13:=s13 _ _ hld12
     have zx:¬ lt = ld:=Ne.symm (aj hld12 ft)
     have nlk:¬ lk = ld:=Ne.symm (aj hld12 fk)
     have nlo:¬ lo' = ld:=Ne.symm (aj hld12 fo)
     have ntp:¬ tp = ld:=λz=>by rw [z,hld13] at t1;cases t1
     have e13:hid (λc=>c = ld) (upd H13 ld (.lst (ps.map V.ref ++ [.ref tp]))) = hid (λc=>c = ld) H13:=g9 (S:=λc=>c = ld) rfl
     have sh:=cA (S:=λc=>c = ld) s13
     have DG:D9 (hid (λc=>c = ld) H13) tp G:=by
      obtain ⟨qs,m1,m2⟩:=t3
      exact ⟨lo,lt,lk,lo',bS t1 ntp,sh _ _ hlo12,bS t2 zx,⟨qs,bS m1 nlk,m2.mono λp m e=>bS e (λz=>by
       have z:p = ld:=z
       rw [z,hld13] at e;cases e)⟩,bS t4 nlo⟩
     refine ⟨ld,_,_,rfl,rfl,hld13,cE (by rw [List.length_map];omega),?_⟩
     have hat:qv (ps.map V.ref ++ [V.ref tp]) (((ps.map V.ref ++ [V.ref tp]).length:Int) - 1) = some (.ref tp):=by
      rw [List.length_append,show (((ps.map V.ref).length + [V.ref tp].length:Nat):Int) - 1 = ((ps.map V.ref).length:Int) by rw [List.length_singleton];omega]
      exact aS (by rw [List.getElem?_append_right (Nat.le_refl _),Nat.sub_self];rfl)
     refine @au _ _ _ _ _ _ (aF (i:=11) d9.nd rfl (Or.inl rfl) (aK bR (aK aQ (pv 12) (bz C9 (aO bh (by rfl) T.bW (by decide +kernel) (aa (pv 12) ah)) ao) (λ_ _=>rfl)) ao (λ_ _=>rfl))) ⟨_,rfl,_,rfl,_,_,rfl,.inl (aP.of af),_,_,rfl,rfl,_,_,_,_,rfl,rfl,aP.of af,hat,_,_,_,_,rfl,rfl,fL.of (by rw [ai ntp];exact t1),aS (j:=3) rfl,lo',ps ++ [tp],some (.str G.row),by rw [af,List.map_append];rfl,?_,?_,?_,rfl⟩
     ·rw [e13,take_snoc hG]
      exact bB.snoc (hA12.mono λ_ _ z=>z.same sh) DG
     ·rw [e13,e2]
      exact bS t4 nlo
     ·rw [e13]
      exact s12.trans sh
    ·rintro Z' H12 ⟨lo,ps,y9,hld12,hA12,hlo12,s12,rfl⟩
     rw [List.length_map,← hGl,List.take_length] at hA12 hlo12
     exact ⟨lo,ps,y9,hld12,hA12.mono λ_ _ z=>z.same aR,aR _ _ hlo12,s12.trans aR,rfl⟩
   rintro Z' H12 ⟨lo,ps,y9b,hld,hA,hlo,s12,rfl⟩
   have hR12:=hR9.same s12
   have hlr12:=s12 _ _ hlr9
   have hGne:Gs.length <= 3:=by omega
   have hpl:ps.length <= 3:=by rw [hA.1];exact hGne
   clear s10 s11 base11 hld11 fld hlo10 hR9 hlr9 hM9 s12
   refine @aB _ _ _ _ _ _ _ (λZ' H'=>ak H12 H' /\ Z' = [some (.ref a),some (.ref ln),some (.str tx),some (.ref lm),some (.ref r),some (.ref lr),y6,y7,some (.ref ls),y9b,some (.str "let by"),some (.ref lo),some (.ref ld),none]) (@bA _ _ _ _ _ _ _ _ (@PW.pt _ _ _ (@jM _ _ _ _ _ _ _ (@aA _ _ _ _ _ _ _ _ (xJ 1 (Nat.lt_of_le_of_lt (Nat.add_le_add_left (by decide:2 <= 64) _) hr.units)) (@aM _ _ _ _ _ _ _ _ _ _ _ _ _ _ _ _ (Jz T) (hr.mono (by decide)) rfl T.Jk T.uE.kp (T.uE.binds (by walk_at "2")) .nil aG (@aa _ _ _ _ _ (pv 4) (@aa _ _ _ _ _ (pv 5) ah (by left)) (by left)) (by left) (by left) (by left)) (@bz _ _ _ _ _ _ _ _ kQ (@eZ _ (aq mU) _ ["_law_script","_law_names","_law_text","_law_modes","_law_rules_here","_law_rows","_law_k","_law_size","_law_stands_here","_law_row","_law_told","_law_stack","_law_due","_law_tinted"] _ _ ("_law_one") _ _ [] _ _ (by walk_at "ck") (@cH _ _ _ _ (pv 12)) (λ_ _ _ _=>by exact (@aK _ _ _ _ _ _ _ (jU (K:=K) rfl) (pv 0) ao (λ_ _=>rfl))) (by left) (by left) (by left) (by left)) (@bf _ _ _ _ (@aa _ _ _ _ _ (pv 11) ah (by left)))) (aD _)) (@iN _ _ _ _ (@aA _ _ _ _ _ _ _ _ (xJ 1 (Nat.lt_of_le_of_lt (Nat.add_le_add_left (by decide:2 <= 64) _) hr.units)) (@aM _ _ _ _ _ _ _ _ _ _ _ _ _ _ _ _ (Iz T) (hr.mono (by decide)) rfl T.Hq T.uy.kp (T.uy.binds (by walk_at "2")) .nil aG (@aa _ _ _ _ _ (pv 4) (@aa _ _ _ _ _ (pv 5) ah (by left)) (by left)) (by left) (by left) (by left)) (@eZ _ (aq mU) _ ["_law_script","_law_names","_law_text","_law_modes","_law_rules_here","_law_rows","_law_k","_law_size","_law_stands_here","_law_row","_law_told","_law_stack","_law_due","_law_tinted"] _ _ ("_law_one") _ _ [] _ _ (by walk_at "ck") (@cH _ _ _ _ (pv 12)) (λ_ _ _ _=>by exact (@aK _ _ _ _ _ _ _ (jU (K:=K) rfl) (pv 0) ao (λ_ _=>rfl))) (by left) (by left) (by left) (by left)) (aD _))))) av av) ?_ ?_
   ·refine ⟨_,rfl,_,rfl,r,lr,cY names C,rs,Gs,rfl,hR12,GG,hlr12,by omega,hC,λlb as H13 hlb hLL f13 s13=>?_⟩
    refine ⟨_,rfl,ld,rfl,⟨_,aP.of (s13 _ _ hld)⟩,dN (xs:=ps.map V.ref) (λi ys H2=>H2 = H13 /\ ∃ los:List Addr,ys = los.map V.ref /\ CL H13 los ((Gs.take i).map λG=>G.before.map bD)) ⟨rfl,[],rfl,bB.nil⟩ (cE (by rw [List.length_map];omega)) ?_ ?_ ?_⟩
    ·rintro i ys H2 _ ⟨rfl,_⟩
     exact aP.of (s13 _ _ hld)
    ·rintro i xv ys H2 hx hyl ⟨rfl,los,rfl,hCL⟩
     rw [List.getElem?_map] at hx
     obtain ⟨p,hp,rfl⟩:=Option.map_eq_some_iff.mp hx
     have hi:=(List.getElem?_eq_some_iff.mp hp).1
     have hGi:Gs[i]? = some (Gs[i]'(by rw [← hA.1];exact hi)):=List.getElem?_eq_getElem _
     obtain ⟨b1,b2,b3,b4,e1,e2,e3,e4,e5⟩:=hA.2 i p _ hp hGi
     refine ⟨_,rfl,_,_,_,_,rfl,rfl,fL.of (s13 _ _ e1),aS (j:=0) rfl,cR (by rw [List.length_map];exact hi) hyl ⟨rfl,los ++ [b1],by rw [List.map_append];rfl,?_⟩⟩
     rw [take_snoc hGi,List.map_append]
     exact bB.snoc hCL (s13 _ _ e2)
    ·rintro ys H2 hyl ⟨rfl,los,rfl,hCL⟩ D hD
     rw [List.length_map,hA.1,List.take_length] at hCL
     have s6:ak H2 (upd H2 D (.lst (los.map V.ref))):=ak.upd hD
     have hD6:upd H2 D (.lst (los.map V.ref)) D = some (.lst (los.map V.ref)):=af
     generalize upd H2 D (.lst (los.map V.ref)) = H6' at s6 hD6
     have hll:los.length = Gs.length:=by rw [hCL.1,List.length_map]
     refine ⟨_,rfl,by show 1 <= sizeLine;decide,λl1 hl1=>⟨D,l1,_,_,rfl,rfl,ak.upd hl1 _ _ hD6,af,bL (by simp only [List.length_map,List.length_cons,List.length_nil];omega),λl2 hl2=>?_⟩⟩
     have s7:ak H2 (upd (upd H6' l1 (.lst [.ref lo])) l2 (.lst (los.map V.ref ++ [.ref lo]))):=(s6.to hl1).to hl2
     have hl2':upd (upd H6' l1 (.lst [.ref lo])) l2 (.lst (los.map V.ref ++ [.ref lo])) l2 = some (.lst ((los ++ [lo]).map V.ref)):=by rw [af,List.map_append];rfl
     generalize upd (upd H6' l1 (.lst [.ref lo])) l2 (.lst (los.map V.ref ++ [.ref lo])) = H7' at s7 hl2'
     have s137:=s13.trans s7
     refine ⟨lb,l2,as.map V.ref,(los ++ [lo]).map V.ref,rfl,rfl,.inl ⟨aP.of (s7 _ _ hlb),aP.of hl2'⟩,?_,?_,_,rfl,sq ?_⟩
     ·rw [List.length_map,List.length_map,hLL.1,List.length_map,List.length_cons,List.length_map,List.length_append,hll]
      rfl
     ·have h2:CL H7' (los ++ [lo]) ((Gs.map (·.before) ++ [i7 [0] Gs]).map λo=>o.map bD):=by
       rw [List.map_append,List.map_map]
       exact bB.snoc (CL.same hCL s7) (s137 _ _ hlo)
      rw [← nQ hC] at h2
      exact qF (hLL.mono λ_ _ z=>s7 _ _ z.1) h2 (BS _)
     refine ⟨_,rfl,_,rfl,r,lr,cY names C,rs,Gs,rfl,hR12.same s137,GG,s137 _ _ hlr12,by omega,hC,λlc bs H14 hlc hLB f14 s14=>?_⟩
     have s1214:=s137.trans s14
     refine ⟨_,rfl,ld,rfl,⟨_,aP.of (s1214 _ _ hld)⟩,dN (xs:=ps.map V.ref) (λi ys H2=>H2 = H14 /\ ∃ los:List Addr,ys = los.map V.ref /\ CL H14 los ((Gs.take i).map λG=>G.d.az.map V.str)) ⟨rfl,[],rfl,bB.nil⟩ (cE (by rw [List.length_map];omega)) ?_ ?_ ?_⟩
     ·rintro i ys H2 _ ⟨rfl,_⟩
      exact aP.of (s1214 _ _ hld)
     ·rintro i xv ys H2 hx hyl ⟨rfl,los,rfl,hCL⟩
      rw [List.getElem?_map] at hx
      obtain ⟨p,hp,rfl⟩:=Option.map_eq_some_iff.mp hx
      have hi:=(List.getElem?_eq_some_iff.mp hp).1
      have hGi:Gs[i]? = some (Gs[i]'(by rw [← hA.1];exact hi)):=List.getElem?_eq_getElem _
      obtain ⟨b1,b2,b3,b4,e1,e2,e3,e4,e5⟩:=hA.2 i p _ hp hGi
      refine ⟨_,rfl,_,_,_,_,rfl,rfl,fL.of (s1214 _ _ e1),aS (j:=1) rfl,cR (by rw [List.length_map];exact hi) hyl ⟨rfl,los ++ [b2],by rw [List.map_append];rfl,?_⟩⟩
      rw [take_snoc hGi,List.map_append]
      exact bB.snoc hCL (s1214 _ _ e3)
     ·rintro ys H2 hyl ⟨rfl,los3,rfl,hCL3⟩ D3 hD3
      rw [List.length_map,hA.1,List.take_length] at hCL3
      have s15:=ak.upd (o:=.lst (los3.map V.ref)) hD3
      exact ⟨lc,D3,bs.map V.ref,los3.map V.ref,rfl,rfl,.inl ⟨aP.of (s15 _ _ hlc),aP.of af⟩,by rw [List.length_map,List.length_map,hLB.1,hCL3.1],qF (hLB.mono λ_ _ z=>s15 _ _ z.1) (CL.same hCL3 s15) (yy _),_,rfl,sq (bx ⟨s1214.trans s15,rfl⟩)⟩
   rintro Z' H13 ⟨s13,rfl⟩
   have hR13:=hR12.same s13
   have hlr13:=s13 _ _ hlr12
   have hld13:=s13 _ _ hld
   have hA13:=hA.mono λ_ _ z=>z.same s13
   clear s13 hR12 hlr12 hld hA hlo
   refine @aB _ _ _ _ _ _ _ (λZ' H'=>∃ x dx a1 lg gs,fj t H' x dx a1 lg gs (cY names C) Gs /\ ak H13 H' /\ Z' = [some (.ref a),some (.ref ln),some (.str tx),some (.ref lm),some (.ref r),some (.ref lr),y6,y7,some (.ref ls),y9b,some (.str "let by"),some (.ref lo),some (.ref ld),some (.ref x)]) (aF (i:=13) d9.nd rfl (Or.inl rfl) (eT T.jO (DV T) (hr.mono (by decide)) rfl T.p6 (T.qO.binds (by walk_at "3")) .nil aG (aa (pv 4) (aa (pv 5) ah)))) ?_ ?_
   ·refine ⟨_,rfl,_,rfl,λx dx nx ndx ne=>⟨x,dx,r,lr,λ_=>False,cY names C,rs,Gs,rfl,af,(λz=>z),Ex.none _,?_,GG,hm,bE nx ndx _ _ hlr13,by omega,hC,λa1 lg gs H14 I14 f14 a14=>⟨rfl,x,dx,a1,lg,gs,I14.same aR,λb o hb=>a14 b o (bE nx ndx _ _ hb) (aj hb nx),rfl⟩⟩⟩
    exact hR13.same (lU (bE nx ndx) λb o e z=>z.elim (λz=>z) (λz=>aj e nx z))
   rintro Z' H14 ⟨x,dx,a1,lg,gs,I14,s14,rfl⟩
   have hR14:=hR13.same s14
   have hlr14:=s14 _ _ hlr13
   have hld14:=s14 _ _ hld13
   have hA14:=hA13.mono λ_ _ z=>z.same s14
   clear s14 hR13 hlr13 hld13 hA13
   refine @aB _ _ _ _ _ _ _ (λZ' H'=>(∃ y6,Z' = [some (.ref a),some (.ref ln),some (.str tx),some (.ref lm),some (.ref r),some (.ref lr),y6,y7,some (.ref ls),y9b,some (.str "let by"),some (.ref lo),some (.ref ld),some (.ref x)]) /\ ak H14 H') (dU PassesOwn.never rfl (eV rfl T.gb (aa (aO bh (by rfl) T.bW (by decide +kernel) (aa (pv 5) ah)) ah)) (b9 (i:=6) d9.nd rfl (Or.inr rfl)) av) ?_ ?_
   ·refine ⟨_,rfl,_,_,rfl,.inl (aP.of hlr14),(rs.length:Int),by rw [List.length_map],by omega,by omega,fJ (n:=((rs.length:Nat):Int).toNat) (λk Z' H'=>(∃ y6,Z' = [some (.ref a),some (.ref ln),some (.str tx),some (.ref lm),some (.ref r),some (.ref lr),y6,y7,some (.ref ls),y9b,some (.str "let by"),some (.ref lo),some (.ref ld),some (.ref x)]) /\ ak H14 H') ⟨⟨_,rfl⟩,ak.refl _⟩ ?_ (λZ' H' z=>z)⟩
    rintro k Z' H2 hk ⟨⟨y6,rfl⟩,s2⟩
    have hk':k < Gs.length:=by omega
    have hGk:Gs[k]? = some Gs[k]:=List.getElem?_eq_getElem hk'
    generalize Gs[k] = G at hGk
    obtain ⟨p,hp,b1,b2,b3,b4,e1,e2,e3,⟨qs,e4,e5⟩,e6⟩:=hA14.at hGk
    have hat:qv (ps.map V.ref) ((0:Int) + (k:Int)) = some (.ref p):=by rw [Int.zero_add];exact dW hp
    have I2:=I14.same s2
    refine @au _ _ _ _ _ _ (bA (PW.pt (jM (aA (lq (Nat.lt_of_succ_lt (gH hr))) (cj (pv 13) T.cD T.K2 (GI T) (hr.mono (by decide)) (T.vY.binds (by walk_at "2")) .nil aG (aa (pv 6) ah)) (aK bR (aK aQ (pv 12) (pv 6) (λ_ _=>rfl)) ao (λ_ _=>rfl)) (aD _)) (jM (aA (lq (Nat.lt_of_succ_lt (gH hr))) (cj (pv 13) T.cD T.KI (Iv T) (hr.mono (by decide)) (T.vh.binds (by walk_at "2")) .nil aG (aa (pv 6) ah)) (aK bR (aK aQ (pv 12) (pv 6) (λ_ _=>rfl)) ao (λ_ _=>rfl)) (aD _)) (iN (aA (xJ 1 (Nat.lt_of_le_of_lt (Nat.add_le_add_left (by decide:2 <= 64) _) hr.units)) (cj (pv 13) T.cD T.Lf (Hj T) (hr.mono (by decide)) (T.vC.binds (by walk_at "2")) .nil aG (aa (pv 6) ah)) (aK bR (aK aQ (pv 12) (pv 6) (λ_ _=>rfl)) ao (λ_ _=>rfl)) (aD _)))))) av av) ⟨_,rfl,x,dx,_,rfl,I2.ob,rfl,_,rfl,x,dx,a1,lg,gs,cY names C,Gs,G,k,(by rw [Int.zero_add];rfl),I2,hGk,λl3 H3 h3 f3 s3=>?_⟩
    have s3':=s2.trans s3
    refine ⟨_,rfl,_,rfl,_,_,_,_,rfl,rfl,aP.of (s3' _ _ hld14),hat,_,_,_,_,rfl,rfl,fL.of (s3' _ _ e1),aS (j:=0) rfl,l3,b1,_,_,rfl,rfl,aP.of h3,aP.of (s3' _ _ e2),ye _ _ _ _,_,rfl,iX (λh=>absurd rfl h) (λ_=>?_)⟩
    have I3:=I14.same s3'
    refine ⟨_,rfl,x,dx,_,rfl,I3.ob,rfl,_,rfl,x,dx,a1,lg,gs,cY names C,Gs,G,k,(by rw [Int.zero_add];rfl),I3,hGk,λl4 H4 h4 f4 s4=>?_⟩
    have s4':=s3'.trans s4
    refine ⟨_,rfl,_,rfl,_,_,_,_,rfl,rfl,aP.of (s4' _ _ hld14),hat,_,_,_,_,rfl,rfl,fL.of (s4' _ _ e1),aS (j:=1) rfl,l4,b2,_,_,rfl,rfl,aP.of h4,aP.of (s4' _ _ e3),nS _ _,_,rfl,iX (λh=>absurd rfl h) (λ_=>?_)⟩
    have I4:=I14.same s4'
    refine ⟨_,rfl,x,dx,_,rfl,I4.ob,rfl,_,rfl,x,dx,a1,lg,gs,cY names C,Gs,G,k,(by rw [Int.zero_add];rfl),I4,hGk,λl5 H5 ps5 h5 m5 f5 s5=>?_⟩
    have s5':=s4'.trans s5
    exact ⟨_,rfl,_,rfl,_,_,_,_,rfl,rfl,aP.of (s5' _ _ hld14),hat,_,_,_,_,rfl,rfl,fL.of (s5' _ _ e1),aS (j:=2) rfl,l5,b3,_,_,rfl,rfl,.inl ⟨aP.of h5,aP.of (s5' _ _ e4)⟩,(by rw [List.length_map,List.length_map,m5.1,e5.1]),lG (m5.mono λ_ _ z=>s5 _ _ z) (e5.mono λ_ _ z=>s5' _ _ z),_,rfl,sq (bx ⟨⟨_,rfl⟩,s5'⟩)⟩
   rintro Z' H15 ⟨⟨y6b,rfl⟩,s15⟩
   refine @au _ _ _ _ _ _ (@aH _ _ _ _ (@yT _ _ _ _ _ _ _ (@eu _ _ _ _ _ _ _ _ (JV 2 (Nat.lt_of_le_of_lt (Nat.add_le_add_left (by decide:3 <= 64) _) hr.units)) (@aM _ _ _ _ _ _ _ _ _ _ _ _ _ _ _ _ (GC T) (hr.mono (by decide)) rfl T.Ka T.vP.kp (T.vP.binds (by walk_at "2")) .nil aG (@aa _ _ _ _ _ (pv 4) (@aa _ _ _ _ _ (pv 5) ah (by left)) (by left)) (by left) (by left) (by left)) (@eZ _ (aq mU) _ ["_law_script","_law_names","_law_text","_law_modes","_law_rules_here","_law_rows","_law_k","_law_size","_law_stands_here","_law_row","_law_told","_law_stack","_law_due","_law_tinted"] _ _ ("_law_one") _ _ [] _ _ (by walk_at "ck") (@cH _ _ _ _ (pv 12)) (λ_ _ _ _=>by exact (@aK _ _ _ _ _ _ _ (jU (K:=K) rfl) (pv 0) ao (λ_ _=>rfl))) (by left) (by left) (by left) (by left)) (aD _)) (@yR _ _ _ _ _ (@eu _ _ _ _ _ _ _ _ (gW (Nat.lt_of_succ_lt (gH hr))) (@cu _ _ _ _ _ _ _ _ _ _ _ _ _ _ _ _ _ (pv 13) T.cD T.LN (HL T) (hr.mono (by decide)) (T.t6.binds (by walk_at "1")) .nil aG (by left)) (pv 5) (aD _))))) ⟨_,rfl,_,rfl,r,lr,cY names C,rs,Gs,rfl,hR14.same s15,GG,s15 _ _ hlr14,by omega,hC,λlf cs H16 hlf hLM f16 s16=>?_⟩
   have s1416:=s15.trans s16
   refine ⟨_,rfl,ld,rfl,⟨_,aP.of (s1416 _ _ hld14)⟩,dN (xs:=ps.map V.ref) (λi ys H2=>H2 = H16 /\ ∃ los:List Addr,ys = los.map V.ref /\ bB (GM H16) los ((Gs.take i).map λG=>G.d.marks)) ⟨rfl,[],rfl,bB.nil⟩ (cE (by rw [List.length_map];omega)) ?_ ?_ ?_⟩
   ·rintro i ys H2 _ ⟨rfl,_⟩
    exact aP.of (s1416 _ _ hld14)
   ·rintro i xv ys H2 hx hyl ⟨rfl,los,rfl,hCL⟩
    rw [List.getElem?_map] at hx
    obtain ⟨p,hp,rfl⟩:=Option.map_eq_some_iff.mp hx
    have hi:=(List.getElem?_eq_some_iff.mp hp).1
    have hGi:Gs[i]? = some (Gs[i]'(by rw [← hA14.1];exact hi)):=List.getElem?_eq_getElem _
    obtain ⟨b1,b2,b3,b4,e1,e2,e3,e4,e5⟩:=hA14.2 i p _ hp hGi
    refine ⟨_,rfl,_,_,_,_,rfl,rfl,fL.of (s1416 _ _ e1),aS (j:=2) rfl,cR (by rw [List.length_map];exact hi) hyl ⟨rfl,los ++ [b3],by rw [List.map_append];rfl,?_⟩⟩
    rw [take_snoc hGi,List.map_append]
    exact bB.snoc hCL (e4.same s1416)
   ·rintro ys H2 hyl ⟨rfl,los2,rfl,hCM⟩ D2 hD2
    rw [List.length_map,hA14.1,List.take_length] at hCM
    have s17:=ak.upd (o:=.lst (los2.map V.ref)) hD2
    have s1417:=s1416.trans s17
    have I17:=I14.same s1417
    refine ⟨lf,D2,cs.map V.ref,los2.map V.ref,rfl,rfl,.inl ⟨aP.of (s17 _ _ hlf),aP.of af⟩,by rw [List.length_map,List.length_map,hLM.1,hCM.1],A2 (hLM.mono λ_ _ z=>z.1.same s17) (hCM.mono λ_ _ z=>z.same s17),true,rfl,xO ?_⟩
    refine ⟨_,rfl,x,dx,_,rfl,I17.ob,rfl,x,dx,a1,lg,gs,cY names C,Gs,rfl,I17,by omega,λl18 H18 h18 f18 s18=>⟨_,rfl,l18,lr,_,_,rfl,rfl,aP.of h18,aP.of ((s1417.trans s18) _ _ hlr14),nS _ _,?_⟩⟩
    rw [decide_eq_true (by rw [hC.rows])]
    exact q _
end
theorem all_mk {l:W.OpenLaw} {w:World} {K:W.Frag} {h:Heap} {mg:Str -> Option Value} {fa aW jT aX jW ia bT cN aU bQ dD bH dz cI bP cK aY aL aV k6 qT i0 nu lS lM mZ lN lJ nj lz lO nq lP lA sF sS lu lH mS mT m8 m6 kj nv mX nc nA mJ mY nh uv vq wW uI vZ wc vm t7 oY pe nV pU o5 pP m9 qm o9 nZ o6 o4 pW qb oJ oQ oV oK nR oB qj qp nO nU nN oj qk oU qf f_law eG iK jk iC:Addr} {wm z7 pQ uO rG qM tU qD rR wZ qX qG wQ qW rq AZ AA qE qK uK wN wR wg pM we ur uf xr uS ud wz Dt CJ Cq D5 Bt Ds Dz Bk wG tW vM wO w6 ue qN vg vR u7 vL vK v8 vp wI uX uH v7 xh uG uR u6 wo xq uZ wU uN uU wK d_law:FuncData} {u_LETTERS u_LONGEST_NAME u_START u_SIGNS u_MOST_MODES u_MOST_RULES u0_PATTERNS u1_PATTERNS u2_PATTERNS u3_PATTERNS u4_PATTERNS u5_PATTERNS u6_PATTERNS u0_DEEDS u1_DEEDS u2_DEEDS u3_DEEDS u0_GOING u1_GOING u0_FOLDS u1_FOLDS:Tok} {od_PATTERNS od_DEEDS od_GOING od_FOLDS:Option Addr} {n_PATTERNS n_DEEDS n_GOING n_FOLDS:Nat} {sl_PATTERNS sl_DEEDS sl_GOING sl_FOLDS:Array (Option Value)} (X:K.In h) (G:h.Ns mainGlobals mg) (hfa:mg "law" = some (.ref fa))
  (a_TintError:W.nsIn K mainGlobals "TintError" = some (some (.ref aW)))
  (a_NoRules:W.nsIn K mainGlobals "NoRules" = some (some (.ref jT)))
  (a_Rings:W.nsIn K mainGlobals "Rings" = some (some (.ref aX)))
  (a_NoPlace:W.nsIn K mainGlobals "NoPlace" = some (some (.ref jW)))
  (a_Pattern:W.nsIn K mainGlobals "Pattern" = some (some (.ref ia)))
  (a_Word:W.nsIn K mainGlobals "Word" = some (some (.ref bT)))
  (a_One:W.nsIn K mainGlobals "One" = some (some (.ref cN)))
  (a_Without:W.nsIn K mainGlobals "Without" = some (some (.ref aU)))
  (a_Many:W.nsIn K mainGlobals "Many" = some (some (.ref bQ)))
  (a_Any:W.nsIn K mainGlobals "Any" = some (some (.ref dD)))
  (a_Still:W.nsIn K mainGlobals "Still" = some (some (.ref bH)))
  (a_End:W.nsIn K mainGlobals "End" = some (some (.ref dz)))
  (a_Rule:W.nsIn K mainGlobals "Rule" = some (some (.ref cI)))
  (a_Mode:W.nsIn K mainGlobals "Mode" = some (some (.ref bP)))
  (a_Rules:W.nsIn K mainGlobals "Rules" = some (some (.ref cK)))
  (a_GoneRow:W.nsIn K mainGlobals "GoneRow" = some (some (.ref aY)))
  (a_Tinted:W.nsIn K mainGlobals "Tinted" = some (some (.ref aL)))
  (a_Cursor:W.nsIn K mainGlobals "Cursor" = some (some (.ref aV)))
  (a_q22:W.findIn K (.ref aX) "__init__" = some (some (.ref k6)))
  (i_q22:W.isFn K (.ref k6) = true)
  (zZ:bK K "__init__" "Rings.__init__" DA k6 wm)
  (a_q20:W.findIn K (.ref ia) "eaten" = some (some (.ref qT)))
  (i_q20:W.isFn K (.ref qT) = true)
  (Ga:bK K "eaten" "Pattern.eaten" Cc qT z7)
  (a_q21:W.findIn K (.ref ia) "eats" = some (some (.ref i0)))
  (i_q21:W.isFn K (.ref i0) = true)
  (qd:bK K "eats" "Pattern.eats" BW i0 pQ)
  (a_q46:W.findIn K (.ref bT) "__init__" = some (some (.ref nu)))
  (i_q46:W.isFn K (.ref nu) = true)
  (z9:bK K "__init__" "Word.__init__" BP nu uO)
  (a_q47:W.findIn K (.ref bT) "eaten" = some (some (.ref lS)))
  (i_q47:W.isFn K (.ref lS) = true)
  (vN:bK K "eaten" "Word.eaten" Df lS rG)
  (a_q48:W.findIn K (.ref bT) "eats" = some (some (.ref lM)))
  (i_q48:W.isFn K (.ref lM) = true)
  (u9:bK K "eats" "Word.eats" Br lM qM)
  (a_q17:W.findIn K (.ref cN) "__init__" = some (some (.ref mZ)))
  (i_q17:W.isFn K (.ref mZ) = true)
  (zB:bK K "__init__" "One.__init__" Bu mZ tU)
  (a_q18:W.findIn K (.ref cN) "eaten" = some (some (.ref lN)))
  (i_q18:W.isFn K (.ref lN) = true)
  (u5:bK K "eaten" "One.eaten" Es lN qD)
  (a_q19:W.findIn K (.ref cN) "eats" = some (some (.ref lJ)))
  (i_q19:W.isFn K (.ref lJ) = true)
  (u0:bK K "eats" "One.eats" BR lJ rR)
  (a_q43:W.findIn K (.ref aU) "__init__" = some (some (.ref nj)))
  (i_q43:W.isFn K (.ref nj) = true)
  (zu:bK K "__init__" "Without.__init__" Ew nj wZ)
  (a_q44:W.findIn K (.ref aU) "eaten" = some (some (.ref lz)))
  (i_q44:W.isFn K (.ref lz) = true)
  (vn:bK K "eaten" "Without.eaten" Em lz qX)
  (a_q45:W.findIn K (.ref aU) "eats" = some (some (.ref lO)))
  (i_q45:W.isFn K (.ref lO) = true)
  (uC:bK K "eats" "Without.eats" BX lO qG)
  (a_q12:W.findIn K (.ref bQ) "__init__" = some (some (.ref nq)))
  (i_q12:W.isFn K (.ref nq) = true)
  (z5:bK K "__init__" "Many.__init__" Cm nq wQ)
  (a_q13:W.findIn K (.ref bQ) "eaten" = some (some (.ref lP)))
  (i_q13:W.isFn K (.ref lP) = true)
  (uM:bK K "eaten" "Many.eaten" D7 lP qW)
  (a_q14:W.findIn K (.ref bQ) "eats" = some (some (.ref lA)))
  (i_q14:W.isFn K (.ref lA) = true)
  (xu:bK K "eats" "Many.eats" Ek lA rq)
  (a_q0:W.findIn K (.ref dD) "eaten" = some (some (.ref sF)))
  (i_q0:W.isFn K (.ref sF) = true)
  (DO:bK K "eaten" "Any.eaten" IM sF AZ)
  (a_q1:W.findIn K (.ref dD) "eats" = some (some (.ref sS)))
  (i_q1:W.isFn K (.ref sS) = true)
  (CM:bK K "eats" "Any.eats" Hx sS AA)
  (a_q25:W.findIn K (.ref bH) "eaten" = some (some (.ref lu)))
  (i_q25:W.isFn K (.ref lu) = true)
  (uJ:bK K "eaten" "Still.eaten" Cg lu qE)
  (a_q10:W.findIn K (.ref dz) "eaten" = some (some (.ref lH)))
  (i_q10:W.isFn K (.ref lH) = true)
  (vF:bK K "eaten" "End.eaten" Cj lH qK)
  (a_q23:W.findIn K (.ref cI) "__init__" = some (some (.ref mS)))
  (i_q23:W.isFn K (.ref mS) = true)
  (uV:bK K "__init__" "Rule.__init__" DU mS uK)
  (a_q15:W.findIn K (.ref bP) "__init__" = some (some (.ref mT)))
  (i_q15:W.isFn K (.ref mT) = true)
  (t9:bK K "__init__" "Mode.__init__" BV mT wN)
  (a_q24:W.findIn K (.ref cK) "__init__" = some (some (.ref m8)))
  (i_q24:W.isFn K (.ref m8) = true)
  (uY:bK K "__init__" "Rules.__init__" BJ m8 wR)
  (a_q11:W.findIn K (.ref aY) "__init__" = some (some (.ref m6)))
  (i_q11:W.isFn K (.ref m6) = true)
  (zc:bK K "__init__" "GoneRow.__init__" DM m6 wg)
  (a_q26:W.findIn K (.ref aL) "__init__" = some (some (.ref kj)))
  (i_q26:W.isFn K (.ref kj) = true)
  (qO:bK K "__init__" "Tinted.__init__" BZ kj pM)
  (a_q42:W.findIn K (.ref aL) "rows" = some (some (.ref nv)))
  (i_q42:W.isFn K (.ref nv) = true)
  (t6:bK K "rows" "Tinted.rows" zd nv we)
  (a_q31:W.findIn K (.ref aL) "begin" = some (some (.ref mX)))
  (i_q31:W.isFn K (.ref mX) = true)
  (vY:bK K "begin" "Tinted.begin" BY mX ur)
  (a_q33:W.findIn K (.ref aL) "colours" = some (some (.ref nc)))
  (i_q33:W.isFn K (.ref nc) = true)
  (vh:bK K "colours" "Tinted.colours" Du nc uf)
  (a_q38:W.findIn K (.ref aL) "marks" = some (some (.ref nA)))
  (i_q38:W.isFn K (.ref nA) = true)
  (vC:bK K "marks" "Tinted.marks" Et nA xr)
  (a_q36:W.findIn K (.ref aL) "go_over" = some (some (.ref mJ)))
  (i_q36:W.isFn K (.ref mJ) = true)
  (uo:bK K "go_over" "Tinted.go_over" B7 mJ uS)
  (a_q37:W.findIn K (.ref aL) "gone_row" = some (some (.ref mY)))
  (i_q37:W.isFn K (.ref mY) = true)
  (qg:bK K "gone_row" "Tinted.gone_row" CV mY ud)
  (a_q29:W.findIn K (.ref aL) "ask_row" = some (some (.ref nh)))
  (i_q29:W.isFn K (.ref nh) = true)
  (ua:bK K "ask_row" "Tinted.ask_row" Bh nh wz)
  (a_q2:W.findIn K (.ref aV) "__init__" = some (some (.ref uv)))
  (i_q2:W.isFn K (.ref uv) = true)
  (Fj:bK K "__init__" "Cursor.__init__" JP uv Dt)
  (a_q4:W.findIn K (.ref aV) "more" = some (some (.ref vq)))
  (i_q4:W.isFn K (.ref vq) = true)
  (uL:bK K "more" "Cursor.more" Kc vq CJ)
  (a_q5:W.findIn K (.ref aV) "peek" = some (some (.ref wW)))
  (i_q5:W.isFn K (.ref wW) = true)
  (pZ:bK K "peek" "Cursor.peek" JX wW Cq)
  (a_q3:W.findIn K (.ref aV) "ask" = some (some (.ref uI)))
  (i_q3:W.isFn K (.ref uI) = true)
  (qA:bK K "ask" "Cursor.ask" JO uI D5)
  (a_q6:W.findIn K (.ref aV) "take" = some (some (.ref vZ)))
  (i_q6:W.isFn K (.ref vZ) = true)
  (yG:bK K "take" "Cursor.take" IB vZ Bt)
  (a_q7:W.findIn K (.ref aV) "take_choice" = some (some (.ref wc)))
  (i_q7:W.isFn K (.ref wc) = true)
  (xy:bK K "take_choice" "Cursor.take_choice" Ik wc Ds)
  (a_q8:W.findIn K (.ref aV) "take_name" = some (some (.ref vm)))
  (i_q8:W.isFn K (.ref vm) = true)
  (v9:bK K "take_name" "Cursor.take_name" G3 vm Dz)
  (a_q9:W.findIn K (.ref aV) "take_signs" = some (some (.ref t7)))
  (i_q9:W.isFn K (.ref t7) = true)
  (Eo:bK K "take_signs" "Cursor.take_signs" GX t7 Bk)
  (a_q69:W.nsIn K mainGlobals "is_name" = some (some (.ref oY)))
  (uQ:bK K "is_name" "is_name" zG oY wG)
  (a_q63:W.nsIn K mainGlobals "copied_rules" = some (some (.ref pe)))
  (vH:bK K "copied_rules" "copied_rules" zN pe tW)
  (a_q61:W.nsIn K mainGlobals "copied_mode" = some (some (.ref nV)))
  (vQ:bK K "copied_mode" "copied_mode" zT nV vM)
  (a_q62:W.nsIn K mainGlobals "copied_rule" = some (some (.ref pU)))
  (ve:bK K "copied_rule" "copied_rule" BG pU wO)
  (a_q65:W.nsIn K mainGlobals "first_rule" = some (some (.ref o5)))
  (oF:bK K "first_rule" "first_rule" Bv o5 w6)
  (a_q64:W.nsIn K mainGlobals "do_deed" = some (some (.ref pP)))
  (pq:bK K "do_deed" "do_deed" DJ pP ue)
  (a_q58:W.nsIn K mainGlobals "ask_rings" = some (some (.ref m9)))
  (mL:bK K "ask_rings" "ask_rings" DZ m9 qN)
  (a_q77:W.nsIn K mainGlobals "ring_of" = some (some (.ref qm)))
  (pY:bK K "ring_of" "ring_of" zj qm vg)
  (a_q80:W.nsIn K mainGlobals "short_rows" = some (some (.ref o9)))
  (vz:bK K "short_rows" "short_rows" Dv o9 vR)
  (a_q76:W.nsIn K mainGlobals "ring_from" = some (some (.ref nZ)))
  (qq:bK K "ring_from" "ring_from" D6 nZ u7)
  (a_q68:W.nsIn K mainGlobals "idle_rule" = some (some (.ref o6)))
  (n8:bK K "idle_rule" "idle_rule" Dn o6 vL)
  (a_q67:W.nsIn K mainGlobals "gone_over" = some (some (.ref o4)))
  (pK:bK K "gone_over" "gone_over" C8 o4 vK)
  (a_q75:W.nsIn K mainGlobals "read_rules" = some (some (.ref pW)))
  (wV:bK K "read_rules" "read_rules" Ey pW v8)
  (a_q70:W.nsIn K mainGlobals "mode_numbers" = some (some (.ref qb)))
  (xj:bK K "mode_numbers" "mode_numbers" Ec qb vp)
  (a_q72:W.nsIn K mainGlobals "read_mode" = some (some (.ref oJ)))
  (uA:bK K "read_mode" "read_mode" zy oJ wI)
  (a_q74:W.nsIn K mainGlobals "read_rule" = some (some (.ref oQ)))
  (wJ:bK K "read_rule" "read_rule" Dy oQ uX)
  (a_q73:W.nsIn K mainGlobals "read_pattern" = some (some (.ref oV)))
  (uq:bK K "read_pattern" "read_pattern" Eu oV uH)
  (a_q71:W.nsIn K mainGlobals "read_goal" = some (some (.ref oK)))
  (vU:bK K "read_goal" "read_goal" CZ oK v7)
  (a_q59:W.nsIn K mainGlobals "begins" = some (some (.ref nR)))
  (uE:bK K "begins" "begins" zV nR xh)
  (a_q60:W.nsIn K mainGlobals "colours" = some (some (.ref oB)))
  (uy:bK K "colours" "colours" zH oB uG)
  (a_q66:W.nsIn K mainGlobals "fold_marks" = some (some (.ref qj)))
  (vP:bK K "fold_marks" "fold_marks" z8 qj uR)
  (a_q57:W.nsIn K mainGlobals "all_told" = some (some (.ref qp)))
  (k8:bK K "all_told" "all_told" CS qp u6)
  (a_q50:W.nsIn K mainGlobals "_law_draw" = some (some (.ref nO)))
  (dM:bK K "_law_draw" "_law_draw" Ed nO wo)
  (a_q54:W.nsIn K mainGlobals "_law_rules" = some (some (.ref nU)))
  (vv:bK K "_law_rules" "_law_rules" uc nU xq)
  (a_q51:W.nsIn K mainGlobals "_law_eaten" = some (some (.ref nN)))
  (iZ:bK K "_law_eaten" "_law_eaten" Eg nN uZ)
  (a_q49:W.nsIn K mainGlobals "_law_after" = some (some (.ref oj)))
  (om:bK K "_law_after" "_law_after" Dk oj wU)
  (a_q55:W.nsIn K mainGlobals "_law_stands" = some (some (.ref qk)))
  (uB:bK K "_law_stands" "_law_stands" zP qk uN)
  (a_q52:W.nsIn K mainGlobals "_law_gone" = some (some (.ref oU)))
  (v5:bK K "_law_gone" "_law_gone" zp oU uU)
  (a_q53:W.nsIn K mainGlobals "_law_refused" = some (some (.ref qf)))
  (wk:bK K "_law_refused" "_law_refused" Ck qf wK)
  (a_law:W.nsIn K mainGlobals "law" = some (some (.ref f_law)))
  (F_law:bK K "law" "law" mU f_law d_law)
  (pg_Word:W.plainGet K bT Str.empty = true)
  (hd_Word:W.hasDictIn K bT = true)
  (po_Word:W.plainOver K bT = true)
  (sa_Word:W.findIn K (.ref bT) "__setattr__" = some (some (.builtin "object.__setattr__")))
  (tu:W.makesIn K bT = true)
  (kc_Word:W.keepIn K (.ref bT) = true)
  (fm:W.findIn K (.ref bT) "wanted" = some none)
  (pg_One:W.plainGet K cN Str.empty = true)
  (hd_One:W.hasDictIn K cN = true)
  (po_One:W.plainOver K cN = true)
  (sa_One:W.findIn K (.ref cN) "__setattr__" = some (some (.builtin "object.__setattr__")))
  (zb:W.makesIn K cN = true)
  (kc_One:W.keepIn K (.ref cN) = true)
  (iE:W.findIn K (.ref cN) "signs" = some none)
  (pg_Without:W.plainGet K aU Str.empty = true)
  (hd_Without:W.hasDictIn K aU = true)
  (po_Without:W.plainOver K aU = true)
  (sa_Without:W.findIn K (.ref aU) "__setattr__" = some (some (.builtin "object.__setattr__")))
  (kR:W.makesIn K aU = true)
  (kc_Without:W.keepIn K (.ref aU) = true)
  (fG:W.findIn K (.ref aU) "signs" = some none)
  (pg_Many:W.plainGet K bQ Str.empty = true)
  (hd_Many:W.hasDictIn K bQ = true)
  (po_Many:W.plainOver K bQ = true)
  (sa_Many:W.findIn K (.ref bQ) "__setattr__" = some (some (.builtin "object.__setattr__")))
  (sH:W.makesIn K bQ = true)
  (kc_Many:W.keepIn K (.ref bQ) = true)
  (g8:W.findIn K (.ref bQ) "signs" = some none)
  (pg_Any:W.plainGet K dD Str.empty = true)
  (hd_Any:W.hasDictIn K dD = true)
  (po_Any:W.plainOver K dD = true)
  (sa_Any:W.findIn K (.ref dD) "__setattr__" = some (some (.builtin "object.__setattr__")))
  (yO:W.makesIn K dD = true)
  (kc_Any:W.keepIn K (.ref dD) = true)
  (oi_Any:W.findIn K (.ref dD) "__init__" = some (some (.builtin "object.__init__")))
  (pg_Still:W.plainGet K bH Str.empty = true)
  (hd_Still:W.hasDictIn K bH = true)
  (po_Still:W.plainOver K bH = true)
  (sa_Still:W.findIn K (.ref bH) "__setattr__" = some (some (.builtin "object.__setattr__")))
  (pI:W.makesIn K bH = true)
  (kc_Still:W.keepIn K (.ref bH) = true)
  (oi_Still:W.findIn K (.ref bH) "__init__" = some (some (.builtin "object.__init__")))
  (h_Still_eats:W.findIn K (.ref bH) "eats" = some (some (.ref i0)))
  (pg_End:W.plainGet K dz Str.empty = true)
  (hd_End:W.hasDictIn K dz = true)
  (po_End:W.plainOver K dz = true)
  (sa_End:W.findIn K (.ref dz) "__setattr__" = some (some (.builtin "object.__setattr__")))
  (xF:W.makesIn K dz = true)
  (kc_End:W.keepIn K (.ref dz) = true)
  (oi_End:W.findIn K (.ref dz) "__init__" = some (some (.builtin "object.__init__")))
  (h_End_eats:W.findIn K (.ref dz) "eats" = some (some (.ref i0)))
  (pg_Rule:W.plainGet K cI Str.empty = true)
  (hd_Rule:W.hasDictIn K cI = true)
  (po_Rule:W.plainOver K cI = true)
  (sa_Rule:W.findIn K (.ref cI) "__setattr__" = some (some (.builtin "object.__setattr__")))
  (nH:W.makesIn K cI = true)
  (kc_Rule:W.keepIn K (.ref cI) = true)
  (cU:W.findIn K (.ref cI) "pattern" = some none)
  (fC:W.findIn K (.ref cI) "colour" = some none)
  (dR:W.findIn K (.ref cI) "deed" = some none)
  (fR:W.findIn K (.ref cI) "goal" = some none)
  (fS:W.findIn K (.ref cI) "fold" = some none)
  (pg_Mode:W.plainGet K bP Str.empty = true)
  (hd_Mode:W.hasDictIn K bP = true)
  (po_Mode:W.plainOver K bP = true)
  (sa_Mode:W.findIn K (.ref bP) "__setattr__" = some (some (.builtin "object.__setattr__")))
  (nI:W.makesIn K bP = true)
  (kc_Mode:W.keepIn K (.ref bP) = true)
  (fN:W.findIn K (.ref bP) "name" = some none)
  (fq:W.findIn K (.ref bP) "colour" = some none)
  (dF:W.findIn K (.ref bP) "rules" = some none)
  (pg_Rules:W.plainGet K cK Str.empty = true)
  (hd_Rules:W.hasDictIn K cK = true)
  (po_Rules:W.plainOver K cK = true)
  (sa_Rules:W.findIn K (.ref cK) "__setattr__" = some (some (.builtin "object.__setattr__")))
  (lE:W.makesIn K cK = true)
  (kc_Rules:W.keepIn K (.ref cK) = true)
  (bY:W.findIn K (.ref cK) "modes" = some none)
  (pg_Cursor:W.plainGet K aV Str.empty = true)
  (hd_Cursor:W.hasDictIn K aV = true)
  (po_Cursor:W.plainOver K aV = true)
  (sa_Cursor:W.findIn K (.ref aV) "__setattr__" = some (some (.builtin "object.__setattr__")))
  (mD:W.makesIn K aV = true)
  (kc_Cursor:W.keepIn K (.ref aV) = true)
  (g6:W.findIn K (.ref aV) "row" = some none)
  (eO:W.findIn K (.ref aV) "words" = some none)
  (eB:W.findIn K (.ref aV) "at" = some none)
  (pg_GoneRow:W.plainGet K aY Str.empty = true)
  (hd_GoneRow:W.hasDictIn K aY = true)
  (po_GoneRow:W.plainOver K aY = true)
  (sa_GoneRow:W.findIn K (.ref aY) "__setattr__" = some (some (.builtin "object.__setattr__")))
  (kU:W.makesIn K aY = true)
  (kc_GoneRow:W.keepIn K (.ref aY) = true)
  (fE:W.findIn K (.ref aY) "signs" = some none)
  (eY:W.findIn K (.ref aY) "before" = some none)
  (fD:W.findIn K (.ref aY) "tints" = some none)
  (eW:W.findIn K (.ref aY) "behind" = some none)
  (e7:W.findIn K (.ref aY) "folded" = some none)
  (pg_Tinted:W.plainGet K aL Str.empty = true)
  (hd_Tinted:W.hasDictIn K aL = true)
  (po_Tinted:W.plainOver K aL = true)
  (sa_Tinted:W.findIn K (.ref aL) "__setattr__" = some (some (.builtin "object.__setattr__")))
  (jO:W.makesIn K aL = true)
  (kc_Tinted:W.keepIn K (.ref aL) = true)
  (fZ:W.findIn K (.ref aL) "rules" = some none)
  (cC:W.findIn K (.ref aL) "gone_rows" = some none)
  (xcg:W.specialIn K (.builtin "object.__class__") "__get__" = some (some (.builtin "getset_descriptor.__get__")))
  (xct:W.takesIn K (.builtin "object.__class__") = some true)
  (xa_TintError:sZ K aW = true)
  (xg_TintError:W.findIn K (.ref aW) "__getattribute__" = some (some (.builtin "BaseException.__getattribute__")))
  (xh_TintError:W.findIn K (.ref aW) "__getattr__" = some none)
  (xb_TintError:W.mroIn K aW (.type "BaseException") = some true)
  (xs_TintError:W.findIn K (.ref aW) "__setattr__" = some (some (.builtin "object.__setattr__")))
  (xo_TintError:W.mroIn K aW (.type "object") = some true)
  (xd_TintError:W.hasDictIn K aW = true)
  (xc_TintError:W.findIn K (.ref aW) "__class__" = some (some (.builtin "object.__class__")))
  (lK:W.excIn K aW VE "ValueError.__new__" = true)
  (xa_Rings:sZ K aX = true)
  (xg_Rings:W.findIn K (.ref aX) "__getattribute__" = some (some (.builtin "BaseException.__getattribute__")))
  (xh_Rings:W.findIn K (.ref aX) "__getattr__" = some none)
  (xb_Rings:W.mroIn K aX (.type "BaseException") = some true)
  (xs_Rings:W.findIn K (.ref aX) "__setattr__" = some (some (.builtin "object.__setattr__")))
  (xo_Rings:W.mroIn K aX (.type "object") = some true)
  (xd_Rings:W.hasDictIn K aX = true)
  (xc_Rings:W.findIn K (.ref aX) "__class__" = some (some (.builtin "object.__class__")))
  (xk_Rings:W.keepIn K (.ref aX) = true)
  (i8:W.findIn K (.ref aX) "ring" = some none)
  (jj:W.findIn K (.ref aX) "sign" = some none)
  (fK:W.mroIn K aX (.ref aW) = some true)
  (sg_TintError:W.specialIn K (.ref aW) "__getattribute__" = some (some (.builtin "type.__getattribute__")))
  (sr_TintError:W.readsIn K aW (.type "type") = true)
  (sf_TintError:W.findCls K (.ref aW) (.type "type") "__init__" = some (.val (.builtin "ValueError.__init__")))
  (iz:W.kitOne K (.ref aX) (.ref aX) = some true)
  (cg:W.specialIn K (.builtin "object.__class__") "__get__" = some (some (.builtin "getset_descriptor.__get__")))
  (ct:W.takesIn K (.builtin "object.__class__") = some true)
  (sU:W.findIn K (.ref bT) "__class__" = some (some (.builtin "object.__class__")))
  (tE:W.mroIn K bT (.type "object") = some true)
  (xW:W.findIn K (.ref cN) "__class__" = some (some (.builtin "object.__class__")))
  (yX:W.mroIn K cN (.type "object") = some true)
  (kI:W.findIn K (.ref aU) "__class__" = some (some (.builtin "object.__class__")))
  (kF:W.mroIn K aU (.type "object") = some true)
  (sX:W.findIn K (.ref bQ) "__class__" = some (some (.builtin "object.__class__")))
  (sM:W.mroIn K bQ (.type "object") = some true)
  (yd:W.findIn K (.ref dD) "__class__" = some (some (.builtin "object.__class__")))
  (xT:W.mroIn K dD (.type "object") = some true)
  (oA:W.findIn K (.ref bH) "__class__" = some (some (.builtin "object.__class__")))
  (pA:W.mroIn K bH (.type "object") = some true)
  (yP:W.findIn K (.ref dz) "__class__" = some (some (.builtin "object.__class__")))
  (yi:W.mroIn K dz (.type "object") = some true)
  (kB:W.kitOne K (.ref bT) (.ref bT) = some true)
  (mV:W.kitOne K (.ref cN) (.ref cN) = some true)
  (gS:W.kitOne K (.ref aU) (.ref aU) = some true)
  (kh:W.kitOne K (.ref bQ) (.ref bQ) = some true)
  (mW:W.kitOne K (.ref dD) (.ref dD) = some true)
  (jn:W.kitOne K (.ref bH) (.ref bH) = some true)
  (mO:W.kitOne K (.ref dz) (.ref dz) = some true)
  (v_LETTERS:W.nsIn K mainGlobals "LETTERS" = some (some (.str "abcdefghijklmnopqrstuvwxyz" u_LETTERS)))
  (v_LONGEST_NAME:W.nsIn K mainGlobals "LONGEST_NAME" = some (some (.int 8 u_LONGEST_NAME)))
  (v_START:W.nsIn K mainGlobals "START" = some (some (.int 0 u_START)))
  (v_SIGNS:W.nsIn K mainGlobals "SIGNS" = some (some (.str " !\"#$&'()*+,-./0123456789:;<=>?@ABCDEFGHIJKLMNOPQRSTUVWXYZ[\\]^_`abcdefghijklmnopqrstuvwxyz{|}~" u_SIGNS)))
  (v_MOST_MODES:W.nsIn K mainGlobals "MOST_MODES" = some (some (.int 12 u_MOST_MODES)))
  (v_MOST_RULES:W.nsIn K mainGlobals "MOST_RULES" = some (some (.int 12 u_MOST_RULES)))
  (v_PATTERNS:W.nsIn K mainGlobals "PATTERNS" = some (some (.ref eG)))
  (o_PATTERNS:K.lookup eG = some ⟨.type "tuple",od_PATTERNS,.seq #[.str "word" u0_PATTERNS,.str "one" u1_PATTERNS,.str "none" u2_PATTERNS,.str "many" u3_PATTERNS,.str "any" u4_PATTERNS,.str "still" u5_PATTERNS,.str "end" u6_PATTERNS] n_PATTERNS,sl_PATTERNS⟩)
  (v_DEEDS:W.nsIn K mainGlobals "DEEDS" = some (some (.ref iK)))
  (o_DEEDS:K.lookup iK = some ⟨.type "tuple",od_DEEDS,.seq #[.str "stay" u0_DEEDS,.str "push" u1_DEEDS,.str "pop" u2_DEEDS,.str "into" u3_DEEDS] n_DEEDS,sl_DEEDS⟩)
  (v_GOING:W.nsIn K mainGlobals "GOING" = some (some (.ref jk)))
  (o_GOING:K.lookup jk = some ⟨.type "tuple",od_GOING,.seq #[.str "push" u0_GOING,.str "into" u1_GOING] n_GOING,sl_GOING⟩)
  (v_FOLDS:W.nsIn K mainGlobals "FOLDS" = some (some (.ref iC)))
  (o_FOLDS:K.lookup iC = some ⟨.type "tuple",od_FOLDS,.seq #[.str "open" u0_FOLDS,.str "close" u1_FOLDS] n_FOLDS,sl_FOLDS⟩)
  (CW:W.nsIn K mainGlobals "all" = some none)
  (iL:W.nsIn K mainGlobals "enumerate" = some none)
  (Cs:W.nsIn K mainGlobals "int" = some none)
  (i9:W.nsIn K mainGlobals "isinstance" = some none)
  (bW:W.nsIn K mainGlobals "len" = some none)
  (gy:W.nsIn K mainGlobals "list" = some none)
  (Ea:W.nsIn K mainGlobals "max" = some none)
  (gb:W.nsIn K mainGlobals "range" = some none)
  (nY:W.nsIn K mainGlobals "reversed" = some none)
  (sG:W.nsIn K mainGlobals "tuple" = some none)
  (F9:W.nsIn K mainGlobals "zip" = some none)
  : ∃ fd:FuncData,(∀ (s:Shared) (v:Value),BindsTo s fd ⟨[v],[]⟩ [("_law_script",v)]) /\ ∀ base:Heap,K.In base -> base.Ns mainGlobals mg -> bu l.prog w K mg base dZ 10 fa fd ["_law_script"] (zR K):=by
 have e:=hfa.symm.trans (W.mg_of X G a_law)
 cases e
 let t:gq:=⟨aW,jT,aX,jW,ia,bT,cN,aU,bQ,dD,bH,dz,cI,bP,cK,aY,aL,aV,k6,wm,qT,z7,i0,pQ,nu,uO,lS,rG,lM,qM,mZ,tU,lN,qD,lJ,rR,nj,wZ,lz,qX,lO,qG,nq,wQ,lP,qW,lA,rq,sF,AZ,sS,AA,lu,qE,lH,qK,oY,wG,mS,uK,mT,wN,m8,wR,pe,tW,nV,vM,pU,wO,o5,w6,pP,ue,m9,qN,qm,vg,o9,vR,nZ,u7,o6,vL,o4,vK,m6,wg,kj,pM,nv,we,mX,ur,nc,uf,nA,xr,mJ,uS,mY,ud,nh,wz,uv,Dt,vq,CJ,wW,Cq,uI,D5,vZ,Bt,wc,Ds,vm,Dz,t7,Bk,pW,v8,qb,vp,oJ,wI,oQ,uX,oV,uH,oK,v7,nR,xh,oB,uG,qj,uR,qp,u6,nO,wo,nU,xq,nN,uZ,oj,wU,qk,uN,oU,uU,qf,wK,eG,iK,jk,iC⟩
 have T:Txt K mg t:=⟨W.mg_of X G a_TintError,W.mg_of X G a_NoRules,W.mg_of X G a_Rings,W.mg_of X G a_NoPlace,W.mg_of X G a_Pattern,W.mg_of X G a_Word,W.mg_of X G a_One,W.mg_of X G a_Without,W.mg_of X G a_Many,W.mg_of X G a_Any,W.mg_of X G a_Still,W.mg_of X G a_End,W.mg_of X G a_Rule,W.mg_of X G a_Mode,W.mg_of X G a_Rules,W.mg_of X G a_GoneRow,W.mg_of X G a_Tinted,W.mg_of X G a_Cursor,zZ,Ga,qd,z9,vN,u9,zB,u5,u0,zu,vn,uC,z5,uM,xu,DO,CM,uJ,vF,uV,t9,uY,zc,qO,t6,vY,vh,vC,uo,qg,ua,Fj,uL,pZ,qA,yG,xy,v9,Eo,uQ,W.mg_of X G a_q69,vH,W.mg_of X G a_q63,vQ,W.mg_of X G a_q61,ve,W.mg_of X G a_q62,oF,W.mg_of X G a_q65,pq,W.mg_of X G a_q64,mL,W.mg_of X G a_q58,pY,W.mg_of X G a_q77,vz,W.mg_of X G a_q80,qq,W.mg_of X G a_q76,n8,W.mg_of X G a_q68,pK,W.mg_of X G a_q67,wV,W.mg_of X G a_q75,xj,W.mg_of X G a_q70,uA,W.mg_of X G a_q72,wJ,W.mg_of X G a_q74,uq,W.mg_of X G a_q73,vU,W.mg_of X G a_q71,uE,W.mg_of X G a_q59,uy,W.mg_of X G a_q60,vP,W.mg_of X G a_q66,k8,W.mg_of X G a_q57,dM,W.mg_of X G a_q50,vv,W.mg_of X G a_q54,iZ,W.mg_of X G a_q51,om,W.mg_of X G a_q49,uB,W.mg_of X G a_q55,v5,W.mg_of X G a_q52,wk,W.mg_of X G a_q53,⟨pg_Word,hd_Word,po_Word,sa_Word⟩,⟨tu,a_q46,i_q46,kc_Word⟩,fm,⟨a_q47,i_q47,vN.kp⟩,⟨a_q48,i_q48,u9.kp⟩,⟨pg_One,hd_One,po_One,sa_One⟩,⟨zb,a_q17,i_q17,kc_One⟩,iE,⟨a_q18,i_q18,u5.kp⟩,⟨a_q19,i_q19,u0.kp⟩,⟨pg_Without,hd_Without,po_Without,sa_Without⟩,⟨kR,a_q43,i_q43,kc_Without⟩,fG,⟨a_q44,i_q44,vn.kp⟩,⟨a_q45,i_q45,uC.kp⟩,⟨pg_Many,hd_Many,po_Many,sa_Many⟩,⟨sH,a_q12,i_q12,kc_Many⟩,g8,⟨a_q13,i_q13,uM.kp⟩,⟨a_q14,i_q14,xu.kp⟩,⟨pg_Any,hd_Any,po_Any,sa_Any⟩,⟨yO,oi_Any,kc_Any⟩,⟨a_q0,i_q0,DO.kp⟩,⟨a_q1,i_q1,CM.kp⟩,⟨pg_Still,hd_Still,po_Still,sa_Still⟩,⟨pI,oi_Still,kc_Still⟩,⟨a_q25,i_q25,uJ.kp⟩,⟨h_Still_eats,i_q21,qd.kp⟩,⟨pg_End,hd_End,po_End,sa_End⟩,⟨xF,oi_End,kc_End⟩,⟨a_q10,i_q10,vF.kp⟩,⟨h_End_eats,i_q21,qd.kp⟩,⟨pg_Rule,hd_Rule,po_Rule,sa_Rule⟩,⟨nH,a_q23,i_q23,kc_Rule⟩,cU,fC,dR,fR,fS,⟨pg_Mode,hd_Mode,po_Mode,sa_Mode⟩,⟨nI,a_q15,i_q15,kc_Mode⟩,fN,fq,dF,⟨pg_Rules,hd_Rules,po_Rules,sa_Rules⟩,⟨lE,a_q24,i_q24,kc_Rules⟩,bY,⟨pg_Cursor,hd_Cursor,po_Cursor,sa_Cursor⟩,⟨mD,a_q2,i_q2,kc_Cursor⟩,g6,eO,eB,⟨a_q4,i_q4,uL.kp⟩,⟨a_q5,i_q5,pZ.kp⟩,⟨a_q3,i_q3,qA.kp⟩,⟨a_q6,i_q6,yG.kp⟩,⟨a_q7,i_q7,xy.kp⟩,⟨a_q8,i_q8,v9.kp⟩,⟨a_q9,i_q9,Eo.kp⟩,⟨pg_GoneRow,hd_GoneRow,po_GoneRow,sa_GoneRow⟩,⟨kU,a_q11,i_q11,kc_GoneRow⟩,fE,eY,fD,eW,e7,⟨pg_Tinted,hd_Tinted,po_Tinted,sa_Tinted⟩,⟨jO,a_q26,i_q26,kc_Tinted⟩,fZ,cC,⟨a_q42,i_q42,t6.kp⟩,⟨a_q31,i_q31,vY.kp⟩,⟨a_q33,i_q33,vh.kp⟩,⟨a_q38,i_q38,vC.kp⟩,⟨a_q36,i_q36,uo.kp⟩,⟨a_q37,i_q37,qg.kp⟩,⟨a_q29,i_q29,ua.kp⟩,{ at_:=xa_TintError,ge:=⟨xg_TintError,xh_TintError,xb_TintError⟩,sa:=xs_TintError,ob:=xo_TintError,hd:=xd_TintError,ca:=xc_TintError,cg:=xcg,ct:=xct },lK,{ at_:=xa_Rings,ge:=⟨xg_Rings,xh_Rings,xb_Rings⟩,sa:=xs_Rings,ob:=xo_Rings,hd:=xd_Rings,ca:=xc_Rings,cg:=xcg,ct:=xct },⟨a_q22,i_q22,xk_Rings⟩,i8,jj,fK,⟨sg_TintError,sr_TintError,sf_TintError⟩,iz,cg,ct,sU,tE,xW,yX,kI,kF,sX,sM,yd,xT,oA,pA,yP,yi,kB,mV,gS,kh,mW,jn,mO,⟨_,W.mg_of X G v_LETTERS,⟨_,rfl⟩⟩,⟨_,W.mg_of X G v_LONGEST_NAME,⟨_,rfl⟩⟩,⟨_,W.mg_of X G v_START,⟨_,rfl⟩⟩,⟨_,W.mg_of X G v_SIGNS,⟨_,rfl⟩⟩,⟨_,W.mg_of X G v_MOST_MODES,⟨_,rfl⟩⟩,⟨_,W.mg_of X G v_MOST_RULES,⟨_,rfl⟩⟩,W.mg_of X G v_PATTERNS,λH=>.inr ⟨_,_,_,o_PATTERNS,rfl,rfl,by show 7 <= sizeLine;decide,.cons ⟨_,rfl⟩ (.cons ⟨_,rfl⟩ (.cons ⟨_,rfl⟩ (.cons ⟨_,rfl⟩ (.cons ⟨_,rfl⟩ (.cons ⟨_,rfl⟩ (.cons ⟨_,rfl⟩ (.nil)))))))⟩,W.mg_of X G v_DEEDS,λH=>.inr ⟨_,_,_,o_DEEDS,rfl,rfl,by show 4 <= sizeLine;decide,.cons ⟨_,rfl⟩ (.cons ⟨_,rfl⟩ (.cons ⟨_,rfl⟩ (.cons ⟨_,rfl⟩ (.nil))))⟩,W.mg_of X G v_GOING,λH=>.inr ⟨_,_,_,o_GOING,rfl,rfl,by show 2 <= sizeLine;decide,.cons ⟨_,rfl⟩ (.cons ⟨_,rfl⟩ (.nil))⟩,W.mg_of X G v_FOLDS,λH=>.inr ⟨_,_,_,o_FOLDS,rfl,rfl,by show 2 <= sizeLine;decide,.cons ⟨_,rfl⟩ (.cons ⟨_,rfl⟩ (.nil))⟩,W.mg_none_of X G CW,W.mg_none_of X G iL,W.mg_none_of X G Cs,W.mg_none_of X G i9,W.mg_none_of X G bW,W.mg_none_of X G gy,W.mg_none_of X G Ea,W.mg_none_of X G gb,W.mg_none_of X G nY,W.mg_none_of X G sG,W.mg_none_of X G F9⟩
 exact ⟨d_law,(by obtain ⟨_,_,_,_,_,_,_,_,_,e,_⟩:=F_law.ex;rw [e];exact λs v=>.of_eq rfl),λbase _ _=>GK F_law T⟩
theorem walk {l:W.OpenLaw} {q:Program} {loose:List Str} {XP:(Str -> Option Value) -> Heap -> Prop} {YP:World -> Heap -> Prop} {d:DefRec} {K:Params -> W.Frag} (hn:l.most = some 63) (hdf:d.params.defaults = [])
  (hY:∀ (w:World) (h:Heap),YP w h -> (K w.params).In h)
  (F:∀ (w:World) (mg:Str -> Option Value) (fa:Addr) (h:Heap),(K w.params).In h -> h.Ns mainGlobals mg -> mg d.name = some (.ref fa) ->
   ∃ fd:FuncData,(∀ (s:Shared) (u:Value),BindsTo s fd ⟨[u],[]⟩ [("_law_script",u)]) /\ ∀ base:Heap,(K w.params).In base -> base.Ns mainGlobals mg -> bu l.prog w (K w.params) mg base dZ 10 fa fd ["_law_script"] (zR (K w.params))) :
  W.WalkO q loose XP YP l.row.toRowW d [] (λf vs=>PySem.call f vs) :=
 L2.Fc (n:=63) (k:=10) (x:="_law_script") (CX:=λ_=>dZ) (sp:=λw=>zR (K w.params)) hn (by decide) hdf ⟨rfl,by decide,by decide⟩ hY F (λ_ _ a ns hl _ hS=>⟨a,ns,rfl,hS,hl,λ_=>rfl⟩) λ_ _ _ _ _ z=>z
end K92
open PySem PySem.W PyProof.Rows
set_option maxRecDepth 100000 in
set_option maxHeartbeats 0 in
theorem PySem.Challenge.cw_tintrow_k92_whole_any_rules_holds : PySem.Challenge.rw_tintrow_k92_whole_any_rules.Holds := by
 w_on;o_law;k_head;(case hw=>w_witness2)
 k_fill
 refine K92.walk (l:=PySem.Challenge.rw_tintrow_k92_whole_any_rules) rfl rfl (λw h Y=>PySem.W.kIn_of Y) ?F
 case F =>
  intro w mg fa h KX G hmg
  apply K92.all_mk KX G hmg
  all_goals first | (show PySem.W.kitOne _ _ _ = _;kit_is) | k_is | (apply L2.HW <;> k_is) | k_exc | kernel_rfl
