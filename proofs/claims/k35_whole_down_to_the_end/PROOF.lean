import PyProof.Rows.All
import Wide.All
import OpenK.AllK
import Wide.FinOn
import PyProof.EqAt
import PyProof.EqKinds
import PyProof.TupleCall
import PyProof.ListStr
import PyProof.EnumFor
import PyProof.EnumMake
import PyProof.EnumStmt
import PyProof.StrLawsTight
import PyProof.StrLawsReplace
import PyProof.StrCalls6
import PyProof.ToksMono
import PyProof.StationsW
import PyProof.RulesTry
import PyProof.ExcInit
import PyProof.ExcClass3
import OpenK.KOwn
import PyProof.ExcBaseAll.ValueError
import PyProof.RulesAs
import PyProof.NsDelKeeps
import KE.KIsAll
import PyProof.ExcArgsOwn
import PyProof.InstStoreFacts
import PyProof.ZipIter
import KE.KRevIter
import KE.KIntText
import PyProof.FString
import PyProof.CompMap
import KE.KListMore
import PyProof.ListRange
import PySem.Challenge.RW_tintrow_k35_whole_down_to_the_end
set_option Elab.async false
set_option linter.all false
set_option maxRecDepth 100000
namespace L2
open PySem PySem.Spec PyProof.Rows
abbrev Key:=Sum Int Str
def qQ:Key -> Value -> Bool
 | .inl k,v=>Value.isInt k v
 | .inr x,v=>Value.isStrOf x v
def L0 (w:World):Key -> Int
 | .inl k=>hashInt k
 | .inr x=>hashStr w x
theorem cV:∀ {k:Key} {v:Value},qQ k v = true -> (∃ i t,k = Sum.inl i /\ v = Value.int i t) ∨ (∃ x t,k = Sum.inr x /\ v = Value.str x t)
 | .inl i,v,h=>by
  obtain ⟨t,e⟩:=Value.isInt_shape (k:=i) (v:=v) h
  exact .inl ⟨i,t,rfl,e⟩
 | .inr x,v,h=>by
  obtain ⟨t,e⟩:=Value.isStrOf_shape (x:=x) (v:=v) h
  exact .inr ⟨x,t,rfl,e⟩
theorem zP (i:Int) (t:Tok):qQ (.inl i) (.int i t) = true:=by simp [qQ,Value.isInt]
theorem Aw (x:Str) (t:Tok):qQ (.inr x) (.str x t) = true:=by simp [qQ,Value.isStrOf]
theorem Hr (a b:Int):decide ((Sum.inl a:Key) = Sum.inl b) = (a == b):=by
 by_cases e:a = b
 ·subst e;simp
 ·have h:¬ (Sum.inl a:Key) = Sum.inl b:=λq=>e (Sum.inl.inj q)
  rw [decide_eq_false h]
  exact (beq_eq_false_iff_ne.mpr e).symm
theorem JR (a b:Str):decide ((Sum.inr a:Key) = Sum.inr b) = decide (a = b):=by
 by_cases e:a = b
 ·subst e;simp
 ·have h:¬ (Sum.inr a:Key) = Sum.inr b:=λq=>e (Sum.inr.inj q)
  rw [decide_eq_false h,decide_eq_false e]
theorem G9 (a:Int) (b:Str):decide ((Sum.inl a:Key) = Sum.inr b) = false:=decide_eq_false (λq=>nomatch q)
theorem Gn (a:Str) (b:Int):decide ((Sum.inr a:Key) = Sum.inl b) = false:=decide_eq_false (λq=>nomatch q)
def c6 (prog:Program) (w:World):PySem.KeyKind prog w Key where
 is:=qQ
 hash:=L0 w
 inj:=λv a b ha hb=>by
  rcases cV ha with ⟨i,t,rfl,rfl⟩ | ⟨x,t,rfl,rfl⟩
  ·rcases cV hb with ⟨j,u,rfl,e⟩ | ⟨y,u,rfl,e⟩
   ·injection e with e1 _;rw [e1]
   ·exact nomatch e
  ·rcases cV hb with ⟨j,u,rfl,e⟩ | ⟨y,u,rfl,e⟩
   ·exact nomatch e
   ·injection e with e1 _;rw [e1]
 byValue:=λk v h=>by
  rcases cV h with ⟨i,t,rfl,rfl⟩ | ⟨x,t,rfl,rfl⟩ <;> rfl
 pyHash:=λhv h=>by
  rcases cV hv with ⟨i,t,rfl,rfl⟩ | ⟨x,t,rfl,rfl⟩
  ·exact wpAny_pyHash_int h
  ·exact wpAny_pyHash_str h
 eqBool:=λhu hv h=>by
  rcases cV hu with ⟨i,t,rfl,rfl⟩ | ⟨x,t,rfl,rfl⟩
  ·rcases cV hv with ⟨j,u,rfl,rfl⟩ | ⟨y,u,rfl,rfl⟩
   ·rw [Hr] at h;exact wpAny_eqBool_int h
   ·rw [G9] at h;exact SeqAt.EqAt.int_str i t y u _ _ _ _ h
  ·rcases cV hv with ⟨j,u,rfl,rfl⟩ | ⟨y,u,rfl,rfl⟩
   ·rw [Gn] at h;exact SeqAt.EqAt.str_int x t j u _ _ _ _ h
   ·rw [JR] at h;exact wpAny_eqBool_str h
 «strs»:=λk x t v h=>by
  rcases cV h with ⟨i,u,rfl,e⟩ | ⟨y,u,rfl,e⟩
  ·exact nomatch e
  ·injection e with e1 _
   subst e1
   cases v <;> rfl
theorem tS (prog:Program) (w:World) (i:Int) (t:Tok):(c6 prog w).is (.inl i) (.int i t) = true:=zP i t
theorem wB (prog:Program) (w:World) (x:Str) (t:Tok):(c6 prog w).is (.inr x) (.str x t) = true:=Aw x t
end L2
namespace L2
open PySem PySem.Spec PyProof.Rows
inductive V where
 | cK | bl (b:Bool) | int (i:Int) | str (x:Str) | byt (b:Array UInt8) | flt (b:UInt64) | ref (a:Addr) | ty (n:String)
 deriving DecidableEq
def RelV:V -> Value -> Prop
 | .cK,u=>u = Value.none
 | .bl b,u=>u = Value.bool b
 | .int i,u=>∃ t,u = Value.int i t
 | .str x,u=>∃ t,u = Value.str x t
 | .byt b,u=>∃ t,u = Value.bytes b t
 | .flt b,u=>∃ t,u = Value.float b t
 | .ref a,u=>u = Value.ref a
 | .ty n,u=>u = Value.type n
abbrev Vals:List V -> List Value -> Prop:=Paired RelV
theorem Vals.length {xs:List V} {us:List Value} (r:Vals xs us):xs.length = us.length:=Paired.length r
theorem Vals.get:∀ {xs:List V} {us:List Value} {i:Nat} {x:V},Vals xs us -> xs[i]? = some x -> ∃ u,us[i]? = some u /\ RelV x u
 | _,_,_,_,.nil,e=>by simp at e
 | _,_,0,_,.cons r _,e=>by simp at e;subst e;exact ⟨_,rfl,r⟩
 | _,_,i + 1,x,.cons _ t,e=>by
  obtain ⟨u,h1,h2⟩:=Vals.get (i:=i) (x:=x) t (by simpa using e)
  exact ⟨u,by simpa using h1,h2⟩
theorem Vals.set {x:V} {u:Value} (r:RelV x u):∀ {xs:List V} {us:List Value} (i:Nat),Vals xs us -> Vals (xs.set i x) (us.set i u)
 | _,_,_,.nil=>.nil
 | _,_,0,.cons _ t=>.cons r t
 | _,_,i + 1,.cons q t=>.cons q (Vals.set r i t)
theorem Vals.append:∀ {xs ys:List V} {us ws:List Value},Vals xs us -> Vals ys ws -> Vals (xs ++ ys) (us ++ ws)
 | _,_,_,_,.nil,s=>s
 | _,_,_,_,.cons r t,s=>.cons r (Vals.append t s)
theorem Vals.take:∀ {xs:List V} {us:List Value} (n:Nat),Vals xs us -> Vals (xs.take n) (us.take n)
 | _,_,0,_=>.nil
 | _,_,_ + 1,.nil=>.nil
 | _,_,n + 1,.cons r t=>.cons r (Vals.take n t)
theorem Vals.drop:∀ {xs:List V} {us:List Value} (n:Nat),Vals xs us -> Vals (xs.drop n) (us.drop n)
 | _,_,0,r=>r
 | _,_,_ + 1,.nil=>.nil
 | _,_,n + 1,.cons _ t=>Vals.drop n t
def jj:Option V -> Option Value -> Prop
 | some v,some u=>RelV v u
 | none,none=>True
 | _,_=>False
def KV {κ:Type}:List (κ × V) -> List (κ × Value) -> Prop:=Paired λ(p:κ × V) (q:κ × Value)=>p.1 = q.1 /\ RelV p.2 q.2
def kV:Key -> V
 | .inl i=>.int i
 | .inr x=>.str x
inductive HO where
  | lst (xs:List V)
  | tup (xs:List V)
  | dK (kvs:List (Key × V)) | dT (kvs:List (List Key × V))
  | set (S:Int -> Bool) (n:Nat)
  | ins (C dx:Addr) (fs:List (Str × V))
  | own (x:Addr)
  | xd (fs:List (Str × V))
  | met (f x:Addr)
  | LZ (lo hi:Int)
  | D9 (o:Obj) (u:HO)
  | IF (ps:Array Value)
  | ext (φ:Heap -> Prop)
abbrev Hp:=Addr -> Option HO
def upd (H:Hp) (a:Addr) (o:HO):Hp:=λb=>if b = a then some o else H b
theorem af {H:Hp} {a:Addr} {o:HO}:upd H a o a = some o:=by unfold upd;rw [if_pos rfl]
theorem ao {H:Hp} {a b:Addr} {o:HO} (h:b ≠ a):upd H a o b = H b:=by unfold upd;rw [if_neg h]
theorem gk {H:Hp} {a:Addr} {o u:HO}:upd (upd H a o) a u = upd H a u:=by
 funext b;unfold upd;split <;> rfl
theorem cB {H:Hp} {a b:Addr} {o u:HO} (h:H a = some o) (h':H b = some u) (d:o ≠ u):a ≠ b:=by
 intro e;subst e;rw [h] at h';exact d (Option.some.inj h')
theorem aj {H:Hp} {a b:Addr} {o:HO} (h:H a = some o) (h':H b = none):a ≠ b:=by
 intro e;subst e;rw [h] at h';cases h'
section
variable (P:Program) (w:World)
def dM (H:Hp) (h:Heap) (a:Addr):HO -> Prop
 | .lst xs=>xs.length <= sizeLine /\ ∃ (its:List Value) (n:Nat),Vals xs its /\ h.get? a = some { cls:=.type "list",data:=.seq its.toArray n }
 | .tup xs=>xs.length <= sizeLine /\ ∃ its:List Value,Vals xs its /\ IsTup h a its.toArray
 | .dK kvs=>kvs.length <= sizeLine /\ (a == sysModules) = false /\ ∃ vs,KV kvs vs /\ h.DictOf (c6 P w) a vs
 | .dT kvs=>kvs.length <= sizeLine /\ (a == sysModules) = false /\ ∃ xs:List (List Key × Addr × Value),
   Paired (λ(p:List Key × V) (q:List Key × Addr × Value)=>p.1 = q.1 /\ H q.2.1 = some (.tup (p.1.map kV)) /\ RelV p.2 q.2.2) kvs xs /\
   ∃ o es ep,h.get? a = some o /\ o.ExactDict /\ o.data = .dict es ep /\ es.toList = xs.map (entryOfKey (tupleKind (c6 P w))) /\ (xs.map (·.1)).Nodup
 | .set S n=>h.SetOf (intKind P w) a S n
 | .ins C dx fs=>H dx = some (.own a) /\ fs.length <= 1000 /\ dx ≠ a /\ h.get? a = some (PySem.W.instObj C dx) /\
   ∃ mA,h.Ns1 dx mA /\ (∀ f,jj (fs.lookup f) (mA f)) /\ PySem.Within mA (fs.map (·.1))
 | .own _=>∃ o,h.get? a = some o
 | .xd fs=>∃ mA,h.Ns1 a mA /\ ∀ f,jj (fs.lookup f) (mA f)
 | .LZ lo hi=>∃ t u v,h.get? a = some { cls:=.type "range",data:=.fields #[.int lo t,.int hi u,.int 1 v] }
 | .D9 o u=>h.get? a = some o /\ dM H h a u
 | .IF ps=>h.get? a = some { cls:=.none,data:=.fields ps }
 | .met f x=>h.get? a = some (PySem.W.methodObj (.ref f) (.ref x))
 | .ext φ=>φ h /\ (∃ o,h.get? a = some o) /\ ∀ h1 h2:Heap,φ h1 -> (∀ o,h1.get? a = some o -> h2.get? a = some o) -> φ h2
def jQ (H:Hp) (h:Heap):Prop:=∀ a o,H a = some o -> dM P w H h a o
end
section
variable {P:Program} {w:World} {H H':Hp} {h h':Heap} {a:Addr} {o:HO}
theorem dM.lt (x:dM P w H h a o):a < h.objs.size:=by
 cases o with
 | lst xs=>obtain ⟨_,_,_,_,e⟩:=x;exact Heap.lt_size e
 | tup xs=>obtain ⟨_,_,_,p⟩:=x;exact p.lt
 | dK kvs=>obtain ⟨_,_,_,_,o,_,_,e,_⟩:=x;exact Heap.lt_size e
 | dT kvs=>obtain ⟨_,_,_,_,o,_,_,e,_⟩:=x;exact Heap.lt_size e
 | set S n=>obtain ⟨o,_,_,_,e,_⟩:=x;exact Heap.lt_size e
 | ins C dx fs=>obtain ⟨_,_,_,e,_⟩:=x;exact Heap.lt_size e
 | own y=>obtain ⟨_,e⟩:=x;exact Heap.lt_size e
 | xd fs=>obtain ⟨_,⟨_,_,_,e,_⟩,_⟩:=x;exact Heap.lt_size e
 | LZ lo hi=>obtain ⟨_,_,_,e⟩:=x;exact Heap.lt_size e
 | D9 ob u=>obtain ⟨e,_⟩:=x;exact Heap.lt_size e
 | IF ps=>exact Heap.lt_size (show h.get? a = some _ from x)
 | met f y=>exact Heap.lt_size (show h.get? a = some _ from x)
 | ext φ=>obtain ⟨_,⟨_,e⟩,_⟩:=x;exact Heap.lt_size e
theorem Paired.G6 {α β:Type} {F G:α -> β -> Prop}:∀ {l₁:List α} {l₂:List β},Paired F l₁ l₂ -> (∀ a b,F a b -> G a b) -> Paired G l₁ l₂
 | _,_,.nil,_=>.nil
 | _,_,.cons r t,f=>.cons (f _ _ r) (Paired.G6 t f)
theorem dM.stay (x:dM P w H h a o) (k:∀ b u,(b = a ∨ H b = some (.own a)) -> h.get? b = some u -> h'.get? b = some u)
  (ho:∀ b,H b = some (.own a) -> H' b = some (.own a)) (ht:∀ b xs,H b = some (.tup xs) -> H' b = some (.tup xs)):dM P w H' h' a o:=by
 induction o with
 | lst xs=>obtain ⟨z,its,n,r,e⟩:=x;exact ⟨z,its,n,r,k _ _ (.inl rfl) e⟩
 | tup xs=>obtain ⟨z,its,r,ob,e,c⟩:=x;exact ⟨z,its,r,ob,k _ _ (.inl rfl) e,c⟩
 | dK kvs=>obtain ⟨z,y,vs,r,ob,es,ep,e,c⟩:=x;exact ⟨z,y,vs,r,ob,es,ep,k _ _ (.inl rfl) e,c⟩
 | dT kvs =>
  obtain ⟨z,y,xs,r,ob,es,ep,e,c⟩:=x
  exact ⟨z,y,xs,Paired.G6 r λp q z=>⟨z.1,ht _ _ z.2.1,z.2.2⟩,ob,es,ep,k _ _ (.inl rfl) e,c⟩
 | set S n=>obtain ⟨ob,es,ep,t,e,c⟩:=x;exact ⟨ob,es,ep,t,k _ _ (.inl rfl) e,c⟩
 | ins C dx fs =>
  obtain ⟨d,z,ne,e,mA,⟨od,es,ep,e2,c⟩,r⟩:=x
  exact ⟨ho _ d,z,ne,k _ _ (.inl rfl) e,mA,⟨od,es,ep,k _ _ (.inr d) e2,c⟩,r⟩
 | own y=>obtain ⟨ob,e⟩:=x;exact ⟨ob,k _ _ (.inl rfl) e⟩
 | xd fs=>obtain ⟨mA,⟨od,es,ep,e,c⟩,r⟩:=x;exact ⟨mA,⟨od,es,ep,k _ _ (.inl rfl) e,c⟩,r⟩
 | LZ lo hi=>obtain ⟨t,u,v,e⟩:=x;exact ⟨t,u,v,k _ _ (.inl rfl) e⟩
 | D9 ob u ih=>obtain ⟨e,q⟩:=x;exact ⟨k _ _ (.inl rfl) e,ih q⟩
 | IF ps =>
  have e:h.get? a = some { cls:=.none,data:=.fields ps }:=x
  show h'.get? a = some { cls:=.none,data:=.fields ps }
  exact k a _ (.inl rfl) e
 | met f y =>
  have e:h.get? a = some (PySem.W.methodObj (.ref f) (.ref y)):=x
  show h'.get? a = some (PySem.W.methodObj (.ref f) (.ref y))
  exact k a _ (.inl rfl) e
 | ext φ=>obtain ⟨p,⟨o,e⟩,st⟩:=x;exact ⟨st _ _ p λo q=>k _ _ (.inl rfl) q,⟨o,k _ _ (.inl rfl) e⟩,st⟩
theorem jQ.lt (x:jQ P w H h) (e:H a = some o):a < h.objs.size:=(x a o e).lt
theorem jQ.fresh (x:jQ P w H h) (e:h.objs.size <= a):H a = none:=by
 cases q:H a with
 | none=>rfl
 | some u=>exact absurd (Nat.lt_of_lt_of_le (x.lt q) e) (Nat.lt_irrefl _)
theorem jQ.kept (x:jQ P w H h) (k:∀ b u,h.get? b = some u -> h'.get? b = some u):jQ P w H h':=λa o e =>
 (x a o e).stay (λb u _ q=>k b u q) (λ_ q=>q) λ_ _ q=>q
theorem jQ.laid (x:jQ P w H h) (k:∀ b u,h.get? b = some u -> h'.get? b = some u) (hp:h.objs.size <= a) (new:dM P w (upd H a o) h' a o):jQ P w (upd H a o) h':=λb u e=>by
 have hn:=x.fresh hp
 by_cases hb:b = a
 ·subst hb;rw [af] at e;cases e;exact new
 ·rw [ao hb] at e
  exact (x b u e).stay (λc v _ q=>k c v q) (λc q=>by rw [ao (aj q hn)];exact q) λc xs q=>by rw [ao (aj q hn)];exact q
end
def Rd (H:Hp) (a:Addr) (u:HO):Prop:=H a = some u ∨ ∃ o,H a = some (.D9 o u)
theorem Rd.ok {P:Program} {w:World} {H:Hp} {h:Heap} {a:Addr} {u:HO} (r:Rd H a u) (x:jQ P w H h):dM P w H h a u:=by
 rcases r with r | ⟨o,r⟩
 ·exact x a u r
 ·obtain ⟨_,q⟩:=x a _ r
  exact q
def Lq:Option HO -> Prop
 | some (.lst _)=>True
 | some (.dK _)=>True
 | some (.dT _)=>True
 | some (.set _ _)=>True
 | some (.ins _ _ _)=>True
 | some (.ext _)=>True
 | _=>False
section
variable {P:Program} {w:World} {H:Hp} {h h':Heap} {x e:Addr} {o':HO}
theorem jQ.write (ok:jQ P w H h) (mu:Lq (H x)) (he:e = x ∨ H e = some (.own x)) (k:∀ b u,b ≠ e -> h.get? b = some u -> h'.get? b = some u) (heo:∃ u,h'.get? e = some u)
  (new:dM P w (upd H x o') h' x o'):jQ P w (upd H x o') h':=λb u q=>by
 have nown:∀ c y,H c = some (.own y) -> c ≠ x:=λc y r z=>by subst z;rw [r] at mu;exact mu
 have ntup:∀ c xs,H c = some (.tup xs) -> c ≠ x:=λc xs r z=>by subst z;rw [r] at mu;exact mu
 by_cases hb:b = x
 ·subst hb;rw [af] at q;cases q;exact new
 ·rw [ao hb] at q
  by_cases hbe:b = e
  ·have q':H b = some (.own x):=by
    rcases he with z | z
    ·exact absurd (hbe.trans z) hb
    ·rw [hbe];exact z
   rw [q] at q';cases q'
   obtain ⟨v,hv⟩:=heo
   exact ⟨v,by rw [hbe];exact hv⟩
  ·refine (ok b u q).stay (λc v hc r=>k c v ?_ r) (λc r=>by rw [ao (nown c b r)];exact r) λc xs r=>by rw [ao (ntup c xs r)];exact r
   rcases hc with rfl | hc
   ·exact hbe
   ·rintro rfl
    rcases he with z | z
    ·exact nown c b hc z
    ·rw [hc] at z;cases z;exact hb rfl
end
structure Un (fs ex:List Addr) (H H':Hp) (h h':Heap):Prop where
 keep:∀ b o,h.get? b = some o -> H b = none -> b ∉ fs -> b ∉ ex -> h'.get? b = some o
 slot:∀ b o,h.get? b = some o -> H b = none -> b ∈ fs -> b ∉ ex -> ∃ sl,h'.get? b = some { o with slots:=sl }
 free:∀ b o,h.get? b = some o -> H b = none -> b ∉ ex -> H' b = none
 there:∀ b o,h.get? b = some o -> b ∉ ex -> ∃ o',h'.get? b = some o'
 tups:∀ b xs,H b = some (.tup xs) -> H' b = some (.tup xs)
 qi:∀ b o u,H b = some (.D9 o u) -> H' b = some (.D9 o u)
 rN:∀ b ps,H b = some (.IF ps) -> ∃ more,H' b = some (.IF (ps ++ more))
section
variable {fs fs' ex ex':List Addr} {H H1 H2:Hp} {h h1 h2 h':Heap} {a x e:Addr} {o:HO}
theorem Un.any (u:Un fs ex H H1 h h1) {b:Addr} {ob:Obj} (q:h.get? b = some ob) (n:H b = none) (hx:b ∉ ex):∃ sl,h1.get? b = some { ob with slots:=sl }:=by
 by_cases hb:b ∈ fs
 ·exact u.slot b ob q n hb hx
 ·exact ⟨ob.slots,u.keep b ob q n hb hx⟩
theorem Un.kept (k:∀ b u,h.get? b = some u -> h'.get? b = some u):Un fs ex H H h h' :=
 ⟨λb ob q _ _ _=>k b ob q,λb ob q _ _ _=>⟨ob.slots,k b ob q⟩,λ_ _ _ n _=>n,λb ob q _=>⟨ob,k b ob q⟩,λ_ _ q=>q,λ_ _ _ q=>q,λ_ ps q=>⟨#[],by rw [q];simp⟩⟩
theorem Un.refl:Un fs ex H H h h:=Un.kept λ_ _ q=>q
theorem Un.laid (k:∀ b u,h.get? b = some u -> h'.get? b = some u) (hp:h.objs.size <= a) (hn:H a = none):Un fs ex H (upd H a o) h h' where
 keep:=λb u q _ _ _=>k b u q
 slot:=λb u q _ _ _=>⟨u.slots,k b u q⟩
 free:=λb u q n _=>by rw [ao (Nat.ne_of_lt (Nat.lt_of_lt_of_le (Heap.lt_size q) hp))];exact n
 there:=λb u q _=>⟨u,k b u q⟩
 tups:=λb xs q=>by rw [ao (aj q hn)];exact q
 qi:=λb u xs q=>by rw [ao (aj q hn)];exact q
 rN:=λb ps q=>⟨#[],by rw [ao (aj q hn),q];simp⟩
theorem Un.write (mu:Lq (H x)) (he:e = x ∨ H e = some (.own x)) (k:∀ b u,b ≠ e -> h.get? b = some u -> h'.get? b = some u) (heo:∃ u,h'.get? e = some u):Un fs ex H (upd H x o) h h':=by
 have hx:∀ b,H b = none -> b ≠ x:=λb n z=>by subst z;rw [n] at mu;exact mu
 have hb:∀ b,H b = none -> b ≠ e:=λb n z=>by
  subst z
  rcases he with r | r
  ·exact hx b n r
  ·rw [n] at r;cases r
 have hm:∀ b u,H b = some u -> ¬ Lq (some u) -> b ≠ x:=λb u q nm z=>by subst z;rw [q] at mu;exact nm mu
 refine ⟨λb u q n _ _=>k b u (hb b n) q,λb u q n _ _=>⟨u.slots,k b u (hb b n) q⟩,λb u q n _=>by rw [ao (hx b n)];exact n,λb u q _=>?_,
  λb xs q=>by rw [ao (hm b _ q λz=>z)];exact q,λb u xs q=>by rw [ao (hm b _ q λz=>z)];exact q,λb ps q=>⟨#[],by rw [ao (hm b _ q λz=>z),q];simp⟩⟩
 by_cases hbe:b = e
 ·subst hbe;exact heo
 ·exact ⟨u,k b u hbe q⟩
end
def LM (h:Heap) (H:Hp):List Addr:=(List.range h.objs.size).filter λa=>(H a).isSome
def rT (h:Heap) (H:Hp):Heap:=PySem.W.hideAll h (LM h H)
theorem zX (h:Heap) (H:Hp):(rT h H).objs.size = h.objs.size:=PySem.W.hideAll_size _ _
theorem Du {h:Heap} {H:Hp} {b:Addr} {o:Obj} (e:h.get? b = some o) (n:H b = none):(rT h H).get? b = some o :=
 PySem.W.hideAll_get _ e λhm=>by
  have q:(H b).isSome = true:=(List.mem_filter.mp hm).2
  rw [n] at q;simp at q
theorem ED {h:Heap} {H:Hp} {b:Addr} {o:Obj} (e:(rT h H).get? b = some o):h.get? b = some o /\ H b = none:=by
 have e':h.get? b = some o:=PySem.W.of_hideAll (LM h H) e
 refine ⟨e',?_⟩
 cases q:H b with
 | none=>rfl
 | some x =>
  have hm:b ∈ LM h H:=List.mem_filter.mpr ⟨List.mem_range.mpr (Heap.lt_size e'),by simp [q]⟩
  have z:(rT h H).get? b = none:=PySem.W.hideAll_none (LM h H) hm
  rw [z] at e;cases e
end L2
namespace L2
open PySem PySem.Spec PyProof.Rows
structure Mod (K:PySem.W.Frag) (mg:Str -> Option Value) (base:Heap):Prop where
 Kq:K.In base
 glob:base.Ns mainGlobals mg
 blt:∃ mb,base.Ns builtinsNs mb /\ ∀ x:Str,x ≠ "__name__" -> mb x = bootBuiltins x
 nolimit:base.NoLimit
structure Cx where
 prog:Program
 w:World
 K:PySem.W.Frag
 mg:Str -> Option Value
 base:Heap
 A:Around
 N:List Str
 s₀:Shared
 H₀:Hp
 env:Env
 outer:List Env
 stack:List Env
 ex:List Addr
 fn:Str -> Bool
 calm:Bool
 pn:List (Addr × Obj)
 xe:Value -> Shared -> Prop
def frs (l:List Env):List Addr:=l.filterMap (·.frame)
abbrev Cx.fs (X:Cx):List Addr:=frs X.outer
def LO (sc:Scope) (x:Str):Prop:=sc.names.lookup x = some .local ∨ sc.names.lookup x = some .cell ∨ sc.names.lookup x = some .free
def Loc (sc:Scope) (x:Str):Prop:=sc.names.lookup x = some .local ∨ sc.names.lookup x = some .cell
def Look (env:Env) (h:Heap) (m:Str -> Option Value) (x:Str) (u:Value):Prop :=
 (env.kindOf x = some .local /\ m x = some u) ∨ ((env.kindOf x = some .cell ∨ env.kindOf x = some .free) /\ ∃ c,env.cells.lookup x = some c /\ h.IsCell c (some u))
structure Cx.Ok (X:Cx):Prop where
 mod:Mod X.K X.mg X.base
 kind:X.env.scope.kind = .function
 glob:X.env.globals = mainGlobals
 blt:X.env.builtins = builtinsNs
 above:X.s₀.heap.objs.size <= X.env.locals
 inj:∀ x y c,X.env.cells.lookup x = some c -> X.env.cells.lookup y = some c -> x = y
 has:∀ x,(X.env.kindOf x = some .cell ∨ X.env.kindOf x = some .free) -> ∃ c,X.env.cells.lookup x = some c
 Ka:∀ x c,X.fn x = true -> X.env.cells.lookup x = some c -> X.s₀.heap.objs.size <= c
 hd:X.calm = true -> X.A.handled = none
 frames:X.A.frames = some X.stack
 stk:X.stack = X.outer ∨ (X.stack = X.env :: X.outer /\ X.env.frame = some X.env.locals)
 exf:∀ b ∈ X.ex,b ≠ X.env.locals /\ ∀ x c,X.env.cells.lookup x = some c -> c ≠ b
 bs:∀ b o,X.base.get? b = some o -> X.s₀.heap.get? b = some o /\ X.H₀ b = none
 FI:X.base.objs.size <= X.s₀.heap.objs.size
 BR:∀ b o,X.base.get? b = some o -> b ∉ X.ex
 EK:∀ b ∈ X.ex,b ∉ X.fs
 mP:X.s₀.heap.FunFrames X.base X.outer
 Gw:∀ b ∈ X.fs,X.H₀ b = none
structure Inv (X:Cx) (pins:List (Addr × Obj)) (σ:List (Option V)) (H:Hp) (s:Shared):Prop where
 ok:X.Ok
 os:s.os = X.s₀.os
 bare:AllBare s.gens
 base:Un X.fs X.ex X.H₀ H X.s₀.heap s.heap
 loc:∃ m,s.heap.Ns X.env.locals m /\ ∀ (i:Nat) (x:Str) (v:V),X.N[i]? = some x -> σ[i]? = some (some v) -> LO X.env.scope x -> ∃ u,RelV v u /\ Look X.env s.heap m x u
 cell:∀ x c,X.env.cells.lookup x = some c -> ∃ v,s.heap.IsCell c v
 free:H X.env.locals = none
 jq:∀ x c,X.env.cells.lookup x = some c -> H c = none
 pin:∀ p ∈ X.pn ++ pins,s.heap.get? p.1 = some p.2 /\ H p.1 = none /\ p.1 ≠ X.env.locals /\ p.1 ∉ X.fs /\ ∀ v,p.2.data ≠ .cell v
 hok:jQ X.prog X.w H s.heap
 len:σ.length = X.N.length
section
variable {X:Cx} {pins:List (Addr × Obj)} {σ:List (Option V)} {H H':Hp} {s:Shared} {h':Heap}
theorem Cx.Ok.Mw (ok:X.Ok) {b:Addr} {o:Obj} (e:X.base.get? b = some o):b ∉ X.fs:=λhb=>by
 have:=(ok.mP.mem hb).1
 rw [e] at this;cases this
theorem Inv.bs (I:Inv X pins σ H s):∀ b o,X.base.get? b = some o -> s.heap.get? b = some o /\ H b = none:=λb o e =>
 ⟨I.base.keep b o (I.ok.bs b o e).1 (I.ok.bs b o e).2 (I.ok.Mw e) (I.ok.BR b o e),I.base.free b o (I.ok.bs b o e).1 (I.ok.bs b o e).2 (I.ok.BR b o e)⟩
theorem Inv.bk (I:Inv X pins σ H s):∀ b o,X.base.get? b = some o -> s.heap.get? b = some o:=λb o e=>(I.bs b o e).1
theorem Inv.mod (I:Inv X pins σ H s):Mod X.K X.mg X.base:=I.ok.mod
theorem Inv.sN (I:Inv X pins σ H s):X.K.In s.heap:=I.ok.mod.Kq.keeps I.bk
theorem Inv.lt (I:Inv X pins σ H s):X.env.locals < s.heap.objs.size:=let ⟨_,hn,_⟩:=I.loc;hn.lt
theorem Inv.sz (I:Inv X pins σ H s):X.s₀.heap.objs.size <= s.heap.objs.size:=Nat.le_trans I.ok.above (Nat.le_of_lt I.lt)
theorem Inv.Lp (I:Inv X pins σ H s) {a:Addr} (h:s.heap.objs.size <= a):a ∉ X.fs:=λhb=>by
 obtain ⟨_,o,ho,_⟩:=I.ok.mP.mem hb
 exact absurd (Nat.lt_of_lt_of_le (Heap.lt_size ho) (Nat.le_trans I.sz h)) (Nat.lt_irrefl _)
theorem Inv.HK (I:Inv X pins σ H s):∀ x c,X.env.cells.lookup x = some c -> c ≠ X.env.locals:=λx c e z=>by
 obtain ⟨v,o,ho,hd⟩:=I.cell x c e
 obtain ⟨m,⟨o',es,ep,ho',hd',_⟩,_⟩:=I.loc
 rw [z,ho'] at ho;cases ho;rw [hd'] at hd;cases hd
theorem Inv.mP (I:Inv X pins σ H s):s.heap.FunFrames X.base X.outer:=by
 have all:∀ (l:List Env),(∀ b ∈ frs l,b ∈ X.fs) -> X.s₀.heap.FunFrames X.base l -> s.heap.FunFrames X.base l:=by
  intro l
  induction l with
  | nil=>intro _ _;trivial
  | cons env r ih =>
   intro hs hl
   obtain ⟨hk,⟨L,o,hf,hn,ho,hd⟩,hr⟩:=hl
   have hL:L ∈ X.fs:=hs L (by unfold frs;rw [List.filterMap_cons,hf];exact List.mem_cons_self)
   obtain ⟨sl,e⟩:=I.base.slot L o ho (I.ok.Gw L hL) hL λz=>I.ok.EK L z hL
   exact ⟨hk,⟨L,_,hf,hn,e,hd⟩,ih (λb hb=>hs b (by unfold frs;rw [List.filterMap_cons,hf];exact List.mem_cons_of_mem _ hb)) hr⟩
 exact all X.outer (λ_ hb=>hb) I.ok.mP
theorem Inv.stack (I:Inv X pins σ H s):s.heap.FunFrames X.base X.stack:=by
 rcases I.ok.stk with e | ⟨e,hf⟩
 ·rw [e];exact I.mP
 ·rw [e]
  obtain ⟨m,hn,_⟩:=I.loc
  refine .cons (by rw [I.ok.kind];decide) hf hn ?_ I.mP
  exact Heap.get?_none_of_le (Nat.le_trans I.ok.FI I.ok.above)
theorem Inv.oh (I:Inv X pins σ H s):∀ b ∈ frs X.stack,b ∈ X.env.locals :: X.fs:=λb hb=>by
 rcases I.ok.stk with e | ⟨e,hf⟩
 ·rw [e] at hb;exact List.mem_cons_of_mem _ hb
 ·rw [e] at hb
  unfold frs at hb
  rw [List.filterMap_cons,hf] at hb
  exact hb
theorem Inv.yC (I:Inv X pins σ H s):∀ b ∈ frs X.stack,H b = none:=λb hb=>by
 rcases List.mem_cons.mp (I.oh b hb) with e | hb
 ·rw [e];exact I.free
 ·obtain ⟨_,o,ho,_⟩:=I.ok.mP.mem hb
  exact I.base.free b o ho (I.ok.Gw b hb) λz=>I.ok.EK b z hb
theorem Inv.step {g':Array GenState} {t':Nat} {d':Drawn} {ch:List Addr} (I:Inv X pins σ H s)
  (hch:∀ b ∈ ch,(b ∈ X.ex ∨ X.s₀.heap.objs.size <= b) /\ b ≠ X.env.locals /\ (∀ x c,X.env.cells.lookup x = some c -> c ≠ b) /\ ∀ p ∈ X.pn ++ pins,p.1 ≠ b)
  (keep:∀ b o,b ≠ X.env.locals -> b ∉ X.fs -> b ∉ ch -> s.heap.get? b = some o -> H b = none -> h'.get? b = some o)
  (slot:∀ b o,b ≠ X.env.locals -> b ∈ X.fs -> b ∉ ch -> s.heap.get? b = some o -> H b = none -> ∃ sl,h'.get? b = some { o with slots:=sl }) (free:∀ b o,b ∉ ch -> s.heap.get? b = some o -> H b = none -> H' b = none)
  (there:∀ b o,b ∉ ch -> s.heap.get? b = some o -> ∃ o',h'.get? b = some o')
  (tups:∀ b xs,H b = some (.tup xs) -> H' b = some (.tup xs)) (qi:∀ b o u,H b = some (.D9 o u) -> H' b = some (.D9 o u)) (rN:∀ b ps,H b = some (.IF ps) -> ∃ more,H' b = some (.IF (ps ++ more)))
  (ns:∀ m,s.heap.Ns X.env.locals m -> h'.Ns X.env.locals m) (hok:jQ X.prog X.w H' h') (hg:AllBare g') :
  Inv X pins σ H' { s with heap:=h',gens:=g',drawn:=d',toks:=t' }:=by
 have neL:∀ b o,X.s₀.heap.get? b = some o -> b ≠ X.env.locals:=λb o e=>Nat.ne_of_lt (Nat.lt_of_lt_of_le (Heap.lt_size e) I.ok.above)
 have neC:∀ b o,X.s₀.heap.get? b = some o -> b ∉ X.ex -> b ∉ ch:=λb o e hx hb=>by
  rcases (hch b hb).1 with z | z
  ·exact hx z
  ·exact absurd (Nat.lt_of_lt_of_le (Heap.lt_size e) z) (Nat.lt_irrefl _)
 have cellK:∀ x c,X.env.cells.lookup x = some c -> ∀ v,s.heap.IsCell c v -> h'.IsCell c v:=λx c e v ⟨o,ho,hd⟩=>by
  have nch:c ∉ ch:=λz=>(hch c z).2.2.1 x c e rfl
  by_cases hc:c ∈ X.fs
  ·obtain ⟨sl,q⟩:=slot c o (I.HK x c e) hc nch ho (I.jq x c e)
   exact ⟨_,q,hd⟩
  ·exact ⟨o,keep c o (I.HK x c e) hc nch ho (I.jq x c e),hd⟩
 refine ⟨I.ok,I.os,hg,⟨λb o e n hb hx=>?_,λb o e n hb hx=>?_,λb o e n hx=>?_,λb o e hx=>?_,λb xs e=>tups b xs (I.base.tups b xs e),λb o xs e=>qi b o xs (I.base.qi b o xs e),λb ps e=>?_⟩,?_,λx c e=>?_,?_,λx c e=>?_,λp hp=>?_,hok,I.len⟩
 ·exact keep b o (neL b o e) hb (neC b o e hx) (I.base.keep b o e n hb hx) (I.base.free b o e n hx)
 ·obtain ⟨sl,e1⟩:=I.base.slot b o e n hb hx
  obtain ⟨sl',e2⟩:=slot b _ (neL b o e) hb (neC b o e hx) e1 (I.base.free b o e n hx)
  exact ⟨sl',e2⟩
 ·obtain ⟨o',e1⟩:=I.base.there b o e hx
  exact free b o' (neC b o e hx) e1 (I.base.free b o e n hx)
 ·obtain ⟨o',e1⟩:=I.base.there b o e hx
  exact there b o' (neC b o e hx) e1
 ·obtain ⟨m1,e1⟩:=I.base.rN b ps e
  obtain ⟨m2,e2⟩:=rN b _ e1
  exact ⟨m1 ++ m2,by rw [e2,Array.append_assoc]⟩
 ·obtain ⟨m,hn,hl⟩:=I.loc
  refine ⟨m,ns m hn,λi x v e1 e2 e3=>?_⟩
  obtain ⟨u,r,l⟩:=hl i x v e1 e2 e3
  refine ⟨u,r,?_⟩
  rcases l with l | ⟨k,c,e,z⟩
  ·exact .inl l
  ·exact .inr ⟨k,c,e,cellK x c e _ z⟩
 ·obtain ⟨v,z⟩:=I.cell x c e
  exact ⟨v,cellK x c e v z⟩
 ·obtain ⟨m,⟨o,_,_,ho,_⟩,_⟩:=I.loc
  exact free _ o (λz=>(hch _ z).2.1 rfl) ho I.free
 ·obtain ⟨v,o,ho,hd⟩:=I.cell x c e
  exact free c o (λz=>(hch c z).2.2.1 x c e rfl) ho (I.jq x c e)
 ·obtain ⟨e,n,ne,nf,d⟩:=I.pin p hp
  have nch:p.1 ∉ ch:=λz=>(hch p.1 z).2.2.2 p hp rfl
  exact ⟨keep p.1 p.2 ne nf nch e n,free p.1 p.2 nch e n,ne,nf,d⟩
theorem Inv.un {t':Nat} (I:Inv X pins σ H s) (u:Un X.fs [] H H' s.heap h') (hok:jQ X.prog X.w H' h'):Inv X pins σ H' { s with heap:=h',toks:=t' }:=by
 obtain ⟨m,⟨o,es,ep,ho,r⟩,_⟩:=id I.loc
 obtain ⟨sl,hL⟩:=u.any ho I.free (by simp)
 exact I.step (g':=s.gens) (d':=s.drawn) (ch:=[]) (λ_ z=>nomatch z) (λb o _ hb _ e n=>u.keep b o e n hb (by simp)) (λb o _ hb _ e n=>u.slot b o e n hb (by simp)) (λb o _ e n=>u.free b o e n (by simp)) (λb o _ e=>u.there b o e (by simp)) u.tups u.qi u.rN (λm' hm=>by
  obtain ⟨o',es',ep',ho',r'⟩:=hm
  rw [ho] at ho';cases ho'
  exact ⟨_,es',ep',hL,r'⟩) hok I.bare
theorem Inv.call {g':Array GenState} {t':Nat} {d':Drawn} {ch:List Addr} (I:Inv X pins σ H s) (u:Un (frs X.stack) ch H H' s.heap h') (hok:jQ X.prog X.w H' h') (hg:AllBare g')
  (hch:∀ b ∈ ch,(b ∈ X.ex ∨ X.s₀.heap.objs.size <= b) /\ b ≠ X.env.locals /\ (∀ x c,X.env.cells.lookup x = some c -> c ≠ b) /\ ∀ p ∈ X.pn ++ pins,p.1 ≠ b) :
  Inv X pins σ H' { s with heap:=h',gens:=g',drawn:=d',toks:=t' }:=by
 obtain ⟨m,⟨o,es,ep,ho,r⟩,_⟩:=id I.loc
 obtain ⟨sl,hL⟩:=u.any ho I.free λz=>(hch _ z).2.1 rfl
 exact I.step (ch:=ch) hch (λb o hL hb hc e n=>u.keep b o e n (λz=>(List.mem_cons.mp (I.oh b z)).elim hL hb) hc) (λb o _ _ hc e n=>u.any e n hc) (λb o hc e n=>u.free b o e n hc) (λb o hc e=>u.there b o e hc) u.tups u.qi u.rN (λm' hm=>by
  obtain ⟨o',es',ep',ho',r'⟩:=hm
  rw [ho] at ho';cases ho'
  exact ⟨_,es',ep',hL,r'⟩) hok hg
theorem Inv.turned {t':Nat} {it:Addr} (I:Inv X pins σ H s) (k:∀ b o,b ≠ it -> s.heap.get? b = some o -> h'.get? b = some o) (hn:H it = none) (hL:it ≠ X.env.locals)
  (h1:it ∈ X.ex ∨ X.s₀.heap.objs.size <= it) (h2:∀ x c,X.env.cells.lookup x = some c -> c ≠ it) (h3:∀ p ∈ X.pn ++ pins,p.1 ≠ it):Inv X pins σ H { s with heap:=h',toks:=t' }:=by
 have nit:∀ b u,H b = some u -> b ≠ it:=λb u e z=>by rw [z,hn] at e;cases e
 refine I.step (g':=s.gens) (d':=s.drawn) (ch:=[it]) (λb hb=>?_) (λb o _ _ hc e _=>k b o (λz=>hc (by simp [z])) e) (λb o _ _ hc e _=>⟨o.slots,k b o (λz=>hc (by simp [z])) e⟩) (λ_ _ _ _ n=>n)
  (λb o hc e=>⟨o,k b o (λz=>hc (by simp [z])) e⟩) (λ_ _ e=>e) (λ_ _ _ e=>e) (λb ps e=>⟨#[],by rw [e];simp⟩) (λm hm=>?_) (λb u e=>?_) I.bare
 ·have e:b = it:=by simpa using hb
  subst e
  exact ⟨h1,hL,h2,h3⟩
 ·obtain ⟨o,es,ep,ho,r⟩:=hm
  exact ⟨o,es,ep,k _ o (Ne.symm hL) ho,r⟩
 ·refine (I.hok b u e).stay (λc v hc q=>k c v ?_ q) (λ_ q=>q) λ_ _ q=>q
  rcases hc with z | z
  ·rw [z];exact nit b u e
  ·exact nit c _ z
theorem Inv.tok (I:Inv X pins σ H s) (t:Nat):Inv X pins σ H { s with toks:=t }:=I.un (h':=s.heap) (t':=t) Un.refl I.hok
theorem Inv.kept {t':Nat} (I:Inv X pins σ H s) (k:∀ b u,s.heap.get? b = some u -> h'.get? b = some u):Inv X pins σ H { s with heap:=h',toks:=t' }:=I.un (Un.kept k) (I.hok.kept k)
theorem Inv.laid {a:Addr} {o:HO} {t':Nat} (I:Inv X pins σ H s) (k:∀ b u,s.heap.get? b = some u -> h'.get? b = some u) (hp:s.heap.objs.size <= a) (new:dM X.prog X.w (upd H a o) h' a o) :
  Inv X pins σ (upd H a o) { s with heap:=h',toks:=t' }:=I.un (Un.laid k hp (I.hok.fresh hp)) (I.hok.laid k hp new)
theorem Inv.write {x e:Addr} {o:HO} {t':Nat} (I:Inv X pins σ H s) (mu:Lq (H x)) (he:e = x ∨ H e = some (.own x)) (k:∀ b u,b ≠ e -> s.heap.get? b = some u -> h'.get? b = some u) (heo:∃ u,h'.get? e = some u)
  (new:dM X.prog X.w (upd H x o) h' x o):Inv X pins σ (upd H x o) { s with heap:=h',toks:=t' }:=I.un (Un.write mu he k heo) (I.hok.write mu he k heo new)
theorem Inv.fR {pins':List (Addr × Obj)} (I:Inv X pins σ H s) (h:∀ p ∈ pins',s.heap.get? p.1 = some p.2 /\ H p.1 = none /\ p.1 ≠ X.env.locals /\ p.1 ∉ X.fs /\ ∀ v,p.2.data ≠ .cell v):Inv X pins' σ H s :=
 ⟨I.ok,I.os,I.bare,I.base,I.loc,I.cell,I.free,I.jq,λp hp=>(List.mem_append.mp hp).elim (λz=>I.pin p (List.mem_append_left _ z)) (h p),I.hok,I.len⟩
theorem wR {N:List Str} (hN:N.Nodup) {i j:Nat} {x:Str} (a:N[i]? = some x) (b:N[j]? = some x):i = j:=by
 obtain ⟨h1,e1⟩:=List.getElem?_eq_some_iff.mp a
 obtain ⟨h2,e2⟩:=List.getElem?_eq_some_iff.mp b
 exact (List.getElem_inj hN).mp (e1.trans e2.symm)
theorem zL {M:Model} {A:Around} {E:Value -> Shared -> Prop} {i:Nat} {x:Str} {v:V} {u:Value} {Q:Unit -> Shared -> Prop} (I:Inv X pins σ H s) (hN:X.N.Nodup) (hi:X.N[i]? = some x) (hx:Loc X.env.scope x) (r:RelV v u)
  (h:∀ s',Inv X pins (σ.set i (some v)) H s' -> (∃ a,Heap.SameBut a s.heap s'.heap /\ (a = X.env.locals ∨ X.env.cells.lookup x = some a)) -> Q () s') (hf:X.fn x = true ∨ X.env.scope.names.lookup x = some .local:=by first | exact .inl rfl | exact .inr rfl | assumption):wpAny M A (storeName X.env x u) Q E s:=by
 obtain ⟨m,hn,hl⟩:=id I.loc
 have hcls:(X.env.scope.kind == .class || (X.env.scope.kind == .module && X.env.locals != X.env.globals)) = false:=by rw [I.ok.kind];rfl
 have hiσ:i < σ.length:=by rw [I.len];exact (List.getElem?_eq_some_iff.mp hi).1
 have HK:=I.HK
 have tracked:∀ {a:Addr} {h':Heap},(∃ o,s.heap.get? a = some o /\ H a = none) -> Heap.SameBut a s.heap h' -> jQ X.prog X.w H h':=λ{a h'} ha hs b ob e=>by
  obtain ⟨_,_,hfree⟩:=ha
  refine (I.hok b ob e).stay (λc w' hc q=>(hs.2 c ?_).trans q) (λ_ q=>q) λ_ _ q=>q
  rintro rfl
  rcases hc with rfl | hc
  ·rw [hfree] at e;cases e
  ·rw [hfree] at hc;cases hc
 rcases hx with hk | hk
 ·refine wpAny_storeName_local hk hn (λh' hn' hs=>?_) hcls
  obtain ⟨oL,_,_,hoL,_⟩:=id hn
  refine h _ ⟨I.ok,I.os,I.bare,⟨λb o e n hb hx=>?_,λb o e n hb hx=>?_,I.base.free,λb o e hx=>?_,I.base.tups,I.base.qi,I.base.rN⟩,⟨_,hn',λj y v' e1 e2 e3=>?_⟩,λy c e=>?_,I.free,I.jq,λp hp=>?_,tracked ⟨oL,hoL,I.free⟩ hs,by simpa using I.len⟩ ⟨_,hs,.inl rfl⟩
  ·exact (hs.2 b (Nat.ne_of_lt (Nat.lt_of_lt_of_le (Heap.lt_size e) I.ok.above))).trans (I.base.keep b o e n hb hx)
  ·obtain ⟨sl,e1⟩:=I.base.slot b o e n hb hx
   exact ⟨sl,(hs.2 b (Nat.ne_of_lt (Nat.lt_of_lt_of_le (Heap.lt_size e) I.ok.above))).trans e1⟩
  ·obtain ⟨o',e1⟩:=I.base.there b o e hx
   exact ⟨o',(hs.2 b (Nat.ne_of_lt (Nat.lt_of_lt_of_le (Heap.lt_size e) I.ok.above))).trans e1⟩
  ·by_cases hj:j = i
   ·subst hj
    rw [hi] at e1;cases e1
    rw [List.getElem?_set_self hiσ] at e2
    cases e2
    exact ⟨u,r,.inl ⟨hk,by simp⟩⟩
   ·rw [List.getElem?_set_ne (Ne.symm hj)] at e2
    obtain ⟨u',r',q⟩:=hl j y v' e1 e2 e3
    refine ⟨u',r',?_⟩
    rcases q with ⟨k,e⟩ | ⟨k,c,e,z⟩
    ·refine .inl ⟨k,?_⟩
     have:y ≠ x:=λe=>hj (wR hN e1 (e ▸ hi))
     simp [this,e]
    ·exact .inr ⟨k,c,e,z.sameBut hs (HK y c e)⟩
  ·obtain ⟨w',z⟩:=I.cell y c e
   exact ⟨w',z.sameBut hs (HK y c e)⟩
  ·obtain ⟨e,n,ne,nf,d⟩:=I.pin p hp
   exact ⟨(hs.2 p.1 ne).trans e,n,ne,nf,d⟩
 ·have hfn:X.fn x = true:=by
   rcases hf with z | z
   ·exact z
   ·rw [z] at hk;cases hk
  obtain ⟨c,hc⟩:=I.ok.has x (.inl hk)
  obtain ⟨w',z⟩:=I.cell x c hc
  refine wpAny_storeName_cell I.ok.kind hk hc z (λh' hc' hs=>?_)
  obtain ⟨oc,hoc,hocd⟩:=id z
  refine h { s with heap:=h' } ⟨I.ok,I.os,I.bare,⟨λb o e n hb hx=>?_,λb o e n hb hx=>?_,I.base.free,λb o e hx=>?_,I.base.tups,I.base.qi,I.base.rN⟩,⟨m,hn.sameBut hs (Ne.symm (HK x c hc)),λj y v' e1 e2 e3=>?_⟩,λy c' e=>?_,I.free,I.jq,λp hp=>?_,tracked ⟨oc,hoc,I.jq x c hc⟩ hs,by simpa using I.len⟩ ⟨c,hs,.inr hc⟩
  ·exact (hs.2 b (Nat.ne_of_lt (Nat.lt_of_lt_of_le (Heap.lt_size e) (I.ok.Ka x c hfn hc)))).trans (I.base.keep b o e n hb hx)
  ·obtain ⟨sl,e1⟩:=I.base.slot b o e n hb hx
   exact ⟨sl,(hs.2 b (Nat.ne_of_lt (Nat.lt_of_lt_of_le (Heap.lt_size e) (I.ok.Ka x c hfn hc)))).trans e1⟩
  ·obtain ⟨o',e1⟩:=I.base.there b o e hx
   exact ⟨o',(hs.2 b (Nat.ne_of_lt (Nat.lt_of_lt_of_le (Heap.lt_size e) (I.ok.Ka x c hfn hc)))).trans e1⟩
  ·by_cases hj:j = i
   ·subst hj
    rw [hi] at e1;cases e1
    rw [List.getElem?_set_self hiσ] at e2
    cases e2
    exact ⟨u,r,.inr ⟨.inl hk,c,hc,hc'⟩⟩
   ·rw [List.getElem?_set_ne (Ne.symm hj)] at e2
    obtain ⟨u',r',q⟩:=hl j y v' e1 e2 e3
    refine ⟨u',r',?_⟩
    rcases q with q | ⟨k,c',e,z'⟩
    ·exact .inl q
    ·refine .inr ⟨k,c',e,z'.sameBut hs ?_⟩
     rintro rfl
     exact hj (wR hN e1 (I.ok.inj _ _ _ e hc ▸ hi))
  ·by_cases hcc:c' = c
   ·subst hcc;exact ⟨_,hc'⟩
   ·obtain ⟨w2,z2⟩:=I.cell y c' e
    exact ⟨w2,z2.sameBut hs hcc⟩
  ·obtain ⟨e,n,ne,nf,d⟩:=I.pin p hp
   refine ⟨(hs.2 p.1 ?_).trans e,n,ne,nf,d⟩
   intro q
   rw [q,hoc] at e
   have q':oc = p.2:=Option.some.inj e
   exact d w' (by rw [← q'];exact hocd)
theorem p7 {M:Model} {A:Around} {E:Value -> Shared -> Prop} {i:Nat} {x:Str} {v:V} {u:Value} {Q:Unit -> Shared -> Prop} (I:Inv X pins σ H s) (hN:X.N.Nodup) (hi:X.N[i]? = some x) (hx:Loc X.env.scope x) (r:RelV v u)
  (h:∀ s',Inv X pins (σ.set i (some v)) H s' -> Q () s') (hf:X.fn x = true ∨ X.env.scope.names.lookup x = some .local:=by first | exact .inl rfl | exact .inr rfl | assumption):wpAny M A (storeName X.env x u) Q E s :=
 zL I hN hi hx r (λs' I' _=>h s' I') hf
theorem Inv.Lm {s':Shared} {ch:List Addr} (I:Inv X pins σ H s) (ho:s'.os = s.os) (u:Un (frs X.stack) ch H H' s.heap s'.heap) (hok:jQ X.prog X.w H' s'.heap) (hg:AllBare s'.gens)
  (hch:∀ b ∈ ch,(b ∈ X.ex ∨ X.s₀.heap.objs.size <= b) /\ b ≠ X.env.locals /\ (∀ x c,X.env.cells.lookup x = some c -> c ≠ b) /\ ∀ p ∈ X.pn ++ pins,p.1 ≠ b):Inv X pins σ H' s':=by
 obtain ⟨h',g',d',t',o'⟩:=s'
 have e:o' = s.os:=ho
 subst e
 exact I.call (g':=g') (t':=t') (d':=d') u hok hg hch
end
abbrev XK:=Value -> Option Addr -> Hp -> Prop
abbrev St:=List (Option V)
abbrev VK:=V -> Hp -> Prop
abbrev TE:=St -> Hp -> VK -> Prop
abbrev TT:=St -> Hp -> (Bool -> Hp -> Prop) -> Prop
abbrev TA:=St -> Hp -> (List V -> Hp -> Prop) -> Prop
structure Ends where
 nx:St -> Hp -> Prop
 rt:VK
 bk:St -> Hp -> Prop:=λ_ _=>False
 ct:St -> Hp -> Prop:=λ_ _=>False
abbrev TS:=Ends -> St -> Hp -> Prop
def EP (X:Cx) (pins:List (Addr × Obj)) (σ:St) (Q:VK) (u:Value) (s':Shared):Prop:=∃ v H',Inv X pins σ H' s' /\ RelV v u /\ Q v H'
def TP (X:Cx) (pins:List (Addr × Obj)) (σ:St) (Q:Bool -> Hp -> Prop) (b:Bool) (s':Shared):Prop:=∃ H',Inv X pins σ H' s' /\ Q b H'
def AP (X:Cx) (pins:List (Addr × Obj)) (σ:St) (Q:List V -> Hp -> Prop) (us:List Value) (s':Shared):Prop:=∃ vs H',Inv X pins σ H' s' /\ Vals vs us /\ Q vs H'
def SP (X:Cx) (pins:List (Addr × Obj)) (D:Ends) (f:Flow) (s':Shared):Prop :=
 match f with
 | .next=>∃ σ' H',Inv X pins σ' H' s' /\ D.nx σ' H'
 | .brk=>∃ σ' H',Inv X pins σ' H' s' /\ D.bk σ' H'
 | .cont=>∃ σ' H',Inv X pins σ' H' s' /\ D.ct σ' H'
 | .ret u=>∃ v σ' H',Inv X pins σ' H' s' /\ RelV v u /\ D.rt v H'
def PE (X:Cx) (e:Expr) (t:TE):Prop :=
 ∀ (pins:List (Addr × Obj)) (s:Shared) (σ:St) (H:Hp) (Q:VK),Inv X pins σ H s -> t σ H Q -> wpAny (model X.prog X.w) X.A (eval e X.env) (EP X pins σ Q) X.xe s
def PT (X:Cx) (e:Expr) (t:TT):Prop :=
 ∀ (pins:List (Addr × Obj)) (s:Shared) (σ:St) (H:Hp) (Q:Bool -> Hp -> Prop),Inv X pins σ H s -> t σ H Q -> wpAny (model X.prog X.w) X.A (isTrue e X.env (eval e X.env)) (TP X pins σ Q) X.xe s
def PW (X:Cx) (e:Expr) (t:TT):Prop :=
 ∀ (whole:Sem Value) (pins:List (Addr × Obj)) (s:Shared) (σ:St) (H:Hp) (Q:Bool -> Hp -> Prop),Inv X pins σ H s -> t σ H Q -> wpAny (model X.prog X.w) X.A (isTrue e X.env whole) (TP X pins σ Q) X.xe s
theorem PW.pt {X:Cx} {e:Expr} {t:TT} (h:PW X e t):PT X e t:=h _
def PA (X:Cx) (es:List Expr) (t:TA):Prop :=
 ∀ (pos:Pos) (pins:List (Addr × Obj)) (s:Shared) (σ:St) (H:Hp) (Q:List V -> Hp -> Prop),Inv X pins σ H s -> t σ H Q -> wpAny (model X.prog X.w) X.A (spliced (backTo pos (starEach es X.env))) (AP X pins σ Q) X.xe s
def PS (X:Cx) (st:Stmt) (t:TS):Prop :=
 ∀ (pins:List (Addr × Obj)) (s:Shared) (σ:St) (H:Hp) (D:Ends),Inv X pins σ H s -> t D σ H -> wpAny (model X.prog X.w) X.A (exec st X.env) (SP X pins D) X.xe s
def xM (X:Cx) (st:List Stmt) (t:TS):Prop :=
 ∀ (pins:List (Addr × Obj)) (s:Shared) (σ:St) (H:Hp) (D:Ends),Inv X pins σ H s -> t D σ H -> wpAny (model X.prog X.w) X.A (execs st X.env) (SP X pins D) X.xe s
theorem c5 {α:Type} {t:Sem α} {Q Q':α -> Shared -> Prop} {M:Model} {A:Around} {E:Value -> Shared -> Prop} {s:Shared} (h:wpAny M A t Q E s) (hQ:∀ a s,Q a s -> Q' a s):wpAny M A t Q' E s:=wpAny_mono h hQ λ_ _ x=>x
end L2
namespace L2
open PySem PySem.Spec PyProof.Rows
section
variable {X:Cx}
def Fz (i:Nat):TE:=λσ H Q=>∃ v,σ[i]? = some (some v) /\ Q v H
def tC (v:V):TE:=λ_ H Q=>Q v H
theorem HL {i:Nat} {x:Str} {pos:Pos} (hN:X.N[i]? = some x) (hv:LO X.env.scope x) (hd:(x == ("__debug__" : Str)) = false:=by decide) (hcd:(x == ("__classdict__" : Str)) = false:=by decide):PE X (.Name x pos) (Fz i):=by
 intro pins s σ H Q I h
 obtain ⟨v,e,h⟩:=h
 obtain ⟨m,hn,hl⟩:=I.loc
 obtain ⟨u,r,l⟩:=hl i x v hN e hv
 have fin:EP X pins σ Q u s:=⟨v,H,I,r,h⟩
 rcases l with ⟨hk,hm⟩ | ⟨hk,c,hc,hcell⟩
 ·exact wpAny_Name (wpAny_loadName_local I.ok.kind hk hn hm fin) hd
 ·rcases hk with hk | hk
  ·exact wpAny_Name (wpAny_loadName_cell I.ok.kind hk hc hcell fin) hd
  ·exact wpAny_Name (wpAny_loadName_free I.ok.kind hk hc hcell fin hcd) hd
theorem az {i j pos}:PE X (.Constant (.int i) j pos) (tC (.int i)):=λ_ _ _ H _ I h=>wpAny_Constant_int ⟨.int i,H,I.tok _,⟨_,rfl⟩,h⟩
theorem iS {b j pos}:PE X (.Constant (.bool b) j pos) (tC (.bl b)):=λ_ _ _ H _ I h=>Constant_bool ⟨.bl b,H,I,rfl,h⟩
theorem bJ {j pos}:PE X (.Constant .none j pos) (tC .cK):=λ_ _ _ H _ I h=>Constant_none ⟨.cK,H,I,rfl,h⟩
theorem aG {x j pos}:PE X (.Constant (.str x) j pos) (tC (.str x)):=λ_ _ _ H _ I h=>Calls.Constant_str ⟨.str x,H,I.tok _,⟨_,rfl⟩,h⟩
def Gl (X:Cx) (x:Str):Prop:=X.env.kindOf x = some .globalImplicit
theorem kj {E:Value -> Shared -> Prop} {pins:List (Addr × Obj)} {s:Shared} {σ:St} {H:Hp} {x:Str} {u:Value} {pos:Pos} {Q:Value -> Shared -> Prop} (I:Inv X pins σ H s) (hg:Gl X x) (hm:X.mg x = some u) (h:Q u s)
  (hd:(x == ("__debug__" : Str)) = false:=by decide):wpAny (model X.prog X.w) X.A (eval (.Name x pos) X.env) Q E s :=
 Calls.Name_function_global I.ok.kind hg (Calls.loadGlobal_global (by rw [I.ok.glob];exact I.mod.glob.keeps I.bk) hm h) hd
theorem jy {E:Value -> Shared -> Prop} {pins:List (Addr × Obj)} {s:Shared} {σ:St} {H:Hp} {x:Str} {u:Value} {pos:Pos} {Q:Value -> Shared -> Prop} (I:Inv X pins σ H s) (hg:Gl X x) (hm:X.mg x = none) (hv:bootBuiltins x = some u) (h:Q u s)
  (hn:x ≠ "__name__" := by decide) (hd:(x == ("__debug__" : Str)) = false:=by decide):wpAny (model X.prog X.w) X.A (eval (.Name x pos) X.env) Q E s:=by
 obtain ⟨mb,h1,h2⟩:=I.mod.blt
 exact Calls.Name_function_global I.ok.kind hg (Calls.loadGlobal_builtin (by rw [I.ok.glob];exact I.mod.glob.keeps I.bk) hm (by rw [I.ok.blt];exact h1.keeps I.bk) ((h2 x hn).trans hv) h) hd
theorem kq {x:Str} {v:V} {u:Value} {pos:Pos} (hg:Gl X x) (hm:X.mg x = some u) (r:RelV v u) (hd:(x == ("__debug__" : Str)) = false:=by decide):PE X (.Name x pos) (tC v) :=
 λ_ _ _ H _ I h=>kj I hg hm ⟨v,H,I,r,h⟩ hd
variable {a b:Expr} {ta tb:TE} {pos:Pos}
def PC (X:Cx) (op:CmpOp) (a b:Expr) (t:TE):Prop :=
 ∀ (pins:List (Addr × Obj)) (s:Shared) (σ:St) (H:Hp) (Q:VK),Inv X pins σ H s -> t σ H Q ->
  wpAny (model X.prog X.w) X.A (eval a X.env) (λv s₁=>wpAny (model X.prog X.w) X.A (eval b X.env) (λu s₂=>wpAny (model X.prog X.w) X.A (compareOp op v u) (EP X pins σ Q) X.xe s₂) X.xe s₁) X.xe s
theorem uH (b:Expr) {op:CmpOp} (h:op ≠ .In) (h2:op ≠ .NotIn):behindInMarks op b = false:=by
 have e1:(op == CmpOp.In) = false:=by cases op <;> first | rfl | exact absurd rfl h
 have e2:(op == CmpOp.NotIn) = false:=by cases op <;> first | rfl | exact absurd rfl h2
 cases b <;> simp [behindInMarks,e1,e2]
def tB (t:TE):TT:=λσ H Q=>t σ H λx H1=>∃ c,x = .bl c /\ Q c H1
theorem Im {op:CmpOp} {t:TE} (h:PC X op a b t) (h1:behindInMarks op b = false:=by first | exact uH _ (by decide) (by decide) | rfl):PT X (.Compare a [op] [b] pos) (tB t):=by
 intro pins s σ H Q I hw
 refine wpAny_isTrue_Compare1 (c5 (h pins s σ H _ I hw) λv s1 h1=>c5 h1 λu s2 h2=>c5 h2 λc s3 ⟨x,H1,I1,r1,q1⟩=>?_) h1
 obtain ⟨d,rfl,q⟩:=q1
 cases r1
 exact wpAny_truthy_bool ⟨H1,I1,q⟩
theorem iI {e:Expr} {t:TE} (h:PE X e t) (he:∀ whole,isTrue e X.env whole = (do let v ← whole;standAt e.pos;holding [v] (truthy v)):=by intro _;rfl):PT X e (tB t):=by
 intro pins s σ H Q I hw
 refine isTrue_plain (c5 (h pins s σ H _ I hw) λv s1 ⟨x,H1,I1,r1,q1⟩=>?_) (he _)
 obtain ⟨d,rfl,q⟩:=q1
 cases r1
 exact wpAny_truthy_bool ⟨H1,I1,q⟩
variable {tA tB':TT} {rest:List Expr}
def Lg (t u:TT):TT:=λσ H Q=>t σ H λc H1=>if c = true then u σ H1 Q else Q false H1
def tOr (t u:TT):TT:=λσ H Q=>t σ H λc H1=>if c = true then Q true H1 else u σ H1 Q
def KL (t:TT):TT:=λσ H Q=>t σ H λc H1=>Q (!c) H1
theorem eO (ha:PT X a tA):PW X (.BoolOp .And [a] pos) tA:=by
 intro wh pins s σ H Q I h
 refine isTrue_and (c5 (ha pins s σ H Q I h) λc s1 e=>?_)
 cases c with
 | true=>exact isTrue_and_nil e
 | false=>exact e
theorem gv (ha:PT X a tA):PW X (.BoolOp .Or [a] pos) tA:=by
 intro wh pins s σ H Q I h
 refine isTrue_or (c5 (ha pins s σ H Q I h) λc s1 e=>?_)
 cases c with
 | false=>exact isTrue_or_nil e
 | true=>exact e
theorem fD (ha:PT X a tA) (hb:PW X (.BoolOp .And (b :: rest) pos) tB'):PW X (.BoolOp .And (a :: b :: rest) pos) (Lg tA tB'):=by
 intro wh pins s σ H Q I h
 refine isTrue_and (c5 (ha pins s σ H _ I h) λc s1 ⟨H1,I1,q1⟩=>?_)
 cases c with
 | true=>exact hb wh pins s1 σ H1 Q I1 q1
 | false=>exact ⟨H1,I1,q1⟩
theorem g8 (ha:PT X a tA) (hb:PW X (.BoolOp .Or (b :: rest) pos) tB'):PW X (.BoolOp .Or (a :: b :: rest) pos) (tOr tA tB'):=by
 intro wh pins s σ H Q I h
 refine isTrue_or (c5 (ha pins s σ H _ I h) λc s1 ⟨H1,I1,q1⟩=>?_)
 cases c with
 | true=>exact ⟨H1,I1,q1⟩
 | false=>exact hb wh pins s1 σ H1 Q I1 q1
theorem jI (ha:PT X a tA):PT X (.UnaryOp .Not a pos) (KL tA):=by
 intro pins s σ H Q I h
 exact isTrue_not (ha pins s σ H (λc H1=>Q (!c) H1) I h)
def F6 (ta tb:TE):TE:=λσ H Q=>ta σ H λx H1=>∃ c,x = .bl c /\ if c = true then tb σ H1 Q else Q (.bl false) H1
def LY (ta tb:TE):TE:=λσ H Q=>ta σ H λx H1=>∃ c,x = .bl c /\ if c = true then Q (.bl true) H1 else tb σ H1 Q
def FJ (ta:TE):TE:=λσ H Q=>ta σ H λx H1=>∃ c,x = .bl c /\ Q (.bl (!c)) H1
theorem J0 {op} {t:TE} (h:PE X a t):PE X (.BoolOp op [a] pos) t:=λpins s σ H Q I hw=>BoolOp_one (h pins s σ H Q I hw)
theorem GQ (ha:PE X a ta) (hb:PE X (.BoolOp .And (b :: rest) pos) tb):PE X (.BoolOp .And (a :: b :: rest) pos) (F6 ta tb):=by
 intro pins s σ H Q I h
 refine BoolOp_and (c5 (ha pins s σ H _ I h) λv s1 ⟨x,H1,I1,r1,q1⟩=>?_)
 obtain ⟨c,rfl,q1⟩:=q1
 cases r1
 refine wpAny_truthy_bool ?_
 cases c with
 | true=>exact hb pins s1 σ H1 Q I1 q1
 | false=>exact ⟨.bl false,H1,I1,rfl,q1⟩
theorem Bu (ha:PE X a ta):PE X (.UnaryOp .Not a pos) (FJ ta):=by
 intro pins s σ H Q I h
 refine UnaryOp_ (c5 (ha pins s σ H _ I h) λv s1 ⟨x,H1,I1,r1,q1⟩=>?_)
 obtain ⟨c,rfl,q1⟩:=q1
 cases r1
 exact not_of (wpAny_truthy_bool ⟨.bl (!c),H1,I1,rfl,q1⟩)
def tIf (t:TT) (ta tb:TE):TE:=λσ H Q=>t σ H λc H1=>if c = true then ta σ H1 Q else tb σ H1 Q
theorem cP {c:Expr} (hc:PT X c tA) (ha:PE X a ta) (hb:PE X b tb):PE X (.IfExp c a b pos) (tIf tA ta tb):=by
 intro pins s σ H Q I h
 refine wpAny_IfExp (c5 (hc pins s σ H _ I h) λd s1 ⟨H1,I1,q1⟩=>?_)
 cases d with
 | true=>exact ha pins s1 σ H1 Q I1 q1
 | false=>exact hb pins s1 σ H1 Q I1 q1
end
end L2
namespace L2
open PySem PySem.Spec PyProof.Rows
def bu (K:PySem.W.Frag) (H:Hp) (a:Addr) (xs:List V):Prop :=
 Rd H a (.lst xs) ∨
  ∃ (o:Obj) (its:Array Value) (n:Nat),K.lookup a = some o /\ o.cls = .type "list" /\ o.dict = none /\ o.data = .seq its n /\ its.size <= sizeLine /\ Vals xs its.toList
def gh (K:PySem.W.Frag) (H:Hp) (a:Addr) (xs:List V):Prop :=
 Rd H a (.tup xs) ∨
  ∃ (o:Obj) (its:Array Value) (n:Nat),K.lookup a = some o /\ o.cls = .type "tuple" /\ o.data = .seq its n /\ its.size <= sizeLine /\ Vals xs its.toList
def My:Value -> Option V
 | .none=>some .cK
 | .bool b=>some (.bl b)
 | .int i _=>some (.int i)
 | .str x _=>some (.str x)
 | .bytes b _=>some (.byt b)
 | .float b _=>some (.flt b)
 | .ref a=>some (.ref a)
 | .type n=>some (.ty n)
 | _=>none
theorem RelV.abs {x:V} {u:Value} (r:RelV x u):My u = some x:=by
 cases x with
 | cK=>cases r;rfl
 | bl _=>cases r;rfl
 | int _=>obtain ⟨t,rfl⟩:=r;rfl
 | str _=>obtain ⟨t,rfl⟩:=r;rfl
 | byt _=>obtain ⟨t,rfl⟩:=r;rfl
 | flt _=>obtain ⟨t,rfl⟩:=r;rfl
 | ref _=>cases r;rfl
 | ty _=>cases r;rfl
theorem RelV.inj {x y:V} {u:Value} (r:RelV x u) (q:RelV y u):x = y:=Option.some.inj (r.abs.symm.trans q.abs)
theorem Vals.inj:∀ {xs ys:List V} {us:List Value},Vals xs us -> Vals ys us -> xs = ys
 | _,_,_,.nil,.nil=>rfl
 | _,_,_,.cons r t,.cons r' t'=>by rw [r.inj r',Vals.inj t t']
section
variable {X:Cx} {pins:List (Addr × Obj)} {σ:St} {H:Hp} {s:Shared} {a:Addr} {xs ys:List V}
theorem bu.of {K:PySem.W.Frag} (h:H a = some (.lst xs)):bu K H a xs:=.inl (.inl h)
theorem gh.of {K:PySem.W.Frag} (h:H a = some (.tup xs)):gh K H a xs:=.inl (.inl h)
theorem Inv.list (I:Inv X pins σ H s) (h:bu X.K H a xs):∃ its:List Value,Vals xs its /\ PlainL s.heap a its.toArray /\ xs.length <= sizeLine:=by
 rcases h with h | ⟨o,its,n,hk,hc,hd,hs,hz,r⟩
 ·obtain ⟨z,its,n,r,e⟩:=h.ok I.hok
  exact ⟨its,r,⟨_,n,e,rfl,rfl,rfl⟩,z⟩
 ·refine ⟨its.toList,r,⟨o,n,I.sN a o hk,hc,hd,by simpa using hs⟩,?_⟩
  have e:=r.length
  simp only [Array.length_toList] at e
  omega
theorem Inv.tuple (I:Inv X pins σ H s) (h:gh X.K H a xs):∃ its:List Value,Vals xs its /\ IsTup s.heap a its.toArray /\ xs.length <= sizeLine:=by
 rcases h with h | ⟨o,its,n,hk,hc,hs,hz,r⟩
 ·obtain ⟨z,its,r,p⟩:=h.ok I.hok
  exact ⟨its,r,p,z⟩
 ·refine ⟨its.toList,r,⟨o,I.sN a o hk,hc,n,by simpa using hs⟩,?_⟩
  have e:=r.length
  simp only [Array.length_toList] at e
  omega
theorem Inv.kD (I:Inv X pins σ H s) (h:bu X.K H a xs) (h':bu X.K H a ys):xs = ys:=by
 obtain ⟨its,r,⟨o,n,e,_,_,d⟩,_⟩:=I.list h
 obtain ⟨its',r',⟨o',n',e',_,_,d'⟩,_⟩:=I.list h'
 rw [e] at e';cases e'
 rw [d] at d'
 injection d' with d1 _
 have:its = its':=by simpa using congrArg Array.toList d1
 subst this
 exact r.inj r'
end
abbrev Cx.ql (X:Cx) (E:Value -> Shared -> Prop):Cx:={ X with xe:=E }
abbrev Cx.LL (X:Cx):Cx:=X.ql λ_ _=>False
theorem Cx.Ok.ql {X:Cx} (ok:X.Ok) (E:Value -> Shared -> Prop):(X.ql E).Ok :=
 ⟨ok.mod,ok.kind,ok.glob,ok.blt,ok.above,ok.inj,ok.has,ok.Ka,ok.hd,ok.frames,ok.stk,ok.exf,ok.bs,ok.FI,ok.BR,ok.EK,ok.mP,ok.Gw⟩
theorem Cx.Ok.iW {X:Cx} {E:Value -> Shared -> Prop} (ok:(X.ql E).Ok):X.Ok :=
 ⟨ok.mod,ok.kind,ok.glob,ok.blt,ok.above,ok.inj,ok.has,ok.Ka,ok.hd,ok.frames,ok.stk,ok.exf,ok.bs,ok.FI,ok.BR,ok.EK,ok.mP,ok.Gw⟩
section
variable {X:Cx} {pins:List (Addr × Obj)} {σ:St} {H:Hp} {s:Shared} {E:Value -> Shared -> Prop}
theorem Inv.ql (I:Inv X pins σ H s) (E:Value -> Shared -> Prop):Inv (X.ql E) pins σ H s:=⟨I.ok.ql E,I.os,I.bare,I.base,I.loc,I.cell,I.free,I.jq,I.pin,I.hok,I.len⟩
theorem Inv.iW (I:Inv (X.ql E) pins σ H s):Inv X pins σ H s:=⟨I.ok.iW,I.os,I.bare,I.base,I.loc,I.cell,I.free,I.jq,I.pin,I.hok,I.len⟩
theorem SP.iW {D:Ends} {f:Flow} {s':Shared} (h:SP (X.ql E) pins D f s'):SP X pins D f s':=by
 cases f with
 | next=>obtain ⟨σ',H',I,q⟩:=h;exact ⟨σ',H',I.iW,q⟩
 | brk=>obtain ⟨σ',H',I,q⟩:=h;exact ⟨σ',H',I.iW,q⟩
 | cont=>obtain ⟨σ',H',I,q⟩:=h;exact ⟨σ',H',I.iW,q⟩
 | ret u=>obtain ⟨v,σ',H',I,r,q⟩:=h;exact ⟨v,σ',H',I.iW,r,q⟩
theorem xM.LL {st:List Stmt} {t:TS} (h:xM X.LL st t):xM X st t:=λpins s σ H D I hw =>
 wpAny_mono (h pins s σ H D (I.ql _) hw) (λ_ _ q=>q.iW) λ_ _ z=>False.elim z
end
section
variable {X:Cx} {st:Stmt} {rest:List Stmt} {t u:TS} {e:Expr} {te:TE} {pos:Pos}
def Lo:TS:=λD σ H=>D.nx σ H
def Lc (t u:TS):TS:=λD σ H=>t { D with nx:=u D } σ H
theorem sV (h1:PS X st t) (h2:xM X rest u):xM X (st :: rest) (Lc t u):=by
 intro pins s σ H D I h
 refine wpAny_execs_cons (c5 (h1 pins s σ H { D with nx:=u D } I h) λf s1 q=>?_)
 cases f with
 | next =>
  obtain ⟨σ',H',I',q⟩:=q
  exact h2 pins s1 σ' H' D I' q
 | ret v=>exact q
 | brk=>exact q
 | cont=>exact q
theorem Fx (h1:PS X st t):xM X [st] t:=by
 intro pins s σ H D I h
 refine wpAny_execs_cons (c5 (h1 pins s σ H D I h) λf s1 q=>?_)
 cases f with
 | next=>exact wpAny_execs_nil q
 | ret v=>exact q
 | brk=>exact q
 | cont=>exact q
theorem Inv.quiet {pins:List (Addr × Obj)} {σ:St} {H:Hp} {s:Shared} (I:Inv X pins σ H s):interactive X.env = false:=by simp [interactive,I.ok.kind]
def FN (te:TE):TS:=λD σ H=>te σ H λ_ H1=>D.nx σ H1
theorem bH (he:PE X e te) (hs:swapsWith e none pos.line X.env = pure false:=by rfl):PS X (.Expr e pos) (FN te):=by
 intro pins s σ H D I h
 exact wpAny_Expr_any (c5 (he pins s σ H _ I h) λv s1 ⟨x,H1,I1,r1,q1⟩=>⟨σ,H1,I1,q1⟩) I.quiet hs
def HG (te:TE):TS:=λD σ H=>te σ H D.rt
theorem aI (he:PE X e te):PS X (.Return (some e) pos) (HG te):=by
 intro pins s σ H D I h
 exact wpAny_Return_some (c5 (he pins s σ H _ I h) λv s1 ⟨x,H1,I1,r1,q1⟩=>⟨x,σ,H1,I1,r1,q1⟩)
def KO (c:TT) (t u:TS):TS:=λD σ H=>c σ H λb H1=>if b = true then t D σ H1 else u D σ H1
theorem bB {c:Expr} {a b:List Stmt} {tc:TT} (hc:PT X c tc) (ha:xM X a t) (hb:xM X b u):PS X (.If c a b pos) (KO tc t u):=by
 intro pins s σ H D I h
 refine wpAny_If (c5 (hc pins s σ H _ I h) λd s1 ⟨H1,I1,q1⟩=>?_)
 cases d with
 | true=>exact ha pins s1 σ H1 D I1 q1
 | false=>exact hb pins s1 σ H1 D I1 q1
end
abbrev TG:=V -> St -> Hp -> (St -> Hp -> Prop) -> Prop
abbrev ID:=List V -> St -> Hp -> (St -> Hp -> Prop) -> Prop
def PG (X:Cx) (target:Expr) (t:TG):Prop :=
 ∀ (pins:List (Addr × Obj)) (s:Shared) (σ:St) (H:Hp) (v:V) (u:Value) (Q:St -> Hp -> Prop),Inv X pins σ H s -> RelV v u -> t v σ H Q ->
  wpAny (model X.prog X.w) X.A (assign target X.env u) (λ_ s'=>∃ σ' H',Inv X pins σ' H' s' /\ Q σ' H') X.xe s
def LU (X:Cx) (ts:List Expr) (t:ID):Prop :=
 ∀ (pins:List (Addr × Obj)) (s:Shared) (σ:St) (H:Hp) (vs:List V) (us:List Value) (Q:St -> Hp -> Prop),Inv X pins σ H s -> Vals vs us -> t vs σ H Q ->
  wpAny (model X.prog X.w) X.A (assignInOrder ((assignEach ts X.env).map (·.2)) us) (λ_ s'=>∃ σ' H',Inv X pins σ' H' s' /\ Q σ' H') X.xe s
abbrev F9:=V -> V -> V -> Hp -> (Hp -> Prop) -> Prop
def Lj (X:Cx) (t:F9):Prop :=
 ∀ (pins:List (Addr × Obj)) (s:Shared) (σ:St) (H:Hp) (o i v:V) (ov iv u:Value) (Q:Hp -> Prop),Inv X pins σ H s -> RelV o ov -> RelV i iv -> RelV v u -> t o i v H Q ->
  wpAny (model X.prog X.w) X.A (setItem ov iv u) (λ_ s'=>∃ H',Inv X pins σ H' s' /\ Q H') X.xe s
abbrev LJ:=V -> V -> Hp -> VK -> Prop
def PIp (X:Cx) (op:Operator) (t:LJ):Prop :=
 ∀ (pins:List (Addr × Obj)) (s:Shared) (σ:St) (H:Hp) (x y:V) (v u:Value) (Q:VK),Inv X pins σ H s -> RelV x v -> RelV y u -> t x y H Q ->
  wpAny (model X.prog X.w) X.A (inplaceOp op v u) (EP X pins σ Q) X.xe s
section
variable {X:Cx} {pos:Pos}
def qo (i:Nat):TG:=λv σ H Q=>Q (σ.set i (some v)) H
theorem b9 {i:Nat} {x:Str} (hN:X.N.Nodup) (hi:X.N[i]? = some x) (hx:Loc X.env.scope x) (hf:X.fn x = true ∨ X.env.scope.names.lookup x = some .local:=by first | exact .inl rfl | exact .inr rfl | assumption):PG X (.Name x pos) (qo i):=by
 intro pins s σ H v u Q I r h
 exact wpAny_assign_Name (p7 I hN hi hx r (λs' I'=>⟨_,H,I',h⟩) hf)
def MB:ID:=λvs σ H Q=>vs = [] /\ Q σ H
def K9 (t:TG) (u:ID):ID:=λvs σ H Q=>∃ v r,vs = v :: r /\ t v σ H λσ' H'=>u r σ' H' Q
theorem mS:LU X [] MB:=by
 intro pins s σ H vs us Q I r h
 obtain ⟨e,h⟩:=h
 subst e
 cases r
 exact assignInOrder_nil ⟨σ,H,I,h⟩
theorem dQ {e:Expr} {es:List Expr} {t:TG} {u:ID} (h1:PG X e t) (h2:LU X es u)
  (hs:(assignEach (e :: es) X.env).map (·.2) = assign e X.env :: (assignEach es X.env).map (·.2):=by rfl):LU X (e :: es) (K9 t u):=by
 intro pins s σ H vs us Q I r h
 obtain ⟨v,vr,e1,h⟩:=h
 subst e1
 cases r with
 | cons r rr =>
  rw [hs]
  refine assignInOrder_cons (c5 (h1 pins s σ H _ _ _ I r h) λ_ s1 ⟨σ1,H1,I1,q1⟩=>?_)
  exact h2 pins s1 σ1 H1 _ _ Q I1 rr q1
def Mb (K:PySem.W.Frag) (n:Nat) (t:ID):TG:=λv σ H Q=>∃ a xs,v = .ref a /\ gh K H a xs /\ xs.length = n /\ t xs σ H Q
theorem sI {es:List Expr} {k:Nat} {t:ID} {n:Nat} (hc:X.calm = true) (h:LU X es t)
  (hn:(assignEach es X.env).length = n:=by rfl) (hst:(assignEach es X.env).findIdx? (·.1) = none:=by rfl):PG X (.Tuple es k pos) (Mb X.K n t):=by
 intro pins s σ H v u Q I r hw
 obtain ⟨a,xs,e1,hq,hl,hw⟩:=hw
 subst e1
 cases r
 obtain ⟨its,rv,ht,hz⟩:=I.tuple hq
 refine assign_Tuple_tuple (I.ok.hd hc) ht (by simp [hn,← hl,rv.length]) hst λh' hx=>?_
 have I1:Inv X pins σ H { s with heap:=h' }:=I.kept (t':=s.toks) λb o e=>hx b o (Nat.ne_of_lt (Heap.lt_size e)) e
 exact h pins _ σ H xs _ Q I1 (by simpa using rv) hw
def ML (to ti:TE) (t:F9):TG:=λv σ H Q=>to σ H λo H1=>ti σ H1 λi H2=>t o i v H2 λH3=>Q σ H3
theorem nZ {o i:Expr} {to ti:TE} {t:F9} (ho:PE X o to) (hi:PE X i ti) (hs:Lj X t)
  (ha:∀ v,assign (.Subscript o i pos) X.env v = (do
   let ov ← holding [v] (eval o X.env)
   let iv ← holding [v,ov] (eval i X.env)
   standAt pos
   holding [v,ov,iv] (setItem ov iv v)
   release [v,ov,iv] []):=by intro _;rfl):PG X (.Subscript o i pos) (ML to ti t):=by
 intro pins s σ H v u Q I r h
 rw [ha]
 refine wpAny_bind (wpAny_holding (c5 (ho pins s σ H _ I h) λov s1 ⟨x,H1,I1,r1,q1⟩=>?_))
 refine wpAny_bind (wpAny_holding (c5 (hi pins s1 σ H1 _ I1 q1) λiv s2 ⟨y,H2,I2,r2,q2⟩=>?_))
 refine wpAny_bind (wpAny_standAt (wpAny_bind (wpAny_holding (c5 (hs pins s2 σ H2 x y v ov iv u _ I2 r1 r2 r q2) λ_ s3 ⟨H3,I3,q3⟩=>?_))))
 exact wpAny_release ⟨σ,H3,I3,q3⟩
def Eo (te:TE) (g:TG):TS:=λD σ H=>te σ H λx H1=>g x σ H1 D.nx
theorem oO {tg e:Expr} {te:TE} {g:TG} (he:PE X e te) (hg:PG X tg g) (hs:swapsWithSole [tg] e pos.line X.env = pure false:=by rfl) (hw:swappedStores [tg] e X.env = pure none:=by rfl)
  (h1:(assignEach [tg] X.env).map (·.2) = [assign tg X.env]:=by rfl):PS X (.Assign [tg] e pos) (Eo te g):=by
 intro pins s σ H D I h
 refine wpAny_Assign_stores (c5 (he pins s σ H _ I h) λv s1 ⟨x,H1,I1,r1,q1⟩=>?_) hs hw
 rw [h1]
 exact c5 (hg pins s1 σ H1 x v _ I1 r1 q1) λ_ s2 q=>q
theorem aE {i:Nat} {x:Str} {e:Expr} {te:TE} {pos':Pos} (hN:X.N.Nodup) (hi:X.N[i]? = some x) (hx:Loc X.env.scope x) (he:PE X e te) (hs:swapsWith e (some (.Name x pos')) pos.line X.env = pure false:=by rfl) (hf:X.fn x = true ∨ X.env.scope.names.lookup x = some .local:=by first | exact .inl rfl | exact .inr rfl | assumption) :
  PS X (.Assign [.Name x pos'] e pos) (Eo te (qo i)):=by
 intro pins s σ H D I h
 refine wpAny_Assign_Name (c5 (he pins s σ H _ I h) λv s1 ⟨y,H1,I1,r1,q1⟩=>?_) hs
 exact p7 I1 hN hi hx r1 (λs2 I2=>⟨_,H1,I2,q1⟩) hf
def LH (i:Nat) (te:TE) (ti:LJ):TS:=λD σ H=>∃ x,σ[i]? = some (some x) /\ te σ H λy H1=>ti x y H1 λz H2=>D.nx (σ.set i (some z)) H2
theorem xR {i:Nat} {x:Str} {e:Expr} {te:TE} {op:Operator} {ti:LJ} {pos':Pos} (hN:X.N.Nodup) (hi:X.N[i]? = some x) (hx:Loc X.env.scope x) (he:PE X e te) (ho:PIp X op ti) (hf:X.fn x = true ∨ X.env.scope.names.lookup x = some .local:=by first | exact .inl rfl | exact .inr rfl | assumption) :
  PS X (.AugAssign (.Name x pos') op e pos) (LH i te ti):=by
 intro pins s σ H D I h
 obtain ⟨v,e1,h⟩:=h
 obtain ⟨m,hn,hl⟩:=I.loc
 have vis:LO X.env.scope x:=by rcases hx with k | k;exact .inl k;exact .inr (.inl k)
 obtain ⟨u,r,l⟩:=hl i x v hi e1 vis
 refine wpAny_AugAssign_Name ?_
 have go:wpAny (model X.prog X.w) X.A (eval e X.env) (λw s₂=>wpAny (model X.prog X.w) X.A (inplaceOp op u w) (λr s₃=>wpAny (model X.prog X.w) X.A (storeName X.env x r) (λ_=>SP X pins D .next) X.xe s₃) X.xe s₂) X.xe s:=by
  refine c5 (he pins s σ H _ I h) λw s1 ⟨y,H1,I1,r1,q1⟩=>?_
  refine c5 (ho pins s1 σ H1 v y u w _ I1 r r1 q1) λz s2 ⟨zv,H2,I2,r2,q2⟩=>?_
  exact p7 I2 hN hi hx r2 (λs3 I3=>⟨_,H2,I3,q2⟩) hf
 rcases l with ⟨hk,hm⟩ | ⟨hk,c,hc,hcell⟩
 ·exact wpAny_loadName_local I.ok.kind hk hn hm go
 ·rcases hk with hk | hk
  ·exact wpAny_loadName_cell I.ok.kind hk hc hcell go
  ·rcases hx with k | k
   ·have:X.env.scope.names.lookup x = some .free:=hk
    rw [k] at this;cases this
   ·have:X.env.scope.names.lookup x = some .free:=hk
    rw [k] at this;cases this
def ipI (f:Int -> Int -> Int):LJ:=λx y H Q=>∃ i j,x = .int i /\ y = .int j /\ Q (.int (f i j)) H
theorem yq:PIp X .Add (ipI λi j=>i + j):=by
 intro pins s σ H x y v u Q I r1 r2 h
 obtain ⟨i,j,e1,e2,q⟩:=h
 subst e1;subst e2
 obtain ⟨t,rfl⟩:=r1
 obtain ⟨t',rfl⟩:=r2
 exact iadd_int ⟨.int _,H,I.tok _,⟨_,rfl⟩,q⟩
end
section
variable {X:Cx} {pos:Pos}
def G7 (c:TT) (tb:TS):TS:=λD σ H=>∃ W:Nat -> St -> Hp -> Prop,(∃ m,W m σ H) /\ ∀ m σ H,W m σ H ->
 c σ H λb H1=>if b = true then ∃ N:St -> Hp -> Prop,(∀ σ' H',N σ' H' -> ∃ m',m' < m /\ W m' σ' H') /\ tb { D with nx:=N,ct:=N,bk:=D.nx } σ H1 else D.nx σ H1
theorem g9 {c:Expr} {body:List Stmt} {tc:TT} {tb:TS} (hp:PassesOwn (model X.prog X.w) X.A X.env X.xe) (hc:PT X c tc) (hb:xM X body tb):PS X (.While c body [] pos) (G7 tc tb):=by
 intro pins s σ H D I h
 obtain ⟨W,⟨m0,w0⟩,turn⟩:=h
 refine wpAny_While (codeAny_whileLoop (λn s'=>∃ σ' H',Inv X pins σ' H' s' /\ W n σ' H') ?_ m0 ⟨σ,H,I,w0⟩)
 rintro n s1 ⟨σ1,H1,I1,w1⟩
 refine wpAny_passesOwn hp (c5 (hc pins s1 σ1 H1 _ I1 (turn n σ1 H1 w1)) λb s2 ⟨H2,I2,q2⟩=>?_)
 cases b with
 | true =>
  obtain ⟨N,hN,q2⟩:=q2
  rw [if_pos rfl]
  refine wpAny_passesOwn hp (c5 (hb pins s2 σ1 H2 _ I2 q2) λf s3 q3=>?_)
  cases f with
  | next =>
   obtain ⟨σ3,H3,I3,n3⟩:=q3
   obtain ⟨m',hm,w3⟩:=hN σ3 H3 n3
   exact ⟨m',hm,σ3,H3,I3,w3⟩
  | cont =>
   obtain ⟨σ3,H3,I3,n3⟩:=q3
   obtain ⟨m',hm,w3⟩:=hN σ3 H3 n3
   exact ⟨m',hm,σ3,H3,I3,w3⟩
  | brk=>exact q3
  | ret v=>exact q3
 | false =>
  rw [if_neg Bool.false_ne_true]
  exact wpAny_execs_nil ⟨σ1,H2,I2,q2⟩
end
structure It where
 go:Nat -> Hp -> Prop
 J3:Nat -> Hp -> V -> Hp -> Prop
 stop:Nat -> Hp -> Prop
def qg (X:Cx) (pins:List (Addr × Obj)) (H:Hp) (b:Addr):Prop :=
 H b = none /\ b ≠ X.env.locals /\ b ∉ X.fs /\ (b ∈ X.ex ∨ X.s₀.heap.objs.size <= b) /\ (∀ x c,X.env.cells.lookup x = some c -> c ≠ b) /\ ∀ p ∈ X.pn ++ pins,p.1 ≠ b
theorem Inv.AK {X:Cx} {pins:List (Addr × Obj)} {σ:St} {H H':Hp} {s:Shared} {b:Addr} (I:Inv X pins σ H s) (hb:s.heap.objs.size <= b) (hn:H' b = none):qg X pins H' b:=by
 refine ⟨hn,Nat.ne_of_gt (Nat.lt_of_lt_of_le I.lt hb),I.Lp hb,.inr (Nat.le_trans I.sz hb),λx c e z=>?_,λp hp z=>?_⟩
 ·obtain ⟨v,q⟩:=I.cell x c e
  exact absurd (Nat.lt_of_lt_of_le q.lt (by rw [z];exact hb)) (Nat.lt_irrefl _)
 ·exact absurd (Nat.lt_of_lt_of_le (Heap.lt_size (I.pin p hp).1) (by rw [z];exact hb)) (Nat.lt_irrefl _)
structure Turn (P:Program) (w:World) (K:PySem.W.Frag) (tg:Expr) (J:It) (fp:List Addr) (it:Addr) (tn:Nat -> Heap -> Prop):Prop where
 mem:it ∈ fp
 obj:∀ i h,tn i h -> ∀ b ∈ fp,∃ o,h.get? b = some o /\ ∀ v,o.data ≠ .cell v
 keep:∀ i h h',tn i h -> (∀ b ∈ fp,∀ o,h.get? b = some o -> h'.get? b = some o) -> tn i h'
 item:∀ (X:Cx),X.prog = P -> X.w = w -> X.K = K -> X.calm = true -> ∀ (i:Nat) (pins:List (Addr × Obj)) (s:Shared) (σ:St) (H:Hp) (E:Value -> Shared -> Prop),Inv X pins σ H s -> (∀ b ∈ fp,qg X pins H b) -> tn i s.heap -> J.go i H ->
  wpAny (model P w) X.A (pyNext (.ref it)) (λr s1=>∃ u,r = some u /\
   wpAny (model P w) X.A (letOwnedTupleGo tg (.ref it) u) (λ_ s2=>∃ x H',Inv X pins σ H' s2 /\ RelV x u /\ J.J3 i H x H' /\ tn (i + 1) s2.heap /\ ∀ b ∈ fp,H' b = none) E s1) E s
 done:∀ (X:Cx),X.prog = P -> X.w = w -> X.K = K -> X.calm = true -> ∀ (i:Nat) (pins:List (Addr × Obj)) (s:Shared) (σ:St) (H:Hp) (E:Value -> Shared -> Prop),Inv X pins σ H s -> (∀ b ∈ fp,qg X pins H b) -> tn i s.heap -> J.stop i H ->
  wpAny (model P w) X.A (pyNext (.ref it)) (λr s1=>r = none /\ Inv X pins σ H s1) E s
 self:∀ (A:Around) (i:Nat) (s:Shared) (Q:Value -> Shared -> Prop) (E:Value -> Shared -> Prop),tn i s.heap -> Q (.ref it) s -> wpAny (model P w) A (pyIter (.ref it)) Q E s
abbrev TI:=St -> Hp -> (It -> Hp -> Prop) -> Prop
def Mx (X:Cx) (pins:List (Addr × Obj)) (σ:St) (tg:Expr) (R:It -> Hp -> Prop) (itv:Value) (s2:Shared):Prop :=
 ∃ (it:Addr) (fp:List Addr) (tn:Nat -> Heap -> Prop) (J:It) (H':Hp),itv = .ref it /\ Inv X pins σ H' s2 /\ Turn X.prog X.w X.K tg J fp it tn /\ tn 0 s2.heap /\ (∀ b ∈ fp,qg X pins H' b) /\ R J H'
def PI (X:Cx) (tg iter:Expr) (wi:TI):Prop :=
 ∀ (pins:List (Addr × Obj)) (s:Shared) (σ:St) (H:Hp) (R:It -> Hp -> Prop),Inv X pins σ H s -> wi σ H R ->
  wpAny (model X.prog X.w) X.A (eval iter X.env) (λv s1=>wpAny (model X.prog X.w) X.A (pyIter v) (Mx X pins σ tg R) X.xe s1) X.xe s
theorem F4 {M:Model} {A:Around} {E:Value -> Shared -> Prop} {s:Shared} {tg:Expr} {it:Addr} {u:Value} {o:Obj} {n:String} {vs:Array Value} {Q:Unit -> Shared -> Prop} (ho:s.heap.get? it = some o) (hc:o.cls = .type n) (hd:o.data = .fields vs)
  (hn:["enumerate","zip","dict_itemiterator","dict_reverseitemiterator","odict_iterator","itertools.zip_longest","itertools.pairwise"].contains n = false) (hQ:Q () s):wpAny M A (letOwnedTupleGo tg (.ref it) u) Q E s:=by
 unfold letOwnedTupleGo
 cases tg <;> first
  | exact wpAny_pure hQ
  | (cases u <;> first
    | exact wpAny_pure hQ
    | (refine wpAny_bind (wpAny_load ho ?_)
       rw [hc,hd]
       show wpAny M A (if (["enumerate","zip","dict_itemiterator","dict_reverseitemiterator","odict_iterator","itertools.zip_longest","itertools.pairwise"].contains n && vs[0]? == some (rawInt _)) = true then _ else _) Q E s
       rw [if_neg (by intro h;rw [hn,Bool.false_and] at h;cases h)]
       exact wpAny_pure hQ))
def Jf (K:PySem.W.Frag) (a:Addr):It :=
 ⟨λi H=>∃ xs x,bu K H a xs /\ xs[i]? = some x,λi H x H'=>H' = H /\ ∀ xs,bu K H a xs -> xs[i]? = some x,λi H=>∃ xs,bu K H a xs /\ xs.length <= i⟩
def FO (lo:Int) (n:Nat):It:=⟨λi _=>i < n,λi H x H'=>H' = H /\ x = .int (lo + i),λi _=>n <= i⟩
theorem Aj {P:Program} {w:World} {K:PySem.W.Frag} {tg:Expr} (a it:Addr):Turn P w K tg (Jf K a) [it] it (λi h=>h.IsListIter it a i) where
 mem:=by simp
 obj:=λi h st b hb=>by
  have e:b = it:=by simpa using hb
  subst e
  obtain ⟨o,e,c,d⟩:=st
  exact ⟨o,e,λv z=>by rw [d] at z;cases z⟩
 keep:=λi h h' st k=>st.at λo e=>k it (by simp) o e
 item:=by
  intro X hP hw hK hc i pins s σ H E I hf st hg
  subst hP hw hK
  obtain ⟨xs,x,hq,hx⟩:=hg
  obtain ⟨its,rv,p,hz⟩:=I.list hq
  obtain ⟨u,hu,ru⟩:=rv.get hx
  obtain ⟨f0,f1,f2,f3,f4,f5⟩:=hf it (by simp)
  refine wpAny_pyNext_list_item st p.isList (x:=u) (by simpa using hu) λh' st' sb=>?_
  have I1:Inv X pins σ H { s with heap:=h' }:=I.turned (t':=s.toks) (λb o hb e=>(sb.2 b hb).trans e) f0 f1 f3 f4 f5
  obtain ⟨o,e,c,d⟩:=id st'
  exact ⟨u,rfl,F4 (s:={ s with heap:=h' }) e c d (by decide) ⟨x,H,I1,ru,⟨rfl,λys hy=>by rw [I.kD hy hq];exact hx⟩,st',λb hb=>(hf b hb).1⟩⟩
 done:=by
  intro X hP hw hK hc i pins s σ H E I hf st hg
  subst hP hw hK
  obtain ⟨xs,hq,hx⟩:=hg
  obtain ⟨its,rv,p,hz⟩:=I.list hq
  obtain ⟨f0,f1,f2,f3,f4,f5⟩:=hf it (by simp)
  have hl:=rv.length
  exact wpAny_pyNext_list_end (I.ok.hd hc) st p.isList (by simp;omega) λh' eb=>⟨rfl,I.turned (t':=s.toks) (λb o hb e=>eb b o hb e) f0 f1 f3 f4 f5⟩
 self:=λ_ _ _ _ _ st h=>wpAny_pyIter_listiter st h
theorem xS {P:Program} {w:World} {K:PySem.W.Frag} {tg:Expr} (it:Addr) (lo:Int) (n:Nat):Turn P w K tg (FO lo n) [it] it (λi h=>IsRangeIter h it (lo + (i:Nat) * 1) ((n:Int) - (i:Nat)) 1) where
 mem:=by simp
 obj:=λi h st b hb=>by
  have e:b = it:=by simpa using hb
  subst e
  exact ⟨_,st,λv z=>by
   have z':Data.fields _ = Data.cell v:=z
   cases z'⟩
 keep:=λi h h' st k=>k it (by simp) _ st
 item:=by
  intro X hP hw hK hc i pins s σ H E I hf st hg
  subst hP hw hK
  obtain ⟨f0,f1,f2,f3,f4,f5⟩:=hf it (by simp)
  have W:=Walks.range (prog:=X.prog) (w:=X.w) (I.ok.hd hc) it lo 1 n
  refine W.item i s _ _ hg st λv h' tk hv st' kk=>?_
  obtain ⟨t,rfl⟩:=hv
  have I1:Inv X pins σ H { s with heap:=h',toks:=tk }:=I.turned (λb o hb e=>kk b o (by simpa using hb) e) f0 f1 f3 f4 f5
  refine ⟨_,rfl,F4 (s:={ s with heap:=h',toks:=tk }) (n:="range_iterator") st' rfl rfl (by decide) ⟨.int (lo + i),H,I1,⟨t,?_⟩,⟨rfl,rfl⟩,st',λb hb=>(hf b hb).1⟩⟩
  rw [Int.mul_one]
 done:=by
  intro X hP hw hK hc i pins s σ H E I hf st hg
  subst hP hw hK
  obtain ⟨f0,f1,f2,f3,f4,f5⟩:=hf it (by simp)
  exact wpAny_pyNext_range_end (I.ok.hd hc) st (by have:n <= i:=hg;omega) λh' eb=>⟨rfl,I.turned (t':=s.toks) (λb o hb e=>eb b o hb e) f0 f1 f3 f4 f5⟩
 self:=λ_ _ _ _ _ st h=>wpAny_pyIter_rangeiter st h
end L2
namespace L2
open PySem PySem.Spec PyProof.Rows
section
variable {X:Cx} {tg:Expr}
def KI (K:PySem.W.Frag) (tl:TE):TI:=λσ H R=>tl σ H λx H1=>∃ a,x = .ref a /\ (∃ xs,bu K H1 a xs) /\ R (Jf K a) H1
theorem dX {l:Expr} {tl:TE} (hl:PE X l tl):PI X tg l (KI X.K tl):=by
 intro pins s σ H R I h
 refine c5 (hl pins s σ H _ I h) λv s1 ⟨x,H1,I1,r1,q1⟩=>?_
 obtain ⟨a,e,⟨xs,hq⟩,q⟩:=q1
 subst e
 cases r1
 obtain ⟨its,rv,p,hz⟩:=I1.list hq
 refine wpAny_pyIter_list p.isList ?_
 refine ⟨s1.heap.objs.size,[s1.heap.objs.size],_,_,H1,rfl,I1.kept (t':=s1.toks) λb o e=>Heap.get?_push_of_some _ e,Aj a _,⟨_,Heap.get?_push_size _ rfl,rfl,rfl⟩,λb hb=>?_,q⟩
 have e:b = s1.heap.objs.size:=by simpa using hb
 subst e
 exact I1.AK (Nat.le_refl _) (I1.hok.fresh (Nat.le_refl _))
theorem DK {pins:List (Addr × Obj)} {σ:St} {H:Hp} {s:Shared} {R:It -> Hp -> Prop} {E:Value -> Shared -> Prop} {lo hi:Int} {t u v:Tok} {tk:Nat} (I:Inv X pins σ H s) (h1:-(2 ^ 62) <= lo) (h2:lo < 2 ^ 62) (h3:-(2 ^ 62) <= hi) (h4:hi < 2 ^ 62)
  (q:R (FO lo (hi - lo).toNat) H):wpAny (model X.prog X.w) X.A (pyIter (.ref s.heap.objs.size)) (Mx X pins σ tg R) E { s with heap:=s.heap.push { cls:=.type "range",data:=.fields #[.int lo t,.int hi u,.int 1 v] },toks:=tk }:=by
 refine wpAny_pyIter_range (IsRange.new ..) (small_one h1 h2 h3 h4) ?_
 have I1:Inv X pins σ H { s with heap:=s.heap.push { cls:=.type "range",data:=.fields #[.int lo t,.int hi u,.int 1 v] },toks:=tk }:=I.kept λb o e=>Heap.get?_push_of_some _ e
 refine ⟨(s.heap.push { cls:=.type "range",data:=.fields #[.int lo t,.int hi u,.int 1 v] }).objs.size,[(s.heap.push { cls:=.type "range",data:=.fields #[.int lo t,.int hi u,.int 1 v] }).objs.size],_,_,H,rfl,
  I1.kept (t':=tk) λb o e=>Heap.get?_push_of_some _ e,xS _ lo (hi - lo).toNat,?_,λb hb=>?_,q⟩
 ·have e1:lo + ((0:Nat):Int) * 1 = lo:=by simp
  have e2:(((hi - lo).toNat:Nat):Int) - ((0:Nat):Int) = Builtin.Range.rangeSize lo hi 1:=by rw [rangeSize_one];split <;> omega
  show IsRangeIter _ _ (lo + ((0:Nat):Int) * 1) ((((hi - lo).toNat:Nat):Int) - ((0:Nat):Int)) 1
  rw [e1,e2]
  exact Heap.get?_push_size _ rfl
 ·have e:b = (s.heap.push { cls:=.type "range",data:=.fields #[.int lo t,.int hi u,.int 1 v] }).objs.size:=by simpa using hb
  subst e
  exact I1.AK (Nat.le_refl _) (I1.hok.fresh (Nat.le_refl _))
def Kn (ta:TA):TI:=λσ H R=>ta σ H λvs H1=>∃ j:Int,vs = [.int j] /\ -(2 ^ 62) <= j /\ j < 2 ^ 62 /\ R (FO 0 j.toNat) H1
theorem jd {a:Expr} {ta:TA} {p pos:Pos} (hg:Gl X "range") (hm:X.mg "range" = none) (ha:PA X [a] ta) (hs:starEach [a] X.env = [(false,eval a X.env)]:=by rfl):PI X tg (.Call (.Name "range" p) [a] [] pos) (Kn ta):=by
 intro pins s σ H R I h
 refine Call_ (jy I hg hm boot_range (PyProof.Rows.callWith_type1 (c5 (ha pos pins s σ H _ I h) λus s1 ⟨vs,H1,I1,r1,q1⟩=>?_) hs rfl))
 obtain ⟨j,e,q1,q2,q⟩:=q1
 subst e
 cases r1 with
 | cons r rr =>
  cases rr
  obtain ⟨t,rfl⟩:=r
  exact call_range_1 (DK I1 (by omega) (by omega) q1 q2 (by simpa using q))
def L8 (wi:TI) (g:TG) (tb:TS):TS:=λD σ H=>wi σ H λJ H1=>∃ W:Nat -> Nat -> St -> Hp -> Prop,(∃ m,W 0 m σ H1) /\ ∀ i m σ H,W i m σ H ->
 (J.stop i H /\ D.nx σ H) ∨ (J.go i H /\ ∃ N:St -> Hp -> Prop,(∀ σ' H',N σ' H' -> ∃ m',m' < m /\ W (i + 1) m' σ' H') /\ ∀ x H',J.J3 i H x H' -> g x σ H' λσ2 H2=>tb { D with nx:=N,ct:=N,bk:=D.nx } σ2 H2)
def iO (fp:List Addr) (h:Heap):List (Addr × Obj):=fp.filterMap λb=>(h.get? b).map λo=>(b,o)
theorem fL {fp:List Addr} {h:Heap} {b:Addr} {o:Obj} (hb:b ∈ fp) (e:h.get? b = some o):(b,o) ∈ iO fp h:=List.mem_filterMap.mpr ⟨b,hb,by rw [e];rfl⟩
theorem k6 {fp:List Addr} {h:Heap} {p:Addr × Obj} (hp:p ∈ iO fp h):p.1 ∈ fp /\ h.get? p.1 = some p.2:=by
 obtain ⟨b,hb,e⟩:=List.mem_filterMap.mp hp
 cases q:h.get? b with
 | none=>rw [q] at e;cases e
 | some o =>
  rw [q] at e
  have e':(b,o) = p:=Option.some.inj e
  subst e'
  exact ⟨hb,q⟩
theorem Inv.pinned {pins:List (Addr × Obj)} {σ:St} {H:Hp} {s:Shared} {fp:List Addr} (I:Inv X pins σ H s) (hf:∀ b ∈ fp,qg X pins H b) (ho:∀ b ∈ fp,∃ o,s.heap.get? b = some o /\ ∀ v,o.data ≠ .cell v):Inv X (pins ++ iO fp s.heap) σ H s :=
 I.fR λp hp=>(List.mem_append.mp hp).elim (λz=>I.pin p (List.mem_append_right _ z)) λz=>by
  obtain ⟨hb,e⟩:=k6 z
  obtain ⟨f0,f1,f2,_⟩:=hf p.1 hb
  obtain ⟨o,e',d⟩:=ho p.1 hb
  rw [e] at e';cases e'
  exact ⟨e,f0,f1,f2,d⟩
theorem Inv.ni {pins pl:List (Addr × Obj)} {σ:St} {H:Hp} {s:Shared} (I:Inv X (pins ++ pl) σ H s):Inv X pins σ H s:=I.fR λp hp=>I.pin p (List.mem_append_right _ (List.mem_append_left _ hp))
theorem JB {iter:Expr} {body:List Stmt} {wi:TI} {g:TG} {tb:TS} {pos:Pos} (hp:PassesOwn (model X.prog X.w) X.A X.env X.xe) (hc:X.calm = true) (hi:PI X tg iter wi) (hg:PG X tg g) (hb:xM X body tb)
  (hs:∀ x,foldedSetIterable iter X.env x = pure x:=by intro _;rfl):PS X (.For tg iter body [] pos) (L8 wi g tb):=by
 intro pins s σ H D I h
 refine wpAny_For (c5 (hi pins s σ H _ I h) λv s1 h1=>c5 h1 λitv s2 h2=>?_) hs
 obtain ⟨it,fp,tn,J,H2,e,I2,T,st2,f2,W,⟨m0,w0⟩,turn⟩:=h2
 subst e
 have stat:∀ {H':Hp},(∀ b ∈ fp,H' b = none) -> ∀ b ∈ fp,qg X pins H' b:=λhn b hb=>⟨hn b hb,(f2 b hb).2⟩
 refine codeAny_forLoop_any (λn s'=>∃ i σ' H',Inv X pins σ' H' s' /\ tn i s'.heap /\ (∀ b ∈ fp,H' b = none) /\ W i n σ' H') ?_ m0 ⟨0,σ,H2,I2,st2,λb hb=>(f2 b hb).1,w0⟩
 rintro n s3 ⟨i,σ3,H3,I3,st3,fr3,w3⟩
 rcases turn i n σ3 H3 w3 with ⟨stop,qn⟩ | ⟨go,N,hN,step⟩
 ·refine wpAny_passesOwn hp (c5 (T.done X rfl rfl rfl hc i pins s3 σ3 H3 X.xe I3 (stat fr3) st3 stop) λr s4 ⟨hr,I4⟩=>?_)
  subst hr
  exact wpAny_execs_nil ⟨σ3,H3,I4,qn⟩
 ·refine wpAny_passesOwn hp (c5 (T.item X rfl rfl rfl hc i pins s3 σ3 H3 X.xe I3 (stat fr3) st3 go) λr s4 ⟨u,hr,h4⟩=>?_)
  subst hr
  refine wpAny_passesOwn hp (c5 h4 λ_ s5 ⟨x,H5,I5,r5,y5,st5,fr5⟩=>?_)
  have I5':=I5.pinned (stat fr5) (T.obj _ _ st5)
  refine wpAny_passesOwn hp (c5 (hg _ s5 σ3 H5 x u _ I5' r5 (step x H5 y5)) λ_ s6 ⟨σ6,H6,I6,q6⟩=>?_)
  refine wpAny_passesOwn hp (c5 (hb _ s6 σ6 H6 _ I6 q6) λf s7 q7=>?_)
  have again:∀ {σ7:St} {H7:Hp},Inv X (pins ++ iO fp s5.heap) σ7 H7 s7 -> N σ7 H7 -> ∃ m,m < n /\ ∃ i σ' H',Inv X pins σ' H' s7 /\ tn i s7.heap /\ (∀ b ∈ fp,H' b = none) /\ W i m σ' H':=λ{σ7 H7} I7 n7=>by
   obtain ⟨m',hm,w7⟩:=hN σ7 H7 n7
   refine ⟨m',hm,i + 1,σ7,H7,I7.ni,T.keep _ _ _ st5 λb hb o e=>(I7.pin (b,o) (List.mem_append_right _ (List.mem_append_right _ (fL hb e)))).1,λb hb=>?_,w7⟩
   obtain ⟨o,e,d⟩:=T.obj _ _ st5 b hb
   exact (I7.pin (b,o) (List.mem_append_right _ (List.mem_append_right _ (fL hb e)))).2.1
  cases f with
  | next=>obtain ⟨σ7,H7,I7,n7⟩:=q7;exact again I7 n7
  | cont=>obtain ⟨σ7,H7,I7,n7⟩:=q7;exact again I7 n7
  | brk=>obtain ⟨σ7,H7,I7,q7⟩:=q7;exact ⟨σ7,H7,I7.ni,q7⟩
  | ret v=>obtain ⟨x7,σ7,H7,I7,r7,q7⟩:=q7;exact ⟨x7,σ7,H7,I7.ni,r7,q7⟩
end
theorem Cg {K:PySem.W.Frag} {a:Addr} {xs:List V} {g:TG} {tb:TS} {D:Ends} {σ:St} {H:Hp} (Pv:Nat -> St -> Hp -> Prop) (h0:Pv 0 σ H) (hl:∀ i σ H,i <= xs.length -> Pv i σ H -> bu K H a xs)
  (hs:∀ i x σ H,xs[i]? = some x -> Pv i σ H -> g x σ H λσ2 H2=>tb { D with nx:=Pv (i + 1),ct:=Pv (i + 1),bk:=D.nx } σ2 H2) (hd:∀ σ H,Pv xs.length σ H -> D.nx σ H) :
  ∃ W:Nat -> Nat -> St -> Hp -> Prop,(∃ m,W 0 m σ H) /\ ∀ i m σ H,W i m σ H ->
   ((Jf K a).stop i H /\ D.nx σ H) ∨ ((Jf K a).go i H /\ ∃ N:St -> Hp -> Prop,(∀ σ' H',N σ' H' -> ∃ m',m' < m /\ W (i + 1) m' σ' H') /\ ∀ x H',(Jf K a).J3 i H x H' -> g x σ H' λσ2 H2=>tb { D with nx:=N,ct:=N,bk:=D.nx } σ2 H2):=by
 refine ⟨λi m σ H=>m = xs.length - i /\ i <= xs.length /\ Pv i σ H,⟨xs.length,by simp,Nat.zero_le _,h0⟩,?_⟩
 rintro i m σ H ⟨rfl,hi,p⟩
 have q:=hl i σ H hi p
 by_cases hlt:i < xs.length
 ·refine .inr ⟨⟨xs,xs[i],q,by simp [hlt]⟩,Pv (i + 1),λσ' H' p'=>⟨xs.length - (i + 1),by omega,rfl,hlt,p'⟩,λx H' y=>?_⟩
  obtain ⟨e,y⟩:=y
  subst e
  exact hs i x σ _ (y xs q) p
 ·have e:i = xs.length:=by omega
  subst e
  exact .inl ⟨⟨xs,q,Nat.le_refl _⟩,hd σ H p⟩
theorem zB {lo:Int} {n:Nat} {g:TG} {tb:TS} {D:Ends} {σ:St} {H:Hp} (Pv:Nat -> St -> Hp -> Prop) (h0:Pv 0 σ H)
  (hs:∀ i σ H,i < n -> Pv i σ H -> g (.int (lo + i)) σ H λσ2 H2=>tb { D with nx:=Pv (i + 1),ct:=Pv (i + 1),bk:=D.nx } σ2 H2) (hd:∀ σ H,Pv n σ H -> D.nx σ H) :
  ∃ W:Nat -> Nat -> St -> Hp -> Prop,(∃ m,W 0 m σ H) /\ ∀ i m σ H,W i m σ H ->
   ((FO lo n).stop i H /\ D.nx σ H) ∨ ((FO lo n).go i H /\ ∃ N:St -> Hp -> Prop,(∀ σ' H',N σ' H' -> ∃ m',m' < m /\ W (i + 1) m' σ' H') /\ ∀ x H',(FO lo n).J3 i H x H' -> g x σ H' λσ2 H2=>tb { D with nx:=N,ct:=N,bk:=D.nx } σ2 H2):=by
 refine ⟨λi m σ H=>m = n - i /\ i <= n /\ Pv i σ H,⟨n,by simp,Nat.zero_le _,h0⟩,?_⟩
 rintro i m σ H ⟨rfl,hi,p⟩
 by_cases hlt:i < n
 ·refine .inr ⟨hlt,Pv (i + 1),λσ' H' p'=>⟨n - (i + 1),by omega,rfl,hlt,p'⟩,λx H' y=>?_⟩
  obtain ⟨e,y⟩:=y
  subst e y
  exact hs i σ _ hlt p
 ·have e:i = n:=by omega
  subst e
  exact .inl ⟨Nat.le_refl _,hd σ H p⟩
end L2
namespace L2
open PySem PySem.Spec PyProof.Rows
abbrev R2:=V -> V -> Hp -> VK -> Prop
def jU (X:Cx) (f:Value -> Value -> Sem Value) (r:R2):Prop :=
 ∀ (pins:List (Addr × Obj)) (s:Shared) (σ:St) (H:Hp) (x y:V) (v u:Value) (Q:VK),Inv X pins σ H s -> RelV x v -> RelV y u -> r x y H Q ->
  wpAny (model X.prog X.w) X.A (f v u) (EP X pins σ Q) X.xe s
def MA (X:Cx) (f:Value -> Sem Value) (r:V -> Hp -> VK -> Prop):Prop :=
 ∀ (pins:List (Addr × Obj)) (s:Shared) (σ:St) (H:Hp) (x:V) (v:Value) (Q:VK),Inv X pins σ H s -> RelV x v -> r x H Q ->
  wpAny (model X.prog X.w) X.A (f v) (EP X pins σ Q) X.xe s
def jW (X:Cx) (f:Value) (r:List V -> Hp -> VK -> Prop):Prop :=
 ∀ (pins:List (Addr × Obj)) (s:Shared) (σ:St) (H:Hp) (xs:List V) (us:List Value) (Q:VK),Inv X pins σ H s -> Vals xs us -> r xs H Q ->
  wpAny (model X.prog X.w) X.A (call f us) (EP X pins σ Q) X.xe s
def Mm (X:Cx) (r:V -> Hp -> (Bool -> Hp -> Prop) -> Prop):Prop :=
 ∀ (pins:List (Addr × Obj)) (s:Shared) (σ:St) (H:Hp) (x:V) (v:Value) (Q:Bool -> Hp -> Prop),Inv X pins σ H s -> RelV x v -> r x H Q ->
  wpAny (model X.prog X.w) X.A (truthy v) (TP X pins σ Q) X.xe s
def J7 (r:R2) (ta tb:TE):TE:=λσ H Q=>ta σ H λx H1=>tb σ H1 λy H2=>r x y H2 Q
def tUn (r:V -> Hp -> VK -> Prop) (ta:TE):TE:=λσ H Q=>ta σ H λx H1=>r x H1 Q
def rI (C:Int -> Int -> Prop) (g:Int -> Int -> V):R2:=λx y H Q=>∃ i j,x = .int i /\ y = .int j /\ C i j /\ Q (g i j) H
def FW (g:Int -> Int -> V):R2:=λx y H Q=>∃ i j,x = .int i /\ y = .int j /\ Q (g i j) H
def rU (g:Int -> V):V -> Hp -> VK -> Prop:=λx H Q=>∃ i,x = .int i /\ Q (g i) H
section
variable {X:Cx} {a b c:Expr} {ta tb tc:TE} {pos:Pos}
theorem HS (ha:PE X a ta) (hb:PE X b tb) {pins:List (Addr × Obj)} {s:Shared} {σ:St} {H:Hp} {R:V -> V -> Hp -> Prop} (I:Inv X pins σ H s)
  (h:ta σ H λx H1=>tb σ H1 λy H2=>R x y H2) {Q:Value -> Shared -> Prop} {f:Value -> Value -> Sem Value}
  (hf:∀ v u s2 x y H2,Inv X pins σ H2 s2 -> RelV x v -> RelV y u -> R x y H2 -> wpAny (model X.prog X.w) X.A (f v u) Q X.xe s2) :
  wpAny (model X.prog X.w) X.A (eval a X.env) (λv s₁=>wpAny (model X.prog X.w) X.A (eval b X.env) (λu s₂=>wpAny (model X.prog X.w) X.A (f v u) Q X.xe s₂) X.xe s₁) X.xe s:=by
 refine c5 (ha pins s σ H _ I h) λv s1 ⟨x,H1,I1,r1,q1⟩=>?_
 refine c5 (hb pins s1 σ H1 _ I1 q1) λu s2 ⟨y,H2,I2,r2,q2⟩=>?_
 exact hf v u s2 x y H2 I2 r1 r2 q2
theorem aT {op:Operator} {r:R2} (ho:jU X (binaryOp op) r) (ha:PE X a ta) (hb:PE X b tb):PE X (.BinOp a op b pos) (J7 r ta tb):=by
 intro pins s σ H Q I h
 exact wpAny_BinOp (HS ha hb I h λv u s2 x y H2 I2 rx ry q=>ho pins s2 σ H2 x y v u Q I2 rx ry q)
theorem ic {op:UnaryOp} {r:V -> Hp -> VK -> Prop} (ho:MA X (unaryOp op) r) (ha:PE X a ta):PE X (.UnaryOp op a pos) (tUn r ta):=by
 intro pins s σ H Q I h
 exact UnaryOp_ (c5 (ha pins s σ H _ I h) λv s1 ⟨x,H1,I1,r1,q1⟩=>ho pins s1 σ H1 x v Q I1 r1 q1)
theorem Ms {f:Value -> Value -> Sem Value} {C:Int -> Int -> Prop} {g:Int -> Int -> Int}
  (rule:∀ (i j:Int) (t u:Tok) (s:Shared) (Q:Value -> Shared -> Prop) (E:Value -> Shared -> Prop),C i j -> Q (.int (g i j) s.toks) { s with toks:=s.toks + 1 } -> wpAny (model X.prog X.w) X.A (f (.int i t) (.int j u)) Q E s) :
  jU X f (rI C λi j=>.int (g i j)):=by
 intro pins s σ H x y v u Q I rx ry h
 obtain ⟨i,j,rfl,rfl,hc,q⟩:=h
 obtain ⟨t,rfl⟩:=rx
 obtain ⟨t',rfl⟩:=ry
 exact rule i j t t' s _ _ hc ⟨.int (g i j),H,I.tok _,⟨_,rfl⟩,q⟩
theorem KG {f:Value -> Value -> Sem Value} {g:Int -> Int -> Int}
  (rule:∀ (i j:Int) (t u:Tok) (s:Shared) (Q:Value -> Shared -> Prop) (E:Value -> Shared -> Prop),Q (.int (g i j) s.toks) { s with toks:=s.toks + 1 } -> wpAny (model X.prog X.w) X.A (f (.int i t) (.int j u)) Q E s) :
  jU X f (FW λi j=>.int (g i j)):=by
 intro pins s σ H x y v u Q I rx ry h
 obtain ⟨i,j,rfl,rfl,q⟩:=h
 obtain ⟨t,rfl⟩:=rx
 obtain ⟨t',rfl⟩:=ry
 exact rule i j t t' s _ _ ⟨.int (g i j),H,I.tok _,⟨_,rfl⟩,q⟩
theorem JY {f:Value -> Value -> Sem Value} {g:Int -> Int -> Bool}
  (rule:∀ (i j:Int) (t u:Tok) (s:Shared) (Q:Value -> Shared -> Prop) (E:Value -> Shared -> Prop),Q (.bool (g i j)) s -> wpAny (model X.prog X.w) X.A (f (.int i t) (.int j u)) Q E s) :
  jU X f (FW λi j=>.bl (g i j)):=by
 intro pins s σ H x y v u Q I rx ry h
 obtain ⟨i,j,rfl,rfl,q⟩:=h
 obtain ⟨t,rfl⟩:=rx
 obtain ⟨t',rfl⟩:=ry
 exact rule i j t t' s _ _ ⟨.bl (g i j),H,I,rfl,q⟩
def MF (i j:Int):Prop:=0 < j /\ j < 1073741824
def Gz (i j:Int):Prop:=(-(2 ^ 64) < i /\ i < 2 ^ 64) ∨ (-(2 ^ 64) < j /\ j < 2 ^ 64)
theorem Gz.ok {i j:Int} (h:Gz i j):IntMulOk i j:=by
 rcases h with ⟨h1,h2⟩ | ⟨h1,h2⟩
 ·exact .of_left (intBits_le_64 h1 h2)
 ·exact .of_right (intBits_le_64 h1 h2)
theorem cN:jU X (binaryOp .Add) (FW λi j=>.int (i + j)):=KG λ_ _ _ _ _ _ _ q=>add_int q
theorem fH:jU X (binaryOp .Sub) (FW λi j=>.int (i - j)):=KG λ_ _ _ _ _ _ _ q=>sub_int q
theorem oj:jU X (binaryOp .Mult) (rI Gz λi j=>.int (i * j)):=Ms λ_ _ _ _ _ _ _ hc q=>mul_int q hc.ok
theorem sJ:jU X (binaryOp .FloorDiv) (rI MF λi j=>.int (i / j)):=Ms λi j _ _ _ _ _ hc q=>by
 have h1:(0:Int) < j:=hc.1
 have h2:j < 1073741824:=hc.2
 exact floordiv_int (by omega) (by rw [Int.fdiv_eq_ediv_of_nonneg i (by omega)];exact q) (.inl (PyProof.noPylong_small (by omega)))
theorem iF:jU X (binaryOp .Mod) (rI (λ_ j=>0 < j) λi j=>.int (i % j)):=Ms λi j _ _ _ _ _ hc q=>by
 have h1:(0:Int) < j:=hc
 exact mod_int' (by omega) (by rw [Int.fmod_eq_emod_of_nonneg i (by omega)];exact q)
theorem unI {f:Value -> Sem Value} {g:Int -> Int}
  (rule:∀ (i:Int) (t:Tok) (s:Shared) (Q:Value -> Shared -> Prop) (E:Value -> Shared -> Prop),Q (.int (g i) s.toks) { s with toks:=s.toks + 1 } -> wpAny (model X.prog X.w) X.A (f (.int i t)) Q E s) :
  MA X f (rU λi=>.int (g i)):=by
 intro pins s σ H x v Q I rx h
 obtain ⟨i,rfl,q⟩:=h
 obtain ⟨t,rfl⟩:=rx
 exact rule i t s _ _ ⟨.int (g i),H,I.tok _,⟨_,rfl⟩,q⟩
theorem fJ:MA X (unaryOp .USub) (rU λi=>.int (-i)):=unI λ_ _ _ _ _ q=>neg_int q
end
def K1:V -> V -> Bool
 | .cK,.cK=>true | .cK,.int _=>true | .int _,.cK=>true | .cK,.bl _=>true | .bl _,.cK=>true | .cK,.str _=>true | .str _,.cK=>true
 | .int _,.int _=>true | .bl _,.bl _=>true | .str _,.str _=>true | .byt _,.byt _=>true
 | .int _,.str _=>true | .str _,.int _=>true | .bl _,.str _=>true | .str _,.bl _=>true
 | _,_=>false
def rEq:R2:=λx y H Q=>K1 x y = true /\ Q (.bl (decide (x = y))) H
def rNe:R2:=λx y H Q=>K1 x y = true /\ Q (.bl (!decide (x = y))) H
theorem zj {i j:Int}:decide (V.int i = V.int j) = (i == j):=by
 rw [Bool.eq_iff_iff]
 simp
theorem CV {i j:Bool}:decide (V.bl i = V.bl j) = (i == j):=by
 rw [Bool.eq_iff_iff]
 simp
theorem zd {i j:Str}:decide (V.str i = V.str j) = (i == j):=by
 rw [Bool.eq_iff_iff]
 simp
theorem yG {i j:Array UInt8}:decide (V.byt i = V.byt j) = (i.toList == j.toList):=by
 rw [Bool.eq_iff_iff]
 cases i
 cases j
 simp
section
variable {X:Cx} {a b c:Expr} {ta tb tc:TE} {pos:Pos}
theorem bO {pins:List (Addr × Obj)} {σ:St} {H:Hp} {s:Shared} {Q:VK} {k k':Bool} (I:Inv X pins σ H s) (q:Q (.bl k) H) (e:k = k'):EP X pins σ Q (.bool k') s:=by
 subst e
 exact ⟨.bl k,H,I,rfl,q⟩
theorem cA:jU X (compareOp .Eq) rEq:=by
 intro pins s σ H x y v u Q I rx ry h
 obtain ⟨hs,q⟩:=h
 cases x with
 | cK =>
  cases rx
  cases y with
  | cK=>cases ry;exact PySem.EqNone.eq_none_none (bO I q (by simp))
  | bl j=>cases ry;exact PySem.EqNone.eq_none_bool (bO I q (by simp))
  | int j=>obtain ⟨t',rfl⟩:=ry;exact PySem.EqNone.eq_none_int (bO I q (by simp))
  | str j=>obtain ⟨t',rfl⟩:=ry;exact PySem.EqNone.eq_none_str (bO I q (by simp))
  | _=>exact absurd (show false = true from hs) Bool.false_ne_true
 | bl i =>
  cases rx
  cases y with
  | cK=>cases ry;exact PySem.EqNone.eq_bool_none (bO I q (by simp))
  | bl j=>cases ry;exact eq_bool (bO I q CV)
  | str j=>obtain ⟨t',rfl⟩:=ry;exact PySem.EqMixed.eq_bool_str (bO I q (by simp))
  | _=>exact absurd (show false = true from hs) Bool.false_ne_true
 | int i =>
  obtain ⟨t,rfl⟩:=rx
  cases y with
  | cK=>cases ry;exact PySem.EqNone.eq_int_none (bO I q (by simp))
  | int j=>obtain ⟨t',rfl⟩:=ry;exact eq_int (bO I q zj)
  | str j=>obtain ⟨t',rfl⟩:=ry;exact PySem.EqMixed.eq_int_str (bO I q (by simp))
  | _=>exact absurd (show false = true from hs) Bool.false_ne_true
 | str i =>
  obtain ⟨t,rfl⟩:=rx
  cases y with
  | cK=>cases ry;exact PySem.EqNone.eq_str_none (bO I q (by simp))
  | bl j=>cases ry;exact PySem.EqMixed.eq_str_bool (bO I q (by simp))
  | int j=>obtain ⟨t',rfl⟩:=ry;exact PySem.EqMixed.eq_str_int (bO I q (by simp))
  | str j=>obtain ⟨t',rfl⟩:=ry;exact eq_str (bO I q zd)
  | _=>exact absurd (show false = true from hs) Bool.false_ne_true
 | byt i =>
  obtain ⟨t,rfl⟩:=rx
  cases y with
  | byt j=>obtain ⟨t',rfl⟩:=ry;exact PySem.W.eq_bytes (bO I q yG)
  | _=>exact absurd (show false = true from hs) Bool.false_ne_true
 | _=>cases y <;> exact absurd (show false = true from hs) Bool.false_ne_true
theorem om:jU X (compareOp .NotEq) rNe:=by
 intro pins s σ H x y v u Q I rx ry h
 obtain ⟨hs,q⟩:=h
 cases x with
 | cK =>
  cases rx
  cases y with
  | cK=>cases ry;exact PySem.EqNone.ne_none_none (bO I q (by simp))
  | bl j=>cases ry;exact PySem.EqNone.ne_none_bool (bO I q (by simp))
  | int j=>obtain ⟨t',rfl⟩:=ry;exact PySem.EqNone.ne_none_int (bO I q (by simp))
  | str j=>obtain ⟨t',rfl⟩:=ry;exact PySem.EqNone.ne_none_str (bO I q (by simp))
  | _=>exact absurd (show false = true from hs) Bool.false_ne_true
 | bl i =>
  cases rx
  cases y with
  | cK=>cases ry;exact PySem.EqNone.ne_bool_none (bO I q (by simp))
  | bl j=>cases ry;exact ne_bool (bO I q (congrArg not CV))
  | str j=>obtain ⟨t',rfl⟩:=ry;exact PySem.EqMixed.ne_bool_str (bO I q (by simp))
  | _=>exact absurd (show false = true from hs) Bool.false_ne_true
 | int i =>
  obtain ⟨t,rfl⟩:=rx
  cases y with
  | cK=>cases ry;exact PySem.EqNone.ne_int_none (bO I q (by simp))
  | int j=>obtain ⟨t',rfl⟩:=ry;exact ne_int (bO I q (congrArg not zj))
  | str j=>obtain ⟨t',rfl⟩:=ry;exact PySem.EqMixed.ne_int_str (bO I q (by simp))
  | _=>exact absurd (show false = true from hs) Bool.false_ne_true
 | str i =>
  obtain ⟨t,rfl⟩:=rx
  cases y with
  | cK=>cases ry;exact PySem.EqNone.ne_str_none (bO I q (by simp))
  | bl j=>cases ry;exact PySem.EqMixed.ne_str_bool (bO I q (by simp))
  | int j=>obtain ⟨t',rfl⟩:=ry;exact PySem.EqMixed.ne_str_int (bO I q (by simp))
  | str j=>obtain ⟨t',rfl⟩:=ry;exact ne_str (bO I q (congrArg not zd))
  | _=>exact absurd (show false = true from hs) Bool.false_ne_true
 | byt i =>
  obtain ⟨t,rfl⟩:=rx
  cases y with
  | byt j=>obtain ⟨t',rfl⟩:=ry;exact PySem.W.ne_bytes (bO I q (congrArg not yG))
  | _=>exact absurd (show false = true from hs) Bool.false_ne_true
 | _=>cases y <;> exact absurd (show false = true from hs) Bool.false_ne_true
theorem fF:jU X (compareOp .Lt) (FW λi j=>.bl (decide (i < j))):=JY λ_ _ _ _ _ _ _ q=>lt_int q
theorem ia:jU X (compareOp .Gt) (FW λi j=>.bl (decide (j < i))):=JY λ_ _ _ _ _ _ _ q=>gt_int q
theorem KC:jU X (compareOp .GtE) (FW λi j=>.bl (decide (j <= i))):=JY λ_ _ _ _ _ _ _ q=>ge_int q
theorem gY:jU X (compareOp .In) (λx y H Q=>∃ i j,x = .str i /\ y = .str j /\ Q (.bl (!(Builtin.Str.occurrences j i 0 j.length 1).isEmpty)) H):=by
 intro pins s σ H x y v u Q I rx ry h
 obtain ⟨i,j,rfl,rfl,q⟩:=h
 obtain ⟨t,rfl⟩:=rx
 obtain ⟨t',rfl⟩:=ry
 exact in_str (bO I q rfl)
theorem oz:jU X (compareOp .Is) (λx y H Q=>y = .cK /\ Q (.bl (decide (x = .cK))) H):=by
 intro pins s σ H x y v u Q I rx ry h
 obtain ⟨rfl,q⟩:=h
 cases ry
 refine is_none_gen (bO I q ?_)
 cases x <;> first
  | (cases rx;rfl)
  | (obtain ⟨t,rfl⟩:=rx;rfl)
theorem gc:jU X (compareOp .IsNot) (λx y H Q=>y = .cK /\ Q (.bl (!decide (x = .cK))) H):=by
 intro pins s σ H x y v u Q I rx ry h
 obtain ⟨rfl,q⟩:=h
 cases ry
 refine isnot_none_gen (bO I q ?_)
 cases x <;> first
  | (cases rx;rfl)
  | (obtain ⟨t,rfl⟩:=rx;rfl)
theorem sr:jU X (compareOp .NotIn) (λx y H Q=>∃ i j,x = .str i /\ y = .str j /\ Q (.bl (!(!(Builtin.Str.occurrences j i 0 j.length 1).isEmpty))) H):=by
 intro pins s σ H x y v u Q I rx ry h
 obtain ⟨i,j,rfl,rfl,q⟩:=h
 obtain ⟨t,rfl⟩:=rx
 obtain ⟨t',rfl⟩:=ry
 exact notIn_str (bO I q rfl)
theorem aF (b:Expr) {op:CmpOp} (h:op ≠ .In:=by decide) (h2:op ≠ .NotIn:=by decide):behindInMarks op b = false:=by
 have e1:(op == CmpOp.In) = false:=by cases op <;> first | rfl | exact absurd rfl h
 have e2:(op == CmpOp.NotIn) = false:=by cases op <;> first | rfl | exact absurd rfl h2
 cases b <;> simp [behindInMarks,e1,e2]
theorem fC {op:CmpOp} {r:R2} (ho:jU X (compareOp op) r) (ha:PE X a ta) (hb:PE X b tb) (hm:behindInMarks op b = false):PE X (.Compare a [op] [b] pos) (J7 r ta tb):=by
 intro pins s σ H Q I h
 exact wpAny_Compare1 (HS ha hb I h λv u s2 x y H2 I2 rx ry q=>ho pins s2 σ H2 x y v u Q I2 rx ry q) hm
def F0 (t:TE):TT:=λσ H Q=>t σ H λx H'=>∃ k,x = .bl k /\ Q k H'
theorem aA {op:CmpOp} {r:R2} (ho:jU X (compareOp op) r) (ha:PE X a ta) (hb:PE X b tb) (hm:behindInMarks op b = false):PT X (.Compare a [op] [b] pos) (F0 (J7 r ta tb)):=by
 intro pins s σ H Q I h
 refine wpAny_isTrue_Compare1 (c5 (ha pins s σ H _ I h) λv s1 ⟨x,H1,I1,r1,q1⟩=>c5 (hb pins s1 σ H1 _ I1 q1) λu s2 ⟨y,H2,I2,r2,q2⟩ =>
  c5 (ho pins s2 σ H2 x y v u _ I2 r1 r2 q2) λc s3 ⟨z,H3,I3,r3,k,e,q3⟩=>?_) hm
 subst e
 cases r3
 exact wpAny_truthy_bool ⟨H3,I3,q3⟩
def Lw (K:PySem.W.Frag) (x:V) (H:Hp) (k:Bool):Prop :=
 match x with
 | .cK=>k = false
 | .bl b=>k = b
 | .int i=>k = (i != 0)
 | .str y=>y.length <= sizeLine /\ k = ((y.length:Int) != 0)
 | .byt y=>y.size <= sizeLine /\ k = ((y.size:Int) != 0)
 | .ref p=>(∃ xs,bu K H p xs /\ k = !xs.isEmpty) ∨ (∃ xs,gh K H p xs /\ k = !xs.isEmpty) ∨ ∃ kvs,H p = some (.dK kvs) /\ k = !kvs.isEmpty
 | _=>False
theorem xq {κ:Type} {kvs:List (κ × V)} {vs:List (κ × Value)} (r:KV kvs vs):(!vs.isEmpty) = !kvs.isEmpty:=by
 cases r <;> rfl
theorem nE {xs:List V} {its:List Value} (r:Vals xs its):(!its.toArray.isEmpty) = !xs.isEmpty:=by
 cases r <;> simp
theorem jC:(sizeLine:Nat) < 2 ^ 63:=by rw [sizeLine_eq];decide
theorem IY:Mm X (λx H Q=>∃ k,Lw X.K x H k /\ Q k H):=by
 intro pins s σ H x v Q I rx h
 obtain ⟨k,e,q⟩:=h
 have hl:=jC
 have hs:sizeLine = 16777216:=sizeLine_eq
 cases x with
 | cK =>
  cases rx
  have e':k = false:=e
  subst e'
  exact truthy_none ⟨H,I,q⟩
 | bl b =>
  cases rx
  have e':k = b:=e
  subst e'
  exact wpAny_truthy_bool ⟨H,I,q⟩
 | int i =>
  obtain ⟨t,rfl⟩:=rx
  have e':k = (i != 0):=e
  subst e'
  exact PySem.P.truthy_int ⟨H,I,q⟩
 | str y =>
  obtain ⟨t,rfl⟩:=rx
  obtain ⟨hy,e'⟩:y.length <= sizeLine /\ k = ((y.length:Int) != 0):=e
  subst e'
  exact PySem.P.truthy_str (by omega) ⟨H,I.tok _,q⟩
 | byt y =>
  obtain ⟨t,rfl⟩:=rx
  obtain ⟨hy,e'⟩:y.size <= sizeLine /\ k = ((y.size:Int) != 0):=e
  subst e'
  exact PySem.W.truthy_bytes (by omega) ⟨H,I.tok _,q⟩
 | ref p =>
  cases rx
  have e':(∃ xs,bu X.K H p xs /\ k = !xs.isEmpty) ∨ (∃ xs,gh X.K H p xs /\ k = !xs.isEmpty) ∨ ∃ kvs,H p = some (.dK kvs) /\ k = !kvs.isEmpty:=e
  rcases e' with ⟨xs,hx,e'⟩ | ⟨xs,hx,e'⟩ | ⟨kvs,hx,e'⟩
  ·subst e'
   obtain ⟨its,r,pl,hz⟩:=I.list hx
   have hlen:=r.length
   exact wpAny_truthy_list pl.isList (by simp only [List.size_toArray];omega) ⟨H,I.tok _,by rw [nE r];exact q⟩
  ·subst e'
   obtain ⟨its,r,pl,hz⟩:=I.tuple hx
   have hlen:=r.length
   exact truthy_tuple pl (by simp only [List.size_toArray];omega) ⟨H,I.tok _,by rw [nE r];exact q⟩
  ·subst e'
   obtain ⟨hz,hS,vs,r,m⟩:kvs.length <= sizeLine /\ (p == sysModules) = false /\ ∃ vs,KV kvs vs /\ s.heap.DictOf (c6 X.prog X.w) p vs:=I.hok p _ hx
   have hlen:kvs.length = vs.length:=Paired.length r
   exact wpAny_truthy_dict hS m (by omega) ⟨H,I.tok _,by rw [xq r];exact q⟩
 | _=>exact (show False from e).elim
theorem ie (ha:PE X a ta) (he:∀ whole,isTrue a X.env whole = (do let v ← whole;standAt a.pos;holding [v] (truthy v))) :
  PT X a (λσ H Q=>ta σ H λx H'=>∃ k,Lw X.K x H' k /\ Q k H'):=by
 intro pins s σ H Q I h
 exact isTrue_plain (c5 (ha pins s σ H _ I h) λv s1 ⟨x,H1,I1,r1,q1⟩=>IY pins s1 σ H1 x v Q I1 r1 q1) (he _)
theorem eV:jU X (binaryOp .Add) (λx y H Q=>∃ i j,x = .str i /\ y = .str j /\ i.length + j.length <= sizeLine /\ Q (.str (i ++ j)) H):=by
 intro pins s σ H x y v u Q I rx ry h
 obtain ⟨i,j,rfl,rfl,hz,q⟩:=h
 obtain ⟨t,rfl⟩:=rx
 obtain ⟨t',rfl⟩:=ry
 exact add_str (λt' tk=>⟨.str (i ++ j),H,I.tok _,⟨_,rfl⟩,q⟩) hz
theorem vals1 {x:V} {us:List Value} (r:Vals [x] us):∃ u,us = [u] /\ RelV x u:=by
 cases r with
 | cons r1 r2=>cases r2;exact ⟨_,rfl,r1⟩
theorem gZ:jW X (.type "int") (λxs H Q=>(∃ i,xs = [.int i] /\ Q (.int i) H) ∨ ∃ k,xs = [.bl k] /\ Q (.int (if k then 1 else 0)) H):=by
 intro pins s σ H xs us Q I r h
 rcases h with ⟨i,rfl,q⟩ | ⟨k,rfl,q⟩
 ·obtain ⟨u,rfl,t,rfl⟩:=vals1 r
  exact call_int_int ⟨.int i,H,I,⟨_,rfl⟩,q⟩
 ·obtain ⟨u,rfl,r1⟩:=vals1 r
  cases r1
  exact call_int_bool ⟨.int (if k then 1 else 0),H,I.tok _,⟨_,rfl⟩,q⟩
end
end L2
namespace L2
open PySem PySem.Spec PyProof.Rows
structure xo (h:Heap) (x dx C:Addr) (mA:Str -> Option Value):Prop where
 obj:h.get? x = some (PySem.W.instObj C dx)
 ns:h.Ns1 dx mA
 ne:dx ≠ x
theorem z7 {h:Heap} {dx:Addr} {mA:Str -> Option Value} (n:h.Ns1 dx mA):∃ od,h.get? dx = some od /\ ∀ name,PySem.W.lookIn name od = some (mA name):=by
 obtain ⟨o,es,ep,ho,hd,hk,_,hm⟩:=n
 refine ⟨o,ho,λname=>?_⟩
 have e:=hm name
 unfold nsFind findBy at e
 rw [← Array.find?_toList] at e
 unfold PySem.W.lookIn
 rw [hd]
 dsimp only
 split
 ·rename_i y q
  rw [q] at e
  exact congrArg some e
 ·rename_i q
  rw [q] at e
  have a:es.toList.any (·.refKey) = false:=by
   rw [List.any_eq_false]
   intro y hy
   obtain ⟨z,t,hkey⟩:=hk y (Array.mem_toList_iff.mp hy)
   simp [DictEntry.refKey,hkey]
  have a':¬ es.toList.any (·.refKey) = true:=by rw [a];exact Bool.false_ne_true
  rw [if_neg a']
  exact congrArg some e
theorem xo.look {h:Heap} {x dx C:Addr} {mA:Str -> Option Value} (I:xo h x dx C mA):∃ od,PySem.W.InstAt h x (PySem.W.instObj C dx) C (some od) /\ ∀ name,PySem.W.lookIn name od = some (mA name) :=
 let ⟨od,ho,hl⟩:=z7 I.ns
 ⟨od,⟨I.obj,rfl,rfl,ho⟩,hl⟩
section
variable {prog:Program} {w:World} {A:Around} {E:Value -> Shared -> Prop} {s:Shared} {K:PySem.W.Frag} {x dx C f:Addr} {mA:Str -> Option Value} {name:Str} {v:Value}
theorem get_map {expr:Bool} {Q:Value -> Shared -> Prop} (X:K.In s.heap) (I:xo s.heap x dx C mA) (hg:PySem.W.plainGet K C name = true) (hh:PySem.W.hasDictIn K C = true)
  (ha:PySem.W.findIn K (.ref C) name = some none) (hv:mA name = some v) (hv':PySem.W.handedIn v = true) (h:Q v { s with toks:=s.toks + 1 }) :
  wpAny (model prog w) A (getAttr (.ref x) name expr) Q E s:=by
 obtain ⟨od,J,hl⟩:=I.look
 exact PySem.W.get_value X J (PySem.W.plainGet_of hg).1 (PySem.W.findObj_own hh ha rfl (by rw [hl,hv])) hv' h
theorem CW {pl:Sem Bool} {Q:Value × List Value -> Shared -> Prop} (X:K.In s.heap) (I:xo s.heap x dx C mA) (hg:PySem.W.plainGet K C name = true)
  (hf:PySem.W.findIn K (.ref C) name = some (some (.ref f))) (ht:PySem.W.isFn K (.ref f) = true) (hv:mA name = none) (h:Q (.ref f,[.ref x]) s) :
  wpAny (model prog w) A (getMethod (.ref x) name pl) Q E s:=by
 obtain ⟨od,J,hl⟩:=I.look
 exact PySem.W.method_fn X J (PySem.W.plainGet_of hg).1 (PySem.W.plainGet_of hg).2 hf (beq_iff_eq.mp ht) (by show (PySem.W.lookIn name od).map (·.isSome) = some false;rw [hl,hv];rfl) h
theorem Ef {ns:List Str} {Q:Unit -> Shared -> Prop} (X:K.In s.heap) (I:xo s.heap x dx C mA)
  (hs:PySem.W.findIn K (.ref C) "__setattr__" = some (some (.builtin "object.__setattr__"))) (hp:PySem.W.plainOver K C = true) (ht:PySem.W.takerIn K C name = some none) (hh:PySem.W.hasDictIn K C = true)
  (hw:PySem.Within mA ns) (hsz:ns.length <= sizeLine)
  (h:∀ h',xo h' x dx C (λy=>if y = name then some v else mA y) -> Heap.SameBut dx s.heap h' -> Q () { s with heap:=h',toks:=s.toks + 2 }) :
  wpAny (model prog w) A (setAttr (.ref x) name v) Q E s:=by
 obtain ⟨od,J,hl⟩:=I.look
 refine PySem.W.set_plain X J hs (PySem.W.osa_open (s:={ s with toks:=s.toks + 1 }) (r:=none) X J hp ht λb=>?_)
 obtain ⟨cd,hc,hd'⟩:=PySem.W.any_some hh
 have hx:s.heap.get? x = some ⟨.ref C,some dx,.plain,#[]⟩:=I.obj
 refine wpAny_bind (wpAny_pure (wpAny_bind (wpAny_bind (wpAny_loadPart hx (wpAny_bind (PySem.W.Looks.here (s:={ s with toks:=s.toks + 1 }) (PySem.W.looks_clsIn X hc) ?_))))))
 rw [hd']
 refine wpAny_pure (a:=some dx) (wpAny_bind (wpAny_pure (wpAny_bind ?_)))
 refine wpAny_nsSet1 (s:={ s with toks:=s.toks + 1 }) I.ns λh' hn2 hs2=>?_
 obtain ⟨oD,esD,epD,hoD,hdD,hcD⟩:=hn2.count (PySem.Within.cons name v hw)
 refine wpAny_bind (wpAny_lookBehind hoD (by rw [hdD];exact pastItsLine_dict (Nat.le_trans hcD (by rw [List.length_cons];omega))) ?_)
 exact wpAny_pure (h _ ⟨(hs2.2 _ (Ne.symm I.ne)).trans I.obj,hn2,I.ne⟩ hs2)
theorem Bw {R:Result -> Shared -> Prop} {vs:List Value} {kw:List (Str × Value)} (X:K.In s.heap) (hm:PySem.W.makesIn K C = true)
  (hi:PySem.W.findIn K (.ref C) "__init__" = some (some (.ref f))) (hf:PySem.W.typeIn K (.ref f) = some (.type "function"))
  (h:codeAny (model prog w) (A.under (.builtin "type.__call__" ⟨.ref C :: vs,kw⟩)) (.call (.ref f) ⟨.ref (s.heap.objs.size + 1) :: vs,kw⟩) (PySem.W.InitBack (s.heap.objs.size + 1) R)
   { s with heap:=(s.heap.push PySem.W.emptyDict).push (PySem.W.instObj C s.heap.objs.size) }) :
  codeAny (model prog w) A (.call (.ref C) ⟨vs,kw⟩) R s:=by
 obtain ⟨hh,g,d,t,os⟩:=s
 exact PySem.W.make_core (PySem.W.makes_of X hm) (PySem.W.looks_findIn X hi) (λself=>PySem.W.bind_fn X self hf) (.inl rfl) h
theorem Ai {R:Result -> Shared -> Prop} (X:K.In s.heap) (hm:PySem.W.makesIn K C = true)
  (hi:PySem.W.findIn K (.ref C) "__init__" = some (some (.builtin "object.__init__")))
  (hb:∀ self,PySem.W.Looks (model prog w) s.heap (bindSpecial (.builtin "object.__init__") self) (.builtin "object.__init__",[self]))
  (h:codeAny (model prog w) (A.under (.builtin "type.__call__" ⟨[.ref C],[]⟩)) (.call (.builtin "object.__init__") ⟨[.ref (s.heap.objs.size + 1)],[]⟩) (PySem.W.InitBack (s.heap.objs.size + 1) R)
   { s with heap:=(s.heap.push PySem.W.emptyDict).push (PySem.W.instObj C s.heap.objs.size) }) :
  codeAny (model prog w) A (.call (.ref C) ⟨[],[]⟩) R s:=by
 obtain ⟨hh,g,d,t,os⟩:=s
 exact PySem.W.make_core (PySem.W.makes_of X hm) (PySem.W.looks_findIn X hi) hb (.inr ⟨rfl,rfl⟩) h
end
def fk (f:Str) (v:V):List (Str × V) -> List (Str × V)
 | []=>[(f,v)]
 | (g,x) :: r=>if g = f then (g,v) :: r else (g,x) :: fk f v r
theorem lU (f g:Str) (v:V):∀ fs:List (Str × V),(fk f v fs).lookup g = if g = f then some v else fs.lookup g
 | []=>by
  show List.lookup g [(f,v)] = _
  by_cases h:g = f
  ·have hb:(g == f) = true:=beq_iff_eq.mpr h
   simp only [List.lookup,hb,if_pos h]
  ·have hb:(g == f) = false:=beq_eq_false_iff_ne.mpr h
   simp only [List.lookup,hb,if_neg h]
 | (k,x) :: r=>by
  have ih:=lU f g v r
  rw [show fk f v ((k,x) :: r) = (if k = f then (k,v) :: r else (k,x) :: fk f v r) from rfl]
  by_cases hk:k = f
  ·rw [if_pos hk]
   by_cases h:g = k
   ·have hb:(g == k) = true:=beq_iff_eq.mpr h
    simp only [List.lookup,hb,if_pos (h.trans hk)]
   ·have hb:(g == k) = false:=beq_eq_false_iff_ne.mpr h
    simp only [List.lookup,hb,if_neg (λe:g = f=>h (e.trans hk.symm))]
  ·rw [if_neg hk]
   by_cases h:g = k
   ·have hb:(g == k) = true:=beq_iff_eq.mpr h
    simp only [List.lookup,hb,if_neg (λe:g = f=>hk (h.symm.trans e))]
   ·have hb:(g == k) = false:=beq_eq_false_iff_ne.mpr h
    simp only [List.lookup,hb]
    exact ih
theorem kU (f:Str) (v:V):∀ fs:List (Str × V),f ∈ (fk f v fs).map (·.1) /\ ∀ g,g ∈ fs.map (·.1) -> g ∈ (fk f v fs).map (·.1)
 | []=>⟨by simp [fk],λg h=>by simp at h⟩
 | (k,x) :: r=>by
  obtain ⟨i1,i2⟩:=kU f v r
  rw [show fk f v ((k,x) :: r) = (if k = f then (k,v) :: r else (k,x) :: fk f v r) from rfl]
  by_cases hk:k = f
  ·rw [if_pos hk]
   subst hk
   exact ⟨by simp,λg h=>by simpa using h⟩
  ·rw [if_neg hk]
   refine ⟨?_,λg h=>?_⟩
   ·rw [List.map_cons]
    exact List.mem_cons_of_mem _ i1
   ·rw [List.map_cons] at h ⊢
    rcases List.mem_cons.mp h with e | e
    ·exact List.mem_cons.mpr (.inl e)
    ·exact List.mem_cons_of_mem _ (i2 g e)
theorem lM (f:Str) (v:V):∀ fs:List (Str × V),(fk f v fs).length <= fs.length + 1
 | []=>by simp [fk]
 | (k,x) :: r=>by
  have ih:=lM f v r
  rw [show fk f v ((k,x) :: r) = (if k = f then (k,v) :: r else (k,x) :: fk f v r) from rfl]
  by_cases hk:k = f
  ·rw [if_pos hk,List.length_cons,List.length_cons];omega
  ·rw [if_neg hk,List.length_cons,List.length_cons];omega
theorem jj.some_of {v:V} {o:Option Value} (r:jj (some v) o):∃ u,o = some u /\ RelV v u:=by
 cases o with
 | none=>exact (show False from r).elim
 | some u=>exact ⟨u,rfl,r⟩
theorem jj.none_of {o:Option Value} (r:jj none o):o = none:=by
 cases o with
 | none=>rfl
 | some u=>exact (show False from r).elim
theorem Aq {v:V} {u:Value} (r:RelV v u):PySem.W.handedIn u = true:=by
 cases v with
 | cK=>cases (show u = Value.none from r);rfl
 | bl b=>cases (show u = Value.bool b from r);rfl
 | int i=>obtain ⟨t,e⟩:=(show ∃ t,u = Value.int i t from r);cases e;rfl
 | str x=>obtain ⟨t,e⟩:=(show ∃ t,u = Value.str x t from r);cases e;rfl
 | byt b=>obtain ⟨t,e⟩:=(show ∃ t,u = Value.bytes b t from r);cases e;rfl
 | flt b=>obtain ⟨t,e⟩:=(show ∃ t,u = Value.float b t from r);cases e;rfl
 | ref a=>cases (show u = Value.ref a from r);rfl
 | ty n=>cases (show u = Value.type n from r);rfl
section
variable {P:Program} {w:World} {H H':Hp} {h h':Heap} {a C dx:Addr} {fs fs':List (Str × V)}
theorem rJ (hok:jQ P w H h) (e:H a = some (.ins C dx fs)):∃ mA,xo h a dx C mA /\ (∀ f,jj (fs.lookup f) (mA f)) /\ PySem.Within mA (fs.map (·.1)) /\ fs.length <= 1000 /\ H dx = some (.own a):=by
 obtain ⟨d,z,ne,ob,mA,n,r,q⟩:=(show dM P w H h a (.ins C dx fs) from hok a _ e)
 exact ⟨mA,⟨ob,n,ne⟩,r,q,z,d⟩
end
structure mO (K:PySem.W.Frag) (C:Addr):Prop where
 pg:PySem.W.plainGet K C Str.empty = true
 hd:PySem.W.hasDictIn K C = true
 po:PySem.W.plainOver K C = true
 sa:PySem.W.findIn K (.ref C) "__setattr__" = some (some (.builtin "object.__setattr__"))
theorem mO.get {K:PySem.W.Frag} {C:Addr} (c:mO K C) (f:Str):PySem.W.plainGet K C f = true:=c.pg
def bV (K:PySem.W.Frag) (C:Addr) (f:Str):Prop:=PySem.W.findIn K (.ref C) f = some none
theorem bV.K2 {K:PySem.W.Frag} {C:Addr} {f:Str} (n:bV K C f):PySem.W.takerIn K C f = some none:=by
 unfold PySem.W.takerIn
 rw [show PySem.W.findIn K (.ref C) f = some none from n]
 rfl
structure Meth (K:PySem.W.Frag) (C:Addr) (m:Str) (f:Addr):Prop where
 at_:PySem.W.findIn K (.ref C) m = some (some (.ref f))
 fn:PySem.W.isFn K (.ref f) = true
 kp:PySem.W.keepIn K (.ref f) = true
section
variable {X:Cx} {pins:List (Addr × Obj)} {σ:St} {H:Hp} {s:Shared} {a C dx:Addr} {fs:List (Str × V)} {f:Str} {v:V} {A:Around} {E:Value -> Shared -> Prop}
theorem nI {b:Bool} {Q:Value -> Shared -> Prop} (I:Inv X pins σ H s) (e:H a = some (.ins C dx fs)) (c:mO X.K C) (n:bV X.K C f) (l:fs.lookup f = some v)
  (h:∀ u s',Inv X pins σ H s' -> RelV v u -> Q u s'):wpAny (model X.prog X.w) A (getAttr (.ref a) f b) Q E s:=by
 obtain ⟨mA,O,r,_,_,_⟩:=rJ I.hok e
 obtain ⟨u,hu,ru⟩:=jj.some_of (v:=v) (o:=mA f) (by rw [← l];exact r f)
 exact get_map I.sN O (c.get f) c.hd n hu (Aq ru) (h u _ (I.tok _) ru)
theorem ny {m:Str} {g:Addr} {pl:Sem Bool} {Q:Value × List Value -> Shared -> Prop} (I:Inv X pins σ H s) (e:H a = some (.ins C dx fs)) (c:mO X.K C) (k:Meth X.K C m g) (l:fs.lookup m = none)
  (h:Q (.ref g,[.ref a]) s):wpAny (model X.prog X.w) A (getMethod (.ref a) m pl) Q E s:=by
 obtain ⟨mA,O,r,_,_,_⟩:=rJ I.hok e
 have hn:mA m = none:=jj.none_of (by rw [← l];exact r m)
 exact CW I.sN O (c.get m) k.at_ k.fn hn h
theorem nD {y:V} {u:Value} {Q:Unit -> Shared -> Prop} (I:Inv X pins σ H s) (e:H a = some (.ins C dx fs)) (c:mO X.K C) (n:bV X.K C f) (hl:fs.length < 1000) (ry:RelV y u)
  (h:∀ s',Inv X pins σ (upd H a (.ins C dx (fk f y fs))) s' -> Q () s'):wpAny (model X.prog X.w) A (setAttr (.ref a) f u) Q E s:=by
 obtain ⟨mA,O,r,wi,_,ho⟩:=rJ I.hok e
 have hz:(fs.map (·.1)).length <= sizeLine:=by rw [List.length_map,sizeLine_eq];omega
 refine Ef I.sN O c.sa c.po n.K2 c.hd wi hz λh' O' sb=>h _ ?_
 have hd:∃ o,h'.get? dx = some o:=let ⟨o,_,_,e',_⟩:=O'.ns;⟨o,e'⟩
 refine I.write (x:=a) (e:=dx) (by rw [e];exact True.intro) (.inr ho) (λb q hb z=>(sb.2 b hb).trans z) hd ?_
 refine ⟨by rw [ao O.ne];exact ho,?_,O.ne,O'.obj,_,O'.ns,λg=>?_,λg hg=>?_⟩
 ·have:=lM f y fs;omega
 ·show jj ((fk f y fs).lookup g) (if g = f then some u else mA g)
  rw [lU]
  by_cases q:g = f
  ·rw [if_pos q,if_pos q];exact ry
  ·rw [if_neg q,if_neg q];exact r g
 ·by_cases q:g = f
  ·rw [q];exact (kU f y fs).1
  ·refine (kU f y fs).2 g (wi g λz=>hg ?_)
   show (if g = f then some u else mA g) = none
   rw [if_neg q];exact z
theorem Inv.made (I:Inv X pins σ H s):Inv X pins σ (upd (upd H s.heap.objs.size (.own (s.heap.objs.size + 1))) (s.heap.objs.size + 1) (.ins C s.heap.objs.size []))
  { s with heap:=(s.heap.push PySem.W.emptyDict).push (PySem.W.instObj C s.heap.objs.size) }:=by
 have e1:(s.heap.push PySem.W.emptyDict).get? s.heap.objs.size = some PySem.W.emptyDict:=Heap.get?_push_size s.heap rfl
 have e2:((s.heap.push PySem.W.emptyDict).push (PySem.W.instObj C s.heap.objs.size)).get? (s.heap.objs.size + 1) = some (PySem.W.instObj C s.heap.objs.size):=by
  have:=Heap.get?_push_size (s.heap.push PySem.W.emptyDict) (o:=PySem.W.instObj C s.heap.objs.size) rfl
  rwa [Heap.size_push] at this
 have e3:(s.heap.push PySem.W.emptyDict).Ns s.heap.objs.size (λ_=>none):=⟨PySem.W.emptyDict,#[],_,e1,rfl,(λe he=>absurd he (by simp)),λ_=>rfl⟩
 have I1:=I.laid (a:=s.heap.objs.size) (o:=.own (s.heap.objs.size + 1)) (h':=s.heap.push PySem.W.emptyDict) (t':=s.toks) (λb u q=>Heap.get?_push_of_some _ q) (Nat.le_refl _) ⟨_,e1⟩
 refine I1.laid (a:=s.heap.objs.size + 1) (o:=.ins C s.heap.objs.size []) (t':=s.toks) (λb u q=>Heap.get?_push_of_some _ q) (Nat.le_of_eq (Heap.size_push _ _)) ?_
 have ne:s.heap.objs.size ≠ s.heap.objs.size + 1:=Nat.ne_of_lt (Nat.lt_succ_self _)
 refine ⟨by rw [ao ne,af],Nat.zero_le _,ne,e2,λ_=>none,(Heap.Ns1.of_empty e3).at λo q=>Heap.get?_push_of_some _ q,λ_=>True.intro,λy hy=>absurd rfl hy⟩
theorem Ei {prog:Program} {w:World} {env:Env} {e:Expr} {f:Str} {pos:Pos} {s:Shared} {Q:Value -> Shared -> Prop} (hb:attributeBase e f env (eval e env) = eval e env)
  (h:wpAny (model prog w) A (eval e env) (λo s₁=>wpAny (model prog w) A (getAttr o f true) Q E s₁) E s):wpAny (model prog w) A (eval (.Attribute e f pos) env) Q E s :=
 Attribute_any_ h (by rw [arm_eval_Attribute,hb])
end
def JJ (K:PySem.W.Frag) (ta:TE) (f:Str):TE:=λσ H Q=>ta σ H λx H1=>∃ a C dx fs v,x = .ref a /\ H1 a = some (.ins C dx fs) /\ mO K C /\ bV K C f /\ fs.lookup f = some v /\ Q v H1
def Me (K:PySem.W.Frag) (ta tv:TE) (f:Str):TS:=λD σ H=>tv σ H λy H1=>ta σ H1 λx H2=>∃ a C dx fs,x = .ref a /\ H2 a = some (.ins C dx fs) /\ mO K C /\ bV K C f /\ fs.length < 1000 /\
 D.nx σ (upd H2 a (.ins C dx (fk f y fs)))
def KQ (X:Cx) (op:Operator) (rd:V -> V -> Hp -> VK -> Prop):Prop :=
 ∀ (pins:List (Addr × Obj)) (s:Shared) (σ:St) (H:Hp) (x y:V) (u v:Value) (Q:VK),Inv X pins σ H s -> RelV x u -> RelV y v -> rd x y H Q -> wpAny (model X.prog X.w) X.A (inplaceOp op u v) (EP X pins σ Q) X.xe s
def El (K:PySem.W.Frag) (ta tv:TE) (rd:V -> V -> Hp -> VK -> Prop) (f:Str):TS:=λD σ H=>ta σ H λx H1=>∃ a C dx fs v,x = .ref a /\ H1 a = some (.ins C dx fs) /\ mO K C /\ bV K C f /\ fs.lookup f = some v /\
 tv σ H1 λy H2=>rd v y H2 λz H3=>∃ dx' fs',H3 a = some (.ins C dx' fs') /\ fs'.length < 1000 /\ D.nx σ (upd H3 a (.ins C dx' (fk f z fs')))
section
variable {X:Cx} {o e value:Expr} {f:Str} {pos pos' tpos:Pos} {ta tv:TE}
theorem aO (he:PE X e ta) (hb:attributeBase e f X.env (eval e X.env) = eval e X.env):PE X (.Attribute e f pos) (JJ X.K ta f):=by
 intro pins s σ H Q I h
 refine Ei hb (c5 (he pins s σ H _ I h) λu s1 ⟨x,H1,I1,rx,a,C,dx,fs,v,ex,ea,c,n,l,q⟩=>?_)
 subst ex
 obtain rfl:u = Value.ref a:=rx
 exact nI I1 ea c n l λu' s2 I2 ru=>⟨v,H1,I2,ru,q⟩
theorem cI (ha:PE X o ta) (hv:PE X value tv) (hs:swapsWith value (some (.Attribute o f pos')) pos.line X.env = pure false):PS X (.Assign [.Attribute o f pos'] value pos) (Me X.K ta tv f):=by
 intro pins s σ H D I h
 refine plainObj_wpAny_Assign_Attribute (c5 (hv pins s σ H _ I h) λu s1 ⟨y,H1,I1,ry,q⟩=>c5 (ha pins s1 σ H1 _ I1 q) λov s2 ⟨x,H2,I2,rx,a,C,dx,fs,ex,ea,c,n,l,q2⟩=>?_) hs
 subst ex
 obtain rfl:ov = Value.ref a:=rx
 exact nD I2 ea c n l ry λs3 I3=>⟨σ,_,I3,q2⟩
theorem z9 {op:Operator} {rd:V -> V -> Hp -> VK -> Prop} (ha:PE X o ta) (hv:PE X value tv) (hop:KQ X op rd):PS X (.AugAssign (.Attribute o f tpos) op value pos) (El X.K ta tv rd f):=by
 intro pins s σ H D I h
 refine wpAny_AugAssign_AttributeAny (c5 (ha pins s σ H _ I h) λov s1 ⟨x,H1,I1,rx,a,C,dx,fs,v,ex,ea,c,n,l,q⟩=>?_)
 subst ex
 obtain rfl:ov = Value.ref a:=rx
 refine nI I1 ea c n l λu s2 I2 ru=>c5 (hv pins s2 σ H1 _ I2 q) λw3 s3 ⟨y,H2,I3,ry,q3⟩=>c5 (hop pins s3 σ H2 v y u w3 _ I3 ru ry q3) λw4 s4 ⟨z,H3,I4,rz,dx',fs',ea',l',q4⟩=>?_
 exact nD I4 ea' c n l' rz λs5 I5=>⟨σ,_,I5,q4⟩
def Mh:V -> V -> Hp -> VK -> Prop:=λx y H Q=>∃ i j,x = .int i /\ y = .int j /\ Q (.int (i + j)) H
theorem GO:KQ X .Add Mh:=by
 rintro pins s σ H x y u v Q I rx ry ⟨i,j,rfl,rfl,q⟩
 obtain ⟨t,rfl⟩:=(show ∃ t,u = Value.int i t from rx)
 obtain ⟨t',rfl⟩:=(show ∃ t',v = Value.int j t' from ry)
 exact PyProof.Rows.iadd_int ⟨.int (i + j),H,I.tok _,⟨_,rfl⟩,q⟩
end
section
variable {X:Cx} {pins:List (Addr × Obj)} {σ:St} {H:Hp} {s:Shared} {A:Around} {E:Value -> Shared -> Prop} {Q:Value -> Shared -> Prop} {c:Value} {b:Bool}
end
end L2
namespace L2
open PySem PySem.Spec PyProof.Rows
structure fT (k:Nat) (A:Around):Prop where
 hd:A.handled = none
 dp:A.depth + 3 * k + 5 < recursionLimit
 un:A.units + 16 * k + 200 < cLine
theorem fT.mono {j k:Nat} {A:Around} (r:fT k A) (h:j <= k):fT j A:=⟨r.hd,by have:=r.dp;omega,by have:=r.un;omega⟩
theorem fT.deeper {k:Nat} {A:Around} (r:fT (k + 1) A) (env:Env):fT k (A.deeper env) :=
 ⟨r.hd,by have:=r.dp;show A.depth + 1 + 3 * k + 5 < _;omega,by have:=r.un;show A.units + 3 + 16 * k + 200 < _;omega⟩
theorem yr {A:Around} {C:Addr} {us:List Value} {kw:List (Str × Value)}:(A.under (.builtin "type.__call__" ⟨.ref C :: us,kw⟩)).depth = A.depth + 1:=by
 first | rfl | simp [Around.under,Code.weight,Code.isCreation,Code.isGuard,Code.isCaller,Code.frames,Code.isFrame,guardIds]
theorem xN {A:Around} {C:Addr} {us:List Value} {kw:List (Str × Value)}:(A.under (.builtin "type.__call__" ⟨.ref C :: us,kw⟩)).units = A.units + 1:=by
 first | rfl | simp [Around.under,Code.cUnits,Code.frames,Code.isFrame]
theorem fT.make {k:Nat} {A:Around} (r:fT (k + 1) A) (C:Addr) (us:List Value) (kw:List (Str × Value)):fT k (A.under (.builtin "type.__call__" ⟨.ref C :: us,kw⟩)) :=
 ⟨r.hd,by have:=r.dp;rw [yr];omega,by have:=r.un;rw [xN];omega⟩
theorem fT.depth {k:Nat} {A:Around} (r:fT k A):A.depth < recursionLimit:=by have:=r.dp;omega
theorem fT.units {k:Nat} {A:Around} (r:fT k A):A.units + 64 < cLine:=by have:=r.un;omega
def Cy:TA:=λ_ H Q=>Q [] H
def Br (ta:TE) (tr:TA):TA:=λσ H Q=>ta σ H λx H1=>tr σ H1 λxs H2=>Q (x :: xs) H2
section
variable {X:Cx} {e:Expr} {es:List Expr} {te:TE} {t:TA} {pos:Pos}
theorem ai:PA X [] Cy:=λ_ _ _ _ H Q I h=>Calls.spliced_nil ⟨[],H,I,.nil,h⟩
theorem aa (ha:PE X e te) (hr:PA X es t) (hs:starEach (e :: es) X.env = (false,eval e X.env) :: starEach es X.env:=by rfl):PA X (e :: es) (Br te t):=by
 intro pos pins s σ H Q I h
 rw [hs]
 show wpAny _ _ (spliced ((false,eval e X.env) :: backTo pos (starEach es X.env))) _ _ s
 refine Calls.spliced_cons (c5 (ha pins s σ H _ I h) λu s1 ⟨x,H1,I1,r1,q1⟩=>?_)
 exact c5 (hr pos pins s1 σ H1 _ I1 q1) λus s2 ⟨xs,H2,I2,r2,q2⟩=>⟨x :: xs,H2,I2,.cons r1 r2,q2⟩
def KW (t:TA):TE:=λσ H Q=>t σ H λxs H1=>xs.length <= sizeLine /\ ∀ p,H1 p = none -> Q (.ref p) (upd H1 p (.tup xs))
def LA (t:TA):TE:=λσ H Q=>t σ H λxs H1=>xs.length <= sizeLine /\ ∀ p,H1 p = none -> Q (.ref p) (upd H1 p (.lst xs))
theorem cD {x1} (h:PA X es t):PE X (.Tuple es x1 pos) (KW t):=by
 intro pins s σ H Q I hq
 refine wpAny_Tuple_spliced (c5 (h pos pins s σ H _ I hq) λus s1 ⟨xs,H1,I1,r,z,q⟩=>⟨by rw [← r.length];exact z,?_⟩)
 have hf:H1 s1.heap.objs.size = none:=I1.hok.fresh (Nat.le_refl _)
 refine ⟨.ref s1.heap.objs.size,upd H1 s1.heap.objs.size (.tup xs),I1.laid (t':=s1.toks) (λb u e=>Heap.get?_push_of_some _ e) (Nat.le_refl _) ?_,rfl,q _ hf⟩
 exact ⟨z,us,r,⟨_,Heap.get?_push_size _ rfl,rfl,_,rfl⟩⟩
theorem bG (h:PA X es t):PE X (.List es pos) (LA t):=by
 intro pins s σ H Q I hq
 refine wpAny_List_spliced (c5 (h pos pins s σ H _ I hq) λus s1 ⟨xs,H1,I1,r,z,q⟩=>⟨by rw [← r.length];exact z,?_⟩)
 have hf:H1 s1.heap.objs.size = none:=I1.hok.fresh (Nat.le_refl _)
 refine ⟨.ref s1.heap.objs.size,upd H1 s1.heap.objs.size (.lst xs),I1.laid (t':=s1.toks) (λb u e=>Heap.get?_push_of_some _ e) (Nat.le_refl _) ?_,rfl,q _ hf⟩
 exact ⟨z,us,0,r,Heap.get?_push_size _ rfl⟩
end
abbrev Sp:=List V -> Hp -> VK -> XK -> Prop
abbrev wX:=List Env -> Hp -> Shared -> XK -> Value -> Shared -> Prop
structure xm (P:Program) (w:World) (K:PySem.W.Frag) (mg:Str -> Option Value) (base:Heap) (A:Around) (outer:List Env) (s:Shared) (H:Hp):Prop where
 frames:A.frames = some outer
 mod:Mod K mg base
 bs:∀ b o,base.get? b = some o -> s.heap.get? b = some o /\ H b = none
 FI:base.objs.size <= s.heap.objs.size
 mP:s.heap.FunFrames base outer
 Gw:∀ b ∈ frs outer,H b = none
 hok:jQ P w H s.heap
 bare:AllBare s.gens
def CE (outer:List Env) (P:Program) (w:World) (H:Hp) (s:Shared) (Q:VK) (u:Value) (s':Shared):Prop :=
 ∃ v H',s'.os = s.os /\ AllBare s'.gens /\ Un (frs outer) [] H H' s.heap s'.heap /\ jQ P w H' s'.heap /\ RelV v u /\ Q v H'
def CR (CX:wX) (outer:List Env) (P:Program) (w:World) (H:Hp) (s:Shared) (Q:VK) (E:XK) (r:Result) (s':Shared):Prop :=
 match r with
 | .ok (.ret u)=>CE outer P w H s Q u s'
 | .ok _=>False
 | .error e=>CX outer H s E e s'
structure bC (P:Program) (w:World) (K:PySem.W.Frag) (mg:Str -> Option Value) (base:Heap) (CX:wX) (k:Nat) (f:Addr) (fd:FuncData) (ps:List Str) (sp:Sp):Prop where
 len:∀ vs H Q E,sp vs H Q E -> vs.length = ps.length
 run:∀ (A:Around) (outer:List Env) (s:Shared) (H:Hp) (args:Args) (us:List Value) (vs:List V) (Q:VK) (E:XK),fT k A -> xm P w K mg base A outer s H -> BindsTo s fd args (ps.zip us) -> Vals vs us -> sp vs H Q E ->
  codeAny (model P w) A (.call (.ref f) args) (CR CX outer P w H s Q E) s
theorem xm.make {P:Program} {w:World} {K:PySem.W.Frag} {mg:Str -> Option Value} {base:Heap} {A:Around} {outer:List Env} {s:Shared} {H:Hp} (e:xm P w K mg base A outer s H) (C:Addr) (us:List Value) (kw:List (Str × Value)) :
  xm P w K mg base (A.under (.builtin "type.__call__" ⟨.ref C :: us,kw⟩)) outer s H:=⟨by first | exact e.frames | (simpa [Around.under,Code.envs,Code.isFrame,pushEnvs] using e.frames),e.mod,e.bs,e.FI,e.mP,e.Gw,e.hok,e.bare⟩
section
variable {X:Cx} {pins:List (Addr × Obj)} {σ:St} {H:Hp} {s s':Shared}
theorem Inv.Lf (I:Inv X pins σ H s):xm X.prog X.w X.K X.mg X.base X.A X.stack s H :=
 ⟨I.ok.frames,I.ok.mod,I.bs,Nat.le_trans I.ok.FI I.sz,I.stack,I.yC,I.hok,I.bare⟩
theorem Inv.after {Q:VK} {u:Value} (I:Inv X pins σ H s) (h:CE X.stack X.prog X.w H s Q u s'):EP X pins σ Q u s':=by
 obtain ⟨v,H',os,bare,un,hok,r,q⟩:=h
 obtain ⟨hh,g,d,t,os'⟩:=s'
 obtain rfl:os' = s.os:=os
 exact ⟨v,H',I.call (h':=hh) (g':=g) (d':=d) (t':=t) (ch:=[]) un hok bare (λb z=>absurd z (by simp)),r,q⟩
end
def Cw (sp:Sp) (dvs:List V) (E:XK) (t:TA):TE:=λσ H Q=>t σ H λvs H1=>sp (vs ++ dvs) H1 Q E
def A7 (C:Addr) (m:Str) (sp:Sp) (dvs:List V) (E:XK) (ta:TE) (t:TA):TE:=λσ H Q=>ta σ H λx H1=>∃ a dx fs,x = .ref a /\ H1 a = some (.ins C dx fs) /\ fs.lookup m = none /\
 t σ H1 λvs H2=>sp (x :: (vs ++ dvs)) H2 Q E
def FH (C:Addr) (sp:Sp) (dvs:List V) (E:XK) (t:TA):TE:=λσ H Q=>t σ H λvs H1=>∀ x dx,H1 x = none -> H1 dx = none -> dx ≠ x ->
 sp (.ref x :: (vs ++ dvs)) (upd (upd H1 dx (.own x)) x (.ins C dx [])) (λv H2=>v = .cK /\ Q (.ref x) H2) E
def Binds (K:PySem.W.Frag) (fd:FuncData) (ps:List Str) (ds:List Value):Prop :=
 ∀ (s:Shared) (us:List Value),K.In s.heap -> (us ++ ds).length = ps.length -> BindsTo s fd ⟨us,[]⟩ (ps.zip (us ++ ds))
theorem Binds.all {K:PySem.W.Frag} {fd:FuncData} {ps:List Str} (h:∀ us:List Value,us.length = ps.length -> bindArgs fd ⟨us,[]⟩ = pure (ps.zip us)):Binds K fd ps []:=λs us _ hl=>by
 rw [List.append_nil] at hl ⊢
 exact .of_eq (h us hl)
def Passes (CX:wX) (X:Cx) (E:XK):Prop:=∀ (pins:List (Addr × Obj)) (σ:St) (H:Hp) (s:Shared) (e:Value) (s':Shared),Inv X pins σ H s -> CX X.stack H s E e s' -> X.xe e s'
section
variable {X:Cx} {CX:wX} {k:Nat} {f C:Addr} {fd:FuncData} {ps:List Str} {sp:Sp} {dvs:List V} {ds:List Value} {E:XK} {x m:Str} {p pos apos:Pos} {e o:Expr} {es:List Expr} {ta:TE} {t:TA}
theorem rX {pins:List (Addr × Obj)} {σ:St} {H:Hp} {s:Shared} {Q:VK} {us:List Value} {vs:List V} (F:bC X.prog X.w X.K X.mg X.base CX k f fd ps sp) (hr:fT k X.A) (hb:Binds X.K fd ps ds) (hd:Vals dvs ds) (hx:Passes CX X E)
  (I:Inv X pins σ H s) (r:Vals vs us) (h:sp (vs ++ dvs) H Q E):wpAny (model X.prog X.w) X.A (call (.ref f) us) (EP X pins σ Q) X.xe s:=by
 have r2:Vals (vs ++ dvs) (us ++ ds):=r.append hd
 have hl:(us ++ ds).length = ps.length:=by rw [← r2.length];exact F.len _ _ _ _ h
 refine wpAny_call (codeAny_mono (F.run X.A X.stack s H ⟨us,[]⟩ (us ++ ds) (vs ++ dvs) Q E hr I.Lf (hb s us I.sN hl) r2 h) λr s' hq=>?_)
 cases r with
 | error e=>exact hx pins σ H s e s' I hq
 | ok fl =>
  cases fl with
  | ret u=>exact I.after hq
  | next=>exact False.elim hq
  | brk=>exact False.elim hq
  | cont=>exact False.elim hq
theorem aZ (F:bC X.prog X.w X.K X.mg X.base CX k f fd ps sp) (hr:fT k X.A) (hg:Gl X x) (hm:X.mg x = some (.ref f)) (hk:PySem.W.keepIn X.K (.ref f) = true) (hb:Binds X.K fd ps ds) (hd:Vals dvs ds) (hx:Passes CX X E)
  (ha:PA X (e :: es) t) (hdb:(x == ("__debug__" : Str)) = false:=by decide) (he:starEach (e :: es) X.env = (false,eval e X.env) :: starEach es X.env:=by rfl) (hpl:(backTo pos (starEach es X.env)).any (·.1) = false:=by rfl) :
  PE X (.Call (.Name x p) (e :: es) [] pos) (Cw sp dvs E t):=by
 intro pins s σ H Q I h
 refine wpAny_Call_Name_kw (kj I hg hm ?_ hdb)
 refine PySem.W.callWith_K (h₀:=X.base) I.ok.mod.Kq hk (c5 (ha pos pins s σ H _ I h) λus s1 ⟨vs,H1,I1,r,q⟩=>⟨I1.sN,?_⟩) he hpl
 exact rX F hr hb hd hx I1 r q
theorem pM (F:bC X.prog X.w X.K X.mg X.base CX k f fd ps sp) (hr:fT k X.A) (hg:Gl X x) (hm:X.mg x = some (.ref f)) (hk:PySem.W.keepIn X.K (.ref f) = true) (hb:Binds X.K fd ps ds) (hd:Vals dvs ds) (hx:Passes CX X E)
  (hdb:(x == ("__debug__" : Str)) = false:=by decide):PE X (.Call (.Name x p) [] [] pos) (Cw sp dvs E Cy):=by
 intro pins s σ H Q I h
 refine wpAny_Call_Name_kw (kj I hg hm ?_ hdb)
 exact PySem.W.callWith_K0 I.sN hk (rX (us:=[]) F hr hb hd hx I .nil h)
theorem br {pl:Sem Bool} (he:PE X o ta) (c:mO X.K C) (hm:Meth X.K C m f) (F:bC X.prog X.w X.K X.mg X.base CX k f fd ps sp) (hr:fT k X.A) (hb:Binds X.K fd ps ds) (hd:Vals dvs ds) (hx:Passes CX X E) (ha:PA X (e :: es) t)
  (hst:starEach (e :: es) X.env = (false,eval e X.env) :: starEach es X.env:=by rfl) (hpl:(backTo pos (starEach es X.env)).any (·.1) = false:=by rfl)
  (ht:eval (.Call (.Attribute o m apos) (e :: es) [] pos) X.env = (do
   let ov ← eval o X.env
   standAt apos.atName
   let (f,first) ← holding [ov] (getMethod ov m pl)
   callWith pos f first (backTo pos (starEach (e :: es) X.env)) (backToKw pos (keywordEach [] X.env))):=by rfl) :
  PE X (.Call (.Attribute o m apos) (e :: es) [] pos) (A7 C m sp dvs E ta t):=by
 intro pins s σ H Q I h
 refine PySem.W.methodCall_KW (pl:=pl) (c5 (he pins s σ H _ I h) λu s1 ⟨x,H1,I1,rx,a,dx,fs,ex,ea,l,q⟩=>?_) ht
 subst ex
 obtain rfl:u = Value.ref a:=rx
 refine ny I1 ea c hm l ?_
 refine PySem.W.callWith_K (first:=[.ref a]) (h₀:=X.base) I.ok.mod.Kq hm.kp (c5 (ha pos pins s1 σ H1 _ I1 q) λus s2 ⟨vs,H2,I2,r,q2⟩=>⟨I2.sN,?_⟩) hst hpl
 exact rX (us:=.ref a :: us) (vs:=.ref a :: vs) F hr hb hd hx I2 (.cons rfl r) q2
theorem b7 {pl:Sem Bool} (he:PE X o ta) (c:mO X.K C) (hm:Meth X.K C m f) (F:bC X.prog X.w X.K X.mg X.base CX k f fd ps sp) (hr:fT k X.A) (hb:Binds X.K fd ps ds) (hd:Vals dvs ds) (hx:Passes CX X E)
  (ht:eval (.Call (.Attribute o m apos) [] [] pos) X.env = (do
   let ov ← eval o X.env
   standAt apos.atName
   let (f,first) ← holding [ov] (getMethod ov m pl)
   callWith pos f first (backTo pos (starEach [] X.env)) (backToKw pos (keywordEach [] X.env))):=by rfl) :
  PE X (.Call (.Attribute o m apos) [] [] pos) (A7 C m sp dvs E ta Cy):=by
 intro pins s σ H Q I h
 refine PySem.W.methodCall_KW (pl:=pl) (c5 (he pins s σ H _ I h) λu s1 ⟨x,H1,I1,rx,a,dx,fs,ex,ea,l,q⟩=>?_) ht
 subst ex
 obtain rfl:u = Value.ref a:=rx
 refine ny I1 ea c hm l ?_
 exact PySem.W.callWith_K0 (first:=[.ref a]) I1.sN hm.kp (rX (us:=[.ref a]) (vs:=[.ref a]) F hr hb hd hx I1 (.cons rfl .nil) q)
structure Mk (K:PySem.W.Frag) (C f:Addr):Prop where
 makes:PySem.W.makesIn K C = true
 init:PySem.W.findIn K (.ref C) "__init__" = some (some (.ref f))
 fn:PySem.W.isFn K (.ref f) = true
 kp:PySem.W.keepIn K (.ref C) = true
theorem Bo {pins:List (Addr × Obj)} {σ:St} {H:Hp} {s:Shared} {Q:VK} {us:List Value} {vs:List V} (M:Mk X.K C f) (F:bC X.prog X.w X.K X.mg X.base CX k f fd ps sp) (hr:fT (k + 1) X.A) (hb:Binds X.K fd ps ds) (hd:Vals dvs ds)
  (hx:Passes CX X E) (I:Inv X pins σ H s) (r:Vals vs us)
  (h:∀ x dx,H x = none -> H dx = none -> dx ≠ x -> sp (.ref x :: (vs ++ dvs)) (upd (upd H dx (.own x)) x (.ins C dx [])) (λv H2=>v = .cK /\ Q (.ref x) H2) E) :
  wpAny (model X.prog X.w) X.A (call (.ref C) us) (EP X pins σ Q) X.xe s:=by
 have hq:=h (s.heap.objs.size + 1) s.heap.objs.size (I.hok.fresh (Nat.le_succ _)) (I.hok.fresh (Nat.le_refl _)) (Nat.ne_of_lt (Nat.lt_succ_self _))
 have I2:=Inv.made (C:=C) I
 have r2:Vals (V.ref (s.heap.objs.size + 1) :: (vs ++ dvs)) (Value.ref (s.heap.objs.size + 1) :: (us ++ ds)):=.cons rfl (r.append hd)
 have hl:(Value.ref (s.heap.objs.size + 1) :: us ++ ds).length = ps.length:=by
  have e:=r2.length
  rw [F.len _ _ _ _ hq] at e
  exact e.symm
 refine wpAny_call (Bw (f:=f) I.sN M.makes M.init (beq_iff_eq.mp M.fn) (codeAny_mono (F.run _ X.stack _ _ ⟨Value.ref (s.heap.objs.size + 1) :: us,[]⟩ (Value.ref (s.heap.objs.size + 1) :: (us ++ ds)) _ _ E (hr.make C us [])
  (I2.Lf.make C us []) (hb _ (Value.ref (s.heap.objs.size + 1) :: us) I2.sN hl) r2 hq) λr s' hq'=>?_))
 cases r with
 | error e=>exact hx pins σ _ _ e s' I2 hq'
 | ok fl =>
  cases fl with
  | ret u =>
   obtain ⟨v,H',I3,rv,ev,q3⟩:=I2.after hq'
   subst ev
   exact ⟨rv,⟨V.ref (s.heap.objs.size + 1),H',I3,rfl,q3⟩⟩
  | next=>exact False.elim hq'
  | brk=>exact False.elim hq'
  | cont=>exact False.elim hq'
theorem dH (M:Mk X.K C f) (F:bC X.prog X.w X.K X.mg X.base CX k f fd ps sp) (hr:fT (k + 1) X.A) (hg:Gl X x) (hm:X.mg x = some (.ref C)) (hb:Binds X.K fd ps ds) (hd:Vals dvs ds) (hx:Passes CX X E)
  (ha:PA X (e :: es) t) (hdb:(x == ("__debug__" : Str)) = false:=by decide) (he:starEach (e :: es) X.env = (false,eval e X.env) :: starEach es X.env:=by rfl) (hpl:(backTo pos (starEach es X.env)).any (·.1) = false:=by rfl) :
  PE X (.Call (.Name x p) (e :: es) [] pos) (FH C sp dvs E t):=by
 intro pins s σ H Q I h
 refine wpAny_Call_Name_kw (kj I hg hm ?_ hdb)
 refine PySem.W.callWith_K (h₀:=X.base) I.ok.mod.Kq M.kp (c5 (ha pos pins s σ H _ I h) λus s1 ⟨vs,H1,I1,r,q⟩=>⟨I1.sN,?_⟩) he hpl
 exact Bo M F hr hb hd hx I1 r q
end
section
variable {X:Cx} {CX:wX} {k:Nat} {f C:Addr} {fd:FuncData} {ps ks:List Str} {sp:Sp} {E:XK} {x m:Str} {p pos apos kpos:Pos} {e o:Expr} {es:List Expr} {kws:List Keyword} {te ta:TE} {t tk:TA} {nm:Option Str}
variable {g:List Value -> List Value -> List Value} {gV:List V -> List V -> List V}
end
structure aD (N P:List Str) (sc:Scope):Prop where
 kind:sc.kind = .function
 co:sc.isCoroutine = false
 gen:sc.isGenerator = false
 nd:N.Nodup
 pre:N.take P.length = P
 par:∀ x ∈ P,sc.names.lookup x = some .local ∨ sc.names.lookup x = some .cell
 JE:∀ y ∈ sc.names,y.2 ≠ .free
theorem qq {kindOf:Str -> Option NameKind} {x:Str}:∀ {binds:List (Str × Value)} {m:Str -> Option Value},(∀ v,(x,v) ∉ binds) -> bindL kindOf binds m x = m x
 | [],_,_=>rfl
 | (n,v) :: r,m,h=>by
  unfold bindL
  rw [qq λw hw=>h w (List.mem_cons_of_mem _ hw)]
  split
  ·have:x ≠ n:=by rintro rfl;exact h v List.mem_cons_self
   simp [this]
  ·rfl
theorem rj {kindOf:Str -> Option NameKind} {x:Str}:∀ {binds:List (Str × Value)} {m:Str -> Option Value},(∀ v,(x,v) ∉ binds) -> bindC kindOf binds m x = m x
 | [],_,_=>rfl
 | (n,v) :: r,m,h=>by
  unfold bindC
  rw [rj λw hw=>h w (List.mem_cons_of_mem _ hw)]
  split
  ·rfl
  ·have:x ≠ n:=by rintro rfl;exact h v List.mem_cons_self
   simp [this]
theorem qR {kindOf:Str -> Option NameKind} {x:Str} {v:Value}:∀ {P:List Str} {vs:List Value} {i:Nat} {m:Str -> Option Value},P.Nodup -> P[i]? = some x -> vs[i]? = some v -> kindOf x = some .local ->
  bindL kindOf (P.zip vs) m x = some v
 | [],_,_,_,_,h,_,_=>by simp at h
 | _ :: _,[],_,_,_,_,h,_=>by simp at h
 | p :: P,w :: vs,0,m,nd,h1,h2,hk=>by
  simp at h1 h2;subst h1;subst h2
  show bindL kindOf ((p,w) :: P.zip vs) m p = _
  unfold bindL
  rw [qq λv hv=>(List.nodup_cons.mp nd).1 (List.of_mem_zip hv).1,if_pos hk]
  simp
 | p :: P,w :: vs,i + 1,m,nd,h1,h2,hk=>by
  show bindL kindOf ((p,w) :: P.zip vs) m x = _
  unfold bindL
  exact qR (i:=i) (List.nodup_cons.mp nd).2 (by simpa using h1) (by simpa using h2) hk
theorem qz {kindOf:Str -> Option NameKind} {x:Str} {v:Value}:∀ {P:List Str} {vs:List Value} {i:Nat} {m:Str -> Option Value},P.Nodup -> P[i]? = some x -> vs[i]? = some v -> kindOf x ≠ some .local ->
  bindC kindOf (P.zip vs) m x = some v
 | [],_,_,_,_,h,_,_=>by simp at h
 | _ :: _,[],_,_,_,_,h,_=>by simp at h
 | p :: P,w :: vs,0,m,nd,h1,h2,hk=>by
  simp at h1 h2;subst h1;subst h2
  show bindC kindOf ((p,w) :: P.zip vs) m p = _
  unfold bindC
  rw [rj λv hv=>(List.nodup_cons.mp nd).1 (List.of_mem_zip hv).1,if_neg hk]
  simp
 | p :: P,w :: vs,i + 1,m,nd,h1,h2,hk=>by
  show bindC kindOf ((p,w) :: P.zip vs) m x = _
  unfold bindC
  exact qz (i:=i) (List.nodup_cons.mp nd).2 (by simpa using h1) (by simpa using h2) hk
def start (N:List Str) (vs:List V):St:=vs.map some ++ List.replicate (N.length - vs.length) none
def xX (CX:wX) (P:Program) (w:World) (K:PySem.W.Frag) (mg:Str -> Option Value) (base:Heap) (N:List Str) (qual:Str) (scope:Scope) (f:Addr) (cd:Value) (A:Around) (outer:List Env) (s:Shared) (H:Hp) (E:XK):Cx where
 prog:=P
 w:=w
 K:=K
 mg:=mg
 base:=base
 A:=A.deeper (envOfC qual scope s.heap.objs.size f cd)
 N:=N
 s₀:=s
 H₀:=H
 env:=envOfC qual scope s.heap.objs.size f cd
 outer:=outer
 stack:=envOfC qual scope s.heap.objs.size f cd :: outer
 ex:=[]
 calm:=true
 fn:=λ_=>true
 pn:=[]
 xe:=λe s'=>wpAny (model P w) (A.deeper (envOfC qual scope s.heap.objs.size f cd)) (leaving (envOfC qual scope s.heap.objs.size f cd) e) (λ_ s''=>CX outer H s E e s'') (λe' s''=>CX outer H s E e' s'') s'
theorem u5 {sc:Scope} {n:Nat} {x:Str} (h:sc.names.lookup x = some .cell):∃ c,(cellsFrom n sc.names []).lookup x = some c:=by
 have q:=PySem.W.cellsFrom_some sc.names n [] (.inl h)
 exact Option.isSome_iff_exists.mp q
theorem Ah {CX:wX} {P:Program} {w:World} {K:PySem.W.Frag} {mg:Str -> Option Value} {base:Heap} {N ps:List Str} {qual:Str} {scope:Scope} {f:Addr} {cd:Value} {A:Around} {outer:List Env} {s s1:Shared} {H:Hp} {E:XK} {us:List Value} {vs:List V}
  (S:aD N ps scope) (hd:A.handled = none) (e0:xm P w K mg base A outer s H) (hl:vs.length = ps.length) (r:Vals vs us)
  (x:InCallC s s.heap.objs.size (bindL (envOfC qual scope s.heap.objs.size f cd).kindOf (ps.zip us) λ_=>none) (cellsFrom (s.heap.objs.size + 1) scope.names []) (bindC (envOfC qual scope s.heap.objs.size f cd).kindOf (ps.zip us) λ_=>none) s1) :
  Inv (xX CX P w K mg base N qual scope f cd A outer s H E) [] (start N vs) H s1:=by
 have hpl:ps.length <= N.length:=by have:=congrArg List.length S.pre;rw [List.length_take] at this;omega
 obtain ⟨h1,tk,rfl,hk⟩:=x.done
 have noA:∀ b:Addr,b ∉ (xX CX P w K mg base N qual scope f cd A outer s H E).ex:=λb z=>absurd (show b ∈ ([]:List Addr) from z) (by simp)
 refine ⟨⟨e0.mod,S.kind,rfl,rfl,Nat.le_refl _,λy z c h1 h2=>?_,λy hy=>?_,λy c _ h=>?_,λ_=>hd,Around.frames_deeper e0.frames,.inr ⟨rfl,rfl⟩,λb z=>absurd z (noA b),e0.bs,e0.FI,λb _ _=>noA b,λb z=>absurd z (noA b),e0.mP,e0.Gw⟩,
  rfl,e0.bare,Un.kept hk,⟨_,x.toInCall.ns,λi y v h1 h2 h3=>?_⟩,λy c h=>⟨_,x.cell y c h⟩,e0.hok.fresh (Nat.le_refl _),λy c h=>?_,λp hp=>absurd (show p ∈ ([]:List (Addr × Obj)) from hp) (by simp),e0.hok.kept hk,?_⟩
 ·exact name_of_addr x.apart (PySem.mem_of_lookup h1) (PySem.mem_of_lookup h2)
 ·have hy:scope.names.lookup y = some .cell ∨ scope.names.lookup y = some .free:=hy
  rcases hy with hy | hy
  ·exact u5 hy
  ·exact absurd rfl (S.JE _ (PySem.mem_of_lookup hy))
 ·exact Nat.le_of_lt (x.above y c (PySem.mem_of_lookup h))
 ·have hi:i < vs.length:=by
   unfold start at h2
   by_cases hi:i < vs.length
   ·exact hi
   ·rw [List.getElem?_append_right (by simpa using hi)] at h2
    rw [List.getElem?_replicate] at h2
    split at h2 <;> cases h2
  have ha:vs[i]? = some v:=by
   unfold start at h2
   rw [List.getElem?_append_left (by simpa using hi),List.getElem?_map] at h2
   cases e:vs[i]? with
   | none=>rw [e] at h2;cases h2
   | some a=>rw [e] at h2;cases h2;rfl
  obtain ⟨u,hu,rv⟩:=r.get ha
  have hp:ps[i]? = some y:=by
   rw [← S.pre,List.getElem?_take_of_lt (by omega)];exact h1
  have ndP:ps.Nodup:=by rw [← S.pre];exact S.nd.sublist (List.take_sublist _ _)
  refine ⟨u,rv,?_⟩
  rcases S.par y (List.mem_of_getElem? hp) with k | k
  ·exact .inl ⟨k,qR ndP hp hu k⟩
  ·obtain ⟨c,e⟩:=u5 (n:=s.heap.objs.size + 1) k
   refine .inr ⟨.inl k,c,e,?_⟩
   have q:=x.cell y c e
   rw [qz ndP hp hu (by show scope.names.lookup y ≠ _;rw [k];decide)] at q
   exact q
 ·exact e0.hok.fresh (Nat.le_of_lt (x.above y c (PySem.mem_of_lookup h)))
 ·unfold start
  show _ = N.length
  rw [List.length_append,List.length_map,List.length_replicate]
  omega
theorem Kf {CX:wX} {P:Program} {w:World} {K:PySem.W.Frag} {mg:Str -> Option Value} {base:Heap} {k:Nat} {f:Addr} {name qual:Str} {params:Arguments} {body:List Stmt} {scope:Scope} {dV kV doc pm cdv ct oc:Value} {an od:Option Addr}
  {osl:Array (Option Value)} {N ps:List Str} {sp:Sp} (lk:K.lookup f = some ⟨oc,od,.func (PySem.W.fnOf name qual params body scope dV kV doc pm an cdv ct),osl⟩) (hcd:PySem.W.codeIn K cdv qual = true) (S:aD N ps scope)
  (len:∀ vs H Q E,sp vs H Q E -> vs.length = ps.length)
  (hbody:∀ (A:Around) (outer:List Env) (s:Shared) (H:Hp) (vs:List V) (Q:VK) (E:XK),fT k (A.deeper (envOfC qual scope s.heap.objs.size f cdv)) -> sp vs H Q E ->
   ∃ t,xM (xX CX P w K mg base N qual scope f cdv A outer s H E) body t /\ t { nx:=λ_ H'=>Q .cK H',rt:=Q } (start N vs) H) :
  bC P w K mg base CX (k + 1) f (PySem.W.fnOf name qual params body scope dV kV doc pm an cdv ct) ps sp:=by
 refine ⟨len,λA outer s H args us vs Q E hr e0 hb r hsp=>?_⟩
 have hl:=len _ _ _ _ hsp
 have KX:K.In s.heap:=e0.mod.Kq.keeps λb o e=>(e0.bs b o e).1
 have lim:s.heap.NoLimit:=e0.mod.nolimit.keeps λb o e=>(e0.bs b o e).1
 have hkind:∀ y ∈ ps.zip us,scope.names.lookup y.1 = some .local ∨ (scope.names.lookup y.1 = some .cell /\ ((cellsFrom (s.heap.objs.size + 1) scope.names []).lookup y.1).isSome = true):=λ⟨n,v⟩ hy=>by
  rcases S.par n (List.of_mem_zip hy).1 with q | q
  ·exact .inl q
  ·exact .inr ⟨q,PySem.W.cellsFrom_some _ _ _ (.inl q)⟩
 refine codeAny_call_function hr.depth (KX _ _ lk) rfl S.co S.gen rfl (PySem.W.codeRec_of KX hcd) (hb _ _ _ _ ?_)
 refine wpAny_newFunctionEnv_cells S.kind hkind λenv he s1 x=>?_
 subst he
 refine ⟨lim.keeps x.toInCall.keep,codeAny_func ?_⟩
 obtain ⟨t,ht,hq⟩:=hbody A outer s H vs Q E (hr.deeper _) hsp
 have I:Inv (xX CX P w K mg base N qual scope f cdv A outer s H E) [] (start N vs) H s1:=Ah S hr.hd e0 hl r x
 refine wpAny_mono (ht [] s1 (start N vs) H _ I hq) (λfl s' hs=>?_) λe s' hs=>hs
 have fin:∀ {σ':St} {H':Hp} {v:V} {u:Value},Inv (xX CX P w K mg base N qual scope f cdv A outer s H E) [] σ' H' s' -> RelV v u -> Q v H' -> CE outer P w H s Q u s' :=
  λ{σ' H' v u} J rv q=>⟨v,H',J.os,J.bare,J.base,J.hok,rv,q⟩
 cases fl with
 | ret u =>
  obtain ⟨v,σ',H',J,rv,q⟩:=hs
  exact fin J rv q
 | next =>
  obtain ⟨σ',H',J,q⟩:=hs
  exact fin (v:=V.cK) (u:=Value.none) J rfl q
 | brk =>
  obtain ⟨_,_,_,q⟩:=hs
  exact False.elim q
 | cont =>
  obtain ⟨_,_,_,q⟩:=hs
  exact False.elim q
end L2
namespace L2
open PySem PySem.Spec PyProof.Rows
section
variable {X:Cx} {x:Str} {p pos:Pos} {e:Expr} {es:List Expr} {t:TA} {id T:String} {r:List V -> Hp -> VK -> Prop}
def LK (r:List V -> Hp -> VK -> Prop) (t:TA):TE:=λσ H Q=>t σ H λvs H1=>r vs H1 Q
theorem aQ (hc:jW X (.builtin id) r) (hg:Gl X x) (hm:X.mg x = none) (hv:bootBuiltins x = some (.builtin id)) (ha:PA X (e :: es) t) (hn:x ≠ "__name__" := by decide) (hdb:(x == ("__debug__" : Str)) = false:=by decide)
  (he:starEach (e :: es) X.env = (false,eval e X.env) :: starEach es X.env:=by rfl) (hpl:(backTo pos (starEach es X.env)).any (·.1) = false:=by rfl):PE X (.Call (.Name x p) (e :: es) [] pos) (LK r t):=by
 intro pins s σ H Q I h
 refine wpAny_Call_Name_kw (jy I hg hm hv ?_ hn hdb)
 exact PyProof.Rows.callWith_builtin1 (c5 (ha pos pins s σ H _ I h) λus s1 ⟨vs,H1,I1,r1,q1⟩=>hc pins s1 σ H1 vs us Q I1 r1 q1) he hpl
theorem cS (hc:jW X (.type T) r) (hg:Gl X x) (hm:X.mg x = none) (hv:bootBuiltins x = some (.type T)) (ha:PA X (e :: es) t) (hn:x ≠ "__name__" := by decide) (hdb:(x == ("__debug__" : Str)) = false:=by decide)
  (he:starEach (e :: es) X.env = (false,eval e X.env) :: starEach es X.env:=by rfl) (hpl:(backTo pos (starEach es X.env)).any (·.1) = false:=by rfl):PE X (.Call (.Name x p) (e :: es) [] pos) (LK r t):=by
 intro pins s σ H Q I h
 refine wpAny_Call_Name_kw (jy I hg hm hv ?_ hn hdb)
 exact PyProof.Rows.callWith_type1 (c5 (ha pos pins s σ H _ I h) λus s1 ⟨vs,H1,I1,r1,q1⟩=>hc pins s1 σ H1 vs us Q I1 r1 q1) he hpl
end
end L2
namespace HT
open PySem PyProof.Rows
theorem Df (A:Around) (s:Shared) (a:Int) (t:Tok) (c:Int) (u:Tok):∃ e,SeqAt.EqAt A s (.int a t) (.int c u) e /\ (e = true ↔ a = c) :=
 ⟨(a == c),SeqAt.EqAt.int_int a t c u,by simp⟩
section
open PySem.SeqAt
open PySem.AutoSeq1 (wpAny_loadPart')
open PySem.MeetsSeq PySem.MeetsSeq2 PySem.MeetsSeq3
end
section
variable {prog:Program} {w:World} {A:Around} {E:Value -> Shared -> Prop} {s:Shared}
def sM (n d:Nat):Option Int -> Nat
 | none=>d
 | some v=>if v < 0 then (v + (n:Int)).toNat else min v.toNat n
theorem nJ (n d:Nat):sM n d none = d:=rfl
theorem mX (n d k:Nat):sM n d (some (k:Int)) = min k n:=by
 show (if (k:Int) < 0 then ((k:Int) + (n:Int)).toNat else min (k:Int).toNat n) = min k n
 rw [if_neg (by omega),Int.toNat_natCast]
end
end HT
namespace L2
open PySem PySem.Spec PyProof.Rows
abbrev TO:=St -> Hp -> (Option Int -> Hp -> Prop) -> Prop
def PO (X:Cx) (e:Option Expr) (t:TO):Prop :=
 ∀ (pins:List (Addr × Obj)) (s:Shared) (σ:St) (H:Hp) (Q:Option Int -> Hp -> Prop),Inv X pins σ H s -> t σ H Q ->
  wpAny (model X.prog X.w) X.A (evalPart e X.env) (λu s'=>∃ o H',Inv X pins σ H' s' /\ IsPart u o /\ Q o H') X.xe s
def zf:TO:=λ_ H Q=>Q none H
def FQ (t:TE):TO:=λσ H Q=>t σ H λx H1=>∃ i,x = .int i /\ Q (some i) H1
section
variable {X:Cx} {e:Expr} {te:TE} {lo hi:Option Expr} {tl th:TO} {pos p2:Pos}
theorem dj:PO X none zf:=by
 intro pins s σ H Q I h
 rw [evalPart_none]
 exact wpAny_pure ⟨none,H,I,.none,h⟩
theorem cF (h:PE X e te):PO X (some e) (FQ te):=by
 intro pins s σ H Q I hw
 rw [evalPart_some]
 refine c5 (h pins s σ H _ I hw) λu s1 ⟨x,H1,I1,r1,q1⟩=>?_
 obtain ⟨i,rfl,q⟩:=q1
 obtain ⟨t,rfl⟩:=r1
 exact ⟨some i,H1,I1,.int i t,q⟩
def Mu (X:Cx) (r:V -> Option Int -> Option Int -> Hp -> VK -> Prop):Prop :=
 ∀ (pins:List (Addr × Obj)) (s:Shared) (σ:St) (H:Hp) (x:V) (v vl vu:Value) (lo hi:Option Int) (sl:Addr) (Q:VK),Inv X pins σ H s -> RelV x v -> s.heap.IsSliceOf sl vl vu .none -> IsPart vl lo -> IsPart vu hi -> r x lo hi H Q ->
  ∃ T id,typeLookup (.type T) "__getitem__" = pure (some (.builtin id)) /\ s.TypeIs v T /\ wpAny (model X.prog X.w) X.A (getItem v (.ref sl)) (EP X pins σ Q) X.xe s
def tSl (r:V -> Option Int -> Option Int -> Hp -> VK -> Prop) (te:TE) (tl th:TO):TE:=λσ H Q=>te σ H λx H1=>tl σ H1 λl H2=>th σ H2 λu H3=>r x l u H3 Q
theorem cy {r:V -> Option Int -> Option Int -> Hp -> VK -> Prop} (hr:Mu X r) (he:PE X e te) (hl:PO X lo tl) (hu:PO X hi th):PE X (.Subscript e (.Slice lo hi none p2) pos) (tSl r te tl th):=by
 intro pins s σ H Q I h
 refine Subscript_ (c5 (he pins s σ H _ I h) λv s1 ⟨x,H1,I1,r1,q1⟩=>?_)
 refine wpAny_Slice (c5 (hl pins s1 σ H1 _ I1 q1) λvl s2 ⟨l,H2,I2,pl,q2⟩=>c5 (hu pins s2 σ H2 _ I2 q2) λvu s3 ⟨u,H3,I3,pu,q3⟩=>?_)
 rw [evalPart_none]
 refine wpAny_pure ?_
 have I4:Inv X pins σ H3 { s3 with heap:=s3.heap.push { cls:=.type "slice",data:=.fields #[vl,vu,.none] } }:=I3.kept (t':=s3.toks) λb ob q=>Heap.get?_push_of_some _ q
 obtain ⟨T,id,hT,ht,hg⟩:=hr pins { s3 with heap:=s3.heap.push { cls:=.type "slice",data:=.fields #[vl,vu,.none] } } σ H3 x v vl vu l u s3.heap.objs.size Q I4 r1 (Heap.IsSliceOf.new ..) pl pu q3
 show wpAny (model X.prog X.w) X.A (subscriptTail e (.Slice lo hi none p2) v (.ref s3.heap.objs.size)) (EP X pins σ Q) X.xe { s3 with heap:=s3.heap.push { cls:=.type "slice",data:=.fields #[vl,vu,.none] } }
 exact tail_any (ops:=[.ref s3.heap.objs.size,v]) ht hT hg (by with_unfolding_all rfl)
def cO (xs:List V) (lo hi:Option Int):List V:=(xs.drop (HT.sM xs.length 0 lo)).take (HT.sM xs.length xs.length hi - HT.sM xs.length 0 lo)
theorem wj (xs:List V) (lo hi:Option Int):(cO xs lo hi).length <= xs.length:=by
 unfold cO
 rw [List.length_take,List.length_drop]
 omega
end
end L2
namespace L2
open PySem PySem.Spec PyProof.Rows
def Ac (n:Nat) (i:Int):Option Nat:=if 0 <= i then (if i < n then some i.toNat else none) else if -(n:Int) <= i then some (i + n).toNat else none
def we {α:Type} (xs:List α) (i:Int):Option α:=(Ac xs.length i).bind λj=>xs[j]?
theorem y9 {n:Nat} {i:Int} {j:Nat} (h:Ac n i = some j):seqIndex? i n = some j /\ j < n /\ -(n:Int) <= i /\ i < n:=by
 unfold Ac at h
 by_cases h0:0 <= i
 ·rw [if_pos h0] at h
  by_cases h1:i < n
  ·rw [if_pos h1] at h
   have e:i.toNat = j:=Option.some.inj h
   exact ⟨by rw [seqIndex_of h0 h1,e],by omega,by omega,h1⟩
  ·rw [if_neg h1] at h;cases h
 ·rw [if_neg h0] at h
  by_cases h1:-(n:Int) <= i
  ·rw [if_pos h1] at h
   have e:(i + n).toNat = j:=Option.some.inj h
   exact ⟨by rw [seqIndex_neg (by omega) h1,e],by omega,h1,by omega⟩
  ·rw [if_neg h1] at h;cases h
theorem rQ {α:Type} {xs:List α} {i:Int} {v:α} (h:we xs i = some v):∃ j,seqIndex? i xs.length = some j /\ xs[j]? = some v /\ j < xs.length /\ -(xs.length:Int) <= i /\ i < xs.length:=by
 unfold we at h
 cases e:Ac xs.length i with
 | none=>rw [e] at h;cases h
 | some j =>
  rw [e] at h
  obtain ⟨h1,h2,h3,h4⟩:=y9 e
  exact ⟨j,h1,h,h2,h3,h4⟩
theorem bq {α:Type} {xs:List α} {j:Nat} {v:α} (h:xs[j]? = some v):we xs (j:Int) = some v:=by
 have hj:j < xs.length:=(List.getElem?_eq_some_iff.mp h).1
 have e:Ac xs.length (j:Int) = some j:=by
  unfold Ac
  rw [if_pos (by omega),if_pos (by omega)];simp
 unfold we;rw [e];exact h
def EB (b:Expr):Prop:=∀ o i,subscripted b false o i = operate [o,i] (getItem o i)
def J8 (X:Cx) (r:R2):Prop :=
 ∀ (value slice:Expr) (pins:List (Addr × Obj)) (s:Shared) (σ:St) (H:Hp) (x y:V) (v u:Value) (Q:VK),Inv X pins σ H s -> RelV x v -> RelV y u -> r x y H Q ->
  subscripted slice false v u = operate [v,u] (getItem v u) -> wpAny (model X.prog X.w) X.A (subscriptTail value slice v u) (EP X pins σ Q) X.xe s
def J6 (X:Cx) (id:String) (r:V -> List V -> Hp -> VK -> Prop):Prop :=
 ∀ (pins:List (Addr × Obj)) (s:Shared) (σ:St) (H:Hp) (x:V) (xs:List V) (v:Value) (us:List Value) (Q:VK),Inv X pins σ H s -> RelV x v -> Vals xs us -> r x xs H Q ->
  wpAny (model X.prog X.w) X.A (call (.builtin id) (v :: us)) (EP X pins σ Q) X.xe s
section
variable {X:Cx} {a b:Expr} {ta tb:TE} {pos:Pos}
theorem aS {r:R2} (hr:J8 X r) (ha:PE X a ta) (hb:PE X b tb) (hs:EB b):PE X (.Subscript a b pos) (J7 r ta tb):=by
 intro pins s σ H Q I h
 exact Subscript_ (HS ha hb I h λv u s2 x y H2 I2 rx ry q=>hr a b pins s2 σ H2 x y v u Q I2 rx ry q (hs _ _))
def Eg (K:PySem.W.Frag):R2:=λx y H Q=>∃ p xs i v,x = .ref p /\ y = .int i /\ bu K H p xs /\ we xs i = some v /\ Q v H
def IB (K:PySem.W.Frag):R2:=λx y H Q=>∃ p xs i v,x = .ref p /\ y = .int i /\ gh K H p xs /\ we xs i = some v /\ Q v H
def Lb:R2:=λx y H Q=>∃ z i c,x = .str z /\ y = .int i /\ z.length <= sizeLine /\ we z.cps.toList i = some c /\ Q (.str ⟨#[c]⟩) H
theorem aW:J8 X (Eg X.K):=by
 intro value slice pins s σ H x y v u Q I rx ry h hs
 obtain ⟨p,xs,i,z,rfl,rfl,hq,he,q⟩:=h
 cases rx
 obtain ⟨t,rfl⟩:=ry
 obtain ⟨its,r,pl,hz⟩:=I.list hq
 obtain ⟨j,h1,h2,h3,h4,h5⟩:=rQ he
 obtain ⟨w,ew,rw'⟩:=r.get h2
 have hl:=r.length
 have hn:=jC
 have fin:EP X pins σ Q w s:=⟨z,H,I,rw',q⟩
 by_cases h0:0 <= i
 ·have hj:i.toNat = j:=by
   rw [seqIndex_of h0 h5] at h1
   exact Option.some.inj h1
  exact item_listR pl.isList h0 (by omega) (by rw [hj];simpa using ew) fin hs
 ·have hj:(i + (its.toArray.size:Int)).toNat = j:=by
   rw [seqIndex_neg (by omega) h4] at h1
   rw [List.size_toArray,← hl]
   exact Option.some.inj h1
  exact subscriptTail_builtinR (x:=w) pl.isList.typeIs slot_list_getitem.lookup
   (wpAny_getItem_list_neg (Q:=λr s'=>r = w /\ EP X pins σ Q r s') pl.isList (by omega) (by rw [List.size_toArray] <;> omega) (by omega) (by rw [hj];simpa using ew) ⟨rfl,fin⟩) hs
theorem bW:J8 X (IB X.K):=by
 intro value slice pins s σ H x y v u Q I rx ry h hs
 obtain ⟨p,xs,i,z,rfl,rfl,hq,he,q⟩:=h
 cases rx
 obtain ⟨t,rfl⟩:=ry
 obtain ⟨its,r,pl,hz⟩:=I.tuple hq
 obtain ⟨j,h1,h2,h3,h4,h5⟩:=rQ he
 obtain ⟨w,ew,rw'⟩:=r.get h2
 have hl:=r.length
 have hn:=jC
 have fin:EP X pins σ Q w s:=⟨z,H,I,rw',q⟩
 exact subscriptTail_builtinR (x:=w) pl.typeIs slot_tuple_getitem.lookup
  (getItem_tuple (j:=j) (Q:=λr s'=>r = w /\ EP X pins σ Q r s') pl (by omega) (by omega) (by rw [List.size_toArray,← hl];exact h1) (by simpa using ew) ⟨rfl,fin⟩) hs
theorem k8:J8 X Lb:=by
 intro value slice pins s σ H x y v u Q I rx ry h hs
 obtain ⟨z,i,c,rfl,rfl,hz,he,q⟩:=h
 obtain ⟨t,rfl⟩:=rx
 obtain ⟨t',rfl⟩:=ry
 obtain ⟨j,h1,h2,h3,h4,h5⟩:=rQ he
 have hl:z.cps.toList.length = z.length:=by simp [Str.length]
 rw [hl] at h1 h4 h5
 have hn:=jC
 exact tail_any (typeIs_str s z t) slot_str_getitem.lookup (getItem_str (c:=c) (by
  have e1:decide (i < -(2 ^ 63:Int)) = false:=decide_eq_false (by omega)
  have e2:decide (i ≥ 2 ^ 63) = false:=decide_eq_false (by omega)
  rw [e1,e2,Bool.or_false]) (by rw [h1];simpa using h2) ⟨.str ⟨#[c]⟩,H,I.tok _,⟨_,rfl⟩,q⟩) hs
theorem yl (its:List Value) (n j:Nat) (u:Value):Obj.mapSeq (·.setIfInBounds j u) { cls:=.type "list",data:=.seq its.toArray n } = { cls:=.type "list",data:=.seq (its.set j u).toArray n }:=by
 simp [Obj.mapSeq]
theorem Inv.lst {pins:List (Addr × Obj)} {σ:St} {H:Hp} {s:Shared} {p:Addr} {xs:List V} (I:Inv X pins σ H s) (h:H p = some (.lst xs)) :
  ∃ (its:List Value) (n:Nat),Vals xs its /\ s.heap.get? p = some { cls:=.type "list",data:=.seq its.toArray n } /\ xs.length <= sizeLine:=by
 obtain ⟨z,its,n,r,e⟩:=I.hok p _ h
 exact ⟨its,n,r,e,z⟩
theorem Inv.IE {pins:List (Addr × Obj)} {σ:St} {H:Hp} {s:Shared} {p:Addr} {xs ys:List V} {its its':List Value} {n n':Nat} {f:Obj -> Obj} (I:Inv X pins σ H s) (h:H p = some (.lst xs))
  (ho:s.heap.get? p = some { cls:=.type "list",data:=.seq its.toArray n }) (hf:f { cls:=.type "list",data:=.seq its.toArray n } = { cls:=.type "list",data:=.seq its'.toArray n' }) (r:Vals ys its') (hz:ys.length <= sizeLine) (t:Nat) :
  Inv X pins σ (upd H p (.lst ys)) { s with heap:=s.heap.update p f,toks:=t }:=by
 have e:(s.heap.update p f).get? p = some { cls:=.type "list",data:=.seq its'.toArray n' }:=by
  rw [Heap.get?_update_self f ho (by rw [hf] <;> rfl),hf]
 refine I.write (x:=p) (e:=p) (by rw [h];trivial) (.inl rfl) (λb u hb q=>(Heap.get?_update_other _ _ (Ne.symm hb)).trans q) ⟨_,e⟩ ?_
 exact ⟨hz,its',n',r,e⟩
def Kp:V -> V -> V -> Hp -> (Hp -> Prop) -> Prop:=λo i v H Q=>∃ p xs k j,o = .ref p /\ i = .int k /\ H p = some (.lst xs) /\ Ac xs.length k = some j /\ Q (upd H p (.lst (xs.set j v)))
theorem set_list:Lj X Kp:=by
 intro pins s σ H o i v ov iv u Q I ro ri rv h
 obtain ⟨p,xs,k,j,rfl,rfl,hp,hj,q⟩:=h
 cases ro
 obtain ⟨t,rfl⟩:=ri
 obtain ⟨its,n,r,ho,hz⟩:=I.lst hp
 obtain ⟨h1,h2,h3,h4⟩:=y9 hj
 have hl:=r.length
 have hn:=jC
 have I':Inv X pins σ (upd H p (.lst (xs.set j v))) { s with heap:=s.heap.update p (Obj.mapSeq (·.setIfInBounds j u)) } :=
  I.IE hp ho (yl its n j u) (r.set rv j) (by rw [List.length_set];exact hz) s.toks
 by_cases h0:0 <= k
 ·have hk:k.toNat = j:=by
   rw [seqIndex_of h0 h4] at h1
   exact Option.some.inj h1
  exact PySem.W.ki_setAt ho h0 (by omega) (by rw [List.size_toArray,← hl];exact h4) (by rw [hk];exact ⟨_,I',q⟩)
 ·have hk:(k + (its.toArray.size:Int)).toNat = j:=by
   rw [seqIndex_neg (by omega) h3] at h1
   rw [List.size_toArray,← hl]
   exact Option.some.inj h1
  exact PySem.W.ki_setBack ho (by omega) (by rw [List.size_toArray,← hl];exact h3) (by omega) (by rw [hk];exact ⟨_,I',q⟩)
theorem sy (lo hi:Option Int) (n:Nat):(sliceBounds lo hi none n).1 = ((HT.sM n 0 lo:Nat):Int) /\ (sliceBounds lo hi none n).2.1 = ((HT.sM n n hi:Nat):Int) /\ (sliceBounds lo hi none n).2.2 = 1:=by
 refine ⟨?_,?_,rfl⟩
 ·cases lo with
  | none=>simp [sliceBounds,HT.sM]
  | some i =>
   simp only [sliceBounds,HT.sM,Option.getD_none,show (1:Int) > 0 by decide,if_true]
   by_cases h:i < 0
   ·simp only [h,if_true] <;> omega
   ·simp only [h,if_false] <;> omega
 ·cases hi with
  | none=>simp [sliceBounds,HT.sM]
  | some i =>
   simp only [sliceBounds,HT.sM,Option.getD_none,show (1:Int) > 0 by decide,if_true]
   by_cases h:i < 0
   ·simp only [h,if_true] <;> omega
   ·simp only [h,if_false] <;> omega
theorem qf (its:List Value) (lo hi:Option Int):slicePick its.toArray lo hi none = ((its.drop (HT.sM its.length 0 lo)).take (HT.sM its.length its.length hi - HT.sM its.length 0 lo)).toArray:=by
 obtain ⟨h1,h2,h3⟩:=sy lo hi its.toArray.size
 unfold slicePick
 rw [h1,h2,h3]
 simp only [sliceRange_one,pick_run,List.size_toArray] <;> rfl
def Mq (K:PySem.W.Frag):V -> Option Int -> Option Int -> Hp -> VK -> Prop:=λx lo hi H Q=>∃ a xs,x = .ref a /\ bu K H a xs /\ ∀ p,H p = none -> Q (.ref p) (upd H p (.lst (cO xs lo hi)))
theorem gP:Mu X (Mq X.K):=by
 intro pins s σ H x v vl vu lo hi sl Q I rx hs pl pu h
 obtain ⟨a,xs,rfl,hx,q⟩:=h
 cases rx
 obtain ⟨its,r,ht,hz⟩:=I.list hx
 have hlen:=r.length
 refine ⟨"list",_,slot_list_getitem.lookup,ht.isList.typeIs,?_⟩
 refine wpAny_getItem_list_slice ht.isList hs pl pu .none (by simp) ?_ (by rw [List.size_toArray] <;> omega)
 rw [qf,← hlen]
 refine ⟨.ref s.heap.objs.size,_,I.laid (t':=s.toks) (o:=.lst (cO xs lo hi)) (λb ob q=>Heap.get?_push_of_some _ q) (Nat.le_refl _) ?_,rfl,q _ (I.hok.fresh (Nat.le_refl _))⟩
 exact ⟨Nat.le_trans (wj xs lo hi) hz,_,0,(r.drop (HT.sM xs.length 0 lo)).take (HT.sM xs.length xs.length hi - HT.sM xs.length 0 lo),Heap.get?_push_size _ rfl⟩
def gw:V -> Bool
 | .cK=>true
 | .bl _=>true
 | .int _=>true
 | .str _=>true
 | _=>false
def z6:V -> V -> Bool
 | .cK,.cK=>true
 | .bl a,.bl b=>a == b
 | .bl a,.int b=>(if a then 1 else 0) == b
 | .int a,.bl b=>a == (if b then 1 else 0)
 | .int a,.int b=>a == b
 | .str a,.str b=>a == b
 | _,_=>false
theorem xO {A:Around} {s:Shared} {y x:V} {u v:Value} (ry:RelV y u) (rx:RelV x v) (fy:gw y = true) (fx:gw x = true):SeqAt.EqAt A s u v (z6 y x):=by
 cases y with
 | cK =>
  cases ry
  cases x with
  | cK=>cases rx;exact SeqAt.EqAt.same _
  | bl b=>cases rx;exact SeqAt.EqAt.none_bool b
  | int b=>obtain ⟨t,rfl⟩:=rx;exact SeqAt.EqAt.none_int b t
  | str b=>obtain ⟨t,rfl⟩:=rx;exact SeqAt.EqAt.none_str b t
  | _=>exact absurd (show false = true from fx) Bool.false_ne_true
 | bl a =>
  cases ry
  cases x with
  | cK=>cases rx;exact SeqAt.EqAt.bool_none a
  | bl b=>cases rx;exact SeqAt.EqAt.bool_bool a b
  | int b=>obtain ⟨t,rfl⟩:=rx;exact SeqAt.EqAt.bool_int a b t
  | str b=>obtain ⟨t,rfl⟩:=rx;exact SeqAt.EqAt.bool_str a b t
  | _=>exact absurd (show false = true from fx) Bool.false_ne_true
 | int a =>
  obtain ⟨t',rfl⟩:=ry
  cases x with
  | cK=>cases rx;exact SeqAt.EqAt.int_none a t'
  | bl b=>cases rx;exact SeqAt.EqAt.int_bool a t' b
  | int b=>obtain ⟨t,rfl⟩:=rx;exact SeqAt.EqAt.int_int a t' b t
  | str b=>obtain ⟨t,rfl⟩:=rx;exact SeqAt.EqAt.int_str a t' b t
  | _=>exact absurd (show false = true from fx) Bool.false_ne_true
 | str a =>
  obtain ⟨t',rfl⟩:=ry
  cases x with
  | cK=>cases rx;exact SeqAt.EqAt.str_none a t'
  | bl b=>cases rx;exact SeqAt.EqAt.str_bool a t' b
  | int b=>obtain ⟨t,rfl⟩:=rx;exact SeqAt.EqAt.str_int a t' b t
  | str b=>obtain ⟨t,rfl⟩:=rx;exact SeqAt.EqAt.str_str a t' b t
  | _=>exact absurd (show false = true from fx) Bool.false_ne_true
 | _=>exact absurd (show false = true from fy) Bool.false_ne_true
def xy (x:V) (u:Value):Bool:=match u with
 | .none=>z6 .cK x
 | .bool b=>z6 (.bl b) x
 | .int i _=>z6 (.int i) x
 | .str z _=>z6 (.str z) x
 | _=>false
theorem CJ {x y:V} {u:Value} (r:RelV y u) (f:gw y = true):xy x u = z6 y x:=by
 cases y with
 | cK=>cases r;rfl
 | bl b=>cases r;rfl
 | int i=>obtain ⟨t,rfl⟩:=r;rfl
 | str z=>obtain ⟨t,rfl⟩:=r;rfl
 | _=>exact absurd (show false = true from f) Bool.false_ne_true
theorem jR {x:V}:∀ {xs:List V} {us:List Value},Vals xs us -> xs.all gw = true -> us.any (xy x) = xs.any λy=>z6 y x
 | _,_,.nil,_=>rfl
 | y :: xs,u :: us,.cons r t,f=>by
  rw [List.all_cons,Bool.and_eq_true] at f
  rw [List.any_cons,List.any_cons,CJ r f.1,jR t f.2]
theorem iV {A:Around} {s:Shared} {x:V} {v:Value} (rx:RelV x v) (fx:gw x = true):∀ {xs:List V} {us:List Value},Vals xs us -> xs.all gw = true -> ∀ u ∈ us,SeqAt.EqAt A s u v (xy x u)
 | _,_,.nil,_=>λu hu=>by cases hu
 | y :: xs,u :: us,.cons r t,f=>λu' hu=>by
  rw [List.all_cons,Bool.and_eq_true] at f
  rcases List.mem_cons.mp hu with rfl | hu
  ·rw [CJ r f.1];exact xO r rx f.1 fx
  ·exact iV rx fx t f.2 u' hu
def LS (x:V) (xs:List V):Bool:=xs.any λy=>z6 y x
def Mi (K:PySem.W.Frag) (neg:Bool):R2:=λx y H Q=>∃ p xs,y = .ref p /\ (bu K H p xs ∨ gh K H p xs) /\ gw x = true /\ xs.all gw = true /\ Q (.bl (if neg then !LS x xs else LS x xs)) H
theorem qH:jU X (compareOp .In) (Mi X.K false):=by
 intro pins s σ H x y v u Q I rx ry h
 obtain ⟨p,xs,rfl,hq,fx,fs,q⟩:=h
 cases ry
 rcases hq with hq | hq
 ·obtain ⟨its,r,pl,hz⟩:=I.list hq
  refine SeqAt.in_listAt (xy x) pl.isList (λw hw=>iV rx fx r fs w (by simpa using hw)) ⟨.bl _,H,I,rfl,?_⟩
  rw [show its.toArray.any (xy x) = its.any (xy x) by simp,jR r fs]
  exact q
 ·obtain ⟨its,r,pl,hz⟩:=I.tuple hq
  refine SeqAt.in_tupleAt (xy x) pl (λw hw=>iV rx fx r fs w (by simpa using hw)) ⟨.bl _,H,I,rfl,?_⟩
  rw [show its.toArray.any (xy x) = its.any (xy x) by simp,jR r fs]
  exact q
theorem sj:jU X (compareOp .NotIn) (Mi X.K true):=by
 intro pins s σ H x y v u Q I rx ry h
 obtain ⟨p,xs,rfl,hq,fx,fs,q⟩:=h
 cases ry
 rcases hq with hq | hq
 ·obtain ⟨its,r,pl,hz⟩:=I.list hq
  refine SeqAt.notIn_listAt (xy x) pl.isList (λw hw=>iV rx fx r fs w (by simpa using hw)) ⟨.bl _,H,I,rfl,?_⟩
  rw [show its.toArray.any (xy x) = its.any (xy x) by simp,jR r fs]
  exact q
 ·obtain ⟨its,r,pl,hz⟩:=I.tuple hq
  refine SeqAt.notIn_tupleAt (xy x) pl (λw hw=>iV rx fx r fs w (by simpa using hw)) ⟨.bl _,H,I,rfl,?_⟩
  rw [show its.toArray.any (xy x) = its.any (xy x) by simp,jR r fs]
  exact q
theorem aV:jW X (.builtin "len") (λxs H Q=>∃ p ys,xs = [.ref p] /\ (bu X.K H p ys ∨ gh X.K H p ys) /\ Q (.int ys.length) H):=by
 intro pins s σ H xs us Q I r h
 obtain ⟨p,ys,rfl,hq,q⟩:=h
 obtain ⟨u,rfl,rx⟩:=vals1 r
 cases rx
 have hn:=jC
 rcases hq with hq | hq
 ·obtain ⟨its,r',pl,hz⟩:=I.list hq
  have hlen:=r'.length
  exact Calls.call_len_list pl.isList (by simp only [List.size_toArray] <;> omega) ⟨.int ys.length,H,I.tok _,⟨s.toks + 1,by rw [List.size_toArray,hlen]⟩,q⟩
 ·obtain ⟨its,r',pl,hz⟩:=I.tuple hq
  have hlen:=r'.length
  exact len_tuple pl (by simp only [List.size_toArray] <;> omega) ⟨.int ys.length,H,I.tok _,⟨s.toks + 1,by rw [List.size_toArray,hlen]⟩,q⟩
theorem bf:jW X (.builtin "len") (λxs H Q=>∃ z,xs = [.str z] /\ z.length <= sizeLine /\ Q (.int z.length) H):=by
 intro pins s σ H xs us Q I r h
 obtain ⟨z,rfl,hz,q⟩:=h
 obtain ⟨u,rfl,t,rfl⟩:=vals1 r
 have hn:=jC
 exact len_str (by omega) ⟨.int z.length,H,I.tok _,⟨_,rfl⟩,q⟩
theorem d8:jW X (.type "list") (λxs H Q=>∃ p ys,xs = [.ref p] /\ (bu X.K H p ys ∨ gh X.K H p ys) /\ ∀ l,H l = none -> Q (.ref l) (upd H l (.lst ys))):=by
 intro pins s σ H xs us Q I r h
 obtain ⟨p,ys,rfl,hq,q⟩:=h
 obtain ⟨u,rfl,rx⟩:=vals1 r
 cases rx
 have fin:∀ (its:List Value),Vals ys its -> ys.length <= sizeLine -> ∀ (h':Heap) (c':Nat),(∀ b o',s.heap.get? b = some o' -> h'.get? b = some o') ->
   h'.get? s.heap.objs.size = some { cls:=.type "list",dict:=none,data:=.seq its.toArray c',slots:=#[] } -> EP X pins σ Q (.ref s.heap.objs.size) { s with heap:=h' }:=λits r' hz h' c' kp e =>
  ⟨.ref s.heap.objs.size,_,I.laid (t':=s.toks) kp (Nat.le_refl _) (show dM X.prog X.w _ h' _ (.lst ys) from ⟨hz,its,c',r',e⟩),rfl,q _ (I.hok.fresh (Nat.le_refl _))⟩
 rcases hq with hq | hq
 ·obtain ⟨its,r',pl,hz⟩:=I.list hq
  have hlen:=r'.length
  obtain ⟨o,ho,hc,n,hd⟩:=pl.isList
  exact call_list_seq p (.inl rfl) ho hc hd (λh' c' kp e=>fin its r' hz h' c' kp e) (by simp only [List.size_toArray] <;> omega)
 ·obtain ⟨its,r',pl,hz⟩:=I.tuple hq
  have hlen:=r'.length
  obtain ⟨o,ho,hc,n,hd⟩:=pl
  exact call_list_seq p (.inr rfl) ho hc hd (λh' c' kp e=>fin its r' hz h' c' kp e) (by simp only [List.size_toArray] <;> omega)
def Mr (K:PySem.W.Frag) (T:String) (x:V) (H:Hp):Prop:=match x with
 | .str _=>T = "str"
 | .int _=>T = "int"
 | .ref p=>(T = "list" /\ ∃ xs,bu K H p xs) ∨ (T = "tuple" /\ ∃ o,K.lookup p = some o /\ o.cls = .type "tuple" /\ o.dict = none) ∨
   (T = "dict" /\ ((∃ kvs,H p = some (.dK kvs)) ∨ ∃ kvs,H p = some (.dT kvs))) ∨ (T = "set" /\ ∃ S n,H p = some (.set S n))
 | _=>False
theorem CM {pins:List (Addr × Obj)} {σ:St} {H:Hp} {s:Shared} {T:String} {x:V} {v:Value} (I:Inv X pins σ H s) (r:RelV x v) (ty:Mr X.K T x H) :
  s.TypeIs v T /\ ∀ a,v = .ref a -> ∃ ob,s.heap.get? a = some ob /\ ob.dict = none:=by
 cases x with
 | str z =>
  obtain ⟨t,rfl⟩:=r
  cases (show T = "str" from ty)
  exact ⟨typeIs_str s z t,λ_ e=>nomatch e⟩
 | int i =>
  obtain ⟨t,rfl⟩:=r
  cases (show T = "int" from ty)
  exact ⟨typeIs_int s i t,λ_ e=>nomatch e⟩
 | ref p =>
  cases r
  rcases ty with ⟨rfl,xs,hq⟩ | ⟨rfl,o,hk,hc,hd⟩ | ⟨rfl,hk⟩ | ⟨rfl,S,n,hk⟩
  ·obtain ⟨its,_,pl,_⟩:=I.list hq
   refine ⟨pl.isList.typeIs,λa e=>?_⟩
   cases e
   obtain ⟨o,n,e,c,hd,_⟩:=pl
   exact ⟨o,e,hd⟩
  ·refine ⟨⟨o,I.sN p o hk,hc⟩,λa e=>?_⟩
   cases e
   exact ⟨o,I.sN _ o hk,hd⟩
  ·have z:∃ o,s.heap.get? p = some o /\ o.ExactDict:=by
    rcases hk with ⟨kvs,hk⟩ | ⟨kvs,hk⟩
    ·obtain ⟨_,_,_,_,o,_,_,e,ex,_⟩:=I.hok p _ hk
     exact ⟨o,e,ex⟩
    ·obtain ⟨_,_,_,_,o,_,_,e,ex,_⟩:=I.hok p _ hk
     exact ⟨o,e,ex⟩
   obtain ⟨o,e,ex⟩:=z
   refine ⟨⟨o,e,ex.1⟩,λa e2=>?_⟩
   cases e2
   exact ⟨o,e,ex.2.1⟩
  ·obtain ⟨o,_,_,_,e,ex,_⟩:=I.hok p _ hk
   refine ⟨⟨o,e,ex.1⟩,λa e2=>?_⟩
   cases e2
   exact ⟨o,e,ex.2.1⟩
 | _=>exact False.elim ty
def K7 (K:PySem.W.Frag) (T:String) (r:V -> List V -> Hp -> VK -> Prop) (to:TE):TE:=λσ H Q=>to σ H λx H1=>Mr K T x H1 /\ r x [] H1 Q
def tBM (K:PySem.W.Frag) (T:String) (r:V -> List V -> Hp -> VK -> Prop) (to:TE) (t:TA):TE:=λσ H Q=>to σ H λx H1=>Mr K T x H1 /\ t σ H1 λxs H2=>r x xs H2 Q
variable {o e:Expr} {es:List Expr} {to:TE} {t:TA} {name:Str} {apos cpos:Pos} {T id:String} {r:V -> List V -> Hp -> VK -> Prop}
theorem HM (pa:PlainAttrs T) (slot:Slot T name id) (hty:typeOf (.builtin id) = pure (.type "method_descriptor")) (hm:J6 X id r) (ho:PE X o to)
  (hbase:attributeBase o name X.env (eval o X.env) = eval o X.env:=by rfl) (hline:(apos.endLine == cpos.line) = true:=by rfl):PE X (.Call (.Attribute o name apos) [] [] cpos) (K7 X.K T r to):=by
 intro pins s σ H Q I h
 refine wpAny_Call_method0_late hbase hline (c5 (ho pins s σ H _ I h) λv s1 ⟨x,H1,I1,r1,ty,q1⟩=>?_)
 obtain ⟨h1,h2⟩:=CM I1 r1 ty
 exact ⟨T,id,pa,slot,hty,h1,h2,Calls.callWith_builtin rfl (PySem.evalArgs_none (hm pins s1 σ H1 x [] v [] Q I1 r1 .nil q1))⟩
theorem e9 (pa:PlainAttrs T) (slot:Slot T name id) (hty:typeOf (.builtin id) = pure (.type "method_descriptor")) (hm:J6 X id r) (ho:PE X o to) (ha:PA X (e :: es) t)
  (hbase:attributeBase o name X.env (eval o X.env) = eval o X.env:=by rfl)
  (hfew:((backTo cpos (starEach (e :: es) X.env)).all (λx=>!x.1) && (backToKw cpos (keywordEach [] X.env)).all (λx=>x.1.isSome)
   && decide ((e :: es).length + ([]:List Keyword).length + (if ([]:List Keyword).isEmpty then 0 else 1) < 30)) = true:=by rfl)
  (hline:(apos.endLine == cpos.line) = true:=by rfl) (hs:starEach (e :: es) X.env = (false,eval e X.env) :: starEach es X.env:=by rfl) (hplain:(backTo cpos (starEach es X.env)).any (·.1) = false:=by rfl) :
  PE X (.Call (.Attribute o name apos) (e :: es) [] cpos) (tBM X.K T r to t):=by
 intro pins s σ H Q I h
 refine wpAny_Call_method_late hbase hfew hline rfl (c5 (ho pins s σ H _ I h) λv s1 ⟨x,H1,I1,r1,ty,q1⟩=>?_)
 obtain ⟨h1,h2⟩:=CM I1 r1 ty
 refine ⟨T,id,pa,slot,hty,h1,h2,?_⟩
 have hA:=ha cpos pins s1 σ H1 _ I1 q1
 rw [hs] at hA ⊢
 refine Calls.callWith_builtin (by show (false || (backTo cpos (starEach es X.env)).any (·.1)) = false;rw [hplain] <;> rfl) (Calls.evalArgs_plain ?_)
 exact c5 hA λus s2 ⟨vs,H2,I2,r2,q2⟩=>hm pins s2 σ H2 x vs v us Q I2 r1 r2 q2
end
end L2
namespace L2
open PySem PySem.Spec PyProof.Rows
def Ml (X:Cx) (id:String) (r:V -> List V -> Hp -> VK -> Prop):Prop :=
 ∀ (pins:List (Addr × Obj)) (s:Shared) (σ:St) (H:Hp) (x:V) (xs:List V) (v:Value) (us:List Value) (Q:VK),Inv X pins σ H s -> RelV x v -> Vals xs us -> r x xs H Q ->
  wpAny (model X.prog X.w) X.A (call (.builtin id) (v :: us)) (EP X pins σ Q) X.xe s
theorem Vals.one:∀ {x:V} {us:List Value},Vals [x] us -> ∃ u,us = [u] /\ RelV x u
 | _,_,.cons r .nil=>⟨_,rfl,r⟩
theorem Vals.two:∀ {x y:V} {us:List Value},Vals [x,y] us -> ∃ u v,us = [u,v] /\ RelV x u /\ RelV y v
 | _,_,_,.cons r (.cons q .nil)=>⟨_,_,rfl,r,q⟩
theorem Vals.zero:∀ {us:List Value},Vals [] us -> us = []
 | _,.nil=>rfl
theorem Vals.dropLast {xs:List V} {us:List Value} (h:Vals xs us):Vals xs.dropLast us.dropLast:=by
 induction h with
 | nil=>exact .nil
 | cons r t ih =>
  cases t with
  | nil=>exact .nil
  | cons q t'=>exact .cons r ih
theorem Vals.rep {xs:List V} {us:List Value} (h:Vals xs us):∀ k:Nat,Vals (List.replicate k xs).flatten (List.replicate k us).flatten
 | 0=>.nil
 | k + 1=>by
  rw [List.replicate_succ,List.replicate_succ,List.flatten_cons,List.flatten_cons]
  exact Vals.append h (Vals.rep h k)
theorem ya {α:Type} (l:List α):l.eraseIdx (l.length - 1) = l.dropLast:=by
 induction l with
 | nil=>rfl
 | cons a r ih =>
  cases r with
  | nil=>rfl
  | cons b r =>
   have e:(a :: b :: r).length - 1 = ((b :: r).length - 1) + 1:=by
    have h1:(a :: b :: r).length = r.length + 2:=rfl
    have h2:(b :: r).length = r.length + 1:=rfl
    omega
   rw [e,List.eraseIdx_cons_succ,ih]
   all_goals rfl
theorem foldl_rep (its:List Value):∀ (k:Nat) (acc:List Value),
  List.foldl (λx1 x2=>x1 ++ x2) acc.toArray (List.replicate k its.toArray) = (acc ++ (List.replicate k its).flatten).toArray
 | 0,acc=>by simp
 | k + 1,acc=>by
  have e:acc.toArray ++ its.toArray = (acc ++ its).toArray:=by simp
  have e2:(acc ++ its) ++ (List.replicate k its).flatten = acc ++ (List.replicate (k + 1) its).flatten:=by
   rw [List.replicate_succ,List.flatten_cons,List.append_assoc]
  rw [← e2,← foldl_rep its k (acc ++ its),← e,List.replicate_succ,List.foldl_cons]
section
variable {X:Cx} {pins:List (Addr × Obj)} {σ:St} {H:Hp} {s:Shared} {l b:Addr} {xs ys zs:List V}
theorem Inv.HU {its its':List Value} {n:Nat} {f:Array Value -> Array Value} {t':Nat} (I:Inv X pins σ H s) (hH:H l = some (.lst xs))
  (e:s.heap.get? l = some { cls:=.type "list",data:=.seq its.toArray n }) (hf:f its.toArray = its'.toArray) (hv:Vals ys its') (hz:ys.length <= sizeLine) :
  Inv X pins σ (upd H l (.lst ys)) { s with heap:=s.heap.update l (Obj.mapSeq f),toks:=t' }:=by
 have q:=PySem.IsL.update e f
 rw [hf] at q
 refine I.write (x:=l) (e:=l) (by rw [hH];exact trivial) (.inl rfl) (λb' u hb hu=>(Heap.get?_update_other s.heap (Obj.mapSeq f) (Ne.symm hb)).trans hu) ⟨_,q⟩ ?_
 exact ⟨hz,its',_,hv,q⟩
theorem Inv.Cq {its:List Value} {t':Nat} (I:Inv X pins σ H s) (hv:Vals ys its) (hz:ys.length <= sizeLine) :
  Inv X pins σ (upd H s.heap.objs.size (.lst ys)) { s with heap:=s.heap.push { cls:=.type "list",data:=.seq its.toArray },toks:=t' } :=
 I.laid (λ_ _ q=>Heap.get?_push_of_some _ q) (Nat.le_refl _) ⟨hz,its,0,hv,Heap.get?_push_size _ rfl⟩
theorem Inv.fresh (I:Inv X pins σ H s):H s.heap.objs.size = none:=I.hok.fresh (Nat.le_refl _)
theorem Inv.w5 (I:Inv X pins σ H s) (hH:H l = some (.lst xs)):xs.length <= sizeLine /\ ∃ (its:List Value) (n:Nat),Vals xs its /\ xs.length = its.length /\ s.heap.get? l = some { cls:=.type "list",data:=.seq its.toArray n }:=by
 obtain ⟨z,its,n,r,e⟩:=I.hok l _ hH
 exact ⟨z,its,n,r,r.length,e⟩
theorem vD {n:Nat} (h:n <= sizeLine):Builtin.List.listTooLong n = false:=by
 unfold Builtin.List.listTooLong
 exact decide_eq_false (by omega)
end
section
variable {X:Cx}
def EF:V -> List V -> Hp -> VK -> Prop:=λx vs H Q=>∃ l xs y,x = .ref l /\ vs = [y] /\ H l = some (.lst xs) /\ xs.length < sizeLine /\ Q .cK (upd H l (.lst (xs ++ [y])))
theorem c8:Ml X "list.append" EF:=by
 intro pins s σ H x vs v us Q I rx rv h
 obtain ⟨l,xs,y,rfl,rfl,hH,hz,q⟩:=h
 cases rx
 obtain ⟨u,rfl,ru⟩:=rv.one
 obtain ⟨z,its,n,r,hl,e⟩:=I.w5 hH
 refine call_meets F.slot_list_append ⟨_,e,rfl⟩ F.entry_list_append (F.args_list_append_2 _ _) (PySem.list_append l its.toArray n u (by rw [List.size_toArray];omega)) ⟨e,?_⟩
 refine ⟨.cK,_,I.HU (its':=its ++ [u]) hH e (by simp) (r.append (.cons ru .nil)) ?_,rfl,q⟩
 rw [List.length_append,List.length_singleton]
 omega
def Ez:V -> List V -> Hp -> VK -> Prop:=λx vs H Q=>∃ l b xs zs,x = .ref l /\ vs = [.ref b] /\ H l = some (.lst xs) /\ H b = some (.lst zs) /\ xs.length + zs.length <= sizeLine /\ Q .cK (upd H l (.lst (xs ++ zs)))
theorem zV:Ml X "list.extend" Ez:=by
 intro pins s σ H x vs v us Q I rx rv h
 obtain ⟨l,b,xs,zs,rfl,rfl,hH,hB,hz,q⟩:=h
 cases rx
 obtain ⟨u,rfl,ru⟩:=rv.one
 cases ru
 obtain ⟨z,its,n,r,hl,e⟩:=I.w5 hH
 obtain ⟨z2,its2,n2,r2,hl2,e2⟩:=I.w5 hB
 have hsz:its.toArray.size + its2.toArray.size <= sizeLine:=by rw [List.size_toArray,List.size_toArray];omega
 have hlong:¬ (!its.toArray.isEmpty && Builtin.List.listTooLong (its.toArray.size + its2.toArray.size)) = true:=by
  rw [vD hsz,Bool.and_false]
  exact Bool.false_ne_true
 refine call_meets F.slot_list_extend ⟨_,e,rfl⟩ F.entry_list_extend (F.args_list_extend_2 _ _)
  (AutoSeq1.list_extend_list_list_0 l its.toArray n b its2.toArray n2 hlong (by rw [List.size_toArray];omega) (by omega)) ⟨e,e2,?_⟩
 refine ⟨.cK,_,I.HU (its':=its ++ its2) hH e (by simp) (r.append r2) ?_,rfl,q⟩
 rw [List.length_append]
 omega
def Mz:V -> List V -> Hp -> VK -> Prop:=λx vs H Q=>∃ l xs y,x = .ref l /\ vs = [] /\ H l = some (.lst xs) /\ xs[xs.length - 1]? = some y /\ Q y (upd H l (.lst xs.dropLast))
theorem Ij:Ml X "list.pop" Mz:=by
 intro pins s σ H x vs v us Q I rx rv h
 obtain ⟨l,xs,y,rfl,rfl,hH,hy,q⟩:=h
 cases rx
 have hus:=rv.zero
 subst hus
 obtain ⟨z,its,n,r,hl,e⟩:=I.w5 hH
 obtain ⟨u,hu,ru⟩:=r.get hy
 have hy':its.toArray[its.toArray.size - 1]? = some u:=by
  show its.toArray[its.length - 1]? = some u
  rw [← Array.getElem?_toList,← hl]
  exact hu
 refine call_meets F.slot_list_pop ⟨_,e,rfl⟩ F.entry_list_pop (F.args_list_pop_1 _) (MeetsSeq.list_pop_last l its.toArray n u hy' (by rw [List.size_toArray];omega)) ⟨e,?_⟩
 refine ⟨y,_,I.HU (its':=its.dropLast) hH e ?_ r.dropLast ?_,ru,q⟩
 ·show its.toArray.eraseIdxIfInBounds (its.toArray.size - 1) = its.dropLast.toArray
  rw [List.size_toArray,List.eraseIdxIfInBounds_toArray,ya]
 ·rw [List.length_dropLast]
  omega
def Mt:R2:=λx y H Q=>∃ l b xs zs,x = .ref l /\ y = .ref b /\ H l = some (.lst xs) /\ H b = some (.lst zs) /\ xs.length + zs.length <= sizeLine /\ ∀ p,H p = none -> Q (.ref p) (upd H p (.lst (xs ++ zs)))
theorem eu:jU X (binaryOp .Add) Mt:=by
 intro pins s σ H x y v u Q I rx ry h
 obtain ⟨l,b,xs,zs,rfl,rfl,hH,hB,hz,q⟩:=h
 cases rx
 cases ry
 obtain ⟨z,its,n,r,hl,e⟩:=I.w5 hH
 obtain ⟨z2,its2,n2,r2,hl2,e2⟩:=I.w5 hB
 refine PySem.P.add_list e e2 ?_ (by rw [List.size_toArray,List.size_toArray];omega)
 have ea:its.toArray ++ its2.toArray = (its ++ its2).toArray:=by simp
 rw [ea]
 exact ⟨.ref _,_,I.Cq (t':=s.toks) (r.append r2) (by rw [List.length_append];omega),rfl,q _ I.fresh⟩
def Mf:R2:=λx y H Q=>∃ l k xs,x = .ref l /\ y = .int k /\ H l = some (.lst xs) /\ -(2 ^ 63) <= k /\ k < 2 ^ 63 /\ xs.length * k.toNat <= sizeLine /\
 ∀ p,H p = none -> Q (.ref p) (upd H p (.lst (List.replicate k.toNat xs).flatten))
theorem len_rep {α:Type} (xs:List α) (k:Nat):(List.replicate k xs).flatten.length = k * xs.length:=by
 induction k with
 | zero=>simp
 | succ k ih=>rw [List.replicate_succ,List.flatten_cons,List.length_append,ih,Nat.succ_mul,Nat.add_comm]
theorem D6:jU X (binaryOp .Mult) Mf:=by
 intro pins s σ H x y v u Q I rx ry h
 obtain ⟨l,k,xs,rfl,rfl,hH,h1,h2,hz,q⟩:=h
 cases rx
 obtain ⟨t,rfl⟩:=ry
 obtain ⟨z,its,n,r,hl,e⟩:=I.w5 hH
 have hlen:its.toArray.size * k.toNat <= sizeLine:=by rw [List.size_toArray,← hl];exact hz
 have hcap:¬ its.toArray.size * k.toNat > (2 ^ 63 - 1) / 8:=by
  have:(sizeLine:Nat) <= (2 ^ 63 - 1) / 8:=by decide
  omega
 have hfit:¬ (!Builtin.List.listFitsIndex k) = true:=by
  rw [fitsIndex_both h1 h2]
  exact Bool.false_ne_true
 have hlong:¬ Builtin.List.listTooLong (its.toArray.size * k.toNat) = true:=by
  rw [vD hlen]
  exact Bool.false_ne_true
 have hnew:List.foldl (λx1 x2=>x1 ++ x2) #[] (List.replicate (if its.toArray.isEmpty = true then 0 else k.toNat) its.toArray) = (List.replicate k.toNat its).flatten.toArray:=by
  have f0:∀ m:Nat,List.foldl (λx1 x2=>x1 ++ x2) #[] (List.replicate m its.toArray) = (List.replicate m its).flatten.toArray:=λm=>by
   have:=foldl_rep its m []
   rw [List.nil_append] at this
   exact this
  rw [f0]
  cases its with
  | nil=>simp
  | cons a r'=>rw [if_neg (by simp)]
 refine wpAny_binaryOp_repeat_ref (T:="list") (U:="int") (by decide) ⟨_,e,rfl⟩ (λs'=>typeIs_int s' k t) noFill_list_mul F.fills_int_mul F.slot_int_rmul repeat_list F.slot_int_index.lookup
  (call_meets F.slot_int_rmul (typeIs_int s k t) F.entry_int_rmul (F.args_int_rmul_2 _ _) (int___rmul___int_list k t l its.toArray n)
   ⟨e,rfl,⟨_,e,rfl⟩,call_meets F.slot_list_mul ⟨_,e,rfl⟩ F.entry_list_mul (F.args_list_mul_2 _ _) (AutoListH.list___mul___list_int_3 l its.toArray n k t hfit hcap hlong) ⟨e,?_⟩⟩)
 rw [hnew]
 exact ⟨.ref _,_,I.Cq (t':=s.toks) (r.rep k.toNat) (by rw [len_rep,Nat.mul_comm];exact hz),rfl,q _ I.fresh⟩
end
section
variable {prog:Program} {w:World} {A:Around} {E:Value -> Shared -> Prop} {s:Shared}
set_option maxRecDepth 100000 in
end
section
variable {X:Cx}
end
end L2
namespace Att
open PySem PySem.W PySem.Calls PyProof.Rows
theorem mQ {P:Params} {h:Heap}:∀ (ns:List Int) (vs:List Value),WellAll P h vs (ns.map WData.int) -> IntsAre vs ns:=by
 intro ns
 induction ns with
 | nil =>
  intro vs w
  rw [List.map_nil] at w
  cases w
  exact .nil
 | cons n ns ih =>
  intro vs w
  rw [List.map_cons] at w
  cases w with
  | cons a b =>
   cases a
   exact .cons _ _ (ih _ b)
theorem Ax {l:OpenLaw} {n:Nat} (hn:l.most = some n) {P:Params} {h:Heap} {args:List WData} {vals:List Value}
  (hpre:l.row.toRowW.claim.pre args = true) (hwl:WellAll P h vals args) :
  ∃ a vs ns,vals = [Value.ref a] /\ args = [WData.list (ns.map WData.int)] /\ h.get? a = some { cls:=.type "list",data:=.seq vs.toArray } /\ IntsAre vs ns /\ ns.length <= n:=by
 have hsh:WShape.hasAll [] args [.list .int] = true:=(pre_splitW hpre).1
 have hc:l.pre.holds [] { args:=args } = true:=(pre_splitW hpre).2
 obtain ⟨d,r,rfl,h1,h2⟩:=hasAllW_cons hsh
 obtain rfl:=hasAllW_nil h2
 obtain ⟨xs,rfl,h3⟩:=hasW_list h1
 obtain ⟨ns,rfl⟩:=items_int h3
 have hlen:ns.length <= n:=by
  unfold OpenLaw.pre at hc
  have h4:(WTm.not (.lt (.lit (.int (n:Int))) (.len (.arg 0)))).holds [] { args:=[.list (ns.map .int)] } = true:=by
   have h4:=(holds_andW hc).1
   rw [hn] at h4
   exact h4
  have h5:=condW_of h4 (w_not (w_lt w_lit (w_len_list (w_arg rfl))))
  rw [List.length_map] at h5
  refine Nat.le_of_not_lt λq=>?_
  have q':(n:Int) < ((ns.length:Nat):Int):=by omega
  first
   | (rw [decide_eq_true q'] at h5;exact absurd h5 (by decide))
   | (simp at h5;omega)
 cases hwl with
 | cons w1 w2 =>
  cases w2
  cases w1 with
  | list ho hall=>exact ⟨_,_,ns,rfl,rfl,ho,mQ ns _ hall,hlen⟩
theorem zJ (l:OpenLaw) (args:List WData):l.row.toRowW.claim.post args (.bool true) args = true :=
 postW_of (r:=l.row.toRowW) (X:=(true == true))
  (show WShape.has [] (.bool true) .bool = true by first | rfl | decide | simp [WShape.has,WShape.arms,WShape.armsAll])
  (show (WTm.eq .res (.lit (.bool true))).value [] { args:=args,res:=some (.bool true),after:=args } = some (.bool (true == true)) from w_eq_bool (w_res rfl) w_lit) rfl
theorem tU {l:OpenLaw} {n:Nat} {q:Program} {loose:List Str} {XP:(Str -> Option Value) -> Heap -> Prop} {YP:World -> Heap -> Prop} {d:DefRec}
  (hn:l.most = some n) (hdf:d.params.defaults = [])
  (call:∀ (w:World) (s₀ s₁:Shared) (mg mb:Str -> Option Value) (fa:Addr) (o:Obj) (pm cd doc:Value) (a:Addr) (vs:List Value) (ns:List Int),
   Ground q loose [] XP w s₀ mg mb s₁.heap -> YP w s₁.heap ->
   s₁.heap.get? fa = some o -> o.data = .func (docDef d.name d.params d.body d.scope pm cd doc) -> s₁.heap.CodeRec cd d.name -> mg d.name = some (.ref fa) ->
   s₁.heap.get? a = some { cls:=.type "list",data:=.seq vs.toArray } -> IntsAre vs ns -> ns.length <= n -> s₁.gens = #[] ->
   codeAny (model l.prog w) callerA (.call (.ref fa) ⟨[.ref a],[]⟩) (λr s'=>r = .ok (.ret (.bool true)) /\ OldK s₁.heap s'.heap /\ s'.os = s₁.os /\ AllBare s'.gens) s₁) :
  WalkO q loose XP YP l.row.toRowW d [] (λf vs=>PySem.call f vs):=by
 intro w s₀ s₁ mg mb G Y fa o pm cd doc dV kV ho hd hcd hD hmg hg args vals as hpre hlay hrd hwl hlo
 obtain rfl:dV = .none:=Dflts.none hD hdf
 obtain rfl:kV = .none:=Dflts.noKw hD
 obtain ⟨a,vs,ns,rfl,rfl,hobj,hints,hlen⟩:=Ax hn hpre hwl
 refine enter_call (codeAny_mono (call w s₀ s₁ mg mb fa o pm cd doc a vs ns G Y ho (fd_plain hd) hcd hmg hobj hints hlen hg) λr s' hq=>?_)
 obtain ⟨rfl,h2,h3,h4⟩:=hq
 exact ⟨.inl ⟨.bool true,.bool true,[],rfl,λ_=>rfl,.bool true,zJ l _,λ_=>⟨List.Pairwise.nil,λ_ hm=>(nomatch hm)⟩⟩,h2,h3,h4⟩
section
variable {prog:Program} {w:World} {A:Around} {E:Value -> Shared -> Prop} {s:Shared} {K:Frag}
end
end Att
namespace L2
open PySem PySem.Spec PyProof.Rows
theorem qL:∀ {vs:List Value} {ns:List Int},IntsAre vs ns -> Vals (ns.map V.int) vs
 | _,_,.nil=>.nil
 | _,_,.cons n t h=>.cons ⟨t,rfl⟩ (qL h)
def Jr (H:Hp):Prop:=∀ b,H b = none ∨ ∃ o xs,H b = some (.D9 o (.lst xs))
theorem BF {P:Program} {w:World} {K:PySem.W.Frag} {mg mb:Str -> Option Value} {CX:wX} {k:Nat} {fa a:Addr} {fd:FuncData} {x:Str} {sp:Sp} {s₁:Shared} {vs:List Value} {ns:List Int}
  (KX:K.In s₁.heap) (hns:s₁.heap.Ns mainGlobals mg) (hb:s₁.heap.Ns builtinsNs mb) (hbb:∀ x:Str,x ≠ "__name__" -> mb x = bootBuiltins x) (hlim:s₁.heap.NoLimit) (hg:s₁.gens = #[])
  (ha:s₁.heap.get? a = some { cls:=.type "list",data:=.seq vs.toArray }) (hi:IntsAre vs ns) (hl:ns.length <= sizeLine) (hr:fT k callerA)
  (F:∀ base:Heap,K.In base -> base.Ns mainGlobals mg -> bC P w K mg base CX k fa fd [x] sp) (hbind:∀ (s:Shared) (u:Value),BindsTo s fd ⟨[u],[]⟩ [(x,u)])
  (hsp:∀ H:Hp,Jr H -> bu K H a (ns.map V.int) -> sp [.ref a] H (λv _=>v = .bl true) λ_ _ _=>False)
  (hCX:∀ H e s',CX [] H s₁ (λ_ _ _=>False) e s' -> False) :
  codeAny (model P w) callerA (.call (.ref fa) ⟨[.ref a],[]⟩) (λr s'=>r = .ok (.ret (.bool true)) /\ OldK s₁.heap s'.heap /\ s'.os = s₁.os /\ AllBare s'.gens) s₁:=by
 have rv:=qL hi
 have lenV:=hi.length
 have core:∀ H:Hp,Jr H -> bu K H a (ns.map V.int) -> jQ P w H s₁.heap -> (∀ b,H b ≠ none -> b = a) -> (H a ≠ none -> K.lookup a = none) ->
   codeAny (model P w) callerA (.call (.ref fa) ⟨[.ref a],[]⟩) (λr s'=>r = .ok (.ret (.bool true)) /\ OldK s₁.heap s'.heap /\ s'.os = s₁.os /\ AllBare s'.gens) s₁:=by
  intro H hO hS hok hA hK
  have base_of:∀ {b:Addr} {o:Obj},s₁.heap.get? b = some o -> H b = none -> (rT s₁.heap H).get? b = some o:=λe n=>Du e n
  have noA:∀ {b:Addr} {o:Obj} {es:Array DictEntry} {ep:Nat},s₁.heap.get? b = some o -> o.data = .dict es ep -> H b = none:=λ{b o es ep} e d=>by
   cases q:H b with
   | none=>rfl
   | some u =>
    have e':b = a:=hA b (by rw [q];simp)
    subst e'
    rw [ha] at e;cases e
    have d':Data.seq vs.toArray _ = Data.dict es ep:=d
    cases d'
  have nsK:∀ {b:Addr} {m:Str -> Option Value},s₁.heap.Ns b m -> (rT s₁.heap H).Ns b m:=λ{b m} ⟨o,es,ep,e,d,r⟩=>⟨o,es,ep,base_of e (noA e d),d,r⟩
  have hKb:K.In (rT s₁.heap H):=λb o e=>base_of (KX b o e) (by
   cases q:H b with
   | none=>rfl
   | some u =>
    have e':b = a:=hA b (by rw [q];simp)
    subst e'
    rw [hK (by rw [q];simp)] at e;cases e)
  have hM:Mod K mg (rT s₁.heap H):=⟨hKb,nsK hns,⟨mb,nsK hb,hbb⟩,let ⟨mc,h1,h2⟩:=hlim;⟨mc,nsK h1,h2⟩⟩
  have e0:xm P w K mg (rT s₁.heap H) callerA [] s₁ H:=⟨rfl,hM,λb o e=>ED e,Nat.le_of_eq (zX _ _),trivial,λb hb=>absurd (show b ∈ ([]:List Addr) from hb) (by simp),hok,.of_eq hg⟩
  refine codeAny_mono ((F _ hKb (nsK hns)).run callerA [] s₁ H ⟨[.ref a],[]⟩ [.ref a] [.ref a] _ _ hr e0 (hbind s₁ (.ref a)) (.cons rfl .nil) (hsp H hO hS)) λr s' h=>?_
  cases r with
  | error e=>exact (hCX H e s' h).elim
  | ok fl =>
   cases fl with
   | next=>exact False.elim h
   | brk=>exact False.elim h
   | cont=>exact False.elim h
   | ret u =>
    obtain ⟨v,H',os,bare,un,hok',r',q⟩:=h
    have q':v = .bl true:=q
    subst q'
    obtain rfl:u = Value.bool true:=r'
    refine ⟨rfl,OldK.of_keep λb o e=>?_,os,bare⟩
    cases q:H b with
    | none=>exact un.keep b o e q (by intro z;exact absurd (show b ∈ ([]:List Addr) from z) (by simp)) (by simp)
    | some u =>
     rcases hO b with z | ⟨ob,xs,z⟩
     ·rw [q] at z;cases z
     ·have z2:=un.qi b ob _ z
      obtain ⟨e1,_⟩:=hok b _ z
      obtain ⟨e2,_⟩:=hok' b _ z2
      rw [e] at e1;cases e1
      exact e2
 cases hk:K.lookup a with
 | some o =>
  have e:=KX a o hk
  rw [ha] at e
  cases e
  refine core (λ_=>none) (λ_=>.inl rfl) (.inr ⟨_,vs.toArray,_,hk,rfl,rfl,rfl,by rw [List.size_toArray,lenV];exact hl,by simpa using rv⟩) (λb u z=>by have z':(none:Option HO) = some u:=z;cases z') (λb z=>absurd rfl z) λz=>absurd rfl z
 | none =>
  refine core (λb=>if b = a then some (.D9 { cls:=.type "list",data:=.seq vs.toArray } (.lst (ns.map V.int))) else none) (λb=>?_) (.inl (.inr ⟨{ cls:=.type "list",data:=.seq vs.toArray },if_pos rfl⟩)) (λb u z=>?_) (λb z=>?_) λ_=>hk
  ·by_cases hb:b = a
   ·exact .inr ⟨_,_,if_pos hb⟩
   ·exact .inl (if_neg hb)
  ·by_cases hb:b = a
   ·have z':=(if_pos hb).symm.trans z
    cases z'
    subst hb
    exact ⟨ha,by rw [List.length_map];exact hl,vs,_,rv,ha⟩
   ·have z':=(if_neg hb).symm.trans z
    cases z'
  ·by_cases hb:b = a
   ·exact hb
   ·exact absurd (if_neg hb) z
end L2
namespace L2
open PySem PySem.Spec PyProof.Rows
theorem EV {l:PySem.W.OpenLaw} {n k:Nat} {q:Program} {loose:List Str} {XP:(Str -> Option Value) -> Heap -> Prop} {YP:World -> Heap -> Prop} {d:DefRec} {K:Params -> PySem.W.Frag} {CX:World -> wX} {sp:World -> Sp} {x:Str}
  (hn:l.most = some n) (hn2:n <= sizeLine) (hdf:d.params.defaults = []) (hr:fT k callerA)
  (hY:∀ (w:World) (h:Heap),YP w h -> (K w.params).In h)
  (F:∀ (w:World) (mg:Str -> Option Value) (fa:Addr) (h:Heap),(K w.params).In h -> h.Ns mainGlobals mg -> mg d.name = some (.ref fa) ->
   ∃ fd:FuncData,(∀ (s:Shared) (u:Value),BindsTo s fd ⟨[u],[]⟩ [(x,u)]) /\
    ∀ base:Heap,(K w.params).In base -> base.Ns mainGlobals mg -> bC l.prog w (K w.params) mg base (CX w) k fa fd [x] (sp w))
  (hsp:∀ (w:World) (H:Hp) (a:Addr) (ns:List Int),ns.length <= n -> Jr H -> bu (K w.params) H a (ns.map V.int) -> sp w [.ref a] H (λv _=>v = .bl true) λ_ _ _=>False)
  (hCX:∀ (w:World) (H:Hp) (s:Shared) (e:Value) (s':Shared),CX w [] H s (λ_ _ _=>False) e s' -> False) :
  PySem.W.WalkO q loose XP YP l.row.toRowW d [] (λf vs=>PySem.call f vs):=by
 refine Att.tU hn hdf λw s₀ s₁ mg mb fa o pm cd doc a vs ns G Y ho hd hcd hmg hobj hints hlen hg=>?_
 have KX:=hY w _ Y
 obtain ⟨fd,hb,hF⟩:=F w mg fa _ KX G.T.g hmg
 exact BF KX G.T.g G.T.b G.T.builtins G.T.nolimit hg hobj hints (Nat.le_trans hlen hn2) hr hF hb (λH hO hS=>hsp w H a ns hlen hO hS) λH e s'=>hCX w H s₁ e s'
end L2
namespace L2
open PySem PySem.Spec PyProof.Rows
def inClass (s:Stmt) (j:Nat):Stmt:=match s with
 | .ClassDef _ _ _ body _ _ _ _ _ _ _=>body.getD j (.Pass ⟨0,0,0,0⟩)
 | _=>.Pass ⟨0,0,0,0⟩
def mZ (s:Stmt):Arguments:=match s with
 | .FunctionDef _ a _ _ _ _ _ _ _ _=>a
 | _=>{ posonlyargs:=[],args:=[],vararg:=none,kwonlyargs:=[],kw_defaults:=[],kwarg:=none,defaults:=[] }
def kH (s:Stmt):List Stmt:=match s with
 | .FunctionDef _ _ b _ _ _ _ _ _ _=>b
 | _=>[]
def ay (s:Stmt):Scope:=match s with
 | .FunctionDef _ _ _ _ _ _ sc _ _ _=>sc
 | _=>{ kind:=.function,names:=[],isGenerator:=false,isCoroutine:=false }
abbrev dh:wX:=λ_ _ _ _ _ _=>False
abbrev E0:XK:=λ_ _ _=>False
theorem aH {X:Cx}:Passes dh X E0:=λ_ _ _ _ _ _ _ h=>h.elim
structure bI (K:PySem.W.Frag) (x qual:Str) (st:Stmt) (f:Addr) (fd:FuncData):Prop where
 ex:∃ (oc:Value) (od:Option Addr) (kV doc pm:Value) (an:Option Addr) (cdv ct:Value) (osl:Array (Option Value)),
  fd = PySem.W.fnOf x qual (mZ st) (kH st) (ay st) .none kV doc pm an cdv ct /\ K.lookup f = some ⟨oc,od,.func fd,osl⟩ /\ PySem.W.codeIn K cdv qual = true
 kp:PySem.W.keepIn K (.ref f) = true
section
variable {P:Program} {w:World} {K:PySem.W.Frag} {mg:Str -> Option Value} {base:Heap}
theorem bI.ok {x qual:Str} {st:Stmt} {f:Addr} {fd:FuncData} {N ps:List Str} {k:Nat} {sp:Sp} (F:bI K x qual st f fd) (S:aD N ps (ay st)) (len:∀ vs H Q E,sp vs H Q E -> vs.length = ps.length)
  (hbody:∀ (cdv:Value) (A:Around) (outer:List Env) (s:Shared) (H:Hp) (vs:List V) (Q:VK) (E:XK),fT k (A.deeper (envOfC qual (ay st) s.heap.objs.size f cdv)) -> sp vs H Q E ->
   ∃ t,xM (xX dh P w K mg base N qual (ay st) f cdv A outer s H E).LL (kH st) t /\ t { nx:=λ_ H'=>Q .cK H',rt:=Q } (start N vs) H):bC P w K mg base dh (k + 1) f fd ps sp:=by
 obtain ⟨oc,od,kV,doc,pm,an,cdv,ct,osl,rfl,lk,hcd⟩:=F.ex
 refine Kf lk hcd S len λA outer s H vs Q E hr hsp=>?_
 obtain ⟨t,h,q⟩:=hbody cdv A outer s H vs Q E hr hsp
 exact ⟨t,h.LL,q⟩
theorem bI.binds {x qual:Str} {st:Stmt} {f:Addr} {fd:FuncData} {ps:List Str} (F:bI K x qual st f fd)
  (h:∀ (kV doc pm:Value) (an:Option Addr) (cdv ct:Value) (us:List Value),us.length = ps.length -> bindArgs (PySem.W.fnOf x qual (mZ st) (kH st) (ay st) .none kV doc pm an cdv ct) ⟨us,[]⟩ = pure (ps.zip us)):Binds K fd ps []:=by
 obtain ⟨oc,od,kV,doc,pm,an,cdv,ct,osl,rfl,lk,hcd⟩:=F.ex
 exact .all (h kV doc pm an cdv ct)
theorem IC {x qual:Str} {st:Stmt} {f:Addr} {oc:Value} {od an:Option Addr} {osl:Array (Option Value)} {kV doc pm cdv ct:Value} (l:K.lookup f = some ⟨oc,od,.func (PySem.W.fnOf x qual (mZ st) (kH st) (ay st) .none kV doc pm an cdv ct),osl⟩)
  (c:PySem.W.codeIn K cdv qual = true) (k:PySem.W.keepIn K (.ref f) = true):bI K x qual st f (PySem.W.fnOf x qual (mZ st) (kH st) (ay st) .none kV doc pm an cdv ct):=⟨⟨oc,od,kV,doc,pm,an,cdv,ct,osl,rfl,l,c⟩,k⟩
end
theorem mD {A:Around} {k:Nat} (hr:fT k A):A.units + 1 < cLine:=Nat.lt_of_le_of_lt (Nat.add_le_add_left (by decide:1 <= 64) _) hr.units
section
variable {X:Cx}
theorem pv (i:Nat) {x:Str} {pos:Pos} (hN:X.N[i]? = some x:=by rfl) (hv:LO X.env.scope x:=by first | exact Or.inl rfl | exact Or.inr (Or.inl rfl) | exact Or.inr (Or.inr rfl)) (hd:(x == ("__debug__" : Str)) = false:=by decide)
  (hcd:(x == ("__classdict__" : Str)) = false:=by decide):PE X (.Name x pos) (Fz i):=HL hN hv hd hcd
end
theorem rR {A B:Prop} (h:B):if false = true then A else B:=by
 rw [if_neg Bool.false_ne_true]
 exact h
theorem Ep {A B:Prop} (h:A):if true = true then A else B:=by
 rw [if_pos rfl]
 exact h
def ak (H H':Hp):Prop:=∀ b o,H b = some o -> H' b = some o
theorem ak.refl (H:Hp):ak H H:=λ_ _ h=>h
theorem ak.trans {H H1 H2:Hp} (a:ak H H1) (b:ak H1 H2):ak H H2:=λc o h=>b c o (a c o h)
theorem ak.free {H H':Hp} (e:ak H H') {l:Addr} (h:H' l = Option.none):H l = Option.none:=by
 cases q:H l with
 | none=>rfl
 | some o =>
  rw [e l o q] at h
  cases h
theorem ak.seq {K:PySem.W.Frag} {H H':Hp} {a:Addr} {xs:List V} (e:ak H H') (h:bu K H a xs):bu K H' a xs:=by
 rcases h with (h | ⟨o,h⟩) | h
 ·exact .inl (.inl (e _ _ h))
 ·exact .inl (.inr ⟨o,e _ _ h⟩)
 ·exact .inr h
end L2
set_option maxHeartbeats 4000000
namespace PySem.W.Fast
def tw9973229773186630635:=0
def tw16656607401977585425:=0
def tw14321619416384113046:=0
def tw17028019639105429780:=0
def tw3262875384621334775:=0
def tw7245884011065544674:=0
def tw8506663150537582949:=0
def tw642806838157090133:=0
def tw16483259125971906619:=0
def tw6717925530103555136:=0
def tw5939417041920715682:=0
def tw5649686173051508503:=0
def tw2815066583415315080:=0
def tw7842573865641271186:=0
def tw1300900117500240247:=0
def tw4366458452515230098:=0
def tw7813755361259170401:=0
def tw2075771602383456234:=0
def tw12301560014447598025:=0
def tw14788359911251042285:=0
def tw10057689916453302745:=0
def tw8717472164634874533:=0
def tw8321954393970732825:=0
def tw6669911222829998136:=0
def tw5089986607944531369:=0
def tw15845743946130644282:=0
def tw15433531180156867826:=0
def tw307433636559214263:=0
def tw8064039362402987277:=0
def tw2901626000326096462:=0
def tw12583004473173575150:=0
def tw16001459879225786537:=0
def tw9071151014530177853:=0
def tw4485632113762119582:=0
def tw9873491549859536775:=0
def tw9145749818514919893:=0
def tw8616537914002601756:=0
def tw13830384934560972621:=0
def tw10956907880593139028:=0
def tw4843339408274792654:=0
def tw3261539889393319987:=0
def tw2958428760168754068:=0
def tw10764782090542798231:=0
def tw10461355330880049943:=0
def tw4017235395645014597:=0
def tw8298422578875085452:=0
def tw2636185743828269320:=0
def tw13935659880339684385:=0
def tw8638387154602654428:=0
def tw4555807146408300890:=0
def tw18175649567292361840:=0
def tw12605409876013094775:=0
def tw8789517068258833064:=0
def tw15508794343056739746:=0
def tw12581745447326745539:=0
def tw12586129314458551789:=0
def tw14960217895793202288:=0
def tw10912138053584145653:=0
def tw16977444358051721825:=0
def tw5378720111122024835:=0
def tw16871960049545311748:=0
def tw14467534724255882683:=0
def tw3605250970660473640:=0
def tw2149603766931368802:=0
def tw1177075678533957841:=0
def tw11322178574334788:=0
def tw2367067197605614259:=0
def tw6691310155335713010:=0
def tw3295187584578929532:=0
def tw1241556150376921396:=0
def tw15105286656050735460:=0
def tw11746288671200564052:=0
def tw5339651185021964689:=0
def tw14983545774235207982:=0
def tw14684523257682277474:=0
def tw12068454921212874962:=0
def tw4266588257125808694:=0
def tw10157764775580291618:=0
def tw14732308664297486820:=0
def tw9812573473000329808:=0
def tw3303960102193588286:=0
def tw17721122127448504980:=0
def tw14645113804562726044:=0
def tw3058866901443912730:=0
def tw5452486748931962585:=0
def tw2550079439990604318:=0
def tw17140307377202482290:=0
def tw6271110458834052860:=0
def tw12844280877312081895:=0
def tw3679311112552073847:=0
def tw1539460104598272543:=0
def tw8383591483225060609:=0
def tw8123717663794777037:=0
def tw14863657398892752141:=0
def tw609747700555065352:=0
def tw9718215204418616573:=0
def tw7292978939116711590:=0
def tw8678825556335637286:=0
def tw4522872979535538917:=0
def tw14557900568626587754:=0
def tw12156107491778907361:=0
def tw14540261077007339939:=0
def tw15300918187263031211:=0
def tw10142066439194477163:=0
def tw17912523927554030907:=0
def tw5832362147554471374:=0
def tw2366998565725075889:=0
def tw6956189044712262345:=0
def tw12805272355691774129:=0
def tw14716291839160531271:=0
def tw4033647506299293777:=0
def tw17188550575450358878:=0
def tw9526072034754938356:=0
def tw13099014870908774219:=0
def tw5668600719414050861:=0
def tw846693756921412409:=0
def tw6259659826035963009:=0
def tw598839991636373463:=0
def tw7379353104782032076:=0
def tw1950246681272485037:=0
def tw2182465064032733352:=0
def tw8380139969542307934:=0
def tw442236235247113868:=0
def tw6548465684281068388:=0
def tw4203288274144159526:=0
def tw10417759546703671617:=0
def tw7354992452626648805:=0
def tw7865700256509558860:=0
def tw3537621838997241176:=0
def tw14812625005949473321:=0
def tw18102066889887397218:=0
def tw12704359562490682098:=0
def tw5973392575203137506:=0
def tw10266274262699574687:=0
def tw14989479809278129980:=0
def tw4464367984032068367:=0
def tw8472098358824808745:=0
def tw10186558675457824605:=0
def tw15912487243918340298:=0
def tw4145003260430199883:=0
def tw8616228721684935985:=0
def tw3540729094925346551:=0
def tw3392432052346843691:=0
def tw14706249349674746633:=0
def tw7367933965047682452:=0
def tw3672455171274875890:=0
def tw5538694675999808045:=0
def tw13418624097811082754:=0
def tw2271126209265809307:=0
def tw8340896304034326423:=0
def tw11911627722225405366:=0
def tw5630582891381468640:=0
def tw84530305038790258:=0
def tw3438885842484110036:=0
def tw14133800343470438119:=0
def tw4748833207319513739:=0
def tw2895514974169480343:=0
def tw16016049387434179873:=0
def tw10393997646146514228:=0
def tw7164952763606350893:=0
def tw14282763919536360727:=0
def tw18205282668536568362:=0
def tw11028289329049739694:=0
def tw17121589448422848418:=0
def tw14663958341316485441:=0
def tw396203596781146597:=0
def tw2158752512498005684:=0
def tw238806771463909289:=0
def tw1450074927011377709:=0
def tw17337440311552359493:=0
def tw14894933036563235548:=0
def tw9424292022259431309:=0
def tw16988812505935307003:=0
def tw2197684141249914075:=0
def tw4527677558335667809:=0
def tw3886073505743764911:=0
def tw1539873372465304060:=0
def tw12485812593355878528:=0
def tw5002356038450510040:=0
def tw16013731156017486768:=0
def tw5224988661705785093:=0
def tw13757614496906105262:=0
def tw14256186392381329264:=0
def tw487961001228364297:=0
def tw1996946710652408186:=0
def tw16906624178130359350:=0
def tw3707062463835047511:=0
def tw8388924154125393339:=0
def tw1351512874501627636:=0
def tw13045573312489595097:=0
def tw3917020450886034026:=0
def tw5105694757314087373:=0
def tw10874283272289627938:=0
def tw14590518897617489074:=0
def tw15908330879664078025:=0
def tw17644189972713671522:=0
def tw8799883991886926836:=0
def tw130736036290245504:=0
def tw10455107867627827242:=0
def tw5585296904080670251:=0
def tw2983962472332093490:=0
def tw10502324916123225504:=0
def tw10366740437254398208:=0
def tw267700912836788709:=0
def tw3657353040297503582:=0
def tw8295390741209634646:=0
def tw6809051233134553459:=0
def tw10038782853034230393:=0
def tw406537707623271260:=0
def tw2155226812903518633:=0
def tw13842305121514576148:=0
def tw7987420475341064936:=0
def tw705760592193950464:=0
def tw3882040373115657491:=0
def tw2844230687049418756:=0
def tw6116823020099813767:=0
def tw13365677022048984762:=0
def tw9396971317121101948:=0
def tw9771774816869050675:=0
def tw754164734161369842:=0
def tw328879338255750666:=0
def tw17847306306810980063:=0
def tw4003707426339302784:=0
def tw2271172847989674273:=0
def tw1419902660774718422:=0
def tw7222853969812448851:=0
def tw11495917766131207319:=0
def tw12024619575717659256:=0
def tw16353657803002237193:=0
def tw12200654659159890733:=0
def tw4761741884994597906:=0
def tw1429357865925488435:=0
def tw4068700535397957812:=0
def tw3459966537246524476:=0
def tw15584555237871902812:=0
def tw5439805990263386328:=0
def tw7938664504815251017:=0
def tw2256488259212780999:=0
def tw14928104684738386987:=0
def tw9649222668686735107:=0
def tw10140585836152307531:=0
def tw1947517982383526794:=0
def tw4288077120650301006:=0
def tw16287834033427519270:=0
def tw14032190331508525916:=0
def tw16761180150367492651:=0
def tw9896101309059762567:=0
def tw7363975373011096694:=0
def tw9987210977631362604:=0
def tw12162983740668776506:=0
def tw5075825156412126770:=0
def tw15631232181497987744:=0
def tw12235123551882875525:=0
def tw10429898767248960647:=0
def tw15004848297482012767:=0
def tw3679746211454067442:=0
def tw9079252226781769442:=0
def tw17584485307395611606:=0
def tw14409263294441355723:=0
def tw1318393702489022375:=0
def tw18199003093964496107:=0
def tw219132491719781604:=0
def tw7886112440732946537:=0
def tw9126683418346857431:=0
def tw16741973858684279734:=0
def tw6183108546208348273:=0
end PySem.W.Fast
namespace L2
open PySem PySem.Spec PyProof.Rows
structure rF (sc csc:Scope) (N:List Str) (x:Str) (caps:List (Str × Nat)):Prop where
 cell:∀ p ∈ csc.names,p.2 ≠ .cell
 kind:csc.kind = .function
 loc:∀ p ∈ csc.names,p.2 = .local -> csc.names.lookup p.1 = some .local
 tg:csc.names.lookup x = some .local
 free:∀ p ∈ csc.names,p.2 = .free -> sc.names.lookup p.1 = some .cell
 cap:∀ p ∈ caps,N[p.2]? = some p.1 /\ csc.names.lookup p.1 = some .free
 nd:(caps.map (·.1) ++ [x]).Nodup
def eT (env:Env):List (Str × NameKind) -> List (Str × Addr) -> List (Str × Addr)
 | [],cs=>cs
 | (n,k) :: r,cs=>eT env r (if k == .free then (n,(env.cells.lookup n).getD 0) :: cs else cs)
theorem jr {env:Env} {sc:Scope} (h:∀ p ∈ sc.names,p.2 = .free -> ∃ c,env.cells.lookup p.1 = some c):closureFor sc env = pure (eT env sc.names []):=by
 obtain ⟨kind,names,g,c⟩:=sc
 simp only [closureFor]
 have aux:∀ (l:List (Str × NameKind)) (cs:List (Str × Addr)),(∀ p ∈ l,p.2 = .free -> ∃ c,env.cells.lookup p.1 = some c) ->
   (forIn l cs (λ(x:Str × NameKind) (r:List (Str × Addr))=>if (x.2 == NameKind.free) = true then (do let a ← cellOf env x.1;pure (ForInStep.yield ((x.1,a) :: r))) else pure (ForInStep.yield r)):Sem (List (Str × Addr))) = pure (eT env l cs):=by
  intro l
  induction l with
  | nil=>intro cs _;rfl
  | cons p r ih =>
   intro cs hp
   obtain ⟨n,k⟩:=p
   rw [List.forIn_cons]
   have ih':=λcs=>ih cs (λq hq=>hp q (List.mem_cons_of_mem _ hq))
   by_cases hk:(k == NameKind.free) = true
   ·obtain ⟨c,e⟩:=hp (n,k) List.mem_cons_self (by simpa using hk)
    simp only [hk,if_true,cellOf,e,eT,pure_bind,Option.getD_some]
    exact ih' _
   ·have hk':(k == NameKind.free) = false:=by simpa using hk
    simp only [hk',if_false,eT,pure_bind,Bool.false_eq_true]
    exact ih' _
 have:=aux names [] h
 first
  | (rw [this];rfl)
  | (simp only [bind_pure];exact this)
  | (refine Eq.trans (bind_pure _) this)
theorem gq {env:Env}:∀ (l:List (Str × NameKind)) (cs:List (Str × Addr)),(∀ p ∈ l,p.2 = .free -> ∃ c,env.cells.lookup p.1 = some c) -> (∀ y c,cs.lookup y = some c -> env.cells.lookup y = some c) ->
  ∀ y c,(eT env l cs).lookup y = some c -> env.cells.lookup y = some c
 | [],_,_,h2=>h2
 | (n,k) :: r,cs,h1,h2=>by
  unfold eT
  refine gq r _ (λq hq=>h1 q (List.mem_cons_of_mem _ hq)) ?_
  by_cases hk:(k == NameKind.free) = true
  ·obtain ⟨c,e⟩:=h1 (n,k) List.mem_cons_self (by simpa using hk)
   rw [if_pos hk]
   intro y c' h
   rw [e] at h
   rw [List.lookup_cons] at h
   cases hy:y == n with
   | true=>rw [hy] at h;simp at h;rw [eq_of_beq hy,← h];exact e
   | false=>rw [hy] at h;exact h2 y c' h
  ·rw [if_neg hk];exact h2
theorem jN {env:Env}:∀ (l:List (Str × NameKind)) (cs:List (Str × Addr)) (y:Str),((y,NameKind.free) ∈ l ∨ ∃ c,cs.lookup y = some c) -> ∃ c,(eT env l cs).lookup y = some c
 | [],_,_,h=>by
  rcases h with h | h
  ·cases h
  ·exact h
 | (n,k) :: r,cs,y,h=>by
  unfold eT
  refine jN r _ y ?_
  by_cases hk:(k == NameKind.free) = true
  ·rw [if_pos hk]
   by_cases hy:(y == n) = true
   ·exact .inr ⟨_,by rw [List.lookup_cons,hy]⟩
   ·have hy':(y == n) = false:=by simpa using hy
    rcases h with h | ⟨c,h⟩
    ·rcases List.mem_cons.mp h with z | z
     ·cases z;simp at hy
     ·exact .inl z
    ·exact .inr ⟨c,by rw [List.lookup_cons,hy'];exact h⟩
  ·rw [if_neg hk]
   rcases h with h | h
   ·rcases List.mem_cons.mp h with z | z
    ·cases z;simp at hk
    ·exact .inl z
   ·exact .inr h
abbrev dB (X:Cx) (N':List Str) (csc:Scope) (C:Addr) (s2:Shared) (H2:Hp) (fp:List Addr):Cx :=
 { X with N:=N',s₀:=s2,H₀:=H2,env:=compEnvC csc (eT X.env csc.names []) C X.env,outer:=X.stack,ex:=fp,fn:=λ_=>false,pn:=[],xe:=λ_ _=>False }
def jF (caps:List (Str × Nat)) (σ:St):St:=caps.map λp=>(σ[p.2]?).join
def zk (J:It) (caps:List (Str × Nat)) (te:TE) (σ:St) (H1:Hp) (Q:VK):Prop:=∃ W:Nat -> Nat -> List V -> Hp -> Prop,(∃ m,W 0 m [] H1) /\ ∀ i m ys H,W i m ys H ->
 (J.stop i H /\ ∀ D,H D = none -> Q (.ref D) (upd H D (.lst ys))) ∨ (J.go i H /\ ys.length < sizeLine /\ ∀ x H',J.J3 i H x H' -> te (jF caps σ ++ [some x]) H' λy H2=>∃ m',m' < m /\ W (i + 1) m' (ys ++ [y]) H2)
def BW (caps:List (Str × Nat)) (wi:TI) (te:TE):TE:=λσ H Q=>wi σ H λJ H1=>zk J caps te σ H1 Q
theorem iT {env:Env} (hk:env.scope.kind = .function):∀ {names:List (Str × NameKind)} {x:Str},(∀ p ∈ names,p.2 = .free -> env.kindOf p.1 = some .cell) -> names.lookup x = some .free ->
  (names.map λ(n,k)=>if (k == NameKind.free && env.scope.kind == .function && env.kindOf n == some .cell) then (n,NameKind.cell) else (n,k)).lookup x = some .cell
 | [],_,_,h=>by simp at h
 | (n,k) :: r,x,hf,h=>by
  have ih:=@iT env hk r x (λp hp=>hf p (List.mem_cons_of_mem _ hp))
  show List.lookup x ((if (k == NameKind.free && env.scope.kind == .function && env.kindOf n == some .cell) = true then (n,NameKind.cell) else (n,k)) :: _) = _
  cases hx:x == n with
  | true =>
   simp only [List.lookup_cons,hx] at h
   cases h
   have:=hf (n,.free) List.mem_cons_self rfl
   have hk':(env.scope.kind == ScopeKind.function) = true:=by rw [hk];rfl
   simp [List.lookup_cons,hx,this,hk']
  | false =>
   simp only [List.lookup_cons,hx] at h
   by_cases hc:(k == NameKind.free && env.scope.kind == .function && env.kindOf n == some .cell) = true
   ·rw [if_pos hc];simp only [List.lookup_cons,hx];exact ih h
   ·rw [if_neg hc];simp only [List.lookup_cons,hx];exact ih h
theorem eS {env:Env}:∀ {names:List (Str × NameKind)} {x:Str} {k':NameKind},
  (names.map λ(n,k)=>if (k == NameKind.free && env.scope.kind == .function && env.kindOf n == some .cell) then (n,NameKind.cell) else (n,k)).lookup x = some k' -> (k' = .cell ∨ k' = .free) -> (∀ p ∈ names,p.2 ≠ .cell) -> (x,NameKind.free) ∈ names
 | [],_,_,h,_,_=>by simp at h
 | (n,k) :: r,x,k',h,hk,hn=>by
  have ih:=@eS env r x k'
  have h:List.lookup x ((if (k == NameKind.free && env.scope.kind == .function && env.kindOf n == some .cell) = true then (n,NameKind.cell) else (n,k)) :: (r.map λ(n,k)=>if (k == NameKind.free && env.scope.kind == .function && env.kindOf n == some .cell) then (n,NameKind.cell) else (n,k))) = some k':=h
  cases hx:x == n with
  | true =>
   have e:x = n:=eq_of_beq hx
   subst e
   by_cases hc:(k == NameKind.free && env.scope.kind == .function && env.kindOf x == some .cell) = true
   ·have:k = .free:=by
     simp only [Bool.and_eq_true] at hc
     simpa using hc.1.1
    subst this
    exact List.mem_cons_self
   ·rw [if_neg hc] at h
    simp only [List.lookup_cons,hx] at h
    cases h
    rcases hk with z | z
    ·exact absurd z (hn _ List.mem_cons_self)
    ·subst z;exact List.mem_cons_self
  | false =>
   refine List.mem_cons_of_mem _ (ih ?_ hk λp hp=>hn p (List.mem_cons_of_mem _ hp))
   by_cases hc:(k == NameKind.free && env.scope.kind == .function && env.kindOf n == some .cell) = true
   ·rw [if_pos hc] at h;simp only [List.lookup_cons,hx] at h;exact h
   ·rw [if_neg hc] at h;simp only [List.lookup_cons,hx] at h;exact h
section
variable {X:Cx} {pins:List (Addr × Obj)} {σ:St} {H:Hp} {s:Shared}
theorem fU (caps:List (Str × Nat)) (σ:St):(jF caps σ).length = caps.length:=by simp [jF]
theorem oZ {csc:Scope} {x:Str} {caps:List (Str × Nat)} {fp:List Addr} {h4:Heap} {t4:Nat} {C:Addr} {m0:Str -> Option Value} (I:Inv X pins σ H s) (ck:rF X.env.scope csc X.N x caps) (hf:∀ b ∈ fp,qg X pins H b)
  (hfs:∀ b ∈ fp,b < s.heap.objs.size) (hC:s.heap.objs.size <= C) (hk:∀ b o,s.heap.get? b = some o -> h4.get? b = some o) (hn:h4.Ns C m0) :
  Inv (dB X (caps.map (·.1) ++ [x]) csc C s H fp) [] (jF caps σ ++ [none]) H { s with heap:=h4,toks:=t4 }:=by
 have cellsOk:∀ p ∈ csc.names,p.2 = .free -> ∃ c,X.env.cells.lookup p.1 = some c:=λp hp e=>I.ok.has p.1 (.inl (ck.free p hp e))
 have inX:∀ y c,(eT X.env csc.names []).lookup y = some c -> X.env.cells.lookup y = some c:=gq _ _ cellsOk (λy c h=>by simp at h)
 have kf:∀ p ∈ csc.names,p.2 = .free -> X.env.kindOf p.1 = some .cell:=ck.free
 refine ⟨⟨I.ok.mod,ck.kind,I.ok.glob,I.ok.blt,hC,λy z c h1 h2=>I.ok.inj y z c (inX y c h1) (inX z c h2),λy hy=>?_,λy c h=>(nomatch h),I.ok.hd,I.ok.frames,.inl rfl,λb hb=>⟨?_,λy c h=>?_⟩,?_,?_,?_,?_,I.stack,I.yC⟩,rfl,I.bare,Un.kept hk,⟨m0,hn,λi y v h1 h2 h3=>?_⟩,λy c h=>?_,I.hok.fresh hC,λy c h=>I.jq y c (inX y c h),λp hp=>absurd hp (by simp),I.hok.kept hk,?_⟩
 ·have hy':(csc.names.map λ(n,k)=>if (k == NameKind.free && X.env.scope.kind == .function && X.env.kindOf n == some .cell) then (n,NameKind.cell) else (n,k)).lookup y = some .cell ∨ (csc.names.map λ(n,k)=>if (k == NameKind.free && X.env.scope.kind == .function && X.env.kindOf n == some .cell) then (n,NameKind.cell) else (n,k)).lookup y = some .free:=hy
  refine jN _ _ y (.inl ?_)
  rcases hy' with z | z
  ·exact eS z (.inl rfl) ck.cell
  ·exact eS z (.inr rfl) ck.cell
 ·exact Nat.ne_of_lt (Nat.lt_of_lt_of_le (hfs b hb) hC)
 ·exact (hf b hb).2.2.2.2.1 y c (inX y c h)
 ·exact λb o e=>I.bs b o e
 ·exact Nat.le_trans I.ok.FI I.sz
 ·intro b o e hb
  rcases (hf b hb).2.2.2.1 with z | z
  ·exact I.ok.BR b o e z
  ·exact absurd (Nat.lt_of_lt_of_le (Heap.lt_size (I.ok.bs b o e).1) z) (Nat.lt_irrefl _)
 ·intro b hb z
  rcases List.mem_cons.mp (I.oh b z) with e | e
  ·exact (hf b hb).2.1 e
  ·exact (hf b hb).2.2.1 e
 ·have hi:i < caps.length:=by
   by_cases hi:i < caps.length
   ·exact hi
   ·rw [List.getElem?_append_right (by rw [fU];omega),fU] at h2
    cases q:i - caps.length with
    | zero=>rw [q] at h2;simp at h2
    | succ k=>rw [q] at h2;simp at h2
  rw [List.getElem?_append_left (by rw [List.length_map];exact hi),List.getElem?_map] at h1
  rw [List.getElem?_append_left (by rw [fU];exact hi)] at h2
  unfold jF at h2
  rw [List.getElem?_map] at h2
  cases e:caps[i]? with
  | none=>rw [e] at h1;cases h1
  | some p =>
   rw [e] at h1 h2
   simp only [Option.map_some,Option.some.injEq] at h1 h2
   subst h1
   obtain ⟨hN,hfr⟩:=ck.cap p (List.mem_of_getElem? e)
   have h2':σ[p.2]? = some (some v):=by
    cases q:σ[p.2]? with
    | none=>rw [q] at h2;cases h2
    | some w=>rw [q] at h2;simp at h2;rw [h2]
   have hcX:X.env.scope.names.lookup p.1 = some .cell:=ck.free (p.1,.free) (PySem.mem_of_lookup hfr) rfl
   obtain ⟨m,_,hl⟩:=I.loc
   obtain ⟨u,r,l⟩:=hl p.2 p.1 v hN h2' (.inr (.inl hcX))
   refine ⟨u,r,?_⟩
   rcases l with ⟨k,_⟩ | ⟨_,c,hc,z⟩
   ·have k':X.env.scope.names.lookup p.1 = some .local:=k
    rw [hcX] at k';cases k'
   ·obtain ⟨c',hc'⟩:=jN (env:=X.env) csc.names [] p.1 (.inl (PySem.mem_of_lookup hfr))
    have:c' = c:=by
     have:=inX p.1 c' hc'
     rw [hc] at this
     exact (Option.some.inj this).symm
    subst this
    refine .inr ⟨.inl (iT I.ok.kind kf hfr),c',hc',?_⟩
    obtain ⟨o,ho,hd⟩:=z
    exact ⟨o,hk _ _ ho,hd⟩
 ·obtain ⟨v,o,ho,hd⟩:=I.cell y c (inX y c h)
  exact ⟨v,o,hk _ _ ho,hd⟩
 ·rw [List.length_append,fU,List.length_append,List.length_map];rfl
end
end L2
namespace L2
open PySem PySem.Spec PyProof.Rows
theorem l9 {prog:Program} {w:World} {A:Around} {R:Result -> Shared -> Prop} {s:Shared} {elt target iter:Expr} {scope:Scope} {pos:Pos} {it acc:Value} {env:Env} (J:Nat -> Shared -> Prop)
  (turn:∀ n s,J n s -> wpAny (model prog w) A (pyNext it) (λr s₁=>match r with
   | none=>R (.ok .next) s₁
   | some v=>wpAny (model prog w) A (letOwnedTupleGo target it v) (λ_ s₁=>wpAny (model prog w) A (assign target env v) (λ_ s₂=>wpAny (model prog w) A (eval elt env) (λx s₃ =>
     wpAny (model prog w) A (call (.builtin "list.append") [acc,x]) (λ_ s₄=>∃ m,m < n /\ J m s₄) (λ_ _=>False) s₃)
     (λ_ _=>False) s₂) (λ_ _=>False) s₁) (λ_ _=>False) s₁) (λ_ _=>False) s)
  (n:Nat) (h:J n s) :
  codeAny (model prog w) A (.compLoop (.ListComp elt [⟨target,iter,[],0⟩] scope pos) 0 it acc env) R s:=by
 refine codeAny_loop rfl J (λn s hI=>?_) n h
 show wpAny _ _ ((compTurn (.ListComp elt [⟨target,iter,[],0⟩] scope pos) 0 it acc env).onRaise (λx=>do noteFrame x env;theTreesLotGoes x)) _ _ s
 refine wpAny_noted ?_
 rw [compTurn_list1]
 refine wpAny_bind (wpAny_standAt (wpAny_bind (wpAny_mono (turn n s hI) (λr s₁ h₁=>?_) λ_ _ h'=>h'.elim)))
 cases r with
 | none=>exact wpAny_pure h₁
 | some v =>
  refine wpAny_bind (wpAny_mono h₁ (λ_ s₁' h₁=>?_) λ_ _ h'=>h'.elim)
  exact wpAny_bind (wpAny_mono h₁ (λ_ s₂ h₂=>wpAny_bind (wpAny_bind (wpAny_mono h₂ (λx s₃ h₃=>wpAny_bind (wpAny_mono h₃
   (λ_ s₄ h₄=>wpAny_pure (wpAny_pure ⟨rfl,h₄⟩)) λ_ _ h'=>h'.elim)) λ_ _ h'=>h'.elim))) λ_ _ h'=>h'.elim)
theorem F5 {a b:Nat} (h:a < b):a ≠ b:=Nat.ne_of_lt h
theorem EE {a b:Nat} (h:a < b):a ≠ b + 1:=Nat.ne_of_lt (Nat.lt_succ_of_lt h)
theorem Ea {a:Nat}:a ≠ a + 1:=Nat.ne_of_lt (Nat.lt_succ_self a)
section
variable {X:Cx}
theorem qI {csc:Scope} {N':List Str} {fp:List Addr} {C D:Addr} {pins pl:List (Addr × Obj)} {σ σ':St} {H H':Hp} {s s':Shared} {h':Heap} {ys:List V} {its:List Value} {n:Nat} (I:Inv X pins σ H s)
  (J:Inv (dB X N' csc C s H fp) pl σ' H' s') (hf:∀ b ∈ fp,qg X pins H b) (hC:s.heap.objs.size <= C) (hD:s.heap.objs.size <= D) (hDC:D ≠ C) (hs:Heap.SameBut C s'.heap h') (hv:Vals ys its) (hz:ys.length <= sizeLine)
  (hd:s'.heap.get? D = some { cls:=.type "list",data:=.seq its.toArray n }) (hDn:H' D = none):Inv X pins σ (upd H' D (.lst ys)) { s' with heap:=h' }:=by
 have ne:∀ b o,s.heap.get? b = some o -> b ≠ C /\ b ≠ D:=λb o e=>⟨Nat.ne_of_lt (Nat.lt_of_lt_of_le (Heap.lt_size e) hC),Nat.ne_of_lt (Nat.lt_of_lt_of_le (Heap.lt_size e) hD)⟩
 have u:Un (frs X.stack) fp H H' s.heap s'.heap:=J.base
 have nDt:∀ b o,H' b = some o -> b ≠ D:=λb o e=>aj e hDn
 refine I.Lm (s':={ s' with heap:=h' }) (ch:=fp) J.os ?_ ?_ J.bare λb hb=>⟨(hf b hb).2.2.2.1,(hf b hb).2.1,(hf b hb).2.2.2.2.1,(hf b hb).2.2.2.2.2⟩
 ·refine ⟨λb o q n hb he=>?_,λb o q n hb he=>?_,λb o q n he=>?_,λb o q he=>?_,λb xs q=>?_,λb o xs q=>?_,λb ps q=>?_⟩
  ·exact (hs.2 b (ne b o q).1).trans (u.keep b o q n hb he)
  ·obtain ⟨sl,e⟩:=u.slot b o q n hb he
   exact ⟨sl,(hs.2 b (ne b o q).1).trans e⟩
  ·rw [ao (ne b o q).2];exact u.free b o q n he
  ·obtain ⟨o',e⟩:=u.there b o q he
   exact ⟨o',(hs.2 b (ne b o q).1).trans e⟩
  ·have:=u.tups b xs q
   rw [ao (nDt b _ this)];exact this
  ·have:=u.qi b o xs q
   rw [ao (nDt b _ this)];exact this
  ·obtain ⟨more,this⟩:=u.rN b ps q
   exact ⟨more,by rw [ao (nDt b _ this)];exact this⟩
 ·intro b o e
  by_cases hb:b = D
  ·subst hb
   rw [af] at e;cases e
   exact ⟨hz,its,n,hv,(hs.2 b hDC).trans hd⟩
  ·rw [ao hb] at e
   refine (J.hok b o e).stay (λc v hc q=>(hs.2 c ?_).trans q) (λc q=>by rw [ao (nDt c _ q)];exact q) λc xs q=>by rw [ao (nDt c _ q)];exact q
   have hfree:H' C = none:=J.free
   rcases hc with z | z
   ·rw [z];exact aj e hfree
   ·exact aj z hfree
theorem iD {sc csc:Scope} {N:List Str} {elt iter:Expr} {x:Str} {px pos:Pos} {caps:List (Str × Nat)} {wi:TI} {te:TE} (ck:rF sc csc N x caps) (hi:PI X (.Name x px) iter wi)
  (he:∀ C s2 H2 fp,PE (dB X (caps.map (·.1) ++ [x]) csc C s2 H2 fp) elt te) (hc:X.calm = true:=by rfl) (hsc:X.env.scope = sc:=by rfl) (hXN:X.N = N:=by rfl) (hs:∀ x,foldedSetIterable iter X.env x = pure x:=by intro _;rfl) :
  PE X (.ListComp elt [⟨.Name x px,iter,[],0⟩] csc pos) (BW caps wi te):=by
 subst hsc hXN
 intro pins s σ H Q I h
 rw [eval_ListComp]
 have cellsOk:∀ p ∈ csc.names,p.2 = .free -> ∃ c,X.env.cells.lookup p.1 = some c:=λp hp e=>I.ok.has p.1 (.inl (ck.free p hp e))
 refine wpAny_comprehension_free (use:=none) rfl hs (jr cellsOk) ck.kind ck.loc (c5 (hi pins s σ H _ I h) λv s1 h1=>c5 h1 λitv s2 h2=>?_)
 obtain ⟨it,fp,tn,J,H2,e,I2,T,st2,f2,W,⟨m0,w0⟩,turn⟩:=h2
 subst e
 refine wpAny_newObj_type (wpAny_newFunctionEnv ck.cell (by intro y hy;simp at hy) (λh4 hns4 hsb4=>?_) ck.kind)
 dsimp only at hns4 hsb4 ⊢
 generalize hD:s2.heap.objs.size = D at hns4 hsb4 ⊢
 generalize hH2:s2.heap.push { cls:=.type "list",dict:=none,data:=.seq ([]:List Value).toArray } = G at hns4 hsb4 ⊢
 have hGs:G.objs.size = D + 1:=by rw [← hH2,Heap.size_push,hD]
 rw [hGs] at hns4 hsb4 ⊢
 have lt2:∀ b o,s2.heap.get? b = some o -> b < D:=λb o e=>hD ▸ Heap.lt_size e
 have old:∀ b o,s2.heap.get? b = some o -> b ≠ D + 1 /\ b ≠ D:=λb o e=>⟨EE (lt2 b o e),F5 (lt2 b o e)⟩
 have leD:s2.heap.objs.size <= D:=Nat.le_of_eq hD
 have leD1:s2.heap.objs.size <= D + 1:=Nat.le_succ_of_le leD
 have keep4:∀ b o,s2.heap.get? b = some o -> h4.get? b = some o:=λb o e=>hsb4.extBut b o (old b o e).1 (Heap.get?_push_of_some _ (hH2 ▸ Heap.get?_push_of_some _ e))
 have hDo:h4.get? D = some { cls:=.type "list",data:=.seq ([]:List Value).toArray 0 }:=by
  refine hsb4.extBut D _ Ea (Heap.get?_push_of_some _ ?_)
  rw [← hH2,← hD]
  exact Heap.get?_push_size _ rfl
 have fps:∀ b ∈ fp,b < s2.heap.objs.size:=λb hb=>by
  obtain ⟨o,e,_⟩:=T.obj _ _ st2 b hb
  exact Heap.lt_size e
 have I4:∀ t4,Inv (dB X (caps.map (·.1) ++ [x]) csc (D + 1) s2 H2 fp) [] (jF caps σ ++ [none]) H2 { s2 with heap:=h4,toks:=t4 }:=λt4=>oZ (m0:=λx=>[].reverse.lookup x) I2 ck f2 fps leD1 keep4 hns4
 have cellsLt:∀ y c,(eT X.env csc.names []).lookup y = some c -> c < D:=λy c e=>by
  obtain ⟨v,o,ho,_⟩:=I2.cell y c (gq _ _ cellsOk (λy c h=>by simp at h) y c e)
  exact lt2 c o ho
 have fsLt:∀ b ∈ frs X.stack,b < D:=λb hb=>by
  obtain ⟨_,o,ho,_⟩:=I2.stack.mem hb
  exact lt2 b o ho
 have fpC:∀ {pl:List (Addr × Obj)} {H':Hp},(∀ p ∈ pl,p.1 = D) -> (∀ b ∈ fp,H' b = none) -> ∀ b ∈ fp,qg (dB X (caps.map (·.1) ++ [x]) csc (D + 1) s2 H2 fp) pl H' b:=λ{pl H'} hpl hn b hb=>by
  have hb':b < D:=hD ▸ fps b hb
  refine ⟨hn b hb,EE hb',?_,.inl hb,λy c e=>?_,λp hp=>?_⟩
  ·intro z
   rcases List.mem_cons.mp (I2.oh b z) with e | e
   ·exact (f2 b hb).2.1 e
   ·exact (f2 b hb).2.2.1 e
  ·exact (f2 b hb).2.2.2.2.1 y c (gq _ _ cellsOk (λy c h=>by simp at h) y c e)
  ·have:p.1 = D:=hpl p (by simpa using hp)
   rw [this];exact λz=>F5 hb' z.symm
 have loop:∀ t4,codeAny (model X.prog X.w) X.A (.compLoop (.ListComp elt [⟨.Name x px,iter,[],0⟩] csc pos) 0 (.ref it) (.ref D) (compEnvC csc (eT X.env csc.names []) (D + 1) X.env))
   (compPost (model X.prog X.w) X.A X.xe none (EP X pins σ Q) (.ref D) (D + 1)) { s2 with heap:=h4,toks:=t4 }:=by
  intro t4
  refine l9 (λn s'=>∃ (i:Nat) (ys:List V) (its:List Value) (k:Nat) (σ':St) (H':Hp),Inv (dB X (caps.map (·.1) ++ [x]) csc (D + 1) s2 H2 fp) [(D,{ cls:=.type "list",data:=.seq its.toArray k })] σ' H' s' /\ tn i s'.heap /\ (∀ b ∈ fp,H' b = none) /\ Vals ys its /\ ys.length <= sizeLine /\ W i n ys H' /\ (∃ z,σ' = jF caps σ ++ [z])) ?_ m0 ?_
  ·rintro n s3 ⟨i,ys,its,k,σ3,H3,I3,st3,fr3,hv,hz,w3,z3,rfl⟩
   have pl1:∀ p ∈ [((D,{ cls:=.type "list",data:=.seq its.toArray k }):Addr × Obj)],p.1 = D:=λp hp=>by rw [List.mem_singleton.mp hp]
   rcases turn i n ys H3 w3 with ⟨stop,qn⟩ | ⟨go,hlt,step⟩
   ·refine wpAny_mono (T.done (dB X (caps.map (·.1) ++ [x]) csc (D + 1) s2 H2 fp) rfl rfl rfl hc i _ s3 _ H3 (λ_ _=>False) I3 (fpC pl1 fr3) st3 stop) (λr s4 ⟨hr,I4'⟩=>?_) λ_ _ f=>f.elim
    subst hr
    obtain ⟨m,hn,_⟩:=id I4'.loc
    have pD:=I4'.pin (D,{ cls:=.type "list",data:=.seq its.toArray k }) (by simp)
    refine ⟨m,hn,λh' hs'=>⟨.ref D,_,qI I2 I4' f2 leD1 leD Ea hs' hv hz pD.1 pD.2.1,rfl,qn D pD.2.1⟩⟩
   ·refine wpAny_mono (T.item (dB X (caps.map (·.1) ++ [x]) csc (D + 1) s2 H2 fp) rfl rfl rfl hc i _ s3 _ H3 (λ_ _=>False) I3 (fpC pl1 fr3) st3 go) (λr s4 ⟨u,hr,h4'⟩=>?_) λ_ _ f=>f.elim
    subst hr
    refine wpAny_mono h4' (λ_ s4 ⟨xv,H5,I5,r5,y5,st5,fr5⟩=>?_) λ_ _ f=>f.elim
    have I5':=I5.pinned (fpC pl1 fr5) (T.obj _ _ st5)
    have hiN:(caps.map (·.1) ++ [x])[caps.length]? = some x:=by rw [List.getElem?_append_right (by simp)];simp
    refine wpAny_mono (b9 (X:=dB X (caps.map (·.1) ++ [x]) csc (D + 1) s2 H2 fp) (i:=caps.length) ck.nd hiN (.inl (lookup_relabel_local ck.tg)) (.inr (lookup_relabel_local ck.tg)) _ s4 _ H5 xv u _ I5' r5 (show qo caps.length xv _ H5 (λσ6 H6=>σ6 = jF caps σ ++ [some xv] /\ H6 = H5) from ⟨?_,rfl⟩)) (λ_ s6 ⟨σ6,H6,I6,hσ,hH⟩=>?_) λ_ _ f=>f.elim
    ·rw [List.set_append_right _ _ (by rw [fU];exact Nat.le_refl _),fU,Nat.sub_self];rfl
    subst hσ hH
    refine wpAny_mono (he (D + 1) s2 H2 fp _ s6 _ H6 _ I6 (step xv H6 y5)) (λw7 s7 ⟨y,H7,I7,r7,m',hm,w8⟩=>?_) λ_ _ f=>f.elim
    have pD:=I7.pin (D,{ cls:=.type "list",data:=.seq its.toArray k }) (by simp)
    have hll:=hv.length
    refine call_meets F.slot_list_append ⟨_,pD.1,rfl⟩ F.entry_list_append (F.args_list_append_2 _ _) (PySem.list_append D its.toArray k w7 (by rw [List.size_toArray];omega)) ⟨pD.1,?_⟩
    have q:=PySem.IsL.update pD.1 (·.push w7)
    have hpush:its.toArray.push w7 = (its ++ [w7]).toArray:=by simp
    rw [hpush] at q
    obtain ⟨k',q⟩:∃ k',(s7.heap.update D (Obj.mapSeq (·.push w7))).get? D = some { cls:=.type "list",data:=.seq (its ++ [w7]).toArray k' }:=⟨_,q⟩
    have I7u:Inv (dB X (caps.map (·.1) ++ [x]) csc (D + 1) s2 H2 fp) (iO fp s4.heap) _ H7 s7:=I7.fR λp hp=>I7.pin p (List.mem_append_right _ (List.mem_append_right _ hp))
    have pfp:∀ p ∈ iO fp s4.heap,p.1 < D:=λp hp=>hD ▸ fps p.1 (k6 hp).1
    have I8:=I7u.turned (h':=s7.heap.update D (Obj.mapSeq (·.push w7))) (t':=s7.toks) (it:=D) (λb o hb e=>(Heap.get?_update_other s7.heap _ (Ne.symm hb)).trans e) pD.2.1 Ea (.inr leD) (λy c e=>F5 (cellsLt y c e)) (λp hp=>F5 (pfp p (by simpa using hp)))
    refine ⟨m',hm,i + 1,ys ++ [y],its ++ [w7],k',_,H7,I8.fR λp hp=>?_,T.keep _ _ _ st5 λb hb o e=>(I8.pin (b,o) (List.mem_append_right _ (fL hb e))).1,λb hb=>?_,hv.append (.cons r7 .nil),?_,w8,_,rfl⟩
    ·rw [List.mem_singleton.mp hp]
     exact ⟨q,pD.2.1,pD.2.2.1,pD.2.2.2.1,λv=>by simp⟩
    ·obtain ⟨o,e,d⟩:=T.obj _ _ st5 b hb
     exact (I8.pin (b,o) (List.mem_append_right _ (fL hb e))).2.1
    ·rw [List.length_append,List.length_singleton];omega
  ·refine ⟨0,[],[],0,_,H2,(I4 t4).fR λp hp=>?_,T.keep _ _ _ st2 λb hb o e=>keep4 b o e,λb hb=>(f2 b hb).1,.nil,Nat.zero_le _,w0,_,rfl⟩
   rw [List.mem_singleton.mp hp]
   refine ⟨hDo,I2.hok.fresh leD,Ea,λz=>absurd (fsLt D z) (Nat.lt_irrefl _),λv=>by simp⟩
 exact codeAny_compStart_list (loop _) (T.self _ 0 _ _ _ (T.keep _ _ _ st2 λb hb o e=>keep4 b o e) (loop _))
end
end L2
namespace L2
open PySem PySem.Spec PyProof.Rows
section
variable {X:Cx}
theorem xu {ys:List Str}:∀ {us:List Value},Vals (ys.map V.str) us -> StrsAre us ys:=by
 induction ys with
 | nil=>intro us r;cases r;exact .nil
 | cons y r ih =>
  intro us h
  cases h with
  | cons h t =>
   obtain ⟨k,rfl⟩:=h
   exact .cons _ _ (ih t)
def rJoin (K:PySem.W.Frag):V -> List V -> Hp -> VK -> Prop:=λx vs H Q=>∃ z p ys,x = .str z /\ vs = [.ref p] /\ bu K H p (ys.map V.str) /\ (ys.map (·.length)).sum + ys.length * z.length <= 16777216 /\ Q (.str (Txt.join z ys)) H
theorem EL:J6 X "str.join" (rJoin X.K):=by
 intro pins s σ H x vs v us Q I rx rv h
 obtain ⟨z,p,ys,rfl,rfl,hq,hz,q⟩:=h
 obtain ⟨t,rfl⟩:=rx
 obtain ⟨u,rfl,ru⟩:=rv.one
 cases ru
 obtain ⟨its,r,pl,_⟩:=I.list hq
 exact PyProof.Rows.join_list pl.isList (by simpa using xu r) hz λt' k=>⟨.str _,H,I.tok _,⟨_,rfl⟩,q⟩
def sZ:V -> List V -> Hp -> VK -> Prop:=λx vs H Q=>∃ a b i,x = .str a /\ vs = [.str b,.int i] /\ Q (.bl (fromIndex a.length i + b.length <= a.length && Builtin.Str.subAt a b (fromIndex a.length i))) H
theorem yd:J6 X "str.startswith" sZ:=by
 intro pins s σ H x vs v us Q I rx rv h
 obtain ⟨a,b,i,rfl,rfl,q⟩:=h
 obtain ⟨t,rfl⟩:=rx
 obtain ⟨u,w',rfl,ru,rw'⟩:=rv.two
 obtain ⟨t1,rfl⟩:=ru
 obtain ⟨t2,rfl⟩:=rw'
 exact call_gives F.slot_str_startswith (typeIs_str _ _ _) F.entry_str_startswith (F.args_str_startswith_3 _ _ _) (gives_str_startswith_from a b i t t1 t2) ⟨.bl _,H,I,rfl,q⟩
def wU:V -> List V -> Hp -> VK -> Prop:=λx vs H Q=>∃ a b,x = .str a /\ vs = [.str b] /\ Q (.bl (0 + b.length <= a.length && Builtin.Str.subAt a b 0)) H
theorem nX:J6 X "str.startswith" wU:=by
 intro pins s σ H x vs v us Q I rx rv h
 obtain ⟨a,b,rfl,rfl,q⟩:=h
 obtain ⟨t,rfl⟩:=rx
 obtain ⟨u,rfl,ru⟩:=rv.one
 obtain ⟨t1,rfl⟩:=ru
 exact call_gives F.slot_str_startswith (typeIs_str _ _ _) F.entry_str_startswith (F.args_str_startswith_2 _ _) (gives_str_startswith a b t t1) ⟨.bl _,H,I,rfl,q⟩
def oE (z:Str):List V:=z.cps.toList.map λc=>V.str ⟨#[c]⟩
theorem yi {z:Str} {acc:Array Value} (h:ItemsOf (SignAt z) acc z.cps.size):Vals (oE z) acc.toList:=by
 obtain ⟨hs,hi⟩:=h
 have aux:∀ (cs:List Nat) (us:List Value),us.length = cs.length -> (∀ (i:Nat) (v:Value),us[i]? = some v -> ∃ c u,cs[i]? = some c /\ v = Value.str ⟨#[c]⟩ u) -> Vals (cs.map λc=>V.str ⟨#[c]⟩) us:=by
  intro cs
  induction cs with
  | nil=>intro us hl _;cases us with
   | nil=>exact .nil
   | cons _ _=>cases hl
  | cons c r ih =>
   intro us hl h
   cases us with
   | nil=>cases hl
   | cons u r' =>
    refine .cons ?_ (ih r' (by simpa using hl) λi v e=>h (i + 1) v (by simpa using e))
    obtain ⟨c',t,e,z⟩:=h 0 u rfl
    simp at e
    subst e
    exact ⟨t,z⟩
 refine aux _ _ (by simp [hs]) λi v e=>?_
 obtain ⟨c,u,e1,e2⟩:=hi i v (by simpa using e)
 exact ⟨c,u,by simpa using e1,e2⟩
theorem wY (hc:X.calm = true):jW X (.type "list") (λxs H Q=>∃ z:Str,xs = [.str z] /\ z.length <= sizeLine /\ ∀ l,H l = none -> Q (.ref l) (upd H l (.lst (oE z)))):=by
 intro pins s σ H xs us Q I r h
 obtain ⟨z,rfl,hz,q⟩:=h
 obtain ⟨u,rfl,rx⟩:=vals1 r
 obtain ⟨t,rfl⟩:=rx
 refine PySem.call_list_str (I.ok.hd hc) z t (λh' tk acc' c' kp e hi=>?_) hz
 have hv:=yi hi
 exact ⟨.ref s.heap.objs.size,_,I.laid (t':=tk) kp (Nat.le_refl _) (show dM X.prog X.w _ h' _ (.lst (oE z)) from ⟨by simp only [oE,List.length_map,Array.length_toList];exact hz,acc'.toList,c',hv,by simpa using e⟩),rfl,q _ (I.hok.fresh (Nat.le_refl _))⟩
end
end L2
namespace L2
open PySem PySem.Spec PyProof.Rows
def At (X:Cx) (D:Ends) (sts:List Stmt) (σ:St) (H:Hp):Prop:=∀ (pins:List (Addr × Obj)) (s:Shared),Inv X pins σ H s -> wpAny (model X.prog X.w) X.A (execs sts X.env) (SP X pins D) X.xe s
section
variable {X:Cx} {D:Ends} {st:Stmt} {rest sts:List Stmt} {t:TS} {σ:St} {H:Hp}
theorem av:xM X sts (λD σ H=>At X D sts σ H):=λpins s σ H D I h=>h pins s I
theorem bg (h:D.nx σ H):At X D [] σ H:=λ_ _ I=>wpAny_execs_nil ⟨σ,H,I,h⟩
theorem aq (h:PS X st t) (q:t { D with nx:=λσ H=>At X D rest σ H } σ H):At X D (st :: rest) σ H:=λpins s I =>
 (sV h av) pins s σ H D I q
theorem au (h:PS X st t) (q:t D σ H):At X D [st] σ H:=λpins s I=>(Fx h) pins s σ H D I q
theorem mY (h:At X D sts σ H):∃ t,xM X sts t /\ t D σ H:=⟨λD' σ' H'=>D' = D /\ σ' = σ /\ H' = H,λpins s σ' H' D' I ⟨e1,e2,e3⟩=>by subst e1 e2 e3;exact h pins s I,rfl,rfl,rfl⟩
end
theorem dG {c:Prop} [Decidable c] {A B:Prop} (h1:c -> A) (h2:¬ c -> B):if decide c = true then A else B:=by
 by_cases h:c
 ·rw [decide_eq_true h];exact h1 h
 ·rw [decide_eq_false h];exact h2 h
theorem g6 {c:Prop} [Decidable c] {A B:Prop} (h1:¬ c -> A) (h2:c -> B):if (!decide c) = true then A else B:=by
 by_cases h:c
 ·rw [decide_eq_true h];exact h2 h
 ·rw [decide_eq_false h];exact h1 h
theorem LQ {c:Bool} {A B:Prop} (h1:c = true -> A) (h2:c = false -> B):if c = true then A else B:=by
 cases c
 ·exact h2 rfl
 ·exact h1 rfl
theorem ak.upd {H:Hp} {p:Addr} {o:HO} (h:H p = none):ak H (upd H p o):=λb u e=>by rw [ao (aj e h)];exact e
theorem ak.to {H H1:Hp} {p:Addr} {o:HO} (s:ak H H1) (h:H1 p = none):ak H (L2.upd H1 p o):=s.trans (ak.upd h)
theorem bu.same {K:PySem.W.Frag} {H H':Hp} {a:Addr} {xs:List V} (h:bu K H a xs) (e:ak H H'):bu K H' a xs:=e.seq h
section
variable {X:Cx} {C:Addr} {x:Str} {p pos:Pos}
def BN (C:Addr):TE:=λ_ H Q=>∀ x dx,H x = none -> H dx = none -> dx ≠ x -> Q (.ref x) (upd (upd H dx (.own x)) x (.ins C dx []))
end
end L2
namespace L2
open PySem PySem.Spec PyProof.Rows
section
variable {X:Cx} {C:Addr} {x:Str} {p pos:Pos}
structure LV (K:PySem.W.Frag) (C:Addr):Prop where
 makes:PySem.W.makesIn K C = true
 init:PySem.W.findIn K (.ref C) "__init__" = some (some (.builtin "object.__init__"))
 kp:PySem.W.keepIn K (.ref C) = true
theorem oY (M:LV X.K C) (hg:Gl X x) (hm:X.mg x = some (.ref C)) (hdb:(x == ("__debug__" : Str)) = false:=by decide):PE X (.Call (.Name x p) [] [] pos) (BN C):=by
 intro pins s σ H Q I h
 refine wpAny_Call_Name_kw (kj I hg hm ?_ hdb)
 refine PySem.W.callWith_K0 I.sN M.kp (wpAny_call ?_)
 have hq:=h (s.heap.objs.size + 1) s.heap.objs.size (I.hok.fresh (Nat.le_succ _)) (I.hok.fresh (Nat.le_refl _)) (Nat.ne_of_lt (Nat.lt_succ_self _))
 have I2:=Inv.made (C:=C) I
 have Y:=PySem.W.makes_of (M:=model X.prog X.w) I.sN M.makes
 refine Ai I.sN M.makes M.init (λself=>PySem.W.Looks.of_pure (PySem.W.oi_bind self)) ?_
 obtain ⟨hh,g,d,t,os⟩:=s
 have e2:((hh.push PySem.W.emptyDict).push (PySem.W.instObj C hh.objs.size)).get? (hh.objs.size + 1) = some (PySem.W.instObj C hh.objs.size):=by
  have:=Heap.get?_push_size (hh.push PySem.W.emptyDict) (o:=PySem.W.instObj C hh.objs.size) rfl
  rwa [Heap.size_push] at this
 have t1:PySem.W.Looks (model X.prog X.w) ((hh.push PySem.W.emptyDict).push (PySem.W.instObj C hh.objs.size)) (typeOf (.ref (hh.objs.size + 1))) (.ref C):=(PySem.W.Looks.ld e2).andThen .now
 have t2:PySem.W.Looks (model X.prog X.w) ((hh.push PySem.W.emptyDict).push (PySem.W.instObj C hh.objs.size)) (isInstance (.ref (hh.objs.size + 1)) (.type "object")) true:=t1.andThen (Y.top.keeps λb o e=>Heap.get?_push_of_some _ (Heap.get?_push_of_some _ e))
 refine codeAny_call_builtin PySem.W.oi_plain PySem.W.entry_oi (@PySem.W.check_slot (model X.prog X.w) _ _ _ "object.__init__" "object" "__init__" (.ref (hh.objs.size + 1)) [] [] _ PySem.W.oi_kind PySem.W.oi_split t2 (PySem.W.oi_args (.ref (hh.objs.size + 1))) ?_)
 rw [PySem.W.oi_run]
 exact wpAny_pure ⟨rfl,⟨V.ref (hh.objs.size + 1),_,I2,rfl,hq⟩⟩
end
end L2
namespace L2
open PySem PySem.Spec PyProof.Rows
section
variable {X:Cx}
def Ky:V -> Option Int -> Option Int -> Hp -> VK -> Prop:=λx lo hi H Q=>∃ z,x = .str z /\ z.length <= sizeLine /\ Q (.str (Txt.slice z lo hi)) H
theorem part_of {v:Value} {o:Option Int} (h:IsPart v o):∃ l:Option (Int × Tok),v = partValue l /\ l.map (·.1) = o:=by
 cases h with
 | none=>exact ⟨none,rfl,rfl⟩
 | int i t=>exact ⟨some (i,t),rfl,rfl⟩
theorem gR:Mu X Ky:=by
 intro pins s σ H x v vl vu lo hi sl Q I rx hs pl pu h
 obtain ⟨z,rfl,hz,q⟩:=h
 obtain ⟨t,rfl⟩:=rx
 obtain ⟨l,rfl,rfl⟩:=part_of pl
 obtain ⟨u,rfl,rfl⟩:=part_of pu
 refine ⟨"str",_,F.slot_str_getitem.lookup,typeIs_str _ _ _,wpAny_getItem_str_slice (l:=l) (u:=u) (st:=none) (by obtain ⟨o,e,c,d⟩:=hs;exact ⟨o,e,c,d⟩) rfl ?_⟩
 exact post_val_or_str ⟨Nat.le_trans (Txt.slice_le z _ _) hz,λt' k=>⟨.str _,H,I.tok _,⟨t',rfl⟩,q⟩⟩
end
end L2
namespace L2
open PySem PySem.Spec PyProof.Rows
section
variable {X:Cx} {D:Ends} {st:Stmt} {rest sts:List Stmt} {t:TS} {σ:St} {H:Hp}
theorem aM (R:St -> Hp -> Prop) (h:PS X st t) (q:t { D with nx:=R } σ H) (r:∀ σ H,R σ H -> At X D rest σ H):At X D (st :: rest) σ H:=λpins s I =>
 (sV h (u:=λD' σ H=>D' = D /\ R σ H) (λpins s σ H D' I ⟨e,z⟩=>by subst e;exact r σ H z pins s I)) pins s σ H D I (by
  have e:(λσ H=>D = D /\ R σ H) = R:=by funext σ H;simp
  show t { D with nx:=λσ H=>D = D /\ R σ H } σ H
  rw [e];exact q)
theorem G5 {CX:wX} {P:Program} {w:World} {K:PySem.W.Frag} {mg:Str -> Option Value} {base:Heap} {N:List Str} {qual:Str} {scope:Scope} {f:Addr} {cd:Value} {A:Around} {outer:List Env} {s:Shared} {H:Hp} {E:XK} :
  (xX CX P w K mg base N qual scope f cd A outer s H E).K = K:=rfl
end
end L2
namespace L2
open PySem PySem.Spec PyProof.Rows
theorem yk {caps:List (Str × Nat)} {lo:Int} {n:Nat} {te:TE} {σ:St} {H:Hp} {Q:VK} (Pv:Nat -> List V -> Hp -> Prop) (h0:Pv 0 [] H) (hn:n < sizeLine)
  (hs:∀ i ys H,i < n -> ys.length = i -> Pv i ys H -> te (jF caps σ ++ [some (.int (lo + i))]) H λy H2=>∃ m',m' < n - i /\ m' = n - (i + 1) /\ i + 1 <= n /\ (ys ++ [y]).length = i + 1 /\ Pv (i + 1) (ys ++ [y]) H2) (hd:∀ ys H,ys.length = n -> Pv n ys H -> ∀ D,H D = none -> Q (.ref D) (upd H D (.lst ys))) :
  zk (FO lo n) caps te σ H Q:=by
 refine ⟨λi m ys H=>m = n - i /\ i <= n /\ ys.length = i /\ Pv i ys H,⟨n,by simp,Nat.zero_le _,rfl,h0⟩,?_⟩
 rintro i m ys H ⟨rfl,hi,hl,p⟩
 by_cases hlt:i < n
 ·refine .inr ⟨hlt,by omega,λx H' y=>?_⟩
  obtain ⟨e,y⟩:=y
  subst e y
  exact hs i ys _ hlt hl p
 ·have e:i = n:=by omega
  subst e
  exact .inl ⟨Nat.le_refl _,hd ys H hl p⟩
theorem gp {K:PySem.W.Frag} {a:Addr} {xs:List V} {caps:List (Str × Nat)} {te:TE} {σ:St} {H:Hp} {Q:VK} (Pv:Nat -> List V -> Hp -> Prop) (h0:Pv 0 [] H) (hn:xs.length < sizeLine)
  (hq:∀ i ys H,i <= xs.length -> Pv i ys H -> bu K H a xs)
  (hs:∀ i x ys H,xs[i]? = some x -> ys.length = i -> Pv i ys H -> te (jF caps σ ++ [some x]) H λy H2=>∃ m',m' < xs.length - i /\ m' = xs.length - (i + 1) /\ i + 1 <= xs.length /\ (ys ++ [y]).length = i + 1 /\ Pv (i + 1) (ys ++ [y]) H2) (hd:∀ ys H,ys.length = xs.length -> Pv xs.length ys H -> ∀ D,H D = none -> Q (.ref D) (upd H D (.lst ys))) :
  zk (Jf K a) caps te σ H Q:=by
 refine ⟨λi m ys H=>m = xs.length - i /\ i <= xs.length /\ ys.length = i /\ Pv i ys H,⟨xs.length,by simp,Nat.zero_le _,rfl,h0⟩,?_⟩
 rintro i m ys H ⟨rfl,hi,hl,p⟩
 have q:=hq i ys H hi p
 by_cases hlt:i < xs.length
 ·refine .inr ⟨⟨xs,xs[i],q,by simp [hlt]⟩,by omega,λx H' y=>?_⟩
  obtain ⟨e,y⟩:=y
  subst e
  exact hs i x ys _ (y xs q) hl p
 ·have e:i = xs.length:=by omega
  subst e
  exact .inl ⟨⟨xs,q,Nat.le_refl _⟩,hd ys H hl p⟩
theorem fh {n i:Nat} {ys:List V} {y:V} {R:Prop} (hi:i < n) (hl:ys.length = i) (r:R):∃ m',m' < n - i /\ m' = n - (i + 1) /\ i + 1 <= n /\ (ys ++ [y]).length = i + 1 /\ R :=
 ⟨n - (i + 1),by omega,rfl,hi,by simp [hl],r⟩
theorem DG {α:Type} (xs:List α) {i:Int} (h0:0 <= i) (h1:i < xs.length):∃ v,xs[i.toNat]? = some v /\ we xs i = some v:=by
 have h3:i.toNat < xs.length:=by omega
 refine ⟨xs[i.toNat],List.getElem?_eq_getElem h3,?_⟩
 have q:=bq (xs:=xs) (List.getElem?_eq_getElem h3)
 rw [Int.toNat_of_nonneg h0] at q
 exact q
theorem kg (a:Int) {m:Int} (h:0 < m):0 <= a % m /\ a % m < m:=⟨Int.emod_nonneg _ (by omega),Int.emod_lt_of_pos _ h⟩
theorem bY {n:Nat} (h:n <= 1000000):n <= sizeLine:=Nat.le_trans h (by decide)
theorem fG {n:Nat} (h:n <= 1000000):n < sizeLine:=Nat.lt_of_le_of_lt h (by decide)
theorem EJ {K:PySem.W.Frag} {i:Nat} {f:Str} {σ:St} {H:Hp} {Q:VK} {a C dx:Addr} {fs:List (Str × V)} {v:V} (e:σ[i]? = some (some (.ref a))) (h:H a = some (.ins C dx fs)) (c:mO K C) (n:bV K C f) (l:fs.lookup f = some v) (q:Q v H):JJ K (Fz i) f σ H Q :=
 ⟨_,e,a,C,dx,fs,v,rfl,h,c,n,l,q⟩
def Cc (J:It) (g:TG) (tb:TS) (D:Ends) (σ:St) (H1:Hp):Prop:=∃ W:Nat -> Nat -> St -> Hp -> Prop,(∃ m,W 0 m σ H1) /\ ∀ i m σ H,W i m σ H ->
 (J.stop i H /\ D.nx σ H) ∨ (J.go i H /\ ∃ N:St -> Hp -> Prop,(∀ σ' H',N σ' H' -> ∃ m',m' < m /\ W (i + 1) m' σ' H') /\ ∀ x H',J.J3 i H x H' -> g x σ H' λσ2 H2=>tb { D with nx:=N,ct:=N,bk:=D.nx } σ2 H2)
def Kx (wi:TI) (g:TG) (tb:TS):TS:=λD σ H=>wi σ H λJ H1=>Cc J g tb D σ H1
theorem dZ {X:Cx} {tg iter:Expr} {body:List Stmt} {wi:TI} {g:TG} {tb:TS} {pos:Pos} (hp:PassesOwn (model X.prog X.w) X.A X.env X.xe) (hc:X.calm = true) (hi:PI X tg iter wi) (hg:PG X tg g) (hb:xM X body tb)
  (hs:∀ x,foldedSetIterable iter X.env x = pure x:=by intro _;rfl):PS X (.For tg iter body [] pos) (Kx wi g tb):=JB hp hc hi hg hb hs
theorem jv {lo:Int} {n:Nat} {g:TG} {tb:TS} {D:Ends} {σ:St} {H:Hp} (Pv:Nat -> St -> Hp -> Prop) (h0:Pv 0 σ H)
  (hs:∀ i σ H,i < n -> Pv i σ H -> g (.int (lo + i)) σ H λσ2 H2=>tb { D with nx:=Pv (i + 1),ct:=Pv (i + 1),bk:=D.nx } σ2 H2) (hd:∀ σ H,Pv n σ H -> D.nx σ H):Cc (FO lo n) g tb D σ H:=zB Pv h0 hs hd
theorem fM {K:PySem.W.Frag} {a:Addr} {xs:List V} {g:TG} {tb:TS} {D:Ends} {σ:St} {H:Hp} (Pv:Nat -> St -> Hp -> Prop) (h0:Pv 0 σ H) (hl:∀ i σ H,i <= xs.length -> Pv i σ H -> bu K H a xs)
  (hs:∀ i x σ H,xs[i]? = some x -> Pv i σ H -> g x σ H λσ2 H2=>tb { D with nx:=Pv (i + 1),ct:=Pv (i + 1),bk:=D.nx } σ2 H2) (hd:∀ σ H,Pv xs.length σ H -> D.nx σ H):Cc (Jf K a) g tb D σ H:=Cg Pv h0 hl hs hd
end L2
namespace L2
open PySem PySem.Spec PyProof.Rows
section
variable {κ:Type} [DecidableEq κ]
def gA (kvs:List (κ × V)) (k:κ):Option V:=(kvs.find? λkv=>decide (kv.1 = k)).map (·.2)
def putK (kvs:List (κ × V)) (k:κ) (v:V):List (κ × V) :=
 if (kvs.any λkv=>decide (kv.1 = k)) = true then kvs.map (λkv=>if kv.1 = k then (kv.1,v) else kv) else kvs ++ [(k,v)]
theorem dS {p:κ × V} {r:List (κ × V)} {k:κ} (e:p.1 = k):gA (p :: r) k = some p.2:=by simp [gA,List.find?_cons,e]
theorem dO {p:κ × V} {r:List (κ × V)} {k:κ} (e:¬ p.1 = k):gA (p :: r) k = gA r k:=by simp [gA,List.find?_cons,e]
theorem iU (k:κ):∀ kvs:List (κ × V),(kvs.any λkv=>decide (kv.1 = k)) = (gA kvs k).isSome
 | []=>rfl
 | p :: r=>by
  rw [List.any_cons]
  by_cases e:p.1 = k
  ·simp only [dS e,decide_eq_true e,Bool.true_or,Option.isSome_some]
  ·rw [dO e,decide_eq_false e,Bool.false_or];exact iU k r
theorem wc (k j:κ) (y:V):∀ kvs:List (κ × V),gA (kvs.map λkv=>if kv.1 = k then (kv.1,y) else kv) j = (gA kvs j).map λx=>if j = k then y else x
 | []=>rfl
 | p :: r=>by
  have ih:=wc k j y r
  rw [List.map_cons]
  by_cases h:p.1 = k
  ·rw [if_pos h]
   by_cases e:p.1 = j
   ·rw [dS (p:=(p.1,y)) e,dS e,Option.map_some,if_pos (e.symm.trans h)]
   ·rw [dO (p:=(p.1,y)) e,dO e,ih]
  ·rw [if_neg h]
   by_cases e:p.1 = j
   ·rw [dS (p:=p) e,dS e,Option.map_some,if_neg (λz=>h (e.trans z))]
   ·rw [dO (p:=p) e,dO e,ih]
theorem qK (k j:κ) (y:V):∀ kvs:List (κ × V),gA kvs k = none -> gA (kvs ++ [(k,y)]) j = if j = k then some y else gA kvs j
 | [],_=>by
  by_cases e:k = j
  ·rw [if_pos e.symm];exact dS (p:=(k,y)) e
  ·rw [if_neg (λz=>e z.symm)];exact dO (p:=(k,y)) e
 | p :: r,hn=>by
  rw [List.cons_append]
  have hk:¬ p.1 = k:=λz=>by rw [dS z] at hn;cases hn
  rw [dO hk] at hn
  have ih:=qK k j y r hn
  by_cases e:p.1 = j
  ·rw [dS e,dS e,if_neg (λz=>hk (e.trans z))]
  ·rw [dO e,dO e,ih]
theorem sP (kvs:List (κ × V)) (k j:κ) (y:V):gA (putK kvs k y) j = if j = k then some y else gA kvs j:=by
 unfold putK
 by_cases a:(kvs.any λkv=>decide (kv.1 = k)) = true
 ·rw [if_pos a,wc]
  rw [iU] at a
  by_cases e:j = k
  ·obtain ⟨x,hx⟩:=Option.isSome_iff_exists.mp a
   rw [if_pos e,e,hx,Option.map_some,if_pos rfl]
  ·rw [if_neg e]
   cases gA kvs j with
   | none=>rfl
   | some x=>rw [Option.map_some,if_neg e]
 ·rw [if_neg a]
  refine qK k j y kvs ?_
  rw [iU] at a
  cases q:gA kvs k with
  | none=>rfl
  | some x=>rw [q] at a;exact (a rfl).elim
theorem lQ (kvs:List (κ × V)) (k:κ) (v:V):(putK kvs k v).length <= kvs.length + 1:=by
 unfold putK
 split
 ·rw [List.length_map];omega
 ·rw [List.length_append,List.length_cons,List.length_nil];omega
theorem jj.kK {o:Option V} {u:Option Value} (r:jj o u):o.isSome = u.isSome:=by
 cases o with
 | none=>cases u with
  | none=>rfl
  | some _=>exact (show False from r).elim
 | some _=>cases u with
  | none=>exact (show False from r).elim
  | some _=>rfl
theorem jj.getD {o:Option V} {u:Option Value} {d:V} {d':Value} (r:jj o u) (rd:RelV d d'):RelV (o.getD d) (u.getD d'):=by
 cases o with
 | none=>cases u with
  | none=>exact rd
  | some _=>exact (show False from r).elim
 | some _=>cases u with
  | none=>exact (show False from r).elim
  | some _=>exact r
theorem KV.val {kvs:List (κ × V)} {vs:List (κ × Value)} (r:KV kvs vs) (k:κ):jj (gA kvs k) (valueAt vs k):=by
 unfold KV at r
 induction r with
 | nil=>exact True.intro
 | @cons p q ps qs h t ih =>
  obtain ⟨h1,h2⟩:=h
  by_cases e:p.1 = k
  ·have e':q.1 = k:=h1.symm.trans e
   have b:valueAt (q :: qs) k = some q.2:=by simp [valueAt,List.find?_cons,e']
   rw [dS e,b];exact h2
  ·have e':¬ q.1 = k:=λz=>e (h1.trans z)
   have b:valueAt (q :: qs) k = valueAt qs k:=by simp [valueAt,List.find?_cons,e']
   rw [dO e,b];exact ih
theorem KV.any {kvs:List (κ × V)} {vs:List (κ × Value)} (r:KV kvs vs) (k:κ):(kvs.any λkv=>decide (kv.1 = k)) = vs.any λkv=>decide (kv.1 = k):=by
 unfold KV at r
 induction r with
 | nil=>rfl
 | cons h t ih=>rw [List.any_cons,List.any_cons,ih,h.1]
theorem KV.repl {kvs:List (κ × V)} {vs:List (κ × Value)} (r:KV kvs vs) (k:κ) {y:V} {u:Value} (ry:RelV y u) :
  KV (kvs.map λkv=>if kv.1 = k then (kv.1,y) else kv) (vs.map λkv=>if kv.1 = k then (kv.1,u) else kv):=by
 unfold KV at r ⊢
 induction r with
 | nil=>exact .nil
 | @cons p q ps qs h t ih =>
  rw [List.map_cons,List.map_cons]
  refine .cons ?_ ih
  obtain ⟨h1,h2⟩:=h
  by_cases e:p.1 = k
  ·rw [if_pos e,if_pos (h1.symm.trans e)];exact ⟨h1,ry⟩
  ·rw [if_neg e,if_neg (λz=>e (h1.trans z))];exact ⟨h1,h2⟩
theorem KV.put {kvs:List (κ × V)} {vs:List (κ × Value)} (r:KV kvs vs) (k:κ) {y:V} {u:Value} (ry:RelV y u):KV (putK kvs k y) (stored vs k u):=by
 unfold putK stored
 rw [r.any k]
 by_cases e:(vs.any λkv=>decide (kv.1 = k)) = true
 ·rw [if_pos e,if_pos e];exact r.repl k ry
 ·rw [if_neg e,if_neg e];exact Paired.snoc r ⟨rfl,ry⟩
theorem KV.length {kvs:List (κ × V)} {vs:List (κ × Value)} (r:KV kvs vs):kvs.length = vs.length:=Paired.length r
end
theorem zA {P:Program} {w:World} {k:Key} {u:Value} (r:RelV (kV k) u):(c6 P w).is k u = true:=by
 cases k with
 | inl i=>obtain ⟨t,e⟩:=(show ∃ t,u = Value.int i t from r);subst e;exact tS P w i t
 | inr x=>obtain ⟨t,e⟩:=(show ∃ t,u = Value.str x t from r);subst e;exact wB P w x t
theorem qJ {P:Program} {w:World}:∀ {ks:List Key} {us:List Value},Vals (ks.map kV) us -> ItemsAre (c6 P w) ks us
 | [],_,r=>by rw [List.map_nil] at r;cases r;exact .nil
 | k :: ks,_,r=>by
  rw [List.map_cons] at r
  cases r with
  | cons h t=>exact .cons (zA h) (qJ t)
abbrev KT (H:Hp):List (List Key × V) -> List (List Key × Addr × Value) -> Prop:=Paired λp q=>p.1 = q.1 /\ H q.2.1 = some (.tup (p.1.map kV)) /\ RelV p.2 q.2.2
theorem KT.val {H:Hp} {kvs:List (List Key × V)} {xs:List (List Key × Addr × Value)} (r:KT H kvs xs) (k:List Key):jj (gA kvs k) ((atKey xs k).map (·.2)):=by
 induction r with
 | nil=>exact True.intro
 | @cons p q ps qs h t ih =>
  obtain ⟨h1,_,h2⟩:=h
  by_cases e:p.1 = k
  ·have e':q.1 = k:=h1.symm.trans e
   have b:atKey (q :: qs) k = some q.2:=by simp [atKey,List.find?_cons,e']
   rw [dS e,b];exact h2
  ·have e':¬ q.1 = k:=λz=>e (h1.trans z)
   have b:atKey (q :: qs) k = atKey qs k:=by simp [atKey,List.find?_cons,e']
   rw [dO e,b];exact ih
theorem KT.repl {H:Hp} {kvs:List (List Key × V)} {xs:List (List Key × Addr × Value)} (r:KT H kvs xs) (k:List Key) {y:V} {u:Value} (ry:RelV y u) :
  KT H (kvs.map λkv=>if kv.1 = k then (kv.1,y) else kv) (xs.map (putAt k u)):=by
 induction r with
 | nil=>exact .nil
 | @cons p q ps qs h t ih =>
  rw [List.map_cons,List.map_cons]
  refine .cons ?_ ih
  obtain ⟨h1,h2,h3⟩:=h
  unfold putAt
  by_cases e:p.1 = k
  ·rw [if_pos e,if_pos (h1.symm.trans e)];exact ⟨h1,h2,ry⟩
  ·rw [if_neg e,if_neg (λz=>e (h1.trans z))];exact ⟨h1,h2,h3⟩
theorem KT.put {H:Hp} {kvs:List (List Key × V)} {xs:List (List Key × Addr × Value)} (r:KT H kvs xs) (k:List Key) {b:Addr} {y:V} {u:Value} (hb:H b = some (.tup (k.map kV))) (ry:RelV y u) :
  KT H (putK kvs k y) (storedH xs k b u):=by
 have e:(kvs.any λkv=>decide (kv.1 = k)) = (atKey xs k).isSome:=by
  rw [iU,(r.val k).kK,Option.isSome_map]
 unfold putK storedH
 rw [e]
 by_cases q:(atKey xs k).isSome = true
 ·rw [if_pos q,if_pos q];exact r.repl k ry
 ·rw [if_neg q,if_neg q];exact Paired.snoc r ⟨rfl,hb,ry⟩
theorem KT.keeps {H H':Hp} {kvs:List (List Key × V)} {xs:List (List Key × Addr × Value)} (r:KT H kvs xs) (ht:∀ b ys,H b = some (.tup ys) -> H' b = some (.tup ys)):KT H' kvs xs :=
 Paired.G6 r λ_ _ z=>⟨z.1,ht _ _ z.2.1,z.2.2⟩
section
variable {P:Program} {w:World} {H:Hp} {h:Heap} {a:Addr}
theorem FF {u:HO} (ok:jQ P w H h) (e:Rd H a u):dM P w H h a u:=e.ok ok
theorem t9 {kvs:List (Key × V)} (ok:jQ P w H h) (e:Rd H a (.dK kvs)):kvs.length <= sizeLine /\ (a == sysModules) = false /\ ∃ vs,KV kvs vs /\ h.DictOf (c6 P w) a vs :=
 show dM P w H h a (.dK kvs) from FF ok e
theorem Lz {kvs:List (Key × V)} (ok:jQ P w H h) (e:H a = some (.dK kvs)):kvs.length <= sizeLine /\ (a == sysModules) = false /\ ∃ vs,KV kvs vs /\ h.DictOf (c6 P w) a vs:=t9 ok (.inl e)
theorem sC {ks:List Key} (ok:jQ P w H h) (e:H a = some (.tup (ks.map kV))):(tupleKind (c6 P w)).is h ks a:=by
 obtain ⟨_,its,r,o,h1,h2,n,h3⟩:=(show dM P w H h a (.tup (ks.map kV)) from ok a _ e)
 exact ⟨o,its.toArray,n,h1,h2,h3,by simpa using qJ r⟩
theorem zm {kvs:List (List Key × V)} (ok:jQ P w H h) (e:Rd H a (.dT kvs)):kvs.length <= sizeLine /\ (a == sysModules) = false /\
  ∃ xs,KT H kvs xs /\ h.DictOfH (tupleKind (c6 P w)) a xs:=by
 obtain ⟨z,y,xs,r,o,es,ep,h1,h2,h3,h4,h5⟩:=(show dM P w H h a (.dT kvs) from FF ok e)
 refine ⟨z,y,xs,r,o,es,ep,h1,h2,h3,h4,λx hx=>?_,h5⟩
 have all:∀ {l:List (List Key × V)} {m:List (List Key × Addr × Value)},KT H l m -> ∀ x ∈ m,(tupleKind (c6 P w)).is h x.1 x.2.1:=by
  intro l m q
  induction q with
  | nil=>intro x hx;exact nomatch hx
  | @cons p q ps qs hq t ih =>
   intro x hx
   rcases List.mem_cons.mp hx with e | hx
   ·subst e
    exact sC ok (by rw [← hq.1];exact hq.2.1)
   ·exact ih x hx
 exact all r x hx
theorem LI {kvs:List (List Key × V)} (ok:jQ P w H h) (e:H a = some (.dT kvs)):kvs.length <= sizeLine /\ (a == sysModules) = false /\
  ∃ xs,KT H kvs xs /\ h.DictOfH (tupleKind (c6 P w)) a xs:=zm ok (.inl e)
end
def tR (H:Hp) (a:Addr) (y:V) (r:Option V):Prop :=
 (∃ kvs k,Rd H a (.dK kvs) /\ y = kV k /\ r = gA kvs k) ∨ ∃ kvs k b,Rd H a (.dT kvs) /\ y = .ref b /\ H b = some (.tup (k.map kV)) /\ r = gA kvs k
def DL (H:Hp) (a:Addr) (y v:V) (H':Hp):Prop :=
 (∃ kvs k,H a = some (.dK kvs) /\ y = kV k /\ kvs.length < sizeLine /\ H' = upd H a (.dK (putK kvs k v))) ∨
 ∃ kvs k b,H a = some (.dT kvs) /\ y = .ref b /\ H b = some (.tup (k.map kV)) /\ kvs.length < sizeLine /\ H' = upd H a (.dT (putK kvs k v))
theorem tR.k {H:Hp} {a:Addr} {kvs:List (Key × V)} {k:Key} (e:H a = some (.dK kvs)):tR H a (kV k) (gA kvs k):=.inl ⟨kvs,k,.inl e,rfl,rfl⟩
theorem DL.k {H:Hp} {a:Addr} {kvs:List (Key × V)} {k:Key} {v:V} (e:H a = some (.dK kvs)) (hl:kvs.length < sizeLine):DL H a (kV k) v (upd H a (.dK (putK kvs k v))):=.inl ⟨kvs,k,e,rfl,hl,rfl⟩
section
variable {X:Cx} {pins:List (Addr × Obj)} {σ:St} {H:Hp} {s:Shared} {a:Addr} {y v:V} {u r:Value} {o:Option V} {A:Around} {E:Value -> Shared -> Prop}
theorem Inv.big (I:Inv X pins σ H s):sysModules < s.heap.objs.size:=by
 have h:mainGlobals < s.heap.objs.size:=(I.mod.glob.keeps I.bk).lt
 exact Nat.lt_trans (by decide) h
theorem Ew {Q:Value -> Shared -> Prop} (hu:A.units + 1 < cLine) (I:Inv X pins σ H s) (g:tR H a y o) (ry:RelV y u) (h:∀ s',Inv X pins σ H s' -> Q (.bool (!o.isSome)) s') :
  wpAny (model X.prog X.w) A (compareOp .NotIn u (.ref a)) Q E s:=by
 rcases g with ⟨kvs,k,e,ey,l⟩ | ⟨kvs,k,b,e,ey,eb,l⟩
 ·subst ey
  obtain ⟨z,hd,vs,rel,dd⟩:=t9 I.hok e
  refine wpAny_notIn_of (zA ry) hd dd.mapOf ?_
  rw [← (rel.val k).kK,← l]
  exact h _ (I.tok _)
 ·subst ey
  cases (show u = Value.ref b from ry)
  obtain ⟨z,hd,xs,rel,dd⟩:=zm I.hok e
  refine wpAny_notIn_heap (tupleKind_room_in1 hu) (sC I.hok eb) hd dd ?_
  have q:=(rel.val k).kK
  rw [Option.isSome_map] at q
  rw [← q,← l]
  exact h _ (I.tok _)
theorem ze {h':Heap} {t':Nat} {ob:HO} (I:Inv X pins σ H s) (mu:Lq (H a)) (hs:Heap.SameBut a s.heap h') (he:∃ q,h'.get? a = some q) (new:dM X.prog X.w (upd H a ob) h' a ob) :
  Inv X pins σ (upd H a ob) { s with heap:=h',toks:=t' } :=
 I.write (x:=a) (e:=a) mu (.inl rfl) (λb q hb z=>(hs.2 b hb).trans z) he new
theorem GU {P:Program} {w:World} {H':Hp} {h':Heap} {kvs:List (Key × V)} {vs:List (Key × Value)} (z:kvs.length <= sizeLine) (hd:(a == sysModules) = false) (rel:KV kvs vs) (dd:h'.DictOf (c6 P w) a vs) :
  dM P w H' h' a (.dK kvs):=⟨z,hd,vs,rel,dd⟩
theorem zC {H':Hp} {Q:Unit -> Shared -> Prop} (hu:A.units + 1 < cLine) (I:Inv X pins σ H s) (g:DL H a y v H') (ry:RelV y u) (rv:RelV v r) (h:∀ s',Inv X pins σ H' s' -> Q () s') :
  wpAny (model X.prog X.w) A (setItem (.ref a) u r) Q E s:=by
 rcases g with ⟨kvs,k,e,ey,l,eH⟩ | ⟨kvs,k,b,e,ey,eb,l,eH⟩
 ·subst ey eH
  obtain ⟨z,hd,vs,rel,dd⟩:=Lz I.hok e
  have hz:vs.length <= sizeLine:=by rw [← rel.length];exact z
  have hl:(putK kvs k v).length <= sizeLine:=by have:=lQ kvs k v;omega
  refine wpAny_setItem_pairs (hsz:=hz) (zA ry) dd λh' dd' hs=>h _ ?_
  have he:∃ q,h'.get? a = some q:=let ⟨q,_,_,hq,_⟩:=dd';⟨q,hq⟩
  exact ze I (by rw [e];exact True.intro) hs he (GU hl hd (rel.put k rv) dd')
 ·subst ey eH
  cases (show u = Value.ref b from ry)
  obtain ⟨z,hd,xs,rel,dd⟩:=LI I.hok e
  have hz:xs.length <= sizeLine:=by rw [← Paired.length rel];exact z
  have hl:(putK kvs k v).length <= sizeLine:=by have:=lQ kvs k v;omega
  refine wpAny_setItem_heap (hsz:=hz) (tupleKind_room_in1 hu) (sC I.hok eb) dd λh' dd' hs=>h _ ?_
  obtain ⟨q,es,ep,hq,h2,h3,h4,_,h5⟩:=dd'
  refine ze I (by rw [e];exact True.intro) hs ⟨q,hq⟩ ⟨hl,hd,_,(rel.put k eb rv).keeps λc ys ec=>?_,q,es,ep,hq,h2,h3,h4,h5⟩
  rw [ao (cB ec e (λz=>nomatch z))]
  exact ec
end
section
variable {X:Cx} {pins:List (Addr × Obj)} {σ:St} {H:Hp} {s:Shared} {a:Addr} {kvs:List (Key × V)} {k:Key} {u:Value} {A:Around} {E:Value -> Shared -> Prop}
theorem Lx {Q:Value -> Shared -> Prop} (I:Inv X pins σ H s) (e:Rd H a (.dK kvs)) (h:∀ t s',Inv X pins σ H s' -> Q (.int kvs.length t) s'):wpAny (model X.prog X.w) A (call (.builtin "len") [.ref a]) Q E s:=by
 obtain ⟨z,hd,vs,rel,dd⟩:=t9 I.hok e
 refine call_len_dict hd dd (by rw [← rel.length];rw [sizeLine_eq] at z;omega) ?_
 rw [← rel.length]
 exact h _ _ (I.tok _)
end
def Fb (ty td:TE):TE:=λσ H Q=>ty σ H λy H1=>td σ H1 λx H2=>∃ a o,x = .ref a /\ tR H2 a y o /\ Q (.bl (!o.isSome)) H2
def La (td ty tv:TE):TS:=λD σ H=>tv σ H λv H1=>td σ H1 λx H2=>ty σ H2 λy H3=>∃ a H4,x = .ref a /\ DL H3 a y v H4 /\ D.nx σ H4
section
variable {X:Cx} {o i e value:Expr} {pos pos' tpos:Pos} {td ty tv:TE}
theorem zI (hu:X.A.units + 1 < cLine) (hi:PE X i ty) (ho:PE X o td):PC X .NotIn i o (Fb ty td):=by
 intro pins s σ H Q I h
 refine c5 (hi pins s σ H _ I h) λiv s1 ⟨y,H1,I1,ry,q1⟩=>c5 (ho pins s1 σ H1 _ I1 q1) λu s2 ⟨x,H2,I2,rx,a,ov,ex,g,q2⟩=>?_
 subst ex
 obtain rfl:u = Value.ref a:=rx
 exact Ew hu I2 g ry λs3 I3=>⟨.bl (!ov.isSome),H2,I3,rfl,q2⟩
theorem E2 (hu:X.A.units + 1 < cLine) (ho:PE X o td) (hi:PE X i ty) (hv:PE X value tv) (hs:swapsWith value (some (.Subscript o i pos')) pos.line X.env = pure false) :
  PS X (.Assign [.Subscript o i pos'] value pos) (La td ty tv):=by
 intro pins s σ H D I h
 refine wpAny_Assign_Subscript (c5 (hv pins s σ H _ I h) λr s1 ⟨v,H1,I1,rv,q1⟩=>c5 (ho pins s1 σ H1 _ I1 q1) λu s2 ⟨x,H2,I2,rx,q2⟩=>c5 (hi pins s2 σ H2 _ I2 q2) λiv s3 ⟨y,H3,I3,ry,a,H4,ex,g,q3⟩=>?_) hs
 subst ex
 obtain rfl:u = Value.ref a:=rx
 exact zC hu I3 g ry rv λs4 I4=>⟨σ,H4,I4,q3⟩
end
theorem C6 {P:Program} {w:World} {H:Hp} (h:Heap) (hb:sysModules < h.objs.size):dM P w H (h.push { cls:=.type "dict",data:=.dict #[] }) h.objs.size (.dK []) :=
 ⟨Nat.zero_le _,beq_eq_false_iff_ne.mpr (Ne.symm (Nat.ne_of_lt hb)),[],.nil,Heap.DictOf.new h⟩
def Iv:TE:=λ_ H Q=>∀ p,H p = none -> Q (.ref p) (upd H p (.dK []))
section
variable {X:Cx} {pos:Pos}
theorem BK:PE X (.Dict [] [] pos) Iv:=λpins s σ H Q I h =>
 wpAny_Dict_empty ⟨.ref s.heap.objs.size,_,I.laid (a:=s.heap.objs.size) (o:=.dK []) (t':=s.toks) (λ_ _ q=>Heap.get?_push_of_some _ q) (Nat.le_refl _) (C6 s.heap I.big),rfl,h _ (I.hok.fresh (Nat.le_refl _))⟩
end
structure M1 (X:Cx) (o:Expr) (m:Str) (apos:Pos) (e:Expr) (cpos:Pos):Prop where
 base:attributeBase o m X.env (eval o X.env) = eval o X.env
 few:((backTo cpos (starEach [e] X.env)).all (λx=>!x.1) && (backToKw cpos (keywordEach [] X.env)).all (λx=>x.1.isSome)
  && decide (([e]:List Expr).length + ([]:List Keyword).length + (if ([]:List Keyword).isEmpty then 0 else 1) < 30)) = true
 line:(apos.endLine == cpos.line) = true
 trees:backTo cpos (starEach [e] X.env) = [(false,eval e X.env)]
def IsD (H:Hp) (a:Addr):Prop:=(∃ kvs,Rd H a (.dK kvs)) ∨ ∃ kvs,Rd H a (.dT kvs)
theorem HH {X:Cx} {pins:List (Addr × Obj)} {σ:St} {H:Hp} {s:Shared} {a:Addr} (I:Inv X pins σ H s) (d:IsD H a) :
  s.TypeIs (.ref a) "dict" /\ (∀ b,Value.ref a = .ref b -> ∃ ob,s.heap.get? b = some ob /\ ob.dict = none) /\ (a == sysModules) = false:=by
 rcases d with ⟨kvs,e⟩ | ⟨kvs,e⟩
 ·obtain ⟨_,hd,vs,_,dd⟩:=t9 I.hok e
  refine ⟨dd.typeIs,λb q=>?_,hd⟩
  cases q
  obtain ⟨ob,_,_,h1,h2,_⟩:=dd
  exact ⟨ob,h1,h2.2.1⟩
 ·obtain ⟨_,hd,xs,_,dd⟩:=zm I.hok e
  refine ⟨dd.typeIs,λb q=>?_,hd⟩
  cases q
  obtain ⟨ob,_,_,h1,h2,_⟩:=dd
  exact ⟨ob,h1,h2.2.1⟩
section
variable {X:Cx} {pins:List (Addr × Obj)} {σ:St} {H:Hp} {s:Shared} {a:Addr} {y d:V} {u r:Value} {o:Option V} {A:Around} {E:Value -> Shared -> Prop}
theorem IX {Q:Value -> Shared -> Prop} (hu:A.units + 1 < cLine) (I:Inv X pins σ H s) (g:tR H a y o) (ry:RelV y u) (h:∀ w' s',Inv X pins σ H s' -> RelV (o.getD .cK) w' -> Q w' s') :
  wpAny (model X.prog X.w) A (call (.builtin "dict.get") [.ref a,u]) Q E s:=by
 rcases g with ⟨kvs,k,e,ey,l⟩ | ⟨kvs,k,b,e,ey,eb,l⟩
 ·subst ey
  obtain ⟨z,hd,vs,rel,dd⟩:=t9 I.hok e
  refine call_meetsIn PySem.F.slot_dict_get dd.typeIs PySem.F.entry_dict_get (PySem.F.args_dict_get_2 _ _) (meets_dict_get (c6 X.prog X.w) a (zA ry) hd) ⟨_,dd.mapOf,h _ _ (I.tok _) ?_⟩
  rw [l]
  exact (rel.val k).getD rfl
 ·subst ey
  cases (show u = Value.ref b from ry)
  obtain ⟨z,hd,xs,rel,dd⟩:=zm I.hok e
  refine call_meetsIn PySem.F.slot_dict_get dd.typeIs PySem.F.entry_dict_get (PySem.F.args_dict_get_2 _ _) (meetsH_dict_get (tupleKind (c6 X.prog X.w)) a b hd) ⟨tupleKind_room_in1 hu,k,xs,sC I.hok eb,dd,h _ _ (I.tok _) ?_⟩
  rw [l]
  exact (rel.val k).getD rfl
end
def JQ (td ty:TE):TE:=λσ H Q=>td σ H λx H1=>∃ a,x = .ref a /\ IsD H1 a /\ ty σ H1 λy H2=>∃ o,tR H2 a y o /\ Q (o.getD .cK) H2
section
variable {X:Cx} {o e f:Expr} {apos cpos:Pos} {td ty tx:TE}
theorem DI (hu:X.A.units + 1 < cLine) (ho:PE X o td) (he:PE X e ty) (m:M1 X o "get" apos e cpos):PE X (.Call (.Attribute o "get" apos) [e] [] cpos) (JQ td ty):=by
 intro pins s σ H Q I h
 refine wpAny_Call_method m.base m.few m.line PySem.F.plainAttrs_dict PySem.F.slot_dict_get PySem.F.type_dict_get (c5 (ho pins s σ H _ I h) λu s1 ⟨x,H1,I1,rx,a,ex,d,q1⟩=>?_)
 subst ex
 obtain rfl:u = Value.ref a:=rx
 obtain ⟨t1,t2,_⟩:=HH I1 d
 refine ⟨t1,t2,?_⟩
 rw [m.trees]
 refine Calls.callWith_builtin rfl (Calls.evalArgs_plain (Calls.spliced_cons (c5 (he pins s1 σ H1 _ I1 q1) λiv s2 ⟨y,H2,I2,ry,ov,g,q2⟩=>Calls.spliced_nil ?_)))
 exact IX hu I2 g ry λw' s3 I3 rw'=>⟨_,H2,I3,rw',q2⟩
end
section
variable {X:Cx} {pins:List (Addr × Obj)} {σ:St} {H:Hp} {s:Shared} {a:Addr} {kvs:List (Key × V)} {A:Around} {E:Value -> Shared -> Prop}
end
section
variable {X:Cx} {pins:List (Addr × Obj)} {σ:St} {H:Hp} {s:Shared} {a:Addr} {y:V} {u:Value} {A:Around} {E:Value -> Shared -> Prop}
end
section
variable {X:Cx}
theorem Ag:jW X (.builtin "len") (λxs H Q=>∃ a kvs,xs = [V.ref a] /\ H a = some (.dK kvs) /\ Q (.int kvs.length) H):=by
 intro pins s σ H xs us Q I r h
 obtain ⟨a,kvs,rfl,ha,q⟩:=h
 obtain ⟨u,rfl,ru⟩:=vals1 r
 cases ru
 exact Lx I (.inl ha) λt s' I'=>⟨.int kvs.length,H,I',⟨t,rfl⟩,q⟩
end
section
variable {κ:Type} [DecidableEq κ]
end
end L2
namespace L2
open PySem PySem.Spec PyProof.Rows
section
variable {X:Cx}
def CT:V -> List V -> Hp -> VK -> Prop:=λx vs H Q=>∃ a b:Str,x = .str a /\ vs = [.str b] /\ (b.length == 0) = false /\ a.length + 2 <= sizeLine /\ ∀ p,H p = none -> Q (.ref p) (upd H p (.lst ((PySem.Txt.split a b).map V.str)))
theorem Ao:∀ (n:Nat) (ys:List Str),Vals (ys.map V.str) (strsFrom n ys):=by
 intro n ys
 rw [strsFrom_eq]
 have aux:∀ (l:List (Str × Tok)),Vals ((l.map (·.1)).map V.str) (strValues l):=by
  intro l
  induction l with
  | nil=>exact .nil
  | cons p r ih=>exact .cons ⟨p.2,rfl⟩ ih
 have:=aux (numbered n ys)
 rwa [numbered_texts] at this
theorem kF:J6 X "str.split" CT:=by
 intro pins s σ H x vs v us Q I rx rv h
 obtain ⟨a,b,rfl,rfl,hb,hz,q⟩:=h
 obtain ⟨t,rfl⟩:=rx
 obtain ⟨u,rfl,ru⟩:=rv.one
 obtain ⟨t1,rfl⟩:=ru
 have q0:=q s.heap.objs.size (I.hok.fresh (Nat.le_refl _))
 have hle:=PyProof.Rows.split_le a b
 cases h1:(decide (a.length < b.length) || decide (Builtin.Str.strKind a < Builtin.Str.strKind b))
 ·cases hf:(Builtin.Str.occurrences a b 0 a.length (a.length + 1)).isEmpty
  ·have e:PySem.Txt.split a b = Builtin.Str.partsBetween a (Builtin.Str.occurrences a b 0 a.length (a.length + 1)) b.length:=by
    unfold PySem.Txt.split
    rw [if_neg (ne_true_of_eq_false h1),if_neg (ne_true_of_eq_false hf)]
   rw [e] at q0 hle
   refine call_meets F.slot_str_split (typeIs_str _ _ _) F.entry_str_split (F.args_str_split_2 _ _) (meets_str_split_sep a b t t1 h1 hb hf (by omega) (by omega)) ?_
   exact ⟨.ref _,_,I.Cq (t':=_) (Ao s.toks _) (by rw [List.length_map];omega),rfl,q0⟩
  ·have e:PySem.Txt.split a b = [a]:=by
    unfold PySem.Txt.split
    rw [if_neg (ne_true_of_eq_false h1),if_pos hf]
   rw [e] at q0
   refine call_meets F.slot_str_split (typeIs_str _ _ _) F.entry_str_split (F.args_str_split_2 _ _) (meets_str_split_not_found a b t t1 h1 hb hf) ?_
   exact ⟨.ref _,_,I.Cq (ys:=[.str a]) (t':=s.toks) (.cons ⟨t,rfl⟩ .nil) (by show 1 <= sizeLine;decide),rfl,q0⟩
 ·have e:PySem.Txt.split a b = [a]:=by
   unfold PySem.Txt.split
   rw [if_pos h1]
  rw [e] at q0
  refine call_meets F.slot_str_split (typeIs_str _ _ _) F.entry_str_split (F.args_str_split_2 _ _) (meets_str_split_cannot_occur a b t t1 h1) ?_
  exact ⟨.ref _,_,I.Cq (ys:=[.str a]) (t':=s.toks) (.cons ⟨t,rfl⟩ .nil) (by show 1 <= sizeLine;decide),rfl,q0⟩
theorem uU {bs:List Bool}:∀ {us:List Value},Vals (bs.map V.bl) us -> LSm.BoolsAre us bs:=by
 induction bs with
 | nil=>intro us r;cases r;exact .nil
 | cons y r ih =>
  intro us h
  cases h with
  | cons h t =>
   cases h
   exact .cons _ (ih t)
theorem Ae (hc:X.calm = true):jW X (.builtin "all") (λxs H Q=>∃ (p:Addr) (bs:List Bool),xs = [.ref p] /\ bu X.K H p (bs.map V.bl) /\ Q (.bl (bs.all id)) H):=by
 intro pins s σ H xs us Q I r h
 obtain ⟨p,bs,rfl,hq,q⟩:=h
 obtain ⟨u,rfl,rx⟩:=vals1 r
 cases rx
 obtain ⟨its,r',pl,hz⟩:=I.list hq
 have hb:=uU r'
 have hl:=pl.isList
 have hlt:p < s.heap.objs.size:=by obtain ⟨_,e,_⟩:=hl;exact Heap.lt_size e
 refine call_all_walk (wpAny_pyIter_list hl ?_)
 refine ⟨s.heap.objs.size,[s.heap.objs.size,p],[s.heap.objs.size],its.toArray.size,_,_,λi=>(bs[i]?).getD true,rfl,Walks.list (A:=X.A.in1) (I.ok.hd hc) _ p (Nat.ne_of_lt hlt) its.toArray,
  ⟨⟨_,Heap.get?_push_size _ rfl,rfl,rfl⟩,hl.push _⟩,λi v s' Q' E' hP hQ=>?_,λh' tk hk=>?_⟩
 ·obtain ⟨b,e,rfl⟩:=hb.get i v (by simpa using hP)
  simp only [e,Option.getD_some] at hQ
  exact wpAny_truthy_bool hQ
 ·have e:((List.range its.toArray.size).all λi=>(bs[i]?).getD true) = bs.all id:=by
   rw [List.size_toArray,hb.length];exact LSm.range_all bs
  rw [e]
  exact ⟨.bl _,H,I.kept (t':=tk) (LSm.kept_iter hk),rfl,q⟩
end
def LP (z:Str):It:=⟨λi _=>i < z.length,λi H x H'=>H' = H /\ ∃ c,z.cps.toList[i]? = some c /\ x = .str ⟨#[c]⟩,λi _=>z.length <= i⟩
section
variable {X:Cx} {tg:Expr}
theorem qP {P:Program} {w:World} {K:PySem.W.Frag} {x:Str} {px:Pos} (z:Str) (it:Addr) (St:Nat -> Heap -> Prop) (cl:∀ i h,St i h -> ∃ o,h.get? it = some o /\ ∀ v,o.data ≠ .cell v)
  (fr:∀ i h h',St i h -> (∀ o,h.get? it = some o -> h'.get? it = some o) -> St i h') (sf:∀ (A:Around) (i:Nat) (s:Shared) (Q:Value -> Shared -> Prop) (E:Value -> Shared -> Prop),St i s.heap -> Q (.ref it) s -> wpAny (model P w) A (pyIter (.ref it)) Q E s)
  (W:∀ A:Around,A.handled = none -> Walks P w A it [it] [it] z.cps.size (SignAt z) St):Turn P w K (.Name x px) (LP z) [it] it (λi h=>St i h /\ i <= z.length) where
 mem:=by simp
 obj:=λi h st b hb=>by
  have e:b = it:=by simpa using hb
  subst e
  exact cl i h st.1
 keep:=λi h h' st k=>⟨fr i h h' st.1 λo e=>k it (by simp) o e,st.2⟩
 item:=by
  intro X hP hw hK hc i pins s σ H E I hf st hg
  subst hP hw hK
  obtain ⟨f0,f1,f2,f3,f4,f5⟩:=hf it (by simp)
  refine (W X.A (I.ok.hd hc)).item i s _ E hg st.1 λv h' tk hP st' hk=>?_
  obtain ⟨c,u,e1,rfl⟩:=hP
  refine ⟨_,rfl,?_⟩
  show wpAny _ _ (pure ()) _ _ _
  refine wpAny_pure ⟨.str ⟨#[c]⟩,H,I.turned (t':=tk) (λb o hb e=>hk b o (by simpa using hb) e) f0 f1 f3 f4 f5,⟨u,rfl⟩,⟨rfl,c,by simpa using e1,rfl⟩,⟨st',hg⟩,λb hb=>(hf b hb).1⟩
 done:=by
  intro X hP hw hK hc i pins s σ H E I hf st hg
  subst hP hw hK
  obtain ⟨f0,f1,f2,f3,f4,f5⟩:=hf it (by simp)
  have e:i = z.cps.size:=Nat.le_antisymm st.2 hg
  subst e
  exact (W X.A (I.ok.hd hc)).done s _ E st.1 λh' tk hk=>⟨rfl,I.turned (t':=tk) (λb o hb e=>hk b o (by simpa using hb) e) f0 f1 f3 f4 f5⟩
 self:=λA i s Q E st h=>sf A i s Q E st.1 h
def Mv (te:TE):TI:=λσ H R=>te σ H λx H1=>∃ z:Str,x = .str z /\ R (LP z) H1
theorem Jx {e:Expr} {te:TE} {x:Str} {px:Pos} (he:PE X e te):PI X (.Name x px) e (Mv te):=by
 intro pins s σ H R I h
 refine c5 (he pins s σ H _ I h) λv s1 ⟨y,H1,I1,r1,q1⟩=>?_
 obtain ⟨z,rfl,q⟩:=q1
 obtain ⟨t,rfl⟩:=r1
 have fin:∀ (o:Obj) (St:Nat -> Heap -> Prop),Turn X.prog X.w X.K (.Name x px) (LP z) [s1.heap.objs.size] s1.heap.objs.size St -> St 0 (s1.heap.push o) -> Mx X pins σ (.Name x px) R (.ref s1.heap.objs.size) { s1 with heap:=s1.heap.push o }:=λo St T st=>by
  refine ⟨s1.heap.objs.size,[s1.heap.objs.size],_,_,H1,rfl,I1.kept (t':=s1.toks) λb o e=>Heap.get?_push_of_some _ e,T,st,λb hb=>?_,q⟩
  have e:b = s1.heap.objs.size:=by simpa using hb
  subst e
  exact I1.AK (Nat.le_refl _) (I1.hok.fresh (Nat.le_refl _))
 have cl:∀ ty (i:Nat) (h:Heap),h.IsStrIter s1.heap.objs.size ty z t i -> ∃ o,h.get? s1.heap.objs.size = some o /\ ∀ v,o.data ≠ .cell v:=λty i h st=>by
  obtain ⟨o,e,c,d⟩:=st
  exact ⟨o,e,λv q=>by rw [d] at q;cases q⟩
 have fr:∀ ty (i:Nat) (h h':Heap),h.IsStrIter s1.heap.objs.size ty z t i -> (∀ o,h.get? s1.heap.objs.size = some o -> h'.get? s1.heap.objs.size = some o) -> h'.IsStrIter s1.heap.objs.size ty z t i:=λty i h h' st k=>by
  obtain ⟨o,e,r⟩:=st
  exact ⟨o,k o e,r⟩
 cases ha:z.cps.all (· < 128)
 ·exact wpAny_pyIter_wide ha (fin _ _ (qP z _ _ (cl _) (fr _) (λA i s Q E st h=>wpAny_pyIter_striter_wide st h) (λA hA=>Walks.strWide hA _ z t)) ⟨⟨_,Heap.get?_push_size _ rfl,rfl,rfl⟩,Nat.zero_le _⟩)
 ·exact wpAny_pyIter_ascii ha (fin _ _ (qP z _ _ (cl _) (fr _) (λA i s Q E st h=>wpAny_pyIter_striter_ascii st h) (λA hA=>Walks.strAscii hA _ z t)) ⟨⟨_,Heap.get?_push_size _ rfl,rfl,rfl⟩,Nat.zero_le _⟩)
def ME (K:PySem.W.Frag) (a:Addr):It :=
 ⟨λi H=>∃ xs x,bu K H a xs /\ xs[i]? = some x,λi H x H'=>∃ p v,H p = none /\ x = .ref p /\ H' = upd H p (.tup [.int i,v]) /\ ∀ xs,bu K H a xs -> xs[i]? = some v,λi H=>∃ xs,bu K H a xs /\ xs.length <= i⟩
theorem zN {P:Program} {w:World} {K:PySem.W.Frag} {elts:List Expr} {x1} {pos:Pos} (a e it:Addr) (hne:e ≠ it):Turn P w K (.Tuple elts x1 pos) (ME K a) [e,it] e (λi h=>∃ old,IsEnum h e it i old /\ h.IsListIter it a i) where
 mem:=by simp
 obj:=λi h st b hb=>by
  obtain ⟨old,st,si⟩:=st
  rcases List.mem_cons.mp hb with z | z
  ·subst z
   exact ⟨_,st,λv q=>by cases q⟩
  ·have e:b = it:=by simpa using z
   subst e
   obtain ⟨o,e,c,d⟩:=si
   exact ⟨o,e,λv q=>by rw [d] at q;cases q⟩
 keep:=λi h h' st k=>by
  obtain ⟨old,st,si⟩:=st
  exact ⟨old,k e (by simp) _ st,si.at λo q=>k it (by simp) o q⟩
 item:=by
  intro X hP hw hK hc i pins s σ H E I hf st hg
  subst hP hw hK
  obtain ⟨old,st,si⟩:=st
  obtain ⟨xs,x,hq,hx⟩:=hg
  obtain ⟨its,rv,p,hz⟩:=I.list hq
  obtain ⟨u,hu,ru⟩:=rv.get hx
  have f:=hf e (by simp)
  have g:=hf it (by simp)
  refine wpAny_pyNext_enum_item st si p.isList (x:=u) (by simpa using hu) hne λh1 eo si1 ht hsz hk=>?_
  refine ⟨_,rfl,wpAny_letOwnedTupleGo_enum (s:={ s with heap:=h1,toks:=s.toks + 1 }) eo λh2 en sb=>?_⟩
  have hs1:e ≠ s.heap.objs.size:=Nat.ne_of_lt (Heap.lt_size st)
  have hs2:it ≠ s.heap.objs.size:=by obtain ⟨o,q,_⟩:=si;exact Nat.ne_of_lt (Heap.lt_size q)
  have k2:∀ b o,b ≠ e -> b ≠ it -> s.heap.get? b = some o -> h2.get? b = some o:=λb o n1 n2 q=>(sb.2 b n1).trans (hk b o n1 n2 q)
  have fresh:=I.hok.fresh (Nat.le_refl s.heap.objs.size)
  have I1:Inv X pins σ (upd H s.heap.objs.size (.tup [.int i,x])) { s with heap:=h2,toks:=s.toks + 1 }:=by
   refine I.step (g':=s.gens) (d':=s.drawn) (ch:=[e,it]) (λb hb=>?_) (λb o _ _ hc q _=>?_) (λb o _ _ hc q _=>?_) (λb o hc q n=>?_) (λb o hc q=>?_) (λb ys q=>?_) (λb o ys q=>?_) (λb ps q=>?_) (λm hm=>?_) (λb u' q=>?_) I.bare
   ·rcases List.mem_cons.mp hb with z | z
    ·rw [z];exact ⟨f.2.2.2.1,f.2.1,f.2.2.2.2.1,f.2.2.2.2.2⟩
    ·have z:b = it:=by simpa using z
     rw [z];exact ⟨g.2.2.2.1,g.2.1,g.2.2.2.2.1,g.2.2.2.2.2⟩
   ·exact k2 b o (λz=>hc (by simp [z])) (λz=>hc (by simp [z])) q
   ·exact ⟨o.slots,k2 b o (λz=>hc (by simp [z])) (λz=>hc (by simp [z])) q⟩
   ·rw [ao (Nat.ne_of_lt (Heap.lt_size q))];exact n
   ·exact ⟨o,k2 b o (λz=>hc (by simp [z])) (λz=>hc (by simp [z])) q⟩
   ·rw [ao (aj q fresh)];exact q
   ·rw [ao (aj q fresh)];exact q
   ·exact ⟨#[],by rw [ao (aj q fresh),q];simp⟩
   ·obtain ⟨o,es,ep,ho,r⟩:=hm
    exact ⟨o,es,ep,k2 _ o (Ne.symm f.2.1) (Ne.symm g.2.1) ho,r⟩
   ·by_cases hb:b = s.heap.objs.size
    ·subst hb
     rw [af] at q;cases q
     refine ⟨by show 2 <= sizeLine;decide,[_,u],.cons ⟨_,rfl⟩ (.cons ru .nil),⟨_,(sb.2 _ (Ne.symm hs1)).trans ht,rfl,_,rfl⟩⟩
    ·rw [ao hb] at q
     refine (I.hok b u' q).stay (λc v hc' r=>k2 c v ?_ ?_ r) (λc r=>by rw [ao (aj r fresh)];exact r) λc ys r=>by rw [ao (aj r fresh)];exact r
     ·rcases hc' with z | z
      ·rw [z];exact aj q f.1
      ·exact aj z f.1
     ·rcases hc' with z | z
      ·rw [z];exact aj q g.1
      ·exact aj z g.1
  refine ⟨.ref s.heap.objs.size,_,I1,rfl,⟨_,x,fresh,rfl,rfl,λys hy=>by rw [I.kD hy hq];exact hx⟩,⟨_,en,?_⟩,λb hb=>?_⟩
  ·obtain ⟨o,q,r⟩:=si1
   exact ⟨o,(sb.2 it (Ne.symm hne)).trans q,r⟩
  ·have hb':=(hf b hb).1
   rcases List.mem_cons.mp hb with z | z
   ·rw [ao (by rw [z];exact hs1)];exact hb'
   ·have z:b = it:=by simpa using z
    rw [ao (by rw [z];exact hs2)];exact hb'
 done:=by
  intro X hP hw hK hc i pins s σ H E I hf st hg
  subst hP hw hK
  obtain ⟨old,st,si⟩:=st
  obtain ⟨xs,hq,hx⟩:=hg
  obtain ⟨its,rv,p,hz⟩:=I.list hq
  obtain ⟨f0,f1,f2,f3,f4,f5⟩:=hf it (by simp)
  have hl:=rv.length
  exact wpAny_pyNext_enum_end (I.ok.hd hc) st si p.isList (by simp;omega) λh' eb=>⟨rfl,I.turned (t':=s.toks) (λb o hb e=>eb b o hb e) f0 f1 f3 f4 f5⟩
 self:=λ_ _ _ _ _ st h=>by
  obtain ⟨old,st,si⟩:=st
  exact wpAny_pyIter_enum st h
def Kc (K:PySem.W.Frag) (ta:TA):TI:=λσ H R=>ta σ H λvs H1=>∃ a xs,vs = [.ref a] /\ bu K H1 a xs /\ R (ME K a) H1
theorem zq {a:Expr} {ta:TA} {p pos tp:Pos} {elts:List Expr} {x1} (hg:Gl X "enumerate") (hm:X.mg "enumerate" = none) (ha:PA X [a] ta) (hs:starEach [a] X.env = [(false,eval a X.env)]:=by rfl) :
  PI X (.Tuple elts x1 tp) (.Call (.Name "enumerate" p) [a] [] pos) (Kc X.K ta):=by
 intro pins s σ H R I h
 refine Call_ (jy I hg hm (show bootBuiltins "enumerate" = some (.type "enumerate") by decide +kernel) (PyProof.Rows.callWith_type1 (c5 (ha pos pins s σ H _ I h) λus s1 ⟨vs,H1,I1,r1,q1⟩=>?_) hs rfl))
 obtain ⟨l,xs,rfl,hq,q⟩:=q1
 obtain ⟨u,rfl,ru⟩:=r1.one
 cases ru
 obtain ⟨its,rv,pl,hz⟩:=I1.list hq
 refine call_enumerate_list pl.isList λh' he hi hsz hk=>?_
 refine wpAny_pyIter_enum (s:={ s1 with heap:=h' }) he ?_
 refine ⟨s1.heap.objs.size + 1,[s1.heap.objs.size + 1,s1.heap.objs.size],_,_,H1,rfl,I1.kept (t':=s1.toks) hk,zN l _ _ (Nat.succ_ne_self _),⟨_,he,hi⟩,λb hb=>?_,q⟩
 have hb':s1.heap.objs.size <= b:=by
  rcases List.mem_cons.mp hb with z | z
  ·rw [z];exact Nat.le_succ _
  ·have z:b = s1.heap.objs.size:=by simpa using z
   rw [z];exact Nat.le_refl _
 exact I1.AK hb' (I1.hok.fresh hb')
end
end L2
namespace L2
open PySem PySem.Spec PyProof.Rows
theorem m9 {x y:Str} (h:x.cps.toList = y.cps.toList):x = y:=by
 obtain ⟨a⟩:=x
 obtain ⟨b⟩:=y
 have:a = b:=Array.toList_inj.mp h
 rw [this]
theorem f7 (x y:Str):(x ++ y).cps.toList = x.cps.toList ++ y.cps.toList:=by
 show (x.cps ++ y.cps).toList = _
 simp
def eY (c:Nat):List (List Nat) -> List Nat
 | []=>[]
 | [x]=>x
 | x :: y :: r=>x ++ c :: eY c (y :: r)
theorem gB (c:Nat):∀ ps:List Str,(Str.join ⟨#[c]⟩ ps).cps.toList = eY c (ps.map λp=>p.cps.toList)
 | []=>rfl
 | [x]=>rfl
 | x :: y :: r=>by
  show (x ++ ⟨#[c]⟩ ++ Str.join ⟨#[c]⟩ (y :: r)).cps.toList = x.cps.toList ++ c :: eY c ((y :: r).map λp=>p.cps.toList)
  rw [f7,f7,gB c (y :: r)]
  simp
theorem zc {c:Nat}:∀ {a b r s:List Nat},c ∉ a -> c ∉ b -> a ++ c :: r = b ++ c :: s -> a = b /\ r = s
 | [],[],r,s,_,_,h=>⟨rfl,by simpa using h⟩
 | [],y :: b,r,s,_,hb,h=>by
  simp at h
  exact absurd (by simp [h.1]) hb
 | x :: a,[],r,s,ha,_,h=>by
  simp at h
  exact absurd (by simp [h.1]) ha
 | x :: a,y :: b,r,s,ha,hb,h=>by
  simp only [List.cons_append,List.cons.injEq] at h
  obtain ⟨e1,e2⟩:=zc (λz=>ha (List.mem_cons_of_mem _ z)) (λz=>hb (List.mem_cons_of_mem _ z)) h.2
  exact ⟨by rw [h.1,e1],e2⟩
theorem qX {c:Nat}:∀ {ps qs:List (List Nat)},ps ≠ [] -> qs ≠ [] -> (∀ p ∈ ps,c ∉ p) -> (∀ q ∈ qs,c ∉ q) -> eY c ps = eY c qs -> ps = qs
 | [],_,h,_,_,_,_=>absurd rfl h
 | _ :: _,[],_,h,_,_,_=>absurd rfl h
 | [x],[y],_,_,_,_,h=>by simp only [eY] at h;rw [h]
 | [x],y :: z :: r,_,_,hx,_,h=>by
  simp only [eY] at h
  exact absurd (by rw [h];simp) (hx x (by simp))
 | x :: z :: r,[y],_,_,_,hy,h=>by
  simp only [eY] at h
  exact absurd (by rw [← h];simp) (hy y (by simp))
 | x :: x2 :: r,y :: y2 :: s,_,_,hx,hy,h=>by
  simp only [eY] at h
  obtain ⟨e1,e2⟩:=zc (hx x (by simp)) (hy y (by simp)) h
  have:=qX (ps:=x2 :: r) (qs:=y2 :: s) (by simp) (by simp) (λp hp=>hx p (List.mem_cons_of_mem _ hp)) (λq hq=>hy q (List.mem_cons_of_mem _ hq)) e2
  rw [e1,this]
theorem jE {c:Nat} {ps:List Str} (hn:ps ≠ []) (hf:∀ p ∈ ps,c ∉ p.cps.toList):PySem.Txt.split (Str.join ⟨#[c]⟩ ps) ⟨#[c]⟩ = ps:=by
 have h1:=PySem.StrLaws.join_split (Str.join ⟨#[c]⟩ ps) ⟨#[c]⟩
 have h2:=PySem.StrLaws.split_free (Str.join ⟨#[c]⟩ ps) c
 have h3:=PyProof.Rows.split_pos (Str.join ⟨#[c]⟩ ps) ⟨#[c]⟩
 generalize PySem.Txt.split (Str.join ⟨#[c]⟩ ps) ⟨#[c]⟩ = qs at h1 h2 h3
 have h4:=congrArg (λx:Str=>x.cps.toList) h1
 simp only [gB] at h4
 have inj:∀ {a b:List Str},(a.map λp=>p.cps.toList) = (b.map λp=>p.cps.toList) -> a = b:=by
  intro a
  induction a with
  | nil=>intro b h;cases b with
   | nil=>rfl
   | cons _ _=>cases h
  | cons x r ih =>
   intro b h
   cases b with
   | nil=>cases h
   | cons y s =>
    simp only [List.map_cons,List.cons.injEq] at h
    rw [m9 h.1,ih h.2]
 refine inj (qX (c:=c) ?_ ?_ ?_ ?_ h4)
 ·intro z
  have:=congrArg List.length z
  simp at this
  rw [this] at h3
  simp at h3
 ·intro z
  have:=congrArg List.length z
  simp at this
  exact hn this
 ·intro p hp
  obtain ⟨q,hq,rfl⟩:=List.mem_map.mp hp
  exact h2 q hq
 ·intro p hp
  obtain ⟨q,hq,rfl⟩:=List.mem_map.mp hp
  exact hf q hq
def jm (c d:Nat) (l:List Nat):List Nat:=l.map λx=>if x = c then d else x
theorem kM {c d:Nat}:∀ {l:List Nat},c ∉ l -> jm c d l = l
 | [],_=>rfl
 | x :: r,h=>by
  unfold jm
  rw [List.map_cons,if_neg (λz=>h (by simp [z]))]
  congr 1
  exact kM λz=>h (List.mem_cons_of_mem _ z)
theorem qu {c d:Nat}:∀ {ps:List (List Nat)},(∀ p ∈ ps,c ∉ p) -> jm c d (eY c ps) = eY d ps
 | [],_=>rfl
 | [x],h=>kM (h x (by simp))
 | x :: y :: r,h=>by
  simp only [eY]
  have e1:jm c d (x ++ c :: eY c (y :: r)) = jm c d x ++ d :: jm c d (eY c (y :: r)):=by simp [jm]
  rw [e1,kM (h x (by simp)),qu (ps:=y :: r) λp hp=>h p (List.mem_cons_of_mem _ hp)]
theorem mq (x:Str) (c d:Nat):(PySem.Txt.replace x ⟨#[c]⟩ ⟨#[d]⟩).cps.toList = jm c d x.cps.toList:=by
 rw [PySem.StrLaws.replace_one,gB]
 have h1:=congrArg (λx:Str=>x.cps.toList) (PySem.StrLaws.join_split x ⟨#[c]⟩)
 simp only [gB] at h1
 conv=>rhs;rw [← h1]
 rw [qu]
 intro p hp
 obtain ⟨q,hq,rfl⟩:=List.mem_map.mp hp
 exact PySem.StrLaws.split_free x c q hq
theorem Av {c d:Nat} {l:List Nat} (h:d ∉ l):jm d c (jm c d l) = l:=by
 induction l with
 | nil=>rfl
 | cons x r ih =>
  have hx:x ≠ d:=λz=>h (by simp [z])
  have ih':=ih λz=>h (List.mem_cons_of_mem _ z)
  unfold jm at *
  simp only [List.map_cons]
  rw [ih']
  by_cases e:x = c
  ·subst e;simp
  ·rw [if_neg e,if_neg hx]
end L2
namespace L2
open PySem PySem.Spec PyProof.Rows
theorem MK {α:Type} {t:Sem α} {Q Q':α -> Shared -> Prop} {M:Model} {A:Around} {E E':Value -> Shared -> Prop} {s:Shared} (h:wpAny M A t Q E s) (hQ:∀ a s,Q a s -> Q' a s) (hE:∀ a s,E a s -> E' a s):wpAny M A t Q' E' s:=wpAny_mono h hQ hE
section
variable {X:Cx} {o e:Expr} {to te:TE} {apos cpos pos p1 p2 p3 p4 p5:Pos} {j1 j2 j3:Nat}
def DY (y z:Str):V -> Hp -> VK -> Prop:=λx H Q=>∃ a:Str,x = .str a /\ a.length + (a.length + 1) * z.length <= 16777216 /\ Q (.str (PySem.Txt.replace a y z)) H
theorem Ab {y z:Str} (hyz:(y == z) = false) {pins:List (Addr × Obj)} {s:Shared} {σ:St} {H:Hp} {Q:VK} (I:Inv X pins σ H s)
  (ho:wpAny (model X.prog X.w) X.A (eval o X.env) (λu s'=>1 <= s'.toks /\ EP X pins σ (λx H1=>DY y z x H1 Q) u s') X.xe s)
  (hbase:attributeBase o "replace" X.env (eval o X.env) = eval o X.env:=by rfl) (hline:(apos.endLine == cpos.line) = true:=by rfl) :
  wpAny (model X.prog X.w) X.A (eval (.Call (.Attribute o "replace" apos) [.Constant (.str y) j1 p1,.Constant (.str z) j2 p2] [] cpos) X.env) (EP X pins σ Q) X.xe s:=by
 refine wpAny_Call_method_late hbase rfl hline rfl (c5 ho λv s1 ⟨hk,x,H1,I1,r1,q1⟩=>?_)
 obtain ⟨a,rfl,hz,q⟩:=q1
 obtain ⟨t,rfl⟩:=r1
 refine ⟨"str","str.replace",F.plainAttrs_str,F.slot_str_replace,F.type_str_replace,typeIs_str _ _ _,(λ_ e=>nomatch e),?_⟩
 refine Calls.callWith_builtin rfl (Calls.evalArgs_plain ?_)
 refine Calls.spliced_cons (Calls.Constant_str (k:=j1) (pos:=p1) (Calls.spliced_cons (Calls.Constant_str (k:=j2) (pos:=p2) (Calls.spliced_nil ?_))))
 exact SC.replace (u:=s1.toks) (v:=s1.toks + 1) (Nat.ne_of_gt hk) (Nat.succ_ne_zero _) Ea hyz hz λt' k=>⟨.str _,H1,I1.tok _,⟨t',rfl⟩,q⟩
theorem xC {y z:Str} {k:Int} (hyz:(y == z) = false) (he:PE X e te)
  (hbase:attributeBase (.Subscript e (.Slice (some (.Constant (.int k) j3 p4)) none none p3) p5) "replace" X.env (eval (.Subscript e (.Slice (some (.Constant (.int k) j3 p4)) none none p3) p5) X.env) = eval (.Subscript e (.Slice (some (.Constant (.int k) j3 p4)) none none p3) p5) X.env:=by rfl)
  (hline:(apos.endLine == cpos.line) = true:=by rfl) :
  PE X (.Call (.Attribute (.Subscript e (.Slice (some (.Constant (.int k) j3 p4)) none none p3) p5) "replace" apos) [.Constant (.str y) j1 p1,.Constant (.str z) j2 p2] [] cpos) (λσ H Q=>te σ H λx H1=>∃ w:Str,x = .str w /\ w.length <= sizeLine /\ DY y z (.str (PySem.Txt.slice w (some k) none)) H1 Q):=by
 intro pins s σ H Q I h
 refine Ab hyz I ?_ hbase hline
 refine Subscript_ (c5 (he pins s σ H _ I h) λv s1 ⟨x,H1,I1,r1,w,hx,hw,q1⟩=>?_)
 subst hx
 obtain ⟨t,rfl⟩:=r1
 refine wpAny_Slice ?_
 rw [evalPart_some]
 refine wpAny_Constant_int ?_
 rw [evalPart_none]
 refine wpAny_pure ?_
 refine wpAny_pure ?_
 have I2:Inv X pins σ H1 { s1 with toks:=s1.toks + 1 }:=I1.tok _
 have I4:Inv X pins σ H1 { s1 with toks:=s1.toks + 1,heap:=s1.heap.push { cls:=.type "slice",data:=.fields #[.int k s1.toks,.none,.none] } }:=I2.kept (t':=s1.toks + 1) λb ob q=>Heap.get?_push_of_some _ q
 obtain ⟨T,id,hT,ht,hg⟩:=gR (X:=X) pins { s1 with toks:=s1.toks + 1,heap:=s1.heap.push { cls:=.type "slice",data:=.fields #[.int k s1.toks,.none,.none] } } σ H1 (.str w) (.str w t) (.int k s1.toks) .none (some k) none s1.heap.objs.size (λx H1=>DY y z x H1 Q) I4 ⟨t,rfl⟩ (Heap.IsSliceOf.new ..) (.int k _) .none ⟨w,rfl,hw,q1⟩
 have fin:=tail_any (value:=e) (slice:=.Slice (some (.Constant (.int k) j3 p4)) none none p3) (ops:=[.ref s1.heap.objs.size,.str w t]) ht hT hg (by with_unfolding_all rfl)
 exact MK (wpAny_toks_of (n:=1) (show 1 <= s1.toks + 1 by omega) fin) (λ_ _ q=>q) λ_ _ q=>q.2
end
end L2
namespace L2
open PySem PySem.Spec PyProof.Rows
section
variable {X:Cx}
theorem fm {x:Str} {v:V} {pos:Pos} (hg:Gl X x) (h:∃ u,X.mg x = some u /\ RelV v u) (hd:(x == ("__debug__" : Str)) = false:=by decide):PE X (.Name x pos) (tC v):=by
 obtain ⟨u,e,r⟩:=h
 exact kq hg e r hd
theorem AB:∀ {x:V},gw x = true -> z6 x x = true
 | .cK,_=>rfl
 | .bl b,_=>by simp [z6]
 | .int b,_=>by simp [z6]
 | .str b,_=>by simp [z6]
theorem BO {caps:List (Str × Nat)} {z:Str} {te:TE} {σ:St} {H:Hp} {Q:VK} (Pv:Nat -> List V -> Hp -> Prop) (h0:Pv 0 [] H) (hn:z.length < sizeLine)
  (hs:∀ i c ys H,z.cps.toList[i]? = some c -> ys.length = i -> Pv i ys H -> te (jF caps σ ++ [some (.str ⟨#[c]⟩)]) H λy H2=>∃ m',m' < z.length - i /\ m' = z.length - (i + 1) /\ i + 1 <= z.length /\ (ys ++ [y]).length = i + 1 /\ Pv (i + 1) (ys ++ [y]) H2) (hd:∀ ys H,ys.length = z.length -> Pv z.length ys H -> ∀ D,H D = none -> Q (.ref D) (upd H D (.lst ys))) :
  zk (LP z) caps te σ H Q:=by
 refine ⟨λi m ys H=>m = z.length - i /\ i <= z.length /\ ys.length = i /\ Pv i ys H,⟨z.length,by simp,Nat.zero_le _,rfl,h0⟩,?_⟩
 rintro i m ys H ⟨rfl,hi,hl,p⟩
 by_cases hlt:i < z.length
 ·refine .inr ⟨hlt,by omega,λx H' y=>?_⟩
  obtain ⟨e,c,e1,rfl⟩:=y
  subst e
  exact hs i c ys _ e1 hl p
 ·have e:i = z.length:=by omega
  subst e
  exact .inl ⟨Nat.le_refl _,hd ys H hl p⟩
theorem qM {K:PySem.W.Frag} {a:Addr} {xs:List V} {g:TG} {tb:TS} {D:Ends} {σ:St} {H:Hp} (Pv:Nat -> St -> Hp -> Prop) (h0:Pv 0 σ H) (hl:∀ i σ H,i <= xs.length -> Pv i σ H -> bu K H a xs)
  (hs:∀ i x p σ H,xs[i]? = some x -> H p = none -> Pv i σ H -> g (.ref p) σ (upd H p (.tup [.int i,x])) λσ2 H2=>tb { D with nx:=Pv (i + 1),ct:=Pv (i + 1),bk:=D.nx } σ2 H2) (hd:∀ σ H,Pv xs.length σ H -> D.nx σ H):Cc (ME K a) g tb D σ H:=by
 refine ⟨λi m σ H=>m = xs.length - i /\ i <= xs.length /\ Pv i σ H,⟨xs.length,by simp,Nat.zero_le _,h0⟩,?_⟩
 rintro i m σ H ⟨rfl,hi,p⟩
 have q:=hl i σ H hi p
 by_cases hlt:i < xs.length
 ·refine .inr ⟨⟨xs,xs[i],q,by simp [hlt]⟩,Pv (i + 1),λσ' H' p'=>⟨xs.length - (i + 1),by omega,rfl,hlt,p'⟩,λx H' y=>?_⟩
  obtain ⟨pp,v,h1,rfl,rfl,h2⟩:=y
  exact hs i v pp σ H (h2 xs q) h1 p
 ·have e:i = xs.length:=by omega
  subst e
  exact .inl ⟨⟨xs,q,Nat.le_refl _⟩,hd σ H p⟩
end
def gy (H H':Hp) (p:Addr):Prop:=∀ b o,H b = some o -> b ≠ p -> H' b = some o
theorem gy.refl (H:Hp) (p:Addr):gy H H p:=λ_ _ h _=>h
theorem gy.trans {H H1 H2:Hp} {p:Addr} (a:gy H H1 p) (b:gy H1 H2 p):gy H H2 p:=λc o h n=>b c o (a c o h n) n
theorem gy.same {H H1 H2:Hp} {p:Addr} (a:gy H H1 p) (b:ak H1 H2):gy H H2 p:=λc o h n=>b c o (a c o h n)
theorem ak.Fw {H H1 H2:Hp} {p:Addr} (a:ak H H1) (b:gy H1 H2 p):gy H H2 p:=λc o h n=>b c o (a c o h) n
theorem gy.upd {H:Hp} {p:Addr} {o:HO}:gy H (L2.upd H p o) p:=λb u h n=>by rw [ao n];exact h
end L2
namespace L2
open PySem PySem.Spec PyProof.Rows
section
variable {X:Cx}
theorem B8 {sc csc:Scope} {N:List Str} {elt iter:Expr} {x:Str} {px pos ppos:Pos} {caps:List (Str × Nat)} {wi:TI} {te:TE} (ck:rF sc csc N x caps) (hi:PI X (.Name x px) iter wi)
  (he:∀ C s2 H2 fp,PE (dB X (caps.map (·.1) ++ [x]) csc C s2 H2 fp) elt te) (hc:X.calm = true) (hsc:X.env.scope = sc) (hXN:X.N = N) (hs:∀ x,foldedSetIterable iter X.env x = pure x)
  {pins:List (Addr × Obj)} {s:Shared} {σ:St} {H:Hp} {Q:VK} (I:Inv X pins σ H s) (h:BW caps wi te σ H Q) (use:Option (Value -> Sem Unit)) (QQ:Value -> Shared -> Prop)
  (fin:∀ (s2:Shared) (H2:Hp) (D C:Addr) (ys:List V) (H':Hp) (s4:Shared) (m:Str -> Option Value),Inv X pins σ H2 s2 -> s2.heap.objs.size <= C -> s2.heap.objs.size <= D -> D ≠ C -> s4.heap.Ns C m ->
   (∀ h',Heap.SameBut C s4.heap h' -> Inv X pins σ (upd H' D (.lst ys)) { s4 with heap:=h' }) -> H' C = none -> Q (.ref D) (upd H' D (.lst ys)) ->
   compPost (model X.prog X.w) X.A X.xe use QQ (.ref D) C (.ok .next) s4) :
  wpAny (model X.prog X.w) X.A (comprehension (.ListComp elt [⟨.Name x px,iter,[],0⟩] csc pos) csc X.env ppos (newList []) false (eval iter X.env) use) QQ X.xe s:=by
 subst hsc hXN
 have cellsOk:∀ p ∈ csc.names,p.2 = .free -> ∃ c,X.env.cells.lookup p.1 = some c:=λp hp e=>I.ok.has p.1 (.inl (ck.free p hp e))
 refine wpAny_comprehension_free (use:=use) rfl hs (jr cellsOk) ck.kind ck.loc (c5 (hi pins s σ H _ I h) λv s1 h1=>c5 h1 λitv s2 h2=>?_)
 obtain ⟨it,fp,tn,J,H2,e,I2,T,st2,f2,W,⟨m0,w0⟩,turn⟩:=h2
 subst e
 refine wpAny_newObj_type (wpAny_newFunctionEnv ck.cell (by intro y hy;simp at hy) (λh4 hns4 hsb4=>?_) ck.kind)
 dsimp only at hns4 hsb4 ⊢
 generalize hD:s2.heap.objs.size = D at hns4 hsb4 ⊢
 generalize hH2:s2.heap.push { cls:=.type "list",dict:=none,data:=.seq ([]:List Value).toArray } = G at hns4 hsb4 ⊢
 have hGs:G.objs.size = D + 1:=by rw [← hH2,Heap.size_push,hD]
 rw [hGs] at hns4 hsb4 ⊢
 have lt2:∀ b o,s2.heap.get? b = some o -> b < D:=λb o e=>hD ▸ Heap.lt_size e
 have old:∀ b o,s2.heap.get? b = some o -> b ≠ D + 1 /\ b ≠ D:=λb o e=>⟨EE (lt2 b o e),F5 (lt2 b o e)⟩
 have leD:s2.heap.objs.size <= D:=Nat.le_of_eq hD
 have leD1:s2.heap.objs.size <= D + 1:=Nat.le_succ_of_le leD
 have keep4:∀ b o,s2.heap.get? b = some o -> h4.get? b = some o:=λb o e=>hsb4.extBut b o (old b o e).1 (Heap.get?_push_of_some _ (hH2 ▸ Heap.get?_push_of_some _ e))
 have hDo:h4.get? D = some { cls:=.type "list",data:=.seq ([]:List Value).toArray 0 }:=by
  refine hsb4.extBut D _ Ea (Heap.get?_push_of_some _ ?_)
  rw [← hH2,← hD]
  exact Heap.get?_push_size _ rfl
 have fps:∀ b ∈ fp,b < s2.heap.objs.size:=λb hb=>by
  obtain ⟨o,e,_⟩:=T.obj _ _ st2 b hb
  exact Heap.lt_size e
 have I4:∀ t4,Inv (dB X (caps.map (·.1) ++ [x]) csc (D + 1) s2 H2 fp) [] (jF caps σ ++ [none]) H2 { s2 with heap:=h4,toks:=t4 }:=λt4=>oZ (m0:=λx=>[].reverse.lookup x) I2 ck f2 fps leD1 keep4 hns4
 have cellsLt:∀ y c,(eT X.env csc.names []).lookup y = some c -> c < D:=λy c e=>by
  obtain ⟨v,o,ho,_⟩:=I2.cell y c (gq _ _ cellsOk (λy c h=>by simp at h) y c e)
  exact lt2 c o ho
 have fsLt:∀ b ∈ frs X.stack,b < D:=λb hb=>by
  obtain ⟨_,o,ho,_⟩:=I2.stack.mem hb
  exact lt2 b o ho
 have fpC:∀ {pl:List (Addr × Obj)} {H':Hp},(∀ p ∈ pl,p.1 = D) -> (∀ b ∈ fp,H' b = none) -> ∀ b ∈ fp,qg (dB X (caps.map (·.1) ++ [x]) csc (D + 1) s2 H2 fp) pl H' b:=λ{pl H'} hpl hn b hb=>by
  have hb':b < D:=hD ▸ fps b hb
  refine ⟨hn b hb,EE hb',?_,.inl hb,λy c e=>?_,λp hp=>?_⟩
  ·intro z
   rcases List.mem_cons.mp (I2.oh b z) with e | e
   ·exact (f2 b hb).2.1 e
   ·exact (f2 b hb).2.2.1 e
  ·exact (f2 b hb).2.2.2.2.1 y c (gq _ _ cellsOk (λy c h=>by simp at h) y c e)
  ·have:p.1 = D:=hpl p (by simpa using hp)
   rw [this];exact λz=>F5 hb' z.symm
 have loop:∀ t4,codeAny (model X.prog X.w) X.A (.compLoop (.ListComp elt [⟨.Name x px,iter,[],0⟩] csc pos) 0 (.ref it) (.ref D) (compEnvC csc (eT X.env csc.names []) (D + 1) X.env))
   (compPost (model X.prog X.w) X.A X.xe use QQ (.ref D) (D + 1)) { s2 with heap:=h4,toks:=t4 }:=by
  intro t4
  refine l9 (λn s'=>∃ (i:Nat) (ys:List V) (its:List Value) (k:Nat) (σ':St) (H':Hp),Inv (dB X (caps.map (·.1) ++ [x]) csc (D + 1) s2 H2 fp) [(D,{ cls:=.type "list",data:=.seq its.toArray k })] σ' H' s' /\ tn i s'.heap /\ (∀ b ∈ fp,H' b = none) /\ Vals ys its /\ ys.length <= sizeLine /\ W i n ys H' /\ (∃ z,σ' = jF caps σ ++ [z])) ?_ m0 ?_
  ·rintro n s3 ⟨i,ys,its,k,σ3,H3,I3,st3,fr3,hv,hz,w3,z3,rfl⟩
   have pl1:∀ p ∈ [((D,{ cls:=.type "list",data:=.seq its.toArray k }):Addr × Obj)],p.1 = D:=λp hp=>by rw [List.mem_singleton.mp hp]
   rcases turn i n ys H3 w3 with ⟨stop,qn⟩ | ⟨go,hlt,step⟩
   ·refine wpAny_mono (T.done (dB X (caps.map (·.1) ++ [x]) csc (D + 1) s2 H2 fp) rfl rfl rfl hc i _ s3 _ H3 (λ_ _=>False) I3 (fpC pl1 fr3) st3 stop) (λr s4 ⟨hr,I4'⟩=>?_) λ_ _ f=>f.elim
    subst hr
    obtain ⟨m,hn,_⟩:=id I4'.loc
    have pD:=I4'.pin (D,{ cls:=.type "list",data:=.seq its.toArray k }) (by simp)
    exact fin s2 H2 D (D + 1) ys H3 s4 m I2 leD1 leD Ea hn (λh' hs'=>qI I2 I4' f2 leD1 leD Ea hs' hv hz pD.1 pD.2.1) I4'.free (qn D pD.2.1)
   ·refine wpAny_mono (T.item (dB X (caps.map (·.1) ++ [x]) csc (D + 1) s2 H2 fp) rfl rfl rfl hc i _ s3 _ H3 (λ_ _=>False) I3 (fpC pl1 fr3) st3 go) (λr s4 ⟨u,hr,h4'⟩=>?_) λ_ _ f=>f.elim
    subst hr
    refine wpAny_mono h4' (λ_ s4 ⟨xv,H5,I5,r5,y5,st5,fr5⟩=>?_) λ_ _ f=>f.elim
    have I5':=I5.pinned (fpC pl1 fr5) (T.obj _ _ st5)
    have hiN:(caps.map (·.1) ++ [x])[caps.length]? = some x:=by rw [List.getElem?_append_right (by simp)];simp
    refine wpAny_mono (b9 (X:=dB X (caps.map (·.1) ++ [x]) csc (D + 1) s2 H2 fp) (i:=caps.length) ck.nd hiN (.inl (lookup_relabel_local ck.tg)) (.inr (lookup_relabel_local ck.tg)) _ s4 _ H5 xv u _ I5' r5 (show qo caps.length xv _ H5 (λσ6 H6=>σ6 = jF caps σ ++ [some xv] /\ H6 = H5) from ⟨?_,rfl⟩)) (λ_ s6 ⟨σ6,H6,I6,hσ,hH⟩=>?_) λ_ _ f=>f.elim
    ·rw [List.set_append_right _ _ (by rw [fU];exact Nat.le_refl _),fU,Nat.sub_self];rfl
    subst hσ hH
    refine wpAny_mono (he (D + 1) s2 H2 fp _ s6 _ H6 _ I6 (step xv H6 y5)) (λw7 s7 ⟨y,H7,I7,r7,m',hm,w8⟩=>?_) λ_ _ f=>f.elim
    have pD:=I7.pin (D,{ cls:=.type "list",data:=.seq its.toArray k }) (by simp)
    have hll:=hv.length
    refine call_meets F.slot_list_append ⟨_,pD.1,rfl⟩ F.entry_list_append (F.args_list_append_2 _ _) (PySem.list_append D its.toArray k w7 (by rw [List.size_toArray];omega)) ⟨pD.1,?_⟩
    have q:=PySem.IsL.update pD.1 (·.push w7)
    have hpush:its.toArray.push w7 = (its ++ [w7]).toArray:=by simp
    rw [hpush] at q
    obtain ⟨k',q⟩:∃ k',(s7.heap.update D (Obj.mapSeq (·.push w7))).get? D = some { cls:=.type "list",data:=.seq (its ++ [w7]).toArray k' }:=⟨_,q⟩
    have I7u:Inv (dB X (caps.map (·.1) ++ [x]) csc (D + 1) s2 H2 fp) (iO fp s4.heap) _ H7 s7:=I7.fR λp hp=>I7.pin p (List.mem_append_right _ (List.mem_append_right _ hp))
    have pfp:∀ p ∈ iO fp s4.heap,p.1 < D:=λp hp=>hD ▸ fps p.1 (k6 hp).1
    have I8:=I7u.turned (h':=s7.heap.update D (Obj.mapSeq (·.push w7))) (t':=s7.toks) (it:=D) (λb o hb e=>(Heap.get?_update_other s7.heap _ (Ne.symm hb)).trans e) pD.2.1 Ea (.inr leD) (λy c e=>F5 (cellsLt y c e)) (λp hp=>F5 (pfp p (by simpa using hp)))
    refine ⟨m',hm,i + 1,ys ++ [y],its ++ [w7],k',_,H7,I8.fR λp hp=>?_,T.keep _ _ _ st5 λb hb o e=>(I8.pin (b,o) (List.mem_append_right _ (fL hb e))).1,λb hb=>?_,hv.append (.cons r7 .nil),?_,w8,_,rfl⟩
    ·rw [List.mem_singleton.mp hp]
     exact ⟨q,pD.2.1,pD.2.2.1,pD.2.2.2.1,λv=>by simp⟩
    ·obtain ⟨o,e,d⟩:=T.obj _ _ st5 b hb
     exact (I8.pin (b,o) (List.mem_append_right _ (fL hb e))).2.1
    ·rw [List.length_append,List.length_singleton];omega
  ·refine ⟨0,[],[],0,_,H2,(I4 t4).fR λp hp=>?_,T.keep _ _ _ st2 λb hb o e=>keep4 b o e,λb hb=>(f2 b hb).1,.nil,Nat.zero_le _,w0,_,rfl⟩
   rw [List.mem_singleton.mp hp]
   refine ⟨hDo,I2.hok.fresh leD,Ea,λz=>absurd (fsLt D z) (Nat.lt_irrefl _),λv=>by simp⟩
 exact codeAny_compStart_list (loop _) (T.self _ 0 _ _ _ (T.keep _ _ _ st2 λb hb o e=>keep4 b o e) (loop _))
theorem EA {i:Nat} {y:Str} {sc csc:Scope} {N:List Str} {elt iter:Expr} {x:Str} {px pos pos' spos:Pos} {caps:List (Str × Nat)} {wi:TI} {te:TE} (hN:X.N.Nodup) (hiy:X.N[i]? = some y) (hy:Loc X.env.scope y) (ck:rF sc csc N x caps) (hi:PI X (.Name x px) iter wi)
  (he:∀ C s2 H2 fp,PE (dB X (caps.map (·.1) ++ [x]) csc C s2 H2 fp) elt te) (hc:X.calm = true:=by rfl) (hsc:X.env.scope = sc:=by rfl) (hXN:X.N = N:=by rfl) (hs:∀ x,foldedSetIterable iter X.env x = pure x:=by intro _;rfl)
  (hsw:swapsWith (.ListComp elt [⟨.Name x px,iter,[],0⟩] csc pos) (some (.Name y pos')) spos.line X.env = pure true:=by rfl) (hf:X.fn y = true ∨ X.env.scope.names.lookup y = some .local:=by first | exact .inl rfl | exact .inr rfl | assumption) :
  PS X (.Assign [.Name y pos'] (.ListComp elt [⟨.Name x px,iter,[],0⟩] csc pos) spos) (Eo (BW caps wi te) (qo i)):=by
 intro pins s σ H D I h
 rw [exec_Assign_Name_used _ _ _ _ hsw]
 refine wpAny_bind (wpAny_standAt (wpAny_bind ?_))
 show wpAny _ X.A (do let _ ← comprehension (.ListComp elt [⟨.Name x px,iter,[],0⟩] csc pos) csc X.env _ (newList []) false (eval iter X.env) (some (assign (.Name y pos') X.env))) _ _ s
 refine wpAny_bind (wpAny_mono (B8 ck hi he hc hsc hXN hs I h (some (assign (.Name y pos') X.env)) (λ_ s'=>SP X pins D .next s') ?_) (λ_ s' hq=>wpAny_pure (wpAny_pure hq)) λ_ _ e=>e)
 intro s2 H2 Dl C ys H' s4 m I2 leC leD nDC hns hI hfC q
 have I0:Inv X pins σ (upd H' Dl (.lst ys)) s4:=hI s4.heap (Heap.SameBut.refl _ _)
 have hCD:C ≠ Dl:=Ne.symm nDC
 have hHC:upd H' Dl (.lst ys) C = none:=by rw [ao hCD];exact hfC
 have hCL:C ≠ X.env.locals:=λz=>by have:=I2.lt;rw [← z] at this;exact absurd this (Nat.not_lt.mpr leC)
 have hCfs:C ∉ X.fs:=I2.Lp leC
 have pinlt:∀ p ∈ X.pn ++ pins,p.1 ≠ C:=λp hp z=>by
  have:=(I2.pin p hp).1
  have:=Heap.lt_size this
  rw [z] at this
  exact absurd this (Nat.not_lt.mpr leC)
 have celllt:∀ z c,X.env.cells.lookup z = some c -> c ≠ C:=λz c e w=>by
  obtain ⟨v,o,ho,_⟩:=I2.cell z c e
  have:=Heap.lt_size ho
  rw [w] at this
  exact absurd this (Nat.not_lt.mpr leC)
 obtain ⟨oC,es,ep,eC,dC,rC⟩:=id hns
 have I1:Inv X (pins ++ [(C,oC)]) σ (upd H' Dl (.lst ys)) s4:=I0.fR λp hp=>by
  rcases List.mem_append.mp hp with hp | hp
  ·exact I0.pin p (List.mem_append_right _ hp)
  ·rw [List.mem_singleton.mp hp]
   exact ⟨eC,hHC,hCL,hCfs,λv z=>by rw [dC] at z;cases z⟩
 refine c5 (b9 (i:=i) (pos:=pos') hN hiy hy hf (pins ++ [(C,oC)]) s4 σ _ (.ref Dl) (.ref Dl) D.nx I1 rfl q) λ_ s5 ⟨σ5,H5,I5,q5⟩=>?_
 have pC:=I5.pin (C,oC) (by simp)
 refine ⟨m,⟨oC,es,ep,pC.1,dC,rC⟩,λh' hs'=>?_⟩
 have I6:Inv X pins σ5 H5 s5:=I5.fR λp hp=>I5.pin p (List.mem_append_right _ (List.mem_append_left _ hp))
 exact ⟨σ5,H5,I6.turned (h':=h') (t':=s5.toks) (it:=C) (λb o hb e=>(hs'.2 b hb).trans e) pC.2.1 hCL (.inr (Nat.le_trans I2.sz leC)) celllt pinlt,q5⟩
theorem m8 {K:PySem.W.Frag} {e:Expr} {ta:TE} {f:Str} {pos:Pos} (he:PE X e ta) (hb:attributeBase e f X.env (eval e X.env) = eval e X.env) (hK:X.K = K:=by rfl):PE X (.Attribute e f pos) (JJ K ta f):=by
 subst hK;exact aO he hb
theorem Bg {K:PySem.W.Frag} (hK:X.K = K):J8 X (Eg K):=by subst hK;exact aW
theorem Fi {K:PySem.W.Frag} (hK:X.K = K):J8 X (IB K):=by subst hK;exact bW
end
end L2
namespace L2
open PySem PySem.Spec PyProof.Rows
section
variable {X:Cx}
def strsOf:List Expr -> Option (List Str)
 | []=>some []
 | e :: r=>match e with
  | .Constant (.str x) _ _=>(strsOf r).map (x :: ·)
  | _=>none
theorem rY:∀ {es:List Expr} {xs:List Str},strsOf es = some xs -> PA X es (λ_ H Q=>Q (xs.map V.str) H)
 | [],xs,h=>by
  have e:xs = []:=(Option.some.inj h).symm
  subst e
  exact ai
 | e :: r,xs,h=>by
  unfold strsOf at h
  split at h
  ·rename_i x j p
   obtain ⟨ys,h1,h2⟩:=Option.map_eq_some_iff.mp h
   subst h2
   exact aa (te:=tC (.str x)) (t:=λ_ H Q=>Q (ys.map V.str) H) aG (rY h1) rfl
  ·cases h
end
end L2
namespace L2
open PySem PySem.Spec PyProof.Rows
section
variable {X:Cx} {pins:List (Addr × Obj)} {σ:St} {H:Hp} {s:Shared}
def pX (xs ys:List V):Prop:=∀ x ∈ xs,∀ y ∈ ys,gw x = true /\ gw y = true /\ z6 x y = decide (x = y)
theorem uB {xs ys:List V} {is js:List Value} {A:Around} (p:pX xs ys) (r1:Vals xs is) (r2:Vals ys js) :
  ∀ j (h1:j < is.toArray.size) (h2:j < js.toArray.size),SeqAt.EqAt A s is.toArray[j] js.toArray[j] ((λj=>decide (xs[j]? = ys[j]?)) j):=by
 intro j h1 h2
 have l1:=r1.length
 have l2:=r2.length
 have j1:j < xs.length:=by simpa [l1] using h1
 have j2:j < ys.length:=by simpa [l2] using h2
 have e1:=List.getElem?_eq_getElem j1
 have e2:=List.getElem?_eq_getElem j2
 obtain ⟨u1,g1,q1⟩:=r1.get e1
 obtain ⟨u2,g2,q2⟩:=r2.get e2
 have g1':is.toArray[j] = u1:=by simpa [List.getElem?_eq_some_iff] using (List.getElem?_eq_some_iff.mp g1).2
 have g2':js.toArray[j] = u2:=by simpa [List.getElem?_eq_some_iff] using (List.getElem?_eq_some_iff.mp g2).2
 rw [g1',g2']
 obtain ⟨f1,f2,f3⟩:=p _ (List.getElem_mem j1) _ (List.getElem_mem j2)
 have:=xO (A:=A) (s:=s) q1 q2 f1 f2
 rw [f3] at this
 have e:decide (xs[j]? = ys[j]?) = decide (xs[j] = ys[j]):=by rw [e1,e2];simp
 show SeqAt.EqAt A s u1 u2 (decide (xs[j]? = ys[j]?))
 rw [e]
 exact this
theorem Bl {xs ys:List V} (h:xs.length = ys.length):((List.range xs.length).all λj=>decide (xs[j]? = ys[j]?)) = decide (xs = ys):=by
 rw [Bool.eq_iff_iff,List.all_eq_true,decide_eq_true_eq]
 constructor
 ·intro z
  refine List.ext_getElem? λj=>?_
  by_cases hj:j < xs.length
  ·simpa using z j (List.mem_range.mpr hj)
  ·rw [List.getElem?_eq_none (by omega),List.getElem?_eq_none (by omega)]
 ·intro z j _
  rw [z];simp
def K5 (K:PySem.W.Frag):R2:=λx y H Q=>∃ a b xs ys,x = .ref a /\ y = .ref b /\ bu K H a xs /\ bu K H b ys /\ pX xs ys /\ Q (.bl (!decide (xs = ys))) H
theorem mR (hu:X.A.units < cLine):jU X (compareOp .NotEq) (K5 X.K):=by
 intro pins s σ H x y v u Q I rx ry h
 obtain ⟨a,b,xs,ys,rfl,rfl,ha,hb,hp,q⟩:=h
 cases rx
 cases ry
 obtain ⟨is,r1,p1,_⟩:=I.list ha
 obtain ⟨js,r2,p2,_⟩:=I.list hb
 obtain ⟨o1,n1,e1,c1,_,d1⟩:=p1
 obtain ⟨o2,n2,e2,c2,_,d2⟩:=p2
 have l1:=r1.length
 have l2:=r2.length
 by_cases hl:xs.length = ys.length
 ·refine PySem.SeqAt.RcNeAt.lists (e:=λj=>decide (xs[j]? = ys[j]?)) ⟨o1,e1,c1,n1,d1⟩ ⟨o2,e2,c2,n2,d2⟩ (by simp [← l1,← l2,hl]) hu (uB hp r1 r2) _ _ _ _ ?_
  have z:is.toArray.size = xs.length:=by simp [← l1]
  rw [z,Bl hl]
  exact ⟨.bl _,H,I,rfl,q⟩
 ·refine PySem.SeqAt.RcNeAt.lists_lengths ⟨o1,e1,c1,n1,d1⟩ ⟨o2,e2,c2,n2,d2⟩ (by simpa [← l1,← l2] using hl) hu _ _ _ _ ?_
  rw [decide_eq_false (λz=>hl (by rw [z]))] at q
  exact ⟨.bl true,H,I,rfl,q⟩
theorem ow {α β:Type} (f:α -> Int) (g:β -> Int) (xs:List α) (ys:List β):pX (xs.map λx=>V.int (f x)) (ys.map λy=>V.int (g y)):=by
 intro x hx y hy
 obtain ⟨a,_,rfl⟩:=List.mem_map.mp hx
 obtain ⟨b,_,rfl⟩:=List.mem_map.mp hy
 refine ⟨rfl,rfl,?_⟩
 show (f a == g b) = _
 rw [Bool.eq_iff_iff]
 simp
theorem o4 (xs ys:List Str):pX (xs.map V.str) (ys.map V.str):=by
 intro x hx y hy
 obtain ⟨a,_,rfl⟩:=List.mem_map.mp hx
 obtain ⟨b,_,rfl⟩:=List.mem_map.mp hy
 refine ⟨rfl,rfl,?_⟩
 show (a == b) = _
 rw [Bool.eq_iff_iff]
 simp
end
end L2
namespace L2
open PySem PySem.Spec PyProof.Rows
section
variable {M:Model} {A:Around} {E:Value -> Shared -> Prop} {s:Shared} {base:Heap} {env:Env} {outer:List Env} {L e:Addr}
end
section
variable {M:Model} {A:Around} {E:Value -> Shared -> Prop} {s:Shared} {base:Heap} {env:Env} {outer:List Env} {L e C T:Addr} {d:Option Addr}
end
end L2
namespace L2
open PySem PySem.Spec PyProof.Rows
section
variable {P:Program} {w:World} {K:PySem.W.Frag} {mg:Str -> Option Value} {base:Heap} {N:List Str} {qual:Str} {scope:Scope} {f:Addr} {cd:Value} {A:Around} {outer:List Env} {s:Shared} {H:Hp} {E:XK}
end
end L2
namespace L2
open PySem PySem.Spec PyProof.Rows
section
variable {X:Cx} {pins:List (Addr × Obj)} {σ:St} {H:Hp} {s:Shared} {h':Heap}
end
section
variable {P:Program} {w:World} {K:PySem.W.Frag} {mg:Str -> Option Value} {base:Heap} {N:List Str} {qual:Str} {scope:Scope} {f:Addr} {cd:Value} {A:Around} {outer:List Env} {s:Shared} {H:Hp} {E:XK}
end
end L2
namespace L2
open PySem PySem.Spec PyProof.Rows
section
variable {M:Model} {A:Around} {E:Value -> Shared -> Prop}
end
end L2
namespace L2
open PySem PySem.Spec PyProof.Rows
section
variable {X:Cx} {pins pins':List (Addr × Obj)} {σ:St} {H:Hp} {s:Shared}
end
end L2
namespace L2
open PySem PySem.Spec PyProof.Rows
section
variable {X:Cx} {pins:List (Addr × Obj)} {σ:St} {H:Hp} {s:Shared} {h2:Heap} {e C T T2:Addr} {d:Option Addr}
end
end L2
namespace L2
open PySem PySem.Spec PyProof.Rows
section
variable {X:Cx}
end
section
variable {X:Cx} {CX:wX} {k:Nat} {f C:Addr} {fd:FuncData} {ps:List Str} {sp:Sp} {dvs:List V} {ds:List Value} {x m:Str} {p pos apos:Pos} {e o:Expr} {es:List Expr} {ta:TE} {t:TA}
end
section
variable {P:Program} {w:World} {K:PySem.W.Frag} {mg:Str -> Option Value} {base:Heap}
end
end L2
namespace L2
open PySem PySem.Spec PyProof.Rows PySem.W
section
variable {prog:Program} {w:World} {A:Around} {E:Value -> Shared -> Prop} {s:Shared} {K:Frag} {x C:Addr} {ox:Obj} {od:Option Obj} {name:Str}
end
end L2
namespace L2
open PySem PySem.Spec PyProof.Rows PySem.W
section
variable {prog:Program} {w:World} {A:Around} {E:Value -> Shared -> Prop} {h:Heap} {g:Array GenState} {d:Drawn} {t:Nat} {os:OsState} {K:Frag} {C fI:Addr} {oI:Obj} {bm:List Value} {Nn:Addr} {mN:Str -> Option Value} {rest:List Value}
end
end L2
namespace L2
open PySem PySem.Spec PyProof.Rows PySem.W
section
variable {prog:Program} {w:World} {A:Around} {E:Value -> Shared -> Prop} {s:Shared} {K:Frag} {e C:Addr} {oe:Obj} {od:Option Obj} {bm:List Value} {Nn:Addr} {mN:Str -> Option Value} {name:Str} {v:Value} {vs:Array Value}
end
end L2
namespace L2
open PySem PySem.Spec PyProof.Rows PySem.W
section
variable {X:Cx} {pins:List (Addr × Obj)} {σ:St} {H:Hp} {s:Shared} {e C dx:Addr} {d:Option Addr} {fs:List (Str × V)} {f:Str} {A:Around} {E:Value -> Shared -> Prop}
end
end L2
namespace L2
open PySem PySem.Spec PyProof.Rows PySem.W
section
variable {X:Cx} {o value ex:Expr} {f:Str} {pos pos':Pos} {ta tv:TE}
end
end L2
namespace L2
open PySem PySem.Spec PyProof.Rows PySem.W
section
variable {P:Program} {w:World} {K:PySem.W.Frag} {mg:Str -> Option Value} {base:Heap} {N:List Str} {qual:Str} {scope:Scope} {f:Addr} {cd:Value} {A:Around} {outer:List Env} {s:Shared} {H:Hp} {E:XK}
end
end L2
namespace L2
open PySem PySem.Spec PyProof.Rows PySem.W
section
variable {P:Program} {w:World} {K:Frag} {mg:Str -> Option Value} {base:Heap} {CX:wX} {k:Nat} {f:Addr} {fd:FuncData} {ps:List Str} {sp:Sp}
end
section
variable {X:Cx} {CX:wX} {k:Nat} {f:Addr} {fd:FuncData} {ps:List Str} {sp:Sp} {x:Str} {p pos:Pos} {e:Expr} {es:List Expr} {t:TA} {E:XK}
end
end L2
namespace L2
open PySem PySem.Spec PyProof.Rows PySem.W
section
variable {X:Cx} {pins:List (Addr × Obj)} {σ:St} {H:Hp} {s:Shared} {e C:Addr} {d:Option Addr} {A:Around} {E:Value -> Shared -> Prop}
end
section
variable {X:Cx} {T:Str} {tp apos pos:Pos} {e1:Expr} {es:List Expr} {t:TA} {D:Addr}
end
end L2
namespace L2
open PySem PySem.Spec PyProof.Rows PySem.W
end L2
namespace L2
open PySem PySem.Spec PyProof.Rows
section
variable {X:Cx} {pins:List (Addr × Obj)} {σ:St} {H:Hp} {s:Shared}
end
end L2
namespace L2
open PySem PySem.Spec PyProof.Rows
section
variable {X:Cx} {pins:List (Addr × Obj)} {σ:St} {H:Hp} {s:Shared}
end
end L2
namespace L2
open PySem PySem.Spec PyProof.Rows
def lA (K:PySem.W.Frag) (H:Hp):Nat -> V -> V -> Prop
 | 0,x,y=>x = y /\ (gw x = true ∨ ∃ a,x = .ref a)
 | n + 1,x,y=>(x = y /\ (gw x = true ∨ ∃ a,x = .ref a)) ∨ ∃ a b xs ys,x = .ref a /\ y = .ref b /\ ((bu K H a xs /\ bu K H b ys) ∨ (gh K H a xs /\ gh K H b ys)) /\ xs.length = ys.length /\ ∀ (j:Nat) (x y:V),xs[j]? = some x -> ys[j]? = some y -> lA K H n x y
section
variable {X:Cx} {pins:List (Addr × Obj)} {σ:St} {H:Hp} {s:Shared}
theorem gn {n:Nat} {xs ys:List V} {is js:List Value} {A:Around} (ih:∀ (x y:V) (u v:Value),RelV x u -> RelV y v -> lA X.K H n x y -> SeqAt.EqAt A s u v true) (r1:Vals xs is) (r2:Vals ys js) (h:∀ (j:Nat) (x y:V),xs[j]? = some x -> ys[j]? = some y -> lA X.K H n x y) :
  ∀ j (h1:j < is.toArray.size) (h2:j < js.toArray.size),SeqAt.EqAt A s is.toArray[j] js.toArray[j] ((λ_=>true) j):=by
 intro j h1 h2
 have l1:=r1.length
 have l2:=r2.length
 have j1:j < xs.length:=by simpa [l1] using h1
 have j2:j < ys.length:=by simpa [l2] using h2
 obtain ⟨u1,g1,q1⟩:=r1.get (List.getElem?_eq_getElem j1)
 obtain ⟨u2,g2,q2⟩:=r2.get (List.getElem?_eq_getElem j2)
 have g1':is.toArray[j] = u1:=by simpa [List.getElem?_eq_some_iff] using (List.getElem?_eq_some_iff.mp g1).2
 have g2':js.toArray[j] = u2:=by simpa [List.getElem?_eq_some_iff] using (List.getElem?_eq_some_iff.mp g2).2
 rw [g1',g2']
 exact ih _ _ _ _ q1 q2 (h j _ _ (List.getElem?_eq_getElem j1) (List.getElem?_eq_getElem j2))
theorem yI {A:Around} {x:V} {u v:Value} (rx:RelV x u) (ry:RelV x v) (h:gw x = true ∨ ∃ a,x = .ref a):SeqAt.EqAt A s u v true:=by
 rcases h with f | ⟨a,rfl⟩
 ·have:=xO (A:=A) (s:=s) rx ry f f
  rwa [AB f] at this
 ·cases rx
  cases ry
  exact SeqAt.EqAt.same _
theorem qC (I:Inv X pins σ H s):∀ (n:Nat) (A:Around) (x y:V) (u v:Value),A.units + n < cLine -> RelV x u -> RelV y v -> lA X.K H n x y -> SeqAt.EqAt A s u v true
 | 0,A,x,y,u,v,_,rx,ry,⟨e,f⟩=>by
  subst e
  exact yI rx ry f
 | n + 1,A,x,y,u,v,hu,rx,ry,h=>by
  rcases h with ⟨e,f⟩ | ⟨a,b,xs,ys,rfl,rfl,hs,hl,hj⟩
  ·subst e
   exact yI rx ry f
  ·cases rx
   cases ry
   by_cases ne:a = b
   ·subst ne;exact SeqAt.EqAt.same _
   have ih:=λx y u v=>qC I n A.in1 x y u v (by show A.units + 1 + n < cLine;omega)
   rcases hs with ⟨h1,h2⟩ | ⟨h1,h2⟩
   ·obtain ⟨is,r1,p1,_⟩:=I.list h1
    obtain ⟨js,r2,p2,_⟩:=I.list h2
    obtain ⟨o1,n1,e1,c1,_,d1⟩:=p1
    obtain ⟨o2,n2,e2,c2,_,d2⟩:=p2
    have sz:is.toArray.size = js.toArray.size:=by simp [← r1.length,← r2.length,hl]
    have:=SeqAt.EqAt.of_refs ne (SeqAt.RcAt.lists ⟨o1,e1,c1,n1,d1⟩ ⟨o2,e2,c2,n2,d2⟩ sz (by omega) (gn ih r1 r2 hj))
    have z:((List.range is.toArray.size).all λ_=>true) = true:=List.all_eq_true.mpr λ_ _=>rfl
    rwa [z] at this
   ·obtain ⟨is,r1,p1,_⟩:=I.tuple h1
    obtain ⟨js,r2,p2,_⟩:=I.tuple h2
    obtain ⟨o1,e1,c1,n1,d1⟩:=p1
    obtain ⟨o2,e2,c2,n2,d2⟩:=p2
    have:=SeqAt.EqAt.of_refs ne (SeqAt.RcAt.tuples ⟨o1,e1,c1,n1,d1⟩ ⟨o2,e2,c2,n2,d2⟩ (by omega) (gn ih r1 r2 hj))
    have z:(((List.range (min is.toArray.size js.toArray.size)).all λ_=>true) && is.toArray.size == js.toArray.size) = true:=by simp [← r1.length,← r2.length,hl]
    rwa [z] at this
def Ma (K:PySem.W.Frag) (n:Nat):R2:=λx y H Q=>∃ a b xs ys,x = .ref a /\ y = .ref b /\ ((bu K H a xs /\ bu K H b ys) ∨ (gh K H a xs /\ gh K H b ys)) /\ xs.length = ys.length /\ (∀ (j:Nat) (x y:V),xs[j]? = some x -> ys[j]? = some y -> lA K H n x y) /\ Q (.bl false) H
theorem JI (n:Nat) (hu:X.A.units + (n + 1) < cLine):jU X (compareOp .NotEq) (Ma X.K n):=by
 intro pins s σ H x y v u Q I rx ry h
 obtain ⟨a,b,xs,ys,rfl,rfl,hs,hl,hj,q⟩:=h
 cases rx
 cases ry
 have ih:=λx y u v=>qC I n X.A.in1 x y u v (by show X.A.units + 1 + n < cLine;omega)
 rcases hs with ⟨ha,hb⟩ | ⟨ha,hb⟩
 ·obtain ⟨is,r1,p1,_⟩:=I.list ha
  obtain ⟨js,r2,p2,_⟩:=I.list hb
  obtain ⟨o1,n1,e1,c1,_,d1⟩:=p1
  obtain ⟨o2,n2,e2,c2,_,d2⟩:=p2
  refine PySem.SeqAt.RcNeAt.lists (e:=λ_=>true) ⟨o1,e1,c1,n1,d1⟩ ⟨o2,e2,c2,n2,d2⟩ (by simp [← r1.length,← r2.length,hl]) (by omega) (gn ih r1 r2 hj) _ _ _ _ ?_
  have z:((List.range is.toArray.size).all λ_=>true) = true:=List.all_eq_true.mpr λ_ _=>rfl
  rw [z]
  exact ⟨.bl false,H,I,rfl,q⟩
 ·obtain ⟨is,r1,p1,_⟩:=I.tuple ha
  obtain ⟨js,r2,p2,_⟩:=I.tuple hb
  obtain ⟨o1,e1,c1,n1,d1⟩:=p1
  obtain ⟨o2,e2,c2,n2,d2⟩:=p2
  refine PySem.SeqAt.RcNeAt.tuples (e:=λ_=>true) ⟨o1,e1,c1,n1,d1⟩ ⟨o2,e2,c2,n2,d2⟩ (by omega) (gn ih r1 r2 hj) _ _ _ _ ?_
  have z:(((List.range (min is.toArray.size js.toArray.size)).all λ_=>true) && is.toArray.size == js.toArray.size) = true:=by simp [← r1.length,← r2.length,hl]
  rw [z]
  exact ⟨.bl false,H,I,rfl,q⟩
end
end L2
namespace PySem
namespace F
theorem z5:typeLookup (.type "list_reverseiterator") "__len__" = pure none:=by rw [typeLookup_type,builtinLookup_eq_fast];kernel_rfl
theorem AF:typeLookup (.type "list_reverseiterator") "__length_hint__" = pure (some (.builtin "list_reverseiterator.__length_hint__")):=by rw [typeLookup_type,builtinLookup_eq_fast];kernel_rfl
end F
section
variable {prog:Program} {w:World} {A:Around} {s:Shared} {R:Result -> Shared -> Prop}
variable {I:Addr} {fp wr:List Addr} {G:Array GenState -> Array GenState -> Prop} {n:Nat} {P:Nat -> Value -> Prop} {St:Nat -> Shared -> Prop}
theorem yj (W:WalksS prog w A.in1 I fp wr G n P St) (hT:∀ i s,St i s -> s.TypeIs (.ref I) "list_reverseiterator") (S:Addr) (res:Value) (c₀:Nat) (hst:St 0 s) (hSf:S ∉ fp) (hI:I ∈ fp)
  (hS:s.heap.get? S = some { cls:=.type "list",data:=.seq #[] c₀ })
  (hR:∀ s' acc' c',Moved (S :: wr) G s s' -> s'.heap.get? S = some { cls:=.type "list",dict:=none,data:=.seq acc' c',slots:=#[] } -> ItemsOf P acc' n -> R (.ok (.ret res)) s') (hn:n <= sizeLine) :
  wpAny (model prog w) A.in1 (Builtin.List.listExtendWith (.ref S) (.ref I) res)
   (λfin s'=>match fin with | .done f=>R (.ok f) s' | .again c'=>c'.quiet = true /\ codeAny (model prog w) A c' R s') (λe s'=>R (.error e) s') s:=by
 have hSI:S ≠ I:=λe=>hSf (e ▸ hI)
 unfold Builtin.List.listExtendWith
 refine wpAny_bind (wpAny_typeOf (hT 0 _ hst) ?_)
 have h1:Builtin.List.listSameRef (.ref S) (.ref I) = false:=by simp [Builtin.List.listSameRef,hSI]
 rw [if_neg (by rw [h1];decide)]
 refine wpAny_bind (W.self 0 _ _ _ hst ?_)
 refine wpAny_bind (wpAny_holding ?_)
 unfold Builtin.List.listLengthHint
 refine wpAny_bind (wpAny_specialOf (hT 0 _ hst) F.z5 ?_)
 show wpAny _ A.in1 (specialOf (Value.ref I) (Str.ofString "__length_hint__") >>= _) _ _ _
 refine wpAny_bind (wpAny_specialOf (hT 0 _ hst) F.AF ?_)
 (generalize hid:("list_reverseiterator.__length_hint__" : String) = id0;(fail_if_success (clear hid id0));wp_delta;rw [show splitId id0 = some ("list_reverseiterator","__length_hint__") from by subst hid;decide +kernel];subst hid)
 refine wpAny_bind (wpAny_isInstance (b:=true) (hT 0 _ hst) (by rw [isSubtype_type];kernel_rfl) ?_)
 refine wpAny_pure ?_
 rw [if_neg (by decide)]
 refine wpAny_pure ⟨plainId_quiet F.plain_extend_loop _,codeAny_extend_loopS W hn _ hSf _ n 0 _ _ _ rfl (Nat.zero_le _) hst hS (ItemsOf.nil P) λs' acc' c' hm hS' hacc=>?_⟩
 exact hR s' acc' c' hm hS' hacc
theorem DO (W:WalksS prog w A.in1 I fp wr G n P St) (hT:∀ i s,St i s -> s.TypeIs (.ref I) "list_reverseiterator") (S:Addr) (hst:St 0 s) (hSf:S ∉ fp) (hI:I ∈ fp)
  (hS:s.heap.get? S = some { cls:=.type "list",data:=.seq #[] })
  (hR:∀ s' acc' c',Moved (S :: wr) G s s' -> s'.heap.get? S = some { cls:=.type "list",dict:=none,data:=.seq acc' c',slots:=#[] } -> ItemsOf P acc' n -> R (.ok (.ret .none)) s') (hn:n <= sizeLine) :
  wpAny (model prog w) A.in1 (Builtin.«list.__init__» ⟨[.ref S,.ref I],[]⟩)
   (λfin s'=>match fin with | .done f=>R (.ok f) s' | .again c'=>c'.quiet = true /\ codeAny (model prog w) A c' R s') (λe s'=>R (.error e) s') s:=by
 show wpAny _ A.in1 (Builtin.List.listItems (.ref S) >>= λold=>Builtin.List.listUpdate (.ref S) (λ_=>#[]) >>= λ_=>letGo old.toList.reverse >>= λ_=>Builtin.List.listExtendWith (.ref S) (.ref I) .none) _ _ s
 refine wpAny_bind ?_
 unfold Builtin.List.listItems
 refine wpAny_bind (wpAny_seqItems hS rfl (wpAny_pure ?_))
 show wpAny _ A.in1 (updateSeq S (λ_=>#[]) >>= λ_=>letGo (#[]:Array Value).toList.reverse >>= λ_=>Builtin.List.listExtendWith (.ref S) (.ref I) .none) _ _ s
 refine wpAny_bind (wpAny_updateSeq hS rfl ?_)
 have hS₂:=Heap.get?_update_self (Obj.mapSeq (λ_=>(#[]:Array Value))) hS rfl
 have oth:∀ b o,b ≠ S -> s.heap.get? b = some o -> (s.heap.update S (Obj.mapSeq (λ_=>(#[]:Array Value)))).get? b = some o :=
  λb o hb e=>(Heap.get?_update_other _ _ (Ne.symm hb)).trans e
 refine wpAny_bind (wpAny_letGo ?_)
 refine yj (hn:=hn) W hT S .none _ (W.frame 0 s _ s.toks hst (Nat.le_refl _) λb hb o e=>oth b o (λh=>hSf (h ▸ hb)) e) hSf hI hS₂ λs' acc' c' hm hS' hacc=>?_
 exact hR s' acc' c' (Moved.trans W.gtrans ((Moved.refl W.grefl).then_heap (Nat.le_refl _) λb o hb e=>oth b o (λh=>hb (h ▸ List.mem_cons_self)) e) hm) hS' hacc
end
section
variable {prog:Program} {w:World} {A:Around} {E:Value -> Shared -> Prop} {s:Shared}
theorem qj {I l:Addr} {items:Array Value} {Q:Value -> Shared -> Prop} (hh:A.handled = none) (hne:l ≠ I) (hi:s.heap.IsRevIter I l ((items.size:Int) - 1)) (hl:s.heap.IsList l items) (hn:items.size <= sizeLine)
  (hQ:∀ h' tk acc' c',(∀ b o,b ≠ I -> s.heap.get? b = some o -> h'.get? b = some o) -> h'.get? s.heap.objs.size = some { cls:=.type "list",dict:=none,data:=.seq acc' c',slots:=#[] } ->
   ItemsOf (λi v=>items[items.size - 1 - i]? = some v) acc' items.size -> Q (.ref s.heap.objs.size) { s with heap:=h',toks:=tk }) :
  wpAny (model prog w) A (call (.type "list") [.ref I]) Q E s:=by
 have W:=(Walks.listRev (prog:=prog) (w:=w) (A:=A.in1.in1) hh I l hne items).toS
 have lI:I < s.heap.objs.size:=by obtain ⟨_,e,_⟩:=hi;exact Heap.lt_size e
 have ll:l < s.heap.objs.size:=by obtain ⟨_,e,_⟩:=hl;exact Heap.lt_size e
 have hSf:s.heap.objs.size ∉ [I,l]:=λz=>by
  rcases List.mem_cons.mp z with e | e
  ·exact Nat.ne_of_gt lI e
  ·exact Nat.ne_of_gt ll (List.mem_singleton.mp e)
 have hst:(0:Nat) <= items.size /\ s.heap.IsRevIter I l ((items.size:Int) - 1 - ((0:Nat):Int)) /\ s.heap.IsList l items:=⟨Nat.zero_le _,by simpa using hi,hl⟩
 refine callType_codes (Q₁:=λobj s₁=>obj = .ref s.heap.objs.size /\ s₁ = { s with heap:=s.heap.push { cls:=.type "list",data:=.seq #[] } }) F.called_list (F.typeCall_list_1 _) F.entry_list_init
  (code_list_new _ ⟨rfl,rfl⟩) λobj s₁ h₁=>?_
 obtain ⟨rfl,rfl⟩:=h₁
 have hS:(s.heap.push { cls:=.type "list",data:=.seq #[] }).get? s.heap.objs.size = some { cls:=.type "list",data:=.seq #[] }:=Heap.get?_push_size _ rfl
 refine ⟨⟨_,hS,rfl⟩,F.args_list_init_2 _ _,DO (A:=A.in1) (hn:=hn) W (λi s st=>st.2.1.typeIs) _ (W.frame 0 s _ s.toks hst (Nat.le_refl _) λb _ o e=>Heap.get?_push_of_some _ e) hSf (by simp) hS λs' acc' c' hm hS' hacc=>?_⟩
 rw [Moved.eq_with hm]
 refine ⟨rfl,hQ s'.heap s'.toks acc' c' (λb o hb e=>?_) hS' hacc⟩
 refine hm.heap b o (λhmem=>?_) (Heap.get?_push_of_some _ e)
 rcases List.mem_cons.mp hmem with z | z
 ·exact absurd (Heap.lt_size e) (by rw [z];exact Nat.lt_irrefl _)
 ·exact hb (List.mem_singleton.mp z)
end
end PySem
namespace L2
open PySem PySem.Spec PyProof.Rows
theorem Inv.Fc {X:Cx} {pins:List (Addr × Obj)} {σ:St} {H:Hp} {s:Shared} {h':Heap} {t':Nat} {ch:List Addr} (I:Inv X pins σ H s) (k:∀ b o,b ∉ ch -> s.heap.get? b = some o -> h'.get? b = some o) (hn:∀ b ∈ ch,H b = none)
  (hL:∀ b ∈ ch,b ≠ X.env.locals) (h1:∀ b ∈ ch,b ∈ X.ex ∨ X.s₀.heap.objs.size <= b) (h2:∀ b ∈ ch,∀ x c,X.env.cells.lookup x = some c -> c ≠ b) (h3:∀ b ∈ ch,∀ p ∈ X.pn ++ pins,p.1 ≠ b) :
  Inv X pins σ H { s with heap:=h',toks:=t' }:=by
 have nit:∀ b u,H b = some u -> b ∉ ch:=λb u e z=>by rw [hn b z] at e;cases e
 refine I.step (g':=s.gens) (d':=s.drawn) (ch:=ch) (λb hb=>⟨h1 b hb,hL b hb,h2 b hb,h3 b hb⟩) (λb o _ _ hc e _=>k b o hc e) (λb o _ _ hc e _=>⟨o.slots,k b o hc e⟩) (λ_ _ _ _ n=>n)
  (λb o hc e=>⟨o,k b o hc e⟩) (λ_ _ e=>e) (λ_ _ _ e=>e) (λb ps e=>⟨#[],by rw [e];simp⟩) (λm hm=>?_) (λb u e=>?_) I.bare
 ·obtain ⟨o,es,ep,ho,r⟩:=hm
  exact ⟨o,es,ep,k _ o (λz=>hL _ z rfl) ho,r⟩
 ·refine (I.hok b u e).stay (λc v hc q=>k c v ?_ q) (λ_ q=>q) λ_ _ q=>q
  rcases hc with z | z
  ·rw [z];exact nit b u e
  ·exact nit c _ z
def Mp (K:PySem.W.Frag) (a b:Addr):It :=
 ⟨λi H=>∃ xs ys x y,bu K H a xs /\ bu K H b ys /\ xs[i]? = some x /\ ys[i]? = some y,
  λi H x H'=>∃ p v u,H p = none /\ x = .ref p /\ H' = upd H p (.tup [v,u]) /\ (∀ xs,bu K H a xs -> xs[i]? = some v) /\ ∀ ys,bu K H b ys -> ys[i]? = some u,
  λi H=>∃ xs ys,bu K H a xs /\ bu K H b ys /\ (xs.length <= i ∨ ys.length <= i)⟩
theorem Dz {P:Program} {w:World} {K:PySem.W.Frag} {elts:List Expr} {x1} {pos:Pos} (a b z TI TO i1 i2:Addr) (D:ZipApart z TI TO i1 i2 a b) :
  Turn P w K (.Tuple elts x1 pos) (Mp K a b) [z,TI,TO,i1,i2] z (λi h=>∃ v u,IsZip h z TI TO .none /\ IsPair h TI (.ref i1) (.ref i2) /\ IsPair h TO v u /\ h.IsListIter i1 a i /\ h.IsListIter i2 b i) where
 mem:=by simp
 obj:=λi h st c hc=>by
  obtain ⟨v,u,hz,hI,hO,h1,h2⟩:=st
  simp only [List.mem_cons,List.not_mem_nil,or_false] at hc
  rcases hc with e | e | e | e | e
  ·subst e;exact ⟨_,hz,λv q=>by cases q⟩
  ·subst e;exact ⟨_,hI,λv q=>by cases q⟩
  ·subst e;exact ⟨_,hO,λv q=>by cases q⟩
  ·subst e;obtain ⟨o,e,c,d⟩:=h1;exact ⟨o,e,λv q=>by rw [d] at q;cases q⟩
  ·subst e;obtain ⟨o,e,c,d⟩:=h2;exact ⟨o,e,λv q=>by rw [d] at q;cases q⟩
 keep:=λi h h' st k=>by
  obtain ⟨v,u,hz,hI,hO,h1,h2⟩:=st
  exact ⟨v,u,k z (by simp) _ hz,k TI (by simp) _ hI,k TO (by simp) _ hO,h1.at λo q=>k i1 (by simp) o q,h2.at λo q=>k i2 (by simp) o q⟩
 item:=by
  intro X hP hw hK hc i pins s σ H E I hf st hg
  subst hP hw hK
  obtain ⟨v0,u0,hz,hI,hO,h1,h2⟩:=st
  obtain ⟨xs,ys,x,y,hq1,hq2,hx,hy⟩:=hg
  obtain ⟨is,r1,p1,z1⟩:=I.list hq1
  obtain ⟨js,r2,p2,z2⟩:=I.list hq2
  obtain ⟨u,hu,ru⟩:=r1.get hx
  obtain ⟨v,hv,rv⟩:=r2.get hy
  have fz:=hf z (by simp)
  have fI:=hf TI (by simp)
  have fO:=hf TO (by simp)
  have f1:=hf i1 (by simp)
  have f2:=hf i2 (by simp)
  refine wpAny_pyNext_zip_item D hz hI hO h1 h2 p1.isList p2.isList (x:=u) (y:=v) (by simpa using hu) (by simpa using hv) λg1 gz gO ga gb gT hsz hk=>?_
  refine ⟨_,rfl,wpAny_letOwnedTupleGo_zip (s:={ s with heap:=g1 }) gz λg2 en sb=>?_⟩
  have lz:z ≠ s.heap.objs.size:=Nat.ne_of_lt (Heap.lt_size hz)
  have lI:TI ≠ s.heap.objs.size:=Nat.ne_of_lt (Heap.lt_size hI)
  have lO:TO ≠ s.heap.objs.size:=Nat.ne_of_lt (Heap.lt_size hO)
  have l1:i1 ≠ s.heap.objs.size:=by obtain ⟨o,q,_⟩:=h1;exact Nat.ne_of_lt (Heap.lt_size q)
  have l2:i2 ≠ s.heap.objs.size:=by obtain ⟨o,q,_⟩:=h2;exact Nat.ne_of_lt (Heap.lt_size q)
  have k2:∀ c o,c ∉ [z,TI,TO,i1,i2] -> s.heap.get? c = some o -> g2.get? c = some o:=λc o n q=>by
   simp only [List.mem_cons,List.not_mem_nil,or_false,not_or] at n
   exact (sb.2 c n.1).trans (hk c o n.1 n.2.2.1 n.2.2.2.1 n.2.2.2.2 q)
  have fresh:=I.hok.fresh (Nat.le_refl s.heap.objs.size)
  have I1:Inv X pins σ (upd H s.heap.objs.size (.tup [x,y])) { s with heap:=g2 }:=by
   refine I.step (g':=s.gens) (d':=s.drawn) (t':=s.toks) (ch:=[z,TI,TO,i1,i2]) (λb hb=>?_) (λb o _ _ hc q _=>?_) (λb o _ _ hc q _=>?_) (λb o hc q n=>?_) (λb o hc q=>?_) (λb ys q=>?_) (λb o ys q=>?_) (λb ps q=>?_) (λm hm=>?_) (λb u' q=>?_) I.bare
   ·have f:=hf b hb
    exact ⟨f.2.2.2.1,f.2.1,f.2.2.2.2.1,f.2.2.2.2.2⟩
   ·exact k2 b o hc q
   ·exact ⟨o.slots,k2 b o hc q⟩
   ·rw [ao (Nat.ne_of_lt (Heap.lt_size q))];exact n
   ·exact ⟨o,k2 b o hc q⟩
   ·rw [ao (aj q fresh)];exact q
   ·rw [ao (aj q fresh)];exact q
   ·exact ⟨#[],by rw [ao (aj q fresh),q];simp⟩
   ·obtain ⟨o,es,ep,ho,r⟩:=hm
    refine ⟨o,es,ep,k2 _ o (λn=>?_) ho,r⟩
    exact (hf _ n).2.1 rfl
   ·by_cases hb:b = s.heap.objs.size
    ·subst hb
     rw [af] at q;cases q
     refine ⟨by show 2 <= sizeLine;decide,[u,v],.cons ru (.cons rv .nil),⟨_,(sb.2 _ (Ne.symm lz)).trans gT,rfl,_,rfl⟩⟩
    ·rw [ao hb] at q
     refine (I.hok b u' q).stay (λc v hc' r=>k2 c v (λn=>?_) r) (λc r=>by rw [ao (aj r fresh)];exact r) λc ys r=>by rw [ao (aj r fresh)];exact r
     have n0:=(hf c n).1
     rcases hc' with e | e
     ·rw [e] at n0;rw [n0] at q;cases q
     ·rw [n0] at e;cases e
  refine ⟨.ref s.heap.objs.size,_,I1,rfl,⟨_,x,y,fresh,rfl,rfl,λzs hs=>by rw [I.kD hs hq1];exact hx,λzs hs=>by rw [I.kD hs hq2];exact hy⟩,⟨u,v,en,?_,?_,?_,?_⟩,λc hc=>?_⟩
  ·exact (sb.2 TI D.TIz).trans (hk _ _ D.TIz D.TITO D.TIi1 D.TIi2 hI)
  ·exact (sb.2 TO D.TOz).trans gO
  ·obtain ⟨o,q,r⟩:=ga
   exact ⟨o,(sb.2 i1 D.i1z).trans q,r⟩
  ·obtain ⟨o,q,r⟩:=gb
   exact ⟨o,(sb.2 i2 D.i2z).trans q,r⟩
  ·have hb':=(hf c hc).1
   simp only [List.mem_cons,List.not_mem_nil,or_false] at hc
   rw [ao]
   ·exact hb'
   ·rcases hc with e | e | e | e | e <;> rw [e] <;> assumption
 done:=by
  intro X hP hw hK hc i pins s σ H E I hf st hg
  subst hP hw hK
  obtain ⟨v0,u0,hz,hI,hO,h1,h2⟩:=st
  obtain ⟨xs,ys,hq1,hq2,hx⟩:=hg
  obtain ⟨is,r1,p1,z1⟩:=I.list hq1
  obtain ⟨js,r2,p2,z2⟩:=I.list hq2
  have e1:=r1.length
  have e2:=r2.length
  refine wpAny_pyNext_zip_end (I.ok.hd hc) D hz hI hO h1 h2 p1.isList p2.isList (by rcases hx with h | h;· left;simp;omega
                                                                                    ·right;simp;omega) λh' eb=>⟨rfl,?_⟩
  refine I.Fc (t':=s.toks) (ch:=[z,TI,TO,i1,i2]) (λb o hb e=>?_) (λb hb=>(hf b hb).1) (λb hb=>(hf b hb).2.1) (λb hb=>(hf b hb).2.2.2.1) (λb hb=>(hf b hb).2.2.2.2.1) λb hb=>(hf b hb).2.2.2.2.2
  simp only [List.mem_cons,List.not_mem_nil,or_false,not_or] at hb
  exact eb b o hb.1 hb.2.2.1 hb.2.2.2.1 hb.2.2.2.2 e
 self:=λ_ _ _ _ _ st h=>by
  obtain ⟨v,u,hz,hI,hO,h1,h2⟩:=st
  exact wpAny_pyIter_zip hz h
theorem zG {n l m:Nat} (h:l < n) (h':m < n):ZipApart (n + 4) (n + 2) (n + 3) n (n + 1) l m:=by
 constructor <;> (intro e;have e:(_:Nat) = _:=e;omega)
section
variable {X:Cx}
def Mg (K:PySem.W.Frag) (ta:TA):TI:=λσ H R=>ta σ H λvs H1=>∃ a b xs ys,vs = [.ref a,.ref b] /\ bu K H1 a xs /\ bu K H1 b ys /\ R (Mp K a b) H1
theorem HX {a b:Expr} {ta:TA} {p pos tp:Pos} {elts:List Expr} {x1} (hg:Gl X "zip") (hm:X.mg "zip" = none) (ha:PA X [a,b] ta) (hs:starEach [a,b] X.env = (false,eval a X.env) :: starEach [b] X.env:=by rfl) (hs2:(backTo pos (starEach [b] X.env)).any (·.1) = false:=by rfl) :
  PI X (.Tuple elts x1 tp) (.Call (.Name "zip" p) [a,b] [] pos) (Mg X.K ta):=by
 intro pins s σ H R I h
 refine Call_ (jy I hg hm (show bootBuiltins "zip" = some (.type "zip") by decide +kernel) (PyProof.Rows.callWith_type1 (c5 (ha pos pins s σ H _ I h) λus s1 ⟨vs,H1,I1,r1,q1⟩=>?_) hs hs2))
 obtain ⟨l,m,xs,ys,rfl,hq1,hq2,q⟩:=q1
 obtain ⟨u,v,rfl,ru,rv⟩:=r1.two
 cases ru
 cases rv
 obtain ⟨is,_,p1,_⟩:=I1.list hq1
 obtain ⟨js,_,p2,_⟩:=I1.list hq2
 refine call_zip_2 p1.isList p2.isList λh' hz hI hO h1 h2 hsz hk=>?_
 refine wpAny_pyIter_zip (s:={ s1 with heap:=h' }) hz ?_
 have ll:l < s1.heap.objs.size:=by obtain ⟨_,e,_⟩:=p1.isList;exact Heap.lt_size e
 have lm:m < s1.heap.objs.size:=by obtain ⟨_,e,_⟩:=p2.isList;exact Heap.lt_size e
 refine ⟨s1.heap.objs.size + 4,[s1.heap.objs.size + 4,s1.heap.objs.size + 2,s1.heap.objs.size + 3,s1.heap.objs.size,s1.heap.objs.size + 1],_,_,H1,rfl,I1.kept (t':=s1.toks) hk,Dz l m _ _ _ _ _ (zG ll lm),⟨_,_,hz,hI,hO,h1,h2⟩,λb hb=>?_,q⟩
 have hb':s1.heap.objs.size <= b:=by
  simp only [List.mem_cons,List.not_mem_nil,or_false] at hb
  rcases hb with e | e | e | e | e <;> rw [e]
  ·exact Nat.le_add_right _ _
  ·exact Nat.le_add_right _ _
  ·exact Nat.le_add_right _ _
  ·exact Nat.le_refl _
  ·exact Nat.le_add_right _ _
 exact I1.AK hb' (I1.hok.fresh hb')
theorem Dn {K:PySem.W.Frag} {a b:Addr} {xs ys:List V} {g:TG} {tb:TS} {D:Ends} {σ:St} {H:Hp} (Pv:Nat -> St -> Hp -> Prop) (h0:Pv 0 σ H) (hl:∀ i σ H,i <= xs.length -> i <= ys.length -> Pv i σ H -> bu K H a xs /\ bu K H b ys)
  (hs:∀ i x y p σ H,xs[i]? = some x -> ys[i]? = some y -> H p = none -> Pv i σ H -> g (.ref p) σ (upd H p (.tup [x,y])) λσ2 H2=>tb { D with nx:=Pv (i + 1),ct:=Pv (i + 1),bk:=D.nx } σ2 H2)
  (hd:∀ i σ H,(i = xs.length ∨ i = ys.length) -> i <= xs.length -> i <= ys.length -> Pv i σ H -> D.nx σ H):Cc (Mp K a b) g tb D σ H:=by
 refine ⟨λi m σ H=>m = xs.length - i /\ i <= xs.length /\ i <= ys.length /\ Pv i σ H,⟨xs.length,by simp,Nat.zero_le _,Nat.zero_le _,h0⟩,?_⟩
 rintro i m σ H ⟨rfl,hi,hj,p⟩
 obtain ⟨q1,q2⟩:=hl i σ H hi hj p
 by_cases h1:i < xs.length
 ·by_cases h2:i < ys.length
  ·refine .inr ⟨⟨xs,ys,xs[i],ys[i],q1,q2,by simp [h1],by simp [h2]⟩,Pv (i + 1),λσ' H' p'=>⟨xs.length - (i + 1),by omega,rfl,h1,h2,p'⟩,λx H' y=>?_⟩
   obtain ⟨pp,v,u,e1,rfl,rfl,e2,e3⟩:=y
   exact hs i v u pp σ H (e2 xs q1) (e3 ys q2) e1 p
  ·exact .inl ⟨⟨xs,ys,q1,q2,.inr (by omega)⟩,hd i σ H (.inr (by omega)) hi hj p⟩
 ·exact .inl ⟨⟨xs,ys,q1,q2,.inl (by omega)⟩,hd i σ H (.inl (by omega)) hi hj p⟩
theorem CK {xs:List V} {is:List Value} {acc:Array Value} (r:Vals xs is) (hi:ItemsOf (λi v=>is.toArray[is.toArray.size - 1 - i]? = some v) acc is.toArray.size):Vals xs.reverse acc.toList:=by
 have e:acc.toList = is.reverse:=by
  apply List.ext_getElem?
  intro i
  have hz:acc.size = is.length:=by have:=hi.1;simpa using this
  by_cases hlt:i < is.length
  ·have hi':i < acc.size:=by rw [hz];exact hlt
   have h2:=hi.2 i acc[i] (by simp [hi'])
   rw [List.getElem?_reverse hlt]
   have h2:is[is.length - 1 - i]? = some acc[i]:=by simpa using h2
   rw [h2]
   simp [hi']
  ·rw [List.getElem?_eq_none (by simp;omega),List.getElem?_eq_none (by simp;omega)]
 rw [e]
 clear e hi
 induction r with
 | nil=>exact .nil
 | cons h t ih =>
  rw [List.reverse_cons,List.reverse_cons]
  exact ih.append (.cons h .nil)
def AU (K:PySem.W.Frag) (ta:TA):TE:=λσ H Q=>ta σ H λvs H1=>∃ l xs,vs = [.ref l] /\ bu K H1 l xs /\ ∀ r,H1 r = none -> Q (.ref r) (upd H1 r (.lst xs.reverse))
theorem nt {a:Expr} {ta:TA} {p pos p2 pos2:Pos} (hc:X.calm = true) (hg:Gl X "list") (hm:X.mg "list" = none) (hg2:Gl X "reversed") (hm2:X.mg "reversed" = none) (ha:PA X [a] ta)
  (hs:starEach [.Call (.Name "reversed" p2) [a] [] pos2] X.env = [(false,eval (.Call (.Name "reversed" p2) [a] [] pos2) X.env)]:=by rfl) (hs2:starEach [a] X.env = [(false,eval a X.env)]:=by rfl) :
  PE X (.Call (.Name "list" p) [.Call (.Name "reversed" p2) [a] [] pos2] [] pos) (AU X.K ta):=by
 intro pins s σ H Q I h
 refine Call_ (jy I hg hm (show bootBuiltins "list" = some (.type "list") by decide +kernel) (PyProof.Rows.callWith_type1 ?_ hs rfl))
 rw [hs]
 show wpAny _ _ (spliced [(false,eval (.Call (.Name "reversed" p2) [a] [] pos2) X.env)]) _ _ s
 refine Calls.spliced_cons ?_
 refine Call_ (jy I hg2 hm2 (show bootBuiltins "reversed" = some (.type "reversed") by decide +kernel) (PyProof.Rows.callWith_type1 (c5 (ha pos2 pins s σ H _ I h) λus s1 ⟨vs,H1,I1,r1,q1⟩=>?_) hs2 rfl))
 obtain ⟨l,xs,rfl,hq,q⟩:=q1
 obtain ⟨u,rfl,ru⟩:=r1.one
 cases ru
 obtain ⟨is,rv,pl,hz⟩:=I1.list hq
 refine call_reversed_list pl.isList (Calls.spliced_nil ?_)
 have ll:l < s1.heap.objs.size:=by obtain ⟨_,e,_⟩:=pl.isList;exact Heap.lt_size e
 refine qj (I.ok.hd hc) (Nat.ne_of_lt ll) ⟨_,Heap.get?_push_size _ rfl,rfl,rfl⟩ (pl.isList.push _) (by have:=rv.length;simp;omega) λh' tk acc c kp e hi=>?_
 have sz:(s1.heap.push (revObj l ((is.toArray.size:Int) - 1))).objs.size = s1.heap.objs.size + 1:=Heap.size_push ..
 have hlen:xs.length <= sizeLine:=hz
 have k2:∀ b u,s1.heap.get? b = some u -> h'.get? b = some u:=λb u eb=>kp b u (Nat.ne_of_lt (Heap.lt_size eb)) (Heap.get?_push_of_some _ eb)
 have hp:s1.heap.objs.size <= (s1.heap.push (revObj l ((is.toArray.size:Int) - 1))).objs.size:=by rw [sz];exact Nat.le_add_right _ _
 refine ⟨.ref _,_,I1.laid (t':=tk) (o:=.lst xs.reverse) k2 hp (show dM X.prog X.w _ h' _ (.lst xs.reverse) from ⟨by rw [List.length_reverse];exact hlen,acc.toList,c,CK rv hi,by simpa using e⟩),rfl,q _ (I1.hok.fresh hp)⟩
end
end L2
namespace L2
open PySem PySem.Spec PyProof.Rows
section
variable {X:Cx} {e v1 v2:Expr} {es:List Expr} {te:TE} {pos:Pos}
variable {t:TF}
end
end L2
namespace L2
open PySem PySem.Spec PyProof.Rows PySem.W
section
variable {X:Cx}
end
end L2
namespace L2
open PySem PySem.Spec PyProof.Rows
section
variable {X:Cx}
end
end L2
namespace L2
open PySem PySem.Spec PyProof.Rows
section
variable {X:Cx}
end
end L2
namespace L2
open PySem PySem.Spec PyProof.Rows
section
variable {X:Cx}
end
end L2
namespace L2
open PySem PySem.Spec PyProof.Rows
variable {X:Cx}
end L2
namespace L2
open PySem PySem.Spec PyProof.Rows
section
variable {prog:Program} {w:World} {A:Around} {E:Value -> Shared -> Prop} {s:Shared}
set_option maxRecDepth 100000 in
end
section
variable {X:Cx}
end
end L2
namespace HT
open PySem PyProof.Rows
def gC:List Int -> List Int -> Bool
 | [],[]=>false
 | [],_ :: _=>false
 | _ :: _,[]=>true
 | x :: xs,y :: ys=>if x = y then gC xs ys else decide (x > y)
theorem jJ (x y:Int) (xs ys:List Int):gC (x :: xs) (y :: ys) = if x = y then gC xs ys else decide (x > y):=rfl
theorem qk:gC [] [] = false:=rfl
theorem pQ (y:Int) (ys:List Int):gC [] (y :: ys) = false:=rfl
theorem oJ (x:Int) (xs:List Int):gC (x :: xs) [] = true:=rfl
theorem Bf (A:Around) (s:Shared) (a:Int) (t:Tok) (c:Int) (u:Tok) (prog:Program) (w:World) (E:Value -> Shared -> Prop) (Q:Value -> Shared -> Prop) (h:Q (.bool (decide (a > c))) s) :
  wpAny (model prog w) A (richCompare .Gt (.int a t) (.int c u)) Q E s :=
 (PyProof.Rows.gt_int h:wpAny (model prog w) A (compareOp .Gt (.int a t) (.int c u)) Q E s)
section
open PySem.SeqAt
open PySem.AutoSeq1 (wpAny_loadPart')
open PySem.MeetsSeq PySem.MeetsSeq2 PySem.MeetsSeq3
theorem qm (l b:Addr) (items items2:Array Value) (n n2:Nat) (dd dd2:Option Addr) (sl sl2:Array (Option Value)) (ns ms:List Int) (hi:IntsAre items.toList ns) (hj:IntsAre items2.toList ms) :
  Meets (Builtin.«tuple.__gt__» ⟨[.ref l,.ref b],[]⟩)
   (λ_ R s=>s.heap.get? l = some { cls:=.type "tuple",dict:=dd,data:=.seq items n,slots:=sl } /\ s.heap.get? b = some { cls:=.type "tuple",dict:=dd2,data:=.seq items2 n2,slots:=sl2 } /\
    R (.ok (.ret (.bool (gC ns ms)))) s) :=
 .of_wp λprog w A R s h=>by
  obtain ⟨hp,g,d,tk,os⟩:=s;obtain ⟨hl,hb,h⟩:=h
  have f2:=AutoSeq1.sub_tuple_tuple
  have z1:items.size = ns.length:=by rw [← hi.length];simp
  have z2:items2.size = ms.length:=by rw [← hj.length];simp
  wp_walk using wpAny_loadPart' hl,wpAny_loadPart' hb,wpAny_forIn_list _ (λrest b s'=>b.1 = none /\ s' = ⟨hp,g,d,tk,os⟩ /\ ∃ (vs ws:List Value) (ns' ms':List Int),rest = vs.zip ws /\
   IntsAre vs ns' /\ IntsAre ws ms' /\ ns'.length + items2.size = ms'.length + items.size /\ R (.ok (.ret (.bool (gC ns' ms')))) ⟨hp,g,d,tk,os⟩) _
  case turn =>
   rintro ⟨y,x⟩ rest b s' ⟨hb',rfl,vs,ws,ns',ms',hz,hvi,hwi,hlen,hR⟩
   cases hvi with
   | nil=>rw [List.zip_nil_left] at hz;cases hz
   | cons a t hvi' =>
    cases hwi with
    | nil=>rw [List.zip_nil_right] at hz;cases hz
    | cons c u hwi' =>
     rw [List.zip_cons_cons] at hz
     injection hz with hyx hrest
     injection hyx with hy hx
     subst hy hx
     rw [jJ] at hR
     simp only [List.length_cons] at hlen
     obtain ⟨e,he,hiff⟩:=Df A.in1 ⟨hp,g,d,tk,os⟩ a t c u
     refine wpAny_bind (he prog w _ _ ?_)
     cases e with
     | true =>
      rw [if_pos (hiff.mp rfl)] at hR
      wp_walk
      exact ⟨rfl,rfl,_,_,_,_,hrest,hvi',hwi',by omega,hR⟩
     | false =>
      rw [if_neg (λq=>absurd (hiff.mpr q) Bool.false_ne_true)] at hR
      have hri:=Bf A.in1 ⟨hp,g,d,tk,os⟩ a t c u prog w
      wp_walk using hri
      exact ⟨_,rfl,by simpa using hR⟩
  case fin =>
   rintro ⟨b1,b2⟩ s' ⟨hb',rfl,vs,ws,ns',ms',hz,hvi,hwi,hlen,hR⟩
   simp only at hb'
   subst hb'
   have hv:gC ns' ms' = decide (items2.size < items.size):=by
    cases hvi with
    | nil =>
     cases hwi with
     | nil =>
      simp only [List.length_nil] at hlen
      rw [qk]
      exact (decide_eq_false (by omega)).symm
     | cons c u hw =>
      simp only [List.length_nil,List.length_cons] at hlen
      rw [pQ]
      exact (decide_eq_false (by omega)).symm
    | cons a t hv =>
     cases hwi with
     | nil =>
      simp only [List.length_nil,List.length_cons] at hlen
      rw [oJ]
      exact (decide_eq_true (by omega)).symm
     | cons c u hw =>
      rw [List.zip_cons_cons] at hz
      cases hz
   rw [hv] at hR
   wp_walk
   exact ⟨_,rfl,by simpa [Builtin.Tuple.tupleCompareSizes] using hR⟩
  case h =>
   exact ⟨rfl,rfl,items.toList,items2.toList,ns,ms,rfl,hi,hj,by omega,h⟩
end
section
variable {prog:Program} {w:World} {A:Around} {E:Value -> Shared -> Prop} {s:Shared}
theorem xw {l b:Addr} {items items2:Array Value} {ns ms:List Int} {Q:Value -> Shared -> Prop} (hl:IsTup s.heap l items) (hb:IsTup s.heap b items2) (hi:IntsAre items.toList ns) (hj:IntsAre items2.toList ms)
  (hu:A.units < cLine) (h:Q (.bool (gC ns ms)) s):wpAny (model prog w) A (compareOp .Gt (.ref l) (.ref b)) Q E s:=by
 obtain ⟨⟨cls,dd,data,sl⟩,ho,hc,n,hd⟩:=id hl
 obtain ⟨⟨cls2,dd2,data2,sl2⟩,ho2,hc2,n2,hd2⟩:=id hb
 simp only at hc hd hc2 hd2
 subst hc hd hc2 hd2
 exact richCompare_meets_room (op:=.Gt) ⟨_,ho,rfl⟩ ⟨_,ho2,rfl⟩ PySem.F.slot_tuple_gt PySem.F.entry_tuple_gt (PySem.F.args_tuple_gt_2 _ _) (qm l b items items2 n n2 dd dd2 sl sl2 ns ms hi hj)
  ⟨ho,ho2,show Value.bool (gC ns ms) ≠ Value.notImplemented /\ Q (.bool (gC ns ms)) s from ⟨(λx=>nomatch x),h⟩⟩ hu
end
end HT
namespace L2
open PySem PySem.Spec PyProof.Rows
variable {X:Cx}
theorem kN:∀ {ns:List Int} {us:List Value},Vals (ns.map V.int) us -> PyProof.Rows.IntsAre us ns
 | [],_,.nil=>.nil
 | n :: ns,_,.cons h t=>by
  obtain ⟨k,rfl⟩:=h
  exact .cons _ _ (kN t)
def Ks (K:PySem.W.Frag):R2:=λx y H Q=>∃ a b ns ms,x = .ref a /\ y = .ref b /\ gh K H a (ns.map V.int) /\ gh K H b (ms.map V.int) /\ Q (.bl (HT.gC ns ms)) H
theorem Ft (hu:X.A.units < cLine):jU X (compareOp .Gt) (Ks X.K):=by
 intro pins s σ H x y v u Q I rx ry h
 obtain ⟨a,b,ns,ms,rfl,rfl,ha,hb,q⟩:=h
 cases rx
 cases ry
 obtain ⟨is,r1,p1,_⟩:=I.tuple ha
 obtain ⟨js,r2,p2,_⟩:=I.tuple hb
 exact HT.xw p1 p2 (kN (by simpa using r1)) (kN (by simpa using r2)) hu ⟨.bl _,H,I,rfl,q⟩
end L2
namespace L2
open PySem PySem.Spec PyProof.Rows
section
variable {X:Cx}
theorem su:jU X (binaryOp .Mult) (λx y H Q=>∃ i n,x = .str i /\ y = .int n /\ MulOk i n /\ Q (.str (PySem.Txt.mul i n)) H):=by
 intro pins s σ H x y v u Q I rx ry h
 obtain ⟨i,n,rfl,rfl,hz,q⟩:=h
 obtain ⟨t,rfl⟩:=rx
 obtain ⟨t',rfl⟩:=ry
 exact SB.mul hz (λt' tk=>⟨.str (PySem.Txt.mul i n),H,I.tok _,⟨_,rfl⟩,q⟩)
theorem Iz:∀ n:Nat,n < 13 -> ((decide ((n:Int) < -2 ^ 63) || decide ((n:Int) ≥ 2 ^ 63)) = false /\ (¬ (n:Int) < 1 -> ((n:Int) == 1 || (1:Nat) == 0) = false -> ¬ ((1:Nat):Int) > (2 ^ 63 - 1) / (n:Int)) /\ (¬ (n:Int) < 1 -> ((n:Int) == 1 || (1:Nat) == 0) = false -> Builtin.Str.tooLong (1 * (n:Int).toNat) = false)):=by decide +kernel
theorem CB {c n:Nat} (h:n < 13):MulOk ⟨#[c]⟩ n:=Iz n h
theorem zh:∀ n:Nat,n < 13 -> ∀ c ∈ [97,98,40],(PySem.Txt.mul ⟨#[c]⟩ (n:Int)).cps.toList = List.replicate n c:=by decide +kernel
end
end L2
namespace K35
open PySem L2
set_option hygiene false
local macro_rules | `(tactic| walk_at "i")=>`(tactic| (intro vs H Q E h;repeat (first | (obtain ⟨rfl,_⟩:=h;exact rfl) | (obtain ⟨_,h⟩:=h)));(intro cdv A outer s H vs Q E hr h;refine mY ?_))
local macro_rules | `(tactic| walk_at "0")=>`(tactic| (intro _ _ _ _ _ _ us hl;obtain rfl:=ls0 hl;rfl))
local macro_rules | `(tactic| walk_at "1")=>`(tactic| (intro _ _ _ _ _ _ us hl;obtain ⟨_,rfl⟩:=ls1 hl;rfl))
local macro_rules | `(tactic| walk_at "2")=>`(tactic| (intro _ _ _ _ _ _ us hl;obtain ⟨_,_,rfl⟩:=FG hl;rfl))
local macro_rules | `(tactic| walk_at "3")=>`(tactic| (intro _ _ _ _ _ _ us hl;obtain ⟨_,_,_,rfl⟩:=ls3 hl;rfl))
local macro_rules | `(tactic| walk_at "4")=>`(tactic| (intro _ _ _ _ _ _ us hl;obtain ⟨_,_,_,_,rfl⟩:=ls4 hl;rfl))
local macro_rules | `(tactic| walk_at "5")=>`(tactic| (intro _ _ _ _ _ _ us hl;obtain ⟨_,_,_,_,_,rfl⟩:=ls5 hl;rfl))
local macro_rules | `(tactic| walk_at "6")=>`(tactic| (intro _ _ _ _ _ _ us hl;obtain ⟨_,_,_,_,_,_,rfl⟩:=ls6 hl;rfl))
local macro_rules | `(tactic| left)=>`(tactic| walk_at "u")
local macro_rules | `(tactic| walk_at "sc")=>`(tactic| exact ⟨rfl,rfl,rfl,by decide +kernel,rfl,by decide +kernel,by decide +kernel⟩)
def top (i:Nat):Stmt:=PySem.Challenge.pw_tintrow_k35_whole_down_to_the_end.main.body.getD i (.Pass ⟨0,0,0,0⟩)
abbrev BX:Stmt:=inClass (top 7) 0
theorem MJ:aD ["self","row","at"] ["self","row","at"] (ay BX):=by walk_at "sc"
abbrev Bv:Stmt:=inClass (top 7) 1
theorem JO:aD ["self"] ["self"] (ay Bv):=by walk_at "sc"
abbrev DP:Stmt:=inClass (top 8) 0
theorem Jm:aD ["self","text"] ["self","text"] (ay DP):=by walk_at "sc"
abbrev D0:Stmt:=inClass (top 8) 1
theorem IT:aD ["self","row","at"] ["self","row","at"] (ay D0):=by walk_at "sc"
abbrev AQ:Stmt:=inClass (top 8) 2
theorem Jt:aD ["self"] ["self"] (ay AQ):=by walk_at "sc"
abbrev CU:Stmt:=inClass (top 9) 0
theorem IQ:aD ["self","signs"] ["self","signs"] (ay CU):=by walk_at "sc"
abbrev A0:Stmt:=inClass (top 9) 1
theorem IP:aD ["self","row","at"] ["self","row","at"] (ay A0):=by walk_at "sc"
abbrev AO:Stmt:=inClass (top 9) 2
theorem Hq:aD ["self"] ["self"] (ay AO):=by walk_at "sc"
abbrev Cn:Stmt:=inClass (top 10) 0
theorem Jy:aD ["self","signs"] ["self","signs"] (ay Cn):=by walk_at "sc"
abbrev Dm:Stmt:=inClass (top 10) 1
theorem Jd:aD ["self","row","at"] ["self","row","at"] (ay Dm):=by walk_at "sc"
abbrev DF:Stmt:=inClass (top 10) 2
theorem Iw:aD ["self"] ["self"] (ay DF):=by walk_at "sc"
abbrev AJ:Stmt:=inClass (top 11) 0
theorem Jh:aD ["self","signs"] ["self","signs"] (ay AJ):=by walk_at "sc"
abbrev CY:Stmt:=inClass (top 11) 1
theorem xg:aD ["self","row","at","end"] ["self","row","at"] (ay CY):=by walk_at "sc"
abbrev Cr:Stmt:=inClass (top 11) 2
theorem Gk:aD ["self"] ["self"] (ay Cr):=by walk_at "sc"
abbrev IK:Stmt:=inClass (top 12) 0
theorem KN:aD ["self","row","at"] ["self","row","at"] (ay IK):=by walk_at "sc"
abbrev Hu:Stmt:=inClass (top 12) 1
theorem Kh:aD ["self"] ["self"] (ay Hu):=by walk_at "sc"
abbrev Cd:Stmt:=inClass (top 13) 0
theorem JS:aD ["self","row","at"] ["self","row","at"] (ay Cd):=by walk_at "sc"
abbrev Dr:Stmt:=inClass (top 14) 0
theorem IM:aD ["self","row","at"] ["self","row","at"] (ay Dr):=by walk_at "sc"
abbrev zx:Stmt:=top 19
theorem Hj:aD ["word"] ["word"] (ay zx):=by walk_at "sc"
abbrev B9:Stmt:=inClass (top 20) 0
theorem G4:aD ["self","pattern","colour","deed","goal","fold"] ["self","pattern","colour","deed","goal","fold"] (ay B9):=by walk_at "sc"
abbrev AH:Stmt:=inClass (top 21) 0
theorem Ht:aD ["self","name","colour","rules"] ["self","name","colour","rules"] (ay AH):=by walk_at "sc"
abbrev AA:Stmt:=inClass (top 22) 0
theorem HZ:aD ["self","modes"] ["self","modes"] (ay AA):=by walk_at "sc"
abbrev yR:Stmt:=top 23
theorem IV:aD ["rules"] ["rules"] (ay yR):=by walk_at "sc"
abbrev zz:Stmt:=top 24
theorem Je:aD ["mode"] ["mode"] (ay zz):=by walk_at "sc"
abbrev CO:Stmt:=top 25
theorem GY:aD ["rule"] ["rule"] (ay CO):=by walk_at "sc"
abbrev Bm:Stmt:=top 28
theorem w9:aD ["rules","mode","row","at","number","rule"] ["rules","mode","row","at"] (ay Bm):=by walk_at "sc"
abbrev Ds:Stmt:=top 29
theorem Ic:aD ["modes","rule"] ["modes","rule"] (ay Ds):=by walk_at "sc"
abbrev Bb:Stmt:=top 30
theorem Cu:aD ["rules","found"] ["rules"] (ay Bb):=by walk_at "sc"
abbrev zg:Stmt:=top 31
theorem qa:aD ["rules","row","first","ring"] ["rules"] (ay zg):=by walk_at "sc"
abbrev D3:Stmt:=top 32
theorem HE:aD [] [] (ay D3):=by walk_at "sc"
abbrev BY:Stmt:=top 33
theorem o7:aD ["rules","first","row","ring","modes","rule"] ["rules","first","row"] (ay BY):=by walk_at "sc"
abbrev Dg:Stmt:=top 34
theorem xx:aD ["rules","mode","row","number","rule"] ["rules","mode","row"] (ay Dg):=by walk_at "sc"
abbrev DC:Stmt:=top 36
theorem i6:aD ["rules","modes","row","on","tints","marks","at","mode","number","rule"] ["rules","modes","row"] (ay DC):=by walk_at "sc"
abbrev A2:Stmt:=inClass (top 38) 0
theorem Ba:aD ["self","rules","modes","row","told"] ["self","rules","modes","row"] (ay A2):=by walk_at "sc"
abbrev BV:Stmt:=inClass (top 39) 0
theorem IZ:aD ["self","rules","rows"] ["self","rules","rows"] (ay BV):=by walk_at "sc"
abbrev yZ:Stmt:=inClass (top 39) 1
theorem Io:aD ["self"] ["self"] (ay yZ):=by walk_at "sc"
abbrev Cp:Stmt:=inClass (top 39) 2
theorem Jz:aD ["self","row"] ["self","row"] (ay Cp):=by walk_at "sc"
abbrev Dh:Stmt:=inClass (top 39) 3
theorem JN:aD ["self","row"] ["self","row"] (ay Dh):=by walk_at "sc"
abbrev Bt:Stmt:=inClass (top 39) 4
theorem Jo:aD ["self","row"] ["self","row"] (ay Bt):=by walk_at "sc"
abbrev CA:Stmt:=inClass (top 39) 5
theorem kJ:aD ["self","row","many","rows","taken","ahead","back","first","changed"] ["self","row","many","rows"] (ay CA):=by walk_at "sc"
abbrev C0:Stmt:=inClass (top 39) 6
theorem DQ:aD ["self","row","at","text","signs"] ["self","row","at","text"] (ay C0):=by walk_at "sc"
abbrev BG:Stmt:=inClass (top 39) 7
theorem B6:aD ["self","row","at","row2","at2","left"] ["self","row","at","row2","at2"] (ay BG):=by walk_at "sc"
abbrev Dj:Stmt:=inClass (top 39) 9
theorem oi:aD ["self","modes","rows","gone_rows","row","gone"] ["self","modes","rows"] (ay Dj):=by walk_at "sc"
abbrev AE:Stmt:=inClass (top 39) 10
theorem wZ:aD ["self","row","at"] ["self","row"] (ay AE):=by walk_at "sc"
abbrev Bx:Stmt:=inClass (top 39) 11
theorem HD:aD ["self","row"] ["self","row"] (ay Bx):=by walk_at "sc"
abbrev CS:Stmt:=inClass (top 39) 12
theorem Ig:aD ["self","row"] ["self","row"] (ay CS):=by walk_at "sc"
abbrev DH:Stmt:=inClass (top 39) 13
theorem IG:aD ["self","row"] ["self","row"] (ay DH):=by walk_at "sc"
abbrev Dc:Stmt:=inClass (top 39) 14
theorem JU:aD ["self","row","at"] ["self","row","at"] (ay Dc):=by walk_at "sc"
abbrev CL:Stmt:=inClass (top 39) 15
theorem Ja:aD ["self","row","at","row2","at2"] ["self","row","at","row2","at2"] (ay CL):=by walk_at "sc"
abbrev AM:Stmt:=inClass (top 39) 16
theorem Ip:aD ["self","row","many"] ["self","row","many"] (ay AM):=by walk_at "sc"
abbrev DT:Stmt:=top 40
theorem pO:aD ["some","others","many","one","other"] ["some","others"] (ay DT):=by walk_at "sc"
abbrev Be:Stmt:=top 41
theorem Ih:aD ["some","others"] ["some","others"] (ay Be):=by walk_at "sc"
abbrev JC:Stmt:=inClass (top 49) 0
theorem Li:aD ["self","row","text"] ["self","row","text"] (ay JC):=by walk_at "sc"
abbrev Iq:Stmt:=inClass (top 49) 1
theorem KA:aD ["self"] ["self"] (ay Iq):=by walk_at "sc"
abbrev GS:Stmt:=inClass (top 49) 2
theorem LF:aD ["self"] ["self"] (ay GS):=by walk_at "sc"
abbrev IW:Stmt:=inClass (top 49) 3
theorem Kv:aD ["self","good"] ["self","good"] (ay IW):=by walk_at "sc"
abbrev HN:Stmt:=inClass (top 49) 4
theorem FL:aD ["self","good","word"] ["self","good"] (ay HN):=by walk_at "sc"
abbrev Ik:Stmt:=inClass (top 49) 5
theorem Ls:aD ["self","words"] ["self","words"] (ay Ik):=by walk_at "sc"
abbrev JH:Stmt:=inClass (top 49) 6
theorem Lk:aD ["self"] ["self"] (ay JH):=by walk_at "sc"
abbrev Hh:Stmt:=inClass (top 49) 7
theorem F3:aD ["self","word"] ["self"] (ay Hh):=by walk_at "sc"
abbrev Cv:Stmt:=top 50
theorem iB:aD ["text","rows","numbers","modes","nowhere","number","row","cursor","rules"] ["text"] (ay Cv):=by walk_at "sc"
abbrev AD:Stmt:=top 51
theorem r9:aD ["rows","numbers","row","words"] ["rows"] (ay AD):=by walk_at "sc"
abbrev zw:Stmt:=top 52
theorem yh:aD ["cursor","modes","name","colour"] ["cursor","modes"] (ay zw):=by walk_at "sc"
abbrev CZ:Stmt:=top 53
theorem kP:aD ["cursor","numbers","nowhere","pattern","colour","deed","goal","fold"] ["cursor","numbers","nowhere"] (ay CZ):=by walk_at "sc"
abbrev CN:Stmt:=top 54
theorem xr:aD ["cursor","kind","signs"] ["cursor"] (ay CN):=by walk_at "sc"
abbrev Bq:Stmt:=top 55
theorem w6:aD ["cursor","numbers","nowhere","place","name"] ["cursor","numbers","nowhere"] (ay Bq):=by walk_at "sc"
abbrev BI:Stmt:=top 57
theorem kT:aD ["_law_script","_law_k","_law_many","_law_cell","_law_digits","_law_j","_law_seed"] ["_law_script","_law_k","_law_many"] (ay BI):=by walk_at "sc"
abbrev DR:Stmt:=top 58
theorem rM:aD ["_law_rule","_law_row","_law_at","_law_many"] ["_law_rule","_law_row","_law_at"] (ay DR):=by walk_at "sc"
abbrev DN:Stmt:=top 59
theorem AG:aD ["_law_modes","_law_top","_law_row","_law_at","_law_rule"] ["_law_modes","_law_top","_law_row","_law_at"] (ay DN):=by walk_at "sc"
abbrev BB:Stmt:=top 60
theorem Jq:aD ["_law_rule","_law_on"] ["_law_rule","_law_on"] (ay BB):=by walk_at "sc"
abbrev Cb:Stmt:=top 61
theorem fN:aD ["_law_modes","_law_on","_law_row","_law_shades","_law_marked","_law_at","_law_left","_law_rule","_law_many"] ["_law_modes","_law_on","_law_row"] (ay Cb):=by walk_at "sc"
abbrev Dp:Stmt:=top 62
theorem kO:aD ["_law_modes","_law_rows","_law_on","_law_found","_law_row","_law_gone_here"] ["_law_modes","_law_rows"] (ay Dp):=by walk_at "sc"
abbrev yz:Stmt:=top 63
theorem Cz:aD ["_law_text","_law_kept","_law_k"] ["_law_text","_law_kept"] (ay yz):=by walk_at "sc"
abbrev BE:Stmt:=top 64
theorem oF:aD ["_law_begun","_law_outer","_law_inner","_law_last"] [] (ay BE):=by walk_at "sc"
abbrev A9:Stmt:=top 65
theorem rP:aD ["_law_begun","_law_inner","_law_rows"] [] (ay A9):=by walk_at "sc"
abbrev zb:Stmt:=top 66
theorem cE:aD ["_law_script","_law_modes","_law_rules","_law_many","_law_rows","_law_text","_law_first_here","_law_second","_law_place","_law_third","_law_deep","_law_deeds","_law_way","_law_row","_law_at","_law_signs","_law_due","_law_count","_law_plain","_law_begun"] ["_law_script"] (ay zb):=by walk_at "sc"
set_option genInjectivity false in
structure fE where
 gK:Addr
 jc:Addr
 mW:Addr
 i7:Addr
 gr:Addr
 bT:Addr
 cJ:Addr
 aX:Addr
 bS:Addr
 cT:Addr
 bK:Addr
 cX:Addr
 cz:Addr
 bP:Addr
 cG:Addr
 aR:Addr
 aC:Addr
 aY:Addr
 qG:Addr
 zo:FuncData
 iu:Addr
 pF:FuncData
 l6:Addr
 tE:FuncData
 kC:Addr
 qx:FuncData
 kG:Addr
 qY:FuncData
 mC:Addr
 uD:FuncData
 kr:Addr
 rA:FuncData
 ko:Addr
 qp:FuncData
 lR:Addr
 vv:FuncData
 kE:Addr
 qA:FuncData
 ki:Addr
 qt:FuncData
 lV:Addr
 tN:FuncData
 ku:Addr
 qw:FuncData
 jT:Addr
 qB:FuncData
 rW:Addr
 zK:FuncData
 sq:Addr
 Ak:FuncData
 kc:Addr
 rB:FuncData
 j0:Addr
 rg:FuncData
 pT:Addr
 uz:FuncData
 lC:Addr
 vN:FuncData
 mh:Addr
 wM:FuncData
 lJ:Addr
 t7:FuncData
 pZ:Addr
 tW:FuncData
 nK:Addr
 vE:FuncData
 nM:Addr
 u7:FuncData
 nR:Addr
 v7:FuncData
 nY:Addr
 tQ:FuncData
 oH:Addr
 uQ:FuncData
 pe:Addr
 vC:FuncData
 oA:Addr
 wG:FuncData
 nP:Addr
 tD:FuncData
 pG:Addr
 wQ:FuncData
 oW:Addr
 vh:FuncData
 lY:Addr
 tL:FuncData
 lE:Addr
 sW:FuncData
 lG:Addr
 wL:FuncData
 mj:Addr
 sR:FuncData
 l7:Addr
 vY:FuncData
 lD:Addr
 vQ:FuncData
 mL:Addr
 sS:FuncData
 lN:Addr
 vB:FuncData
 lK:Addr
 vo:FuncData
 mE:Addr
 vR:FuncData
 lS:Addr
 tH:FuncData
 mG:Addr
 vz:FuncData
 lF:Addr
 uK:FuncData
 mJ:Addr
 wI:FuncData
 lZ:Addr
 uq:FuncData
 lW:Addr
 vZ:FuncData
 mK:Addr
 uL:FuncData
 pU:Addr
 vX:FuncData
 pL:Addr
 uv:FuncData
 wA:Addr
 Cm:FuncData
 tu:Addr
 Bd:FuncData
 sQ:Addr
 CD:FuncData
 uC:Addr
 D7:FuncData
 uy:Addr
 CC:FuncData
 vS:Addr
 Cs:FuncData
 vp:Addr
 BZ:FuncData
 tK:Addr
 CQ:FuncData
 pY:Addr
 tM:FuncData
 p9:Addr
 tG:FuncData
 n9:Addr
 uR:FuncData
 n5:Addr
 vV:FuncData
 nO:Addr
 wo:FuncData
 nT:Addr
 wJ:FuncData
 oU:Addr
 vU:FuncData
 pH:Addr
 v5:FuncData
 nG:Addr
 uu:FuncData
 nj:Addr
 tO:FuncData
 n6:Addr
 vg:FuncData
 qc:Addr
 vf:FuncData
 oM:Addr
 uN:FuncData
 o9:Addr
 v9:FuncData
 nQ:Addr
 sU:FuncData
 dJ:Addr
 gG:Addr
 iH:Addr
 gJ:Addr
structure Txt (K:W.Frag) (mg:Str -> Option Value) (t:fE):Prop where
 Eb:mg "TintError" = some (.ref t.gK)
 FA:mg "NoRules" = some (.ref t.jc)
 J2:mg "Rings" = some (.ref t.mW)
 F7:mg "NoPlace" = some (.ref t.i7)
 FT:mg "Pattern" = some (.ref t.gr)
 Dy:mg "Word" = some (.ref t.bT)
 EH:mg "One" = some (.ref t.cJ)
 vA:mg "Without" = some (.ref t.aX)
 AL:mg "Many" = some (.ref t.bS)
 Es:mg "Any" = some (.ref t.cT)
 Au:mg "Still" = some (.ref t.bK)
 Fl:mg "End" = some (.ref t.cX)
 tY:mg "Rule" = some (.ref t.cz)
 wK:mg "Mode" = some (.ref t.bP)
 qO:mg "Rules" = some (.ref t.cG)
 mz:mg "GoneRow" = some (.ref t.aR)
 xU:mg "Tinted" = some (.ref t.aC)
 xj:mg "Cursor" = some (.ref t.aY)
 FP:bI K "eaten" "Pattern.eaten" BX t.qG t.zo
 qb:bI K "eats" "Pattern.eats" Bv t.iu t.pF
 yM:bI K "__init__" "Word.__init__" DP t.l6 t.tE
 uZ:bI K "eaten" "Word.eaten" D0 t.kC t.qx
 ue:bI K "eats" "Word.eats" AQ t.kG t.qY
 yK:bI K "__init__" "One.__init__" CU t.mC t.uD
 vF:bI K "eaten" "One.eaten" A0 t.kr t.rA
 uS:bI K "eats" "One.eats" AO t.ko t.qp
 za:bI K "__init__" "Without.__init__" Cn t.lR t.vv
 vO:bI K "eaten" "Without.eaten" Dm t.kE t.qA
 uO:bI K "eats" "Without.eats" DF t.ki t.qt
 yF:bI K "__init__" "Many.__init__" AJ t.lV t.tN
 tP:bI K "eaten" "Many.eaten" CY t.ku t.qw
 vm:bI K "eats" "Many.eats" Cr t.jT t.qB
 BC:bI K "eaten" "Any.eaten" IK t.rW t.zK
 A8:bI K "eats" "Any.eats" Hu t.sq t.Ak
 uF:bI K "eaten" "Still.eaten" Cd t.kc t.rB
 uP:bI K "eaten" "End.eaten" Dr t.j0 t.rg
 wg:bI K "__init__" "Rule.__init__" B9 t.lC t.vN
 vj:bI K "__init__" "Mode.__init__" AH t.mh t.wM
 t6:bI K "__init__" "Rules.__init__" AA t.lJ t.t7
 vq:bI K "__init__" "GoneRow.__init__" A2 t.lY t.tL
 yQ:bI K "__init__" "Tinted.__init__" BV t.lE t.sW
 rq:bI K "rows" "Tinted.rows" yZ t.lG t.wL
 vP:bI K "begin" "Tinted.begin" Cp t.mj t.sR
 uY:bI K "colours" "Tinted.colours" Dh t.l7 t.vY
 ug:bI K "marks" "Tinted.marks" Bt t.lD t.vQ
 pK:bI K "change" "Tinted.change" CA t.mL t.sS
 tw:bI K "put" "Tinted.put" C0 t.lN t.vB
 vd:bI K "cut" "Tinted.cut" BG t.lK t.vo
 qy:bI K "go_over" "Tinted.go_over" Dj t.mE t.vR
 wH:bI K "go_on" "Tinted.go_on" AE t.lS t.tH
 oK:bI K "modes_ahead" "Tinted.modes_ahead" Bx t.mG t.vz
 oq:bI K "gone_row" "Tinted.gone_row" CS t.lF t.uK
 qZ:bI K "ask_row" "Tinted.ask_row" DH t.mJ t.wI
 oV:bI K "ask_place" "Tinted.ask_place" Dc t.lZ t.uq
 wk:bI K "ask_places" "Tinted.ask_places" CL t.lW t.vZ
 uf:bI K "ask_taken" "Tinted.ask_taken" AM t.mK t.uL
 Em:bI K "__init__" "Cursor.__init__" JC t.wA t.Cm
 uh:bI K "more" "Cursor.more" Iq t.tu t.Bd
 oB:bI K "peek" "Cursor.peek" GS t.sQ t.CD
 qh:bI K "ask" "Cursor.ask" IW t.uC t.D7
 xG:bI K "take" "Cursor.take" HN t.uy t.CC
 sY:bI K "take_choice" "Cursor.take_choice" Ik t.vS t.Cs
 wC:bI K "take_name" "Cursor.take_name" JH t.vp t.BZ
 Di:bI K "take_signs" "Cursor.take_signs" Hh t.tK t.CQ
 v8:bI K "is_name" "is_name" zx t.pT t.uz
 Gq:mg "is_name" = some (.ref t.pT)
 uw:bI K "copied_rules" "copied_rules" yR t.pZ t.tW
 GL:mg "copied_rules" = some (.ref t.pZ)
 tV:bI K "copied_mode" "copied_mode" zz t.nK t.vE
 Hv:mg "copied_mode" = some (.ref t.nK)
 uW:bI K "copied_rule" "copied_rule" CO t.nM t.u7
 Gx:mg "copied_rule" = some (.ref t.nM)
 pV:bI K "first_rule" "first_rule" Bm t.nR t.v7
 Dt:mg "first_rule" = some (.ref t.nR)
 oG:bI K "do_deed" "do_deed" Ds t.nY t.tQ
 AI:mg "do_deed" = some (.ref t.nY)
 wD:bI K "ask_rings" "ask_rings" Bb t.oH t.uQ
 Ib:mg "ask_rings" = some (.ref t.oH)
 pS:bI K "ring_of" "ring_of" zg t.pe t.vC
 C8:mg "ring_of" = some (.ref t.pe)
 uE:bI K "short_rows" "short_rows" D3 t.oA t.wG
 Jk:mg "short_rows" = some (.ref t.oA)
 pN:bI K "ring_from" "ring_from" BY t.nP t.tD
 DE:mg "ring_from" = some (.ref t.nP)
 pB:bI K "idle_rule" "idle_rule" Dg t.pG t.wQ
 DS:mg "idle_rule" = some (.ref t.pG)
 vI:bI K "gone_over" "gone_over" DC t.oW t.vh
 Jl:mg "gone_over" = some (.ref t.oW)
 nV:bI K "same_ahead" "same_ahead" DT t.pU t.vX
 Bj:mg "same_ahead" = some (.ref t.pU)
 vt:bI K "same_back" "same_back" Be t.pL t.uv
 Ii:mg "same_back" = some (.ref t.pL)
 uT:bI K "read_rules" "read_rules" Cv t.pY t.tM
 Hl:mg "read_rules" = some (.ref t.pY)
 uV:bI K "mode_numbers" "mode_numbers" AD t.p9 t.tG
 J1:mg "mode_numbers" = some (.ref t.p9)
 sO:bI K "read_mode" "read_mode" zw t.n9 t.uR
 Iu:mg "read_mode" = some (.ref t.n9)
 vG:bI K "read_rule" "read_rule" CZ t.n5 t.vV
 JW:mg "read_rule" = some (.ref t.n5)
 t8:bI K "read_pattern" "read_pattern" CN t.nO t.wo
 HW:mg "read_pattern" = some (.ref t.nO)
 uA:bI K "read_goal" "read_goal" Bq t.nT t.wJ
 Ir:mg "read_goal" = some (.ref t.nT)
 fB:bI K "_law_draw" "_law_draw" BI t.oU t.vU
 i0:mg "_law_draw" = some (.ref t.oU)
 pW:bI K "_law_eaten" "_law_eaten" DR t.pH t.v5
 Ce:mg "_law_eaten" = some (.ref t.pH)
 p6:bI K "_law_first" "_law_first" DN t.nG t.uu
 BA:mg "_law_first" = some (.ref t.nG)
 u6:bI K "_law_deed" "_law_deed" BB t.nj t.tO
 F8:mg "_law_deed" = some (.ref t.nj)
 vH:bI K "_law_gone" "_law_gone" Cb t.n6 t.vg
 Jj:mg "_law_gone" = some (.ref t.n6)
 nH:bI K "_law_whole" "_law_whole" Dp t.qc t.vf
 A1:mg "_law_whole" = some (.ref t.qc)
 pR:bI K "_law_shows" "_law_shows" yz t.oM t.uN
 AS:mg "_law_shows" = some (.ref t.oM)
 vJ:bI K "_law_nested" "_law_nested" BE t.o9 t.v9
 IA:mg "_law_nested" = some (.ref t.o9)
 vK:bI K "_law_nested_text" "_law_nested_text" A9 t.nQ t.sU
 I9:mg "_law_nested_text" = some (.ref t.nQ)
 m6:mO K t.bT
 rG:Mk K t.bT t.l6
 ez:bV K t.bT "wanted"
 Lr:Meth K t.bT "eaten" t.kC
 K0:Meth K t.bT "eats" t.kG
 yg:mO K t.cJ
 xT:Mk K t.cJ t.mC
 gH:bV K t.cJ "signs"
 J9:Meth K t.cJ "eaten" t.kr
 K3:Meth K t.cJ "eats" t.ko
 jx:mO K t.aX
 jL:Mk K t.aX t.lR
 eN:bV K t.aX "signs"
 Kw:Meth K t.aX "eaten" t.kE
 Le:Meth K t.aX "eats" t.ki
 sE:mO K t.bS
 rV:Mk K t.bS t.lV
 gg:bV K t.bS "signs"
 LG:Meth K t.bS "eaten" t.ku
 LB:Meth K t.bS "eats" t.jT
 Hs:mO K t.cT
 xF:LV K t.cT
 MI:Meth K t.cT "eaten" t.rW
 L6:Meth K t.cT "eats" t.sq
 DU:mO K t.bK
 oS:LV K t.bK
 K6:Meth K t.bK "eaten" t.kc
 rK:Meth K t.bK "eats" t.iu
 Gu:mO K t.cX
 xH:LV K t.cX
 Kg:Meth K t.cX "eaten" t.j0
 xV:Meth K t.cX "eats" t.iu
 cu:mO K t.cz
 nh:Mk K t.cz t.lC
 cM:bV K t.cz "pattern"
 eE:bV K t.cz "colour"
 di:bV K t.cz "deed"
 fc:bV K t.cz "goal"
 eW:bV K t.cz "fold"
 d7:mO K t.bP
 mV:Mk K t.bP t.mh
 e7:bV K t.bP "name"
 eF:bV K t.bP "colour"
 cU:bV K t.bP "rules"
 fS:mO K t.cG
 j8:Mk K t.cG t.lJ
 b8:bV K t.cG "modes"
 aP:mO K t.aY
 k7:Mk K t.aY t.wA
 gj:bV K t.aY "row"
 dN:bV K t.aY "words"
 dI:bV K t.aY "at"
 E3:Meth K t.aY "more" t.tu
 yc:Meth K t.aY "peek" t.sQ
 zS:Meth K t.aY "ask" t.uC
 Hw:Meth K t.aY "take" t.uy
 EI:Meth K t.aY "take_choice" t.vS
 EN:Meth K t.aY "take_name" t.vp
 Mc:Meth K t.aY "take_signs" t.tK
 bM:mO K t.aR
 iC:Mk K t.aR t.lY
 bU:bV K t.aR "signs"
 dc:bV K t.aR "before"
 eL:bV K t.aR "tints"
 c7:bV K t.aR "behind"
 dW:bV K t.aR "folded"
 aK:mO K t.aC
 kW:Mk K t.aC t.lE
 dP:bV K t.aC "rules"
 aL:bV K t.aC "gone_rows"
 FZ:Meth K t.aC "rows" t.lG
 KJ:Meth K t.aC "begin" t.mj
 LC:Meth K t.aC "colours" t.l7
 Lh:Meth K t.aC "marks" t.lD
 CF:Meth K t.aC "change" t.mL
 Lv:Meth K t.aC "put" t.lN
 Ll:Meth K t.aC "cut" t.lK
 FD:Meth K t.aC "go_over" t.mE
 Ko:Meth K t.aC "go_on" t.lS
 BH:Meth K t.aC "modes_ahead" t.mG
 Cj:Meth K t.aC "gone_row" t.lF
 FU:Meth K t.aC "ask_row" t.mJ
 Bh:Meth K t.aC "ask_place" t.lZ
 LD:Meth K t.aC "ask_places" t.lW
 Ku:Meth K t.aC "ask_taken" t.mK
 cg:W.specialIn K (.builtin "object.__class__") "__get__" = some (some (.builtin "getset_descriptor.__get__"))
 ct:W.takesIn K (.builtin "object.__class__") = some true
 rS:W.findIn K (.ref t.bT) "__class__" = some (some (.builtin "object.__class__"))
 se:W.mroIn K t.bT (.type "object") = some true
 xP:W.findIn K (.ref t.cJ) "__class__" = some (some (.builtin "object.__class__"))
 yb:W.mroIn K t.cJ (.type "object") = some true
 jO:W.findIn K (.ref t.aX) "__class__" = some (some (.builtin "object.__class__"))
 jG:W.mroIn K t.aX (.type "object") = some true
 rZ:W.findIn K (.ref t.bS) "__class__" = some (some (.builtin "object.__class__"))
 sD:W.mroIn K t.bS (.type "object") = some true
 ym:W.findIn K (.ref t.cT) "__class__" = some (some (.builtin "object.__class__"))
 ye:W.mroIn K t.cT (.type "object") = some true
 pP:W.findIn K (.ref t.bK) "__class__" = some (some (.builtin "object.__class__"))
 nB:W.mroIn K t.bK (.type "object") = some true
 xh:W.findIn K (.ref t.cX) "__class__" = some (some (.builtin "object.__class__"))
 wV:W.mroIn K t.cX (.type "object") = some true
 jn:W.kitOne K (.ref t.bT) (.ref t.bT) = some true
 lB:W.kitOne K (.ref t.cJ) (.ref t.cJ) = some true
 fZ:W.kitOne K (.ref t.aX) (.ref t.aX) = some true
 jo:W.kitOne K (.ref t.bS) (.ref t.bS) = some true
 mH:W.kitOne K (.ref t.cT) (.ref t.cT) = some true
 iK:W.kitOne K (.ref t.bK) (.ref t.bK) = some true
 mw:W.kitOne K (.ref t.cX) (.ref t.cX) = some true
 vM:∃ u,mg "LETTERS" = some u /\ RelV (.str "abcdefghijklmnopqrstuvwxyz") u
 kQ:∃ u,mg "LONGEST_NAME" = some u /\ RelV (.int 8) u
 i8:∃ u,mg "START" = some u /\ RelV (.int 0) u
 zH:∃ u,mg "SIGNS" = some u /\ RelV (.str " !\"#$&'()*+,-./0123456789:;<=>?@ABCDEFGHIJKLMNOPQRSTUVWXYZ[\\]^_`abcdefghijklmnopqrstuvwxyz{|}~") u
 nA:∃ u,mg "MOST_MODES" = some u /\ RelV (.int 12) u
 oR:∃ u,mg "MOST_RULES" = some u /\ RelV (.int 12) u
 sF:mg "PATTERNS" = some (.ref t.dJ)
 wm:∀ H,gh K H t.dJ [.str "word",.str "one",.str "none",.str "many",.str "any",.str "still",.str "end"]
 zD:mg "DEEDS" = some (.ref t.gG)
 B3:∀ H,gh K H t.gG [.str "stay",.str "push",.str "pop",.str "into"]
 zW:mg "GOING" = some (.ref t.iH)
 AX:∀ H,gh K H t.iH [.str "push",.str "into"]
 zZ:mg "FOLDS" = some (.ref t.gJ)
 Az:∀ H,gh K H t.gJ [.str "open",.str "close"]
 BS:mg "all" = none
 gM:mg "enumerate" = none
 nU:mg "int" = none
 bN:mg "len" = none
 gu:mg "list" = none
 jh:mg "range" = none
 iE:mg "reversed" = none
 yT:mg "tuple" = none
 DM:mg "zip" = none
theorem ls0:∀ {us:List Value},us.length = 0 -> us = []
 | [],_=>rfl
theorem ls1:∀ {us:List Value},us.length = 1 -> ∃ a0,us = [a0]
 | [a0],_=>⟨a0,rfl⟩
theorem FG:∀ {us:List Value},us.length = 2 -> ∃ a0 a1,us = [a0,a1]
 | [a0,a1],_=>⟨a0,a1,rfl⟩
theorem ls3:∀ {us:List Value},us.length = 3 -> ∃ a0 a1 a2,us = [a0,a1,a2]
 | [a0,a1,a2],_=>⟨a0,a1,a2,rfl⟩
theorem ls4:∀ {us:List Value},us.length = 4 -> ∃ a0 a1 a2 a3,us = [a0,a1,a2,a3]
 | [a0,a1,a2,a3],_=>⟨a0,a1,a2,a3,rfl⟩
theorem ls5:∀ {us:List Value},us.length = 5 -> ∃ a0 a1 a2 a3 a4,us = [a0,a1,a2,a3,a4]
 | [a0,a1,a2,a3,a4],_=>⟨a0,a1,a2,a3,a4,rfl⟩
theorem ls6:∀ {us:List Value},us.length = 6 -> ∃ a0 a1 a2 a3 a4 a5,us = [a0,a1,a2,a3,a4,a5]
 | [a0,a1,a2,a3,a4,a5],_=>⟨a0,a1,a2,a3,a4,a5,rfl⟩
section
variable {P:Program} {w:World} {K:W.Frag} {mg:Str -> Option Value} {base:Heap} {t:fE}
end
local macro_rules | `(tactic| walk_at "rd")=>`(tactic| simp only [Lc,Eo,tIf,F0,tB,J7,LK,Br,Cy,Fz,tC,L2.start,rI,FW,qo,KO,Lg,tOr,KL,KW,LA,tUn,rU,rEq,rNe,Mi,HG,Lo,Eg,IB,Lb,Cw,A7,FH,BN,FN,tBM,K7,LH,ipI,F6,LY,FJ,tSl,Ky,FQ,zf,rJoin,sZ,wU,CT,G5,jF,Option.join_some,Option.join_none,if_true,if_false,Bool.false_eq_true,List.map_cons,List.map_nil,List.length_cons,List.length_nil,List.replicate,List.cons_append,List.nil_append,List.append_nil,List.getElem?_cons_zero,List.getElem?_cons_succ,List.set_cons_zero,List.set_cons_succ,Option.some.injEq,exists_eq_left',exists_eq_left,V.int.injEq,V.str.injEq,V.ref.injEq,V.bl.injEq,List.cons.injEq,and_true,true_and,and_assoc,exists_and_left,exists_eq,exists_const])
local macro_rules | `(tactic| walk_at "ck")=>`(tactic| exact ⟨by decide +kernel,rfl,by decide +kernel,by decide +kernel,by decide +kernel,by decide +kernel,by decide +kernel⟩)
section
variable {P:Program} {w:World} {K:PySem.W.Frag} {mg:Str -> Option Value} {base:Heap} {t:fE}
def isName (z:Str):Bool:=decide (1 <= z.length) && decide (z.length <= 8) && z.cps.toList.all λc=>decide (c ∈ (Str.ofString "abcdefghijklmnopqrstuvwxyz").cps.toList)
def DZ:Sp:=λvs H Q _=>∃ z:Str,vs = [.str z] /\ z.length <= 100000 /\ ∀ H',ak H H' -> Q (.bl (isName z)) H'
theorem Gb (T:Txt K mg t):bC P w K mg base dh 1 t.pT t.uz ["word"] DZ:=by
 refine T.v8.ok Hj ?_ ?_
 walk_at "i"
 ·obtain ⟨z,rfl,hz,q⟩:=h
  refine aM (λσ' H'=>σ' = [some (.str z)] /\ H' = H /\ 1 <= z.length /\ z.length <= 8) (bB (PW.pt (g8 (aA fF (aQ bf (by rfl) T.bN (by decide +kernel) (aa (pv 0) ai)) az (aF _)) (gv (aA ia (aQ bf (by rfl) T.bN (by decide +kernel) (aa (pv 0) ai)) (fm rfl T.kQ) (aF _))))) av av) ?_ ?_
  ·walk_at "rd"
   refine ⟨bY (by omega),dG (λh=>?_) (λh=>?_)⟩
   ·refine au (aI iS) ?_
    have:=q H (ak.refl H)
    rw [isName,decide_eq_false (by omega)] at this
    exact this
   ·refine ⟨bY (by omega),dG (λh=>?_) (λh=>bg ⟨rfl,rfl,by omega,by omega⟩)⟩
    refine au (aI iS) ?_
    have:=q H (ak.refl H)
    rw [isName,decide_eq_false (p:=z.length <= 8) (by omega),Bool.and_false] at this
    exact this
  rintro σ' H' ⟨rfl,e,h1,h2⟩
  rw [e]
  clear e H'
  refine au (aI (aQ (Ae rfl) (by rfl) T.BS (by decide +kernel) (aa (iD (sc:=ay zx) (N:=["word"]) (x:="sign") (caps:=[]) (by walk_at "ck") (Jx (pv 0)) (λ_ _ _ _=>(fC gY (pv 0) (fm rfl T.vM) rfl))) ai))) ?_
  refine ⟨_,rfl,z,rfl,BO (λi ys H2=>H2 = H /\ ys = (z.cps.toList.take i).map λc=>V.bl (decide (c ∈ (Str.ofString "abcdefghijklmnopqrstuvwxyz").cps.toList))) ⟨rfl,rfl⟩ (fG (by omega)) ?_ ?_⟩
  ·rintro i c ys H2 hc hl ⟨rfl,rfl⟩
   have hi:i < z.length:=by
    have:=(List.getElem?_eq_some_iff.mp hc).1
    simpa [Str.length] using this
   refine ⟨_,rfl,_,_,rfl,rfl,?_⟩
   rw [PySem.StrLaws.found_one]
   refine fh hi hl ⟨rfl,?_⟩
   rw [List.take_succ,hc,List.map_append]
   rfl
  ·rintro ys H2 hl ⟨rfl,rfl⟩ D hD
   refine ⟨D,(z.cps.toList.map λc=>decide (c ∈ (Str.ofString "abcdefghijklmnopqrstuvwxyz").cps.toList)),rfl,bu.of (by rw [af,List.take_of_length_le (by simp [Str.length]),List.map_map];rfl),?_⟩
   have:=q _ (ak.upd (o:=.lst (((z.cps.toList.take z.length)).map λc=>V.bl (decide (c ∈ (Str.ofString "abcdefghijklmnopqrstuvwxyz").cps.toList)))) hD)
   rw [isName,decide_eq_true h1,decide_eq_true h2] at this
   rw [List.all_map]
   exact this
def cf (row:Int) (lw:Addr) (i:Nat):List (Str × V):=[("row",.int row),("words",.ref lw),("at",.int i)]
structure jP (t:fE) (H:Hp) (p dx lw:Addr) (row:Int) (ws:List Str) (i:Nat):Prop where
 ob:H p = some (.ins t.aY dx (cf row lw i))
 ls:H lw = some (.lst (ws.map V.str))
 sz:ws.length <= 1000 /\ ∀ w ∈ ws,w.length <= 100000
theorem jP.ne {H:Hp} {p dx lw:Addr} {row:Int} {ws:List Str} {i:Nat} (c:jP t H p dx lw row ws i):p ≠ lw:=cB c.ob c.ls (by intro z;cases z)
theorem jP.same {H H':Hp} {p dx lw:Addr} {row:Int} {ws:List Str} {i:Nat} (c:jP t H p dx lw row ws i) (s:ak H H'):jP t H' p dx lw row ws i:=⟨s _ _ c.ob,s _ _ c.ls,c.sz⟩
def pk (ws:List Str) (i:Nat):Str:=ws.getD i ""
theorem FE {ws:List Str} {i:Nat} (h:i < ws.length):pk ws i = ws[i]:=by simp [pk,h]
theorem F1 {ws:List Str} {i:Nat} (h:ws.length <= i):pk ws i = "" := by
 unfold pk
 rw [List.getD_eq_getElem?_getD,List.getElem?_eq_none h]
 rfl
theorem jP.pkl {H:Hp} {p dx lw:Addr} {row:Int} {ws:List Str} {i:Nat} (c:jP t H p dx lw row ws i):(pk ws i).length <= 100000:=by
 by_cases h:i < ws.length
 ·rw [FE h];exact c.sz.2 _ (List.getElem_mem h)
 ·rw [F1 (by omega)];decide
def Fg (t:fE):Sp:=λvs H Q _=>∃ (p dx:Addr) (row:Int) (text:Str),vs = [.ref p,.int row,.str text] /\ H p = some (.ins t.aY dx []) /\ text.length <= 100000 /\ (PySem.Txt.split text ⟨#[32]⟩).length <= 1000 /\
 ∀ lw H',H lw = none -> jP t H' p dx lw row (PySem.Txt.split text ⟨#[32]⟩) 0 -> gy H H' p -> Q .cK H'
theorem KY (T:Txt K mg t):bC P w K mg base dh 1 t.wA t.Cm ["self","row","text"] (Fg t):=by
 refine T.Em.ok Li ?_ ?_
 walk_at "i"
 ·obtain ⟨p,dx,row,text,rfl,hp,hz,hn,q⟩:=h
  refine aq (cI (pv 0) (pv 1) rfl) ⟨_,rfl,_,rfl,p,_,dx,[],rfl,hp,T.aP,T.gj,by decide,?_⟩
  refine aq (cI (pv 0) (e9 F.plainAttrs_str F.slot_str_split F.type_str_split kF (pv 2) (aa aG ai)) rfl) ?_
  refine ⟨_,rfl,rfl,_,_,rfl,rfl,by decide,bY (by omega),λlw hl=>⟨_,rfl,p,_,dx,[("row",.int row)],rfl,?_,T.aP,T.dN,by show 1 < 1000;decide,?_⟩⟩
  ·rw [ao (aj af hl)];exact af
  have npl:p ≠ lw:=aj af hl
  refine au (cI (pv 0) az rfl) ⟨_,rfl,p,_,dx,[("row",.int row),("words",.ref lw)],rfl,af,T.aP,T.dI,by show 2 < 1000;decide,?_⟩
  have hl0:H lw = none:=by rw [ao (Ne.symm npl)] at hl;exact hl
  refine q lw _ hl0 ⟨af,?_,hn,λw hw=>Nat.le_trans (PyProof.Rows.part_short hw) hz⟩ λb o hb nb=>?_
  ·rw [ao (Ne.symm npl),ao (Ne.symm npl),af];rfl
  ·rw [ao nb,ao nb,ao (aj hb hl0),ao nb];exact hb
def Hf (t:fE):Sp:=λvs H Q _=>∃ (p dx lw:Addr) (row:Int) (ws:List Str) (i:Nat),vs = [.ref p] /\ jP t H p dx lw row ws i /\ Q (.bl (decide (i < ws.length))) H
theorem zp (T:Txt K mg t):bC P w K mg base dh 1 t.tu t.Bd ["self"] (Hf t):=by
 refine T.uh.ok KA ?_ ?_
 walk_at "i"
 ·obtain ⟨p,dx,lw,row,ws,i,rfl,C,q⟩:=h
  refine au (aI (fC fF (aO (pv 0) rfl) (aQ aV (by rfl) T.bN (by decide +kernel) (aa (aO (pv 0) rfl) ai)) (aF _))) ?_
  simp only [HG,J7,LK,Br,Cy]
  refine EJ rfl C.ob T.aP T.dI rfl ?_
  refine EJ rfl C.ob T.aP T.dN rfl ?_
  refine ⟨_,_,rfl,.inl (bu.of C.ls),_,_,rfl,rfl,?_⟩
  rw [List.length_map]
  have e:decide ((i:Int) < (ws.length:Int)) = decide (i < ws.length):=by simp
  show Q (.bl (decide ((i:Int) < (ws.length:Int)))) H
  rw [e]
  exact q
def GK (t:fE):Sp:=λvs H Q _=>∃ (p dx lw:Addr) (row:Int) (ws:List Str) (i:Nat),vs = [.ref p] /\ jP t H p dx lw row ws i /\ Q (.str (pk ws i)) H
theorem ou (T:Txt K mg t):bC P w K mg base dh 2 t.sQ t.CD ["self"] (GK t):=by
 refine T.oB.ok LF ?_ ?_
 walk_at "i"
 ·obtain ⟨p,dx,lw,row,ws,i,rfl,C,q⟩:=h
  refine au (aI (cP (iI (b7 (pv 0) T.aP T.E3 (zp T) (hr.mono (by decide)) (T.uh.binds (by walk_at "1")) .nil aH)) (aS aW (aO (pv 0) rfl) (aO (pv 0) rfl) (λ_ _=>rfl)) aG)) ?_
  refine ⟨_,rfl,p,dx,_,rfl,C.ob,rfl,p,dx,lw,row,ws,i,rfl,C,_,rfl,dG (λh=>?_) (λh=>?_)⟩
  ·refine EJ rfl C.ob T.aP T.dN rfl ?_
   refine EJ rfl C.ob T.aP T.dI rfl ?_
   refine ⟨_,_,_,.str (pk ws i),rfl,rfl,bu.of C.ls,bq ?_,q⟩
   rw [List.getElem?_map,List.getElem?_eq_getElem h,FE h]
   rfl
  ·rw [F1 (by omega)] at q
   exact q
def KR:Sp:=λvs H Q _=>∃ p:V,vs = [p,.bl true] /\ Q .cK H
theorem qN (T:Txt K mg t):bC P w K mg base dh 1 t.uC t.D7 ["self","good"] KR:=by
 refine T.qh.ok Kv ?_ ?_
 walk_at "i"
 ·obtain ⟨p,rfl,q⟩:=h
  refine au (bB (jI (iI (pv 1))) av av) ⟨_,rfl,true,rfl,rR (bg q)⟩
def HQ (t:fE):Sp:=λvs H Q _=>∃ (p dx lw:Addr) (row:Int) (ws:List Str) (i:Nat),vs = [.ref p,.bl true] /\ jP t H p dx lw row ws i /\ ∀ H',jP t H' p dx lw row ws (i + 1) -> gy H H' p -> Q (.str (pk ws i)) H'
theorem Bp (T:Txt K mg t):bC P w K mg base dh 3 t.uy t.CC ["self","good"] (HQ t):=by
 refine T.xG.ok FL ?_ ?_
 walk_at "i"
 ·obtain ⟨p,dx,lw,row,ws,i,rfl,C,q⟩:=h
  refine aq (bH (br (pv 0) T.aP T.zS (qN T) (hr.mono (by decide)) (T.qh.binds (by walk_at "2")) .nil aH (aa (pv 1) ai))) ⟨_,rfl,p,dx,_,rfl,C.ob,rfl,_,rfl,_,rfl,?_⟩
  refine aq (aE (i:=2) FL.nd rfl (Or.inl rfl) (b7 (pv 0) T.aP T.yc (ou T) (hr.mono (by decide)) (T.oB.binds (by walk_at "1")) .nil aH)) ⟨_,rfl,p,dx,_,rfl,C.ob,rfl,p,dx,lw,row,ws,i,rfl,C,?_⟩
  refine aq (z9 (pv 0) az GO) ⟨_,rfl,p,_,dx,_,_,rfl,C.ob,T.aP,T.dI,rfl,?_⟩
  refine ⟨_,_,rfl,rfl,dx,_,C.ob,by show 3 < 1000;decide,?_⟩
  refine au (aI (pv 2)) ⟨_,rfl,?_⟩
  have C':jP t (upd H p (.ins t.aY dx (cf row lw (i + 1)))) p dx lw row ws (i + 1):=⟨af,by rw [ao (Ne.symm C.ne)];exact C.ls,C.sz⟩
  exact q _ C' gy.upd
def A6 (K:PySem.W.Frag) (t:fE):Sp:=λvs H Q _=>∃ (p dx lw c:Addr) (cs:List Str) (row:Int) (ws:List Str) (i:Nat),vs = [.ref p,.ref c] /\ jP t H p dx lw row ws i /\ gh K H c (cs.map V.str) /\ pk ws i ∈ cs /\ ∀ H',jP t H' p dx lw row ws (i + 1) -> gy H H' p -> Q (.str (pk ws i)) H'
theorem pJ {x:Str} {cs:List Str}:LS (.str x) (cs.map V.str) = decide (x ∈ cs):=by
 unfold LS
 rw [List.any_map,Bool.eq_iff_iff,List.any_eq_true,decide_eq_true_eq]
 constructor
 ·rintro ⟨y,hy,e⟩
  have:(y == x) = true:=e
  rw [← eq_of_beq this];exact hy
 ·intro h
  exact ⟨x,h,by show (x == x) = true;simp⟩
theorem q8 {cs:List Str}:(cs.map V.str).all gw = true:=by
 rw [List.all_map,List.all_eq_true]
 intro _ _
 rfl
theorem yV (T:Txt K mg t):bC P w K mg base dh 4 t.vS t.Cs ["self","words"] (A6 K t):=by
 refine T.sY.ok Ls ?_ ?_
 walk_at "i"
 ·obtain ⟨p,dx,lw,c,cs,row,ws,i,rfl,C,hc,hin,q⟩:=h
  refine au (aI (br (pv 0) T.aP T.Hw (Bp T) (hr.mono (by decide)) (T.xG.binds (by walk_at "2")) .nil aH (aa (fC qH (b7 (pv 0) T.aP T.yc (ou T) (hr.mono (by decide)) (T.oB.binds (by walk_at "1")) .nil aH) (pv 1) rfl) ai))) ?_
  refine ⟨_,rfl,p,dx,_,rfl,C.ob,rfl,?_⟩
  refine ⟨_,rfl,p,dx,_,rfl,C.ob,rfl,p,dx,lw,row,ws,i,rfl,C,_,rfl,_,_,rfl,.inr hc,rfl,q8,?_⟩
  rw [pJ,decide_eq_true hin]
  exact ⟨p,dx,lw,row,ws,i,rfl,C,q⟩
def GG (t:fE):Sp:=λvs H Q _=>∃ (p dx lw:Addr) (row:Int) (ws:List Str) (i:Nat),vs = [.ref p] /\ jP t H p dx lw row ws i /\ isName (pk ws i) = true /\ ∀ H',jP t H' p dx lw row ws (i + 1) -> gy H H' p -> Q (.str (pk ws i)) H'
theorem yw (T:Txt K mg t):bC P w K mg base dh 4 t.vp t.BZ ["self"] (GG t):=by
 refine T.wC.ok Lk ?_ ?_
 walk_at "i"
 ·obtain ⟨p,dx,lw,row,ws,i,rfl,C,hin,q⟩:=h
  refine au (aI (br (pv 0) T.aP T.Hw (Bp T) (hr.mono (by decide)) (T.xG.binds (by walk_at "2")) .nil aH (aa (aZ (Gb T) (hr.mono (by decide)) rfl T.Gq T.v8.kp (T.v8.binds (by walk_at "1")) .nil aH (aa (b7 (pv 0) T.aP T.yc (ou T) (hr.mono (by decide)) (T.oB.binds (by walk_at "1")) .nil aH) ai)) ai))) ?_
  refine ⟨_,rfl,p,dx,_,rfl,C.ob,rfl,?_⟩
  refine ⟨_,rfl,p,dx,_,rfl,C.ob,rfl,p,dx,lw,row,ws,i,rfl,C,pk ws i,rfl,C.pkl,λH1 s1=>?_⟩
  rw [hin]
  exact ⟨p,dx,lw,row,ws,i,rfl,C.same s1,λH2 C2 a2=>q H2 C2 (s1.Fw a2)⟩
def gQ (z:Str):Str:="'" ++ PySem.Txt.replace z " " "_"
theorem fK (z:Str):(gQ z).cps.toList = 39 :: jm 32 95 z.cps.toList:=by
 unfold gQ
 rw [f7,show ((" " : Str)) = ⟨#[32]⟩ from by decide +kernel,show (("_" : Str)) = ⟨#[95]⟩ from by decide +kernel,mq]
 rfl
def Ff (t:fE):Sp:=λvs H Q _=>∃ (p dx lw:Addr) (row:Int) (ws:List Str) (i:Nat) (z:Str),vs = [.ref p] /\ jP t H p dx lw row ws i /\ pk ws i = gQ z /\ 1 <= z.length /\ z.length <= 1000 /\ 95 ∉ z.cps.toList /\ ∀ H',jP t H' p dx lw row ws (i + 1) -> gy H H' p -> Q (.str z) H'
theorem Ji {w:Str} (h:1 <= w.length):(PySem.Txt.slice w (some 1) none).cps.toList = w.cps.toList.drop 1:=by
 rw [PyProof.Rows.slice_from_eq (b:=(w.length:Int)) (by decide) (by omega) rfl]
 show (w.cps.toList.drop 1).take _ = _
 refine List.take_of_length_le ?_
 rw [List.length_drop,Array.length_toList]
 show w.length - 1 <= _
 omega
theorem KZ (T:Txt K mg t):bC P w K mg base dh 4 t.tK t.CQ ["self"] (Ff t):=by
 refine T.Di.ok F3 ?_ ?_
 walk_at "i"
 ·obtain ⟨p,dx,lw,row,ws,i,z,rfl,C,hw,hz1,hz2,hz3,q⟩:=h
  have hlen:(gQ z).length = z.length + 1:=by
   have:=congrArg List.length (fK z)
   simpa [Str.length,jm] using this
  refine aq (aE (i:=1) F3.nd rfl (Or.inl rfl) (b7 (pv 0) T.aP T.yc (ou T) (hr.mono (by decide)) (T.oB.binds (by walk_at "1")) .nil aH)) ⟨_,rfl,p,dx,_,rfl,C.ob,rfl,p,dx,lw,row,ws,i,rfl,C,?_⟩
  rw [hw]
  refine aq (bH (br (pv 0) T.aP T.Hw (Bp T) (hr.mono (by decide)) (T.xG.binds (by walk_at "2")) .nil aH (aa (GQ (fC ia (aQ bf (by rfl) T.bN (by decide +kernel) (aa (pv 1) ai)) az (aF _)) (J0 (e9 F.plainAttrs_str F.slot_str_startswith F.type_str_startswith nX (pv 1) (aa aG ai)))) ai))) ?_
  refine ⟨_,rfl,p,dx,_,rfl,C.ob,rfl,?_⟩
  refine ⟨_,rfl,_,rfl,bY (by omega),_,_,rfl,rfl,_,rfl,?_⟩
  rw [decide_eq_true (by omega),if_pos rfl]
  refine ⟨_,rfl,rfl,_,_,rfl,rfl,?_⟩
  have hst:(decide (0 + ("'" : Str).length <= (gQ z).length) && Builtin.Str.subAt (gQ z) "'" 0) = true:=by
   have e1:("'" : Str).length = 1:=by decide +kernel
   rw [Bool.and_eq_true,decide_eq_true_eq,e1]
   refine ⟨by omega,?_⟩
   unfold Builtin.Str.subAt
   rw [beq_iff_eq,← Array.toList_inj,e1]
   have e2:=fK z
   simp only [Array.toList_extract,List.extract_eq_take_drop,e2]
   rfl
  rw [hst]
  refine ⟨p,dx,lw,row,ws,i,rfl,C,λH1 C1 a1=>?_⟩
  refine au (aI (xC (by decide +kernel) (pv 1))) ⟨_,rfl,_,rfl,bY (by omega),_,rfl,?_,?_⟩
  ·have h1:(PySem.Txt.slice (gQ z) (some 1) none).length <= 1001:=Nat.le_trans (PySem.Txt.slice_le _ _ _) (by omega)
   have h2:(" " : Str).length = 1:=by decide +kernel
   rw [h2]
   omega
  ·have e:PySem.Txt.replace (PySem.Txt.slice (gQ z) (some 1) none) "_" " " = z:=by
    refine m9 ?_
    rw [show ((" " : Str)) = ⟨#[32]⟩ from by decide +kernel,show (("_" : Str)) = ⟨#[95]⟩ from by decide +kernel,mq,Ji (by omega),fK]
    exact Av hz3
   rw [e]
   exact q H1 C1 a1
end
local macro_rules | `(tactic| walk_at "u")=>`(tactic| first | rfl | decide | exact Or.inl rfl | exact Or.inr rfl | exact Or.inr (Or.inl rfl) | exact Or.inr (Or.inr rfl) | assumption | (intro _;rfl) | exact uH _ (by decide) (by decide))
section
variable {P:Program} {w:World} {K:PySem.W.Frag} {mg:Str -> Option Value} {base:Heap} {t:fE}
def gi (sg:List Nat):List Nat -> Nat
 | []=>0
 | c :: r=>if c ∈ sg then 1 + gi sg r else 0
def fj (sort signs row:Str) (i:Nat):V :=
 if sort = "end" then (if i = row.length then .int 0 else .cK)
 else if sort = "word" then (if (row.cps.toList.drop i).take signs.length = signs.cps.toList then .int signs.length else .cK)
 else match row.cps.toList[i]? with
  | none=>.cK
  | some c =>
   if sort = "any" ∨ sort = "still" then .int (if sort = "any" then 1 else 0)
   else if sort = "none" then (if c ∈ signs.cps.toList then .cK else .int 1)
   else if c ∈ signs.cps.toList then .int (if sort = "many" then 1 + gi signs.cps.toList (row.cps.toList.drop (i + 1)) else 1) else .cK
theorem getL {row:Str} {i:Nat}:row.cps.toList.length = row.length:=by simp [Str.length]
theorem strAt {row:Str} {i:Int} (h0:0 <= i) (h1:i < row.length):∃ c,row.cps.toList[i.toNat]? = some c /\ we row.cps.toList i = some c:=DG _ h0 (by rw [getL (i:=0)];exact h1)
def lP (C:Addr) (fl:Str -> List (Str × V)) (sort:Str):Sp:=λvs H Q _=>∃ (p dx:Addr) (signs row:Str) (i:Nat),vs = [.ref p,.str row,.int i] /\ H p = some (.ins C dx (fl signs)) /\ signs.length <= 1000 /\ row.length <= 1000 /\ i <= row.length /\ Q (fj sort signs row i) H
def jK (b:Bool):Sp:=λvs H Q _=>∃ p:V,vs = [p] /\ Q (.bl b) H
def rE (C:Addr) (f:Str):Sp:=λvs H Q _=>∃ (p dx:Addr) (z:Str),vs = [.ref p,.str z] /\ H p = some (.ins C dx []) /\ Q .cK (upd H p (.ins C dx [(f,.str z)]))
theorem JL (T:Txt K mg t):bC P w K mg base dh 1 t.l6 t.tE ["self","text"] (rE t.bT "wanted"):=by
 refine T.yM.ok Jm ?_ ?_
 walk_at "i"
 ·obtain ⟨p,dx,z,rfl,hp,q⟩:=h
  refine @au _ _ _ _ _ _ (cI (pv 0) (pv 1) rfl) ?_
  exact ⟨_,rfl,_,rfl,p,_,dx,[],rfl,hp,T.m6,T.ez,by decide,q⟩
theorem JP (T:Txt K mg t):bC P w K mg base dh 1 t.mC t.uD ["self","signs"] (rE t.cJ "signs"):=by
 refine T.yK.ok IQ ?_ ?_
 walk_at "i"
 ·obtain ⟨p,dx,z,rfl,hp,q⟩:=h
  refine @au _ _ _ _ _ _ (cI (pv 0) (pv 1) rfl) ?_
  exact ⟨_,rfl,_,rfl,p,_,dx,[],rfl,hp,T.yg,T.gH,by decide,q⟩
theorem Ie (T:Txt K mg t):bC P w K mg base dh 1 t.lR t.vv ["self","signs"] (rE t.aX "signs"):=by
 refine T.za.ok Jy ?_ ?_
 walk_at "i"
 ·obtain ⟨p,dx,z,rfl,hp,q⟩:=h
  refine @au _ _ _ _ _ _ (cI (pv 0) (pv 1) rfl) ?_
  exact ⟨_,rfl,_,rfl,p,_,dx,[],rfl,hp,T.jx,T.eN,by decide,q⟩
theorem GR (T:Txt K mg t):bC P w K mg base dh 1 t.lV t.tN ["self","signs"] (rE t.bS "signs"):=by
 refine T.yF.ok Jh ?_ ?_
 walk_at "i"
 ·obtain ⟨p,dx,z,rfl,hp,q⟩:=h
  refine @au _ _ _ _ _ _ (cI (pv 0) (pv 1) rfl) ?_
  exact ⟨_,rfl,_,rfl,p,_,dx,[],rfl,hp,T.sE,T.gg,by decide,q⟩
theorem A3 (T:Txt K mg t):bC P w K mg base dh 1 t.iu t.pF ["self"] (jK false):=by
 refine T.qb.ok JO ?_ ?_
 walk_at "i"
 ·obtain ⟨p,rfl,q⟩:=h
  exact @au _ _ _ _ _ _ (aI iS) q
theorem HY (T:Txt K mg t):bC P w K mg base dh 1 t.kG t.qY ["self"] (jK true):=by
 refine T.ue.ok Jt ?_ ?_
 walk_at "i"
 ·obtain ⟨p,rfl,q⟩:=h
  exact @au _ _ _ _ _ _ (aI iS) q
theorem JD (T:Txt K mg t):bC P w K mg base dh 1 t.ko t.qp ["self"] (jK true):=by
 refine T.uS.ok Hq ?_ ?_
 walk_at "i"
 ·obtain ⟨p,rfl,q⟩:=h
  exact @au _ _ _ _ _ _ (aI iS) q
theorem GA (T:Txt K mg t):bC P w K mg base dh 1 t.ki t.qt ["self"] (jK true):=by
 refine T.uO.ok Iw ?_ ?_
 walk_at "i"
 ·obtain ⟨p,rfl,q⟩:=h
  exact @au _ _ _ _ _ _ (aI iS) q
theorem Gg (T:Txt K mg t):bC P w K mg base dh 1 t.jT t.qB ["self"] (jK true):=by
 refine T.vm.ok Gk ?_ ?_
 walk_at "i"
 ·obtain ⟨p,rfl,q⟩:=h
  exact @au _ _ _ _ _ _ (aI iS) q
theorem Km (T:Txt K mg t):bC P w K mg base dh 1 t.sq t.Ak ["self"] (jK true):=by
 refine T.A8.ok Kh ?_ ?_
 walk_at "i"
 ·obtain ⟨p,rfl,q⟩:=h
  exact @au _ _ _ _ _ _ (aI iS) q
theorem zR {row sg:Str} {i:Nat} (hi:i <= row.length):(decide (fromIndex row.length (i:Int) + sg.length <= row.length) && Builtin.Str.subAt row sg (fromIndex row.length (i:Int))) = decide ((row.cps.toList.drop i).take sg.length = sg.cps.toList):=by
 have e:fromIndex row.length (i:Int) = i:=by unfold fromIndex;rw [if_neg (by omega)];omega
 rw [e]
 have e2:Builtin.Str.subAt row sg i = decide ((row.cps.toList.drop i).take sg.length = sg.cps.toList):=by
  unfold Builtin.Str.subAt
  rw [Bool.eq_iff_iff,beq_iff_eq,decide_eq_true_eq]
  rw [← Array.toList_inj]
  simp [Array.toList_extract,List.extract_eq_take_drop]
 rw [e2,Bool.eq_iff_iff,Bool.and_eq_true,decide_eq_true_eq,decide_eq_true_eq]
 refine ⟨λz=>z.2,λz=>⟨?_,z⟩⟩
 have:=congrArg List.length z
 rw [List.length_take,List.length_drop,getL (i:=0),getL (i:=0)] at this
 omega
theorem Ho (T:Txt K mg t):bC P w K mg base dh 1 t.kC t.qx ["self","row","at"] (lP t.bT (λz=>[("wanted",.str z)]) "word"):=by
 refine T.uZ.ok IT ?_ ?_
 walk_at "i"
 ·obtain ⟨p,dx,sg,row,i,rfl,hp,hs,hw,hi,q⟩:=h
  refine @au _ _ _ _ _ _ (aI (cP (iI (e9 F.plainAttrs_str F.slot_str_startswith F.type_str_startswith yd (pv 1) (aa (aO (pv 0) rfl) (aa (pv 2) ai)))) (aQ bf (by rfl) T.bN (by decide +kernel) (aa (aO (pv 0) rfl) ai)) bJ)) ?_
  rw [fj,if_neg (by decide),if_pos rfl] at q
  refine ⟨_,rfl,rfl,_,rfl,p,_,dx,_,_,rfl,hp,T.m6,T.ez,rfl,_,rfl,_,_,_,rfl,rfl,_,rfl,?_⟩
  rw [zR hi]
  refine dG (λh=>?_) (λh=>?_)
  ·rw [if_pos h] at q
   exact ⟨_,rfl,p,_,dx,_,_,rfl,hp,T.m6,T.ez,rfl,_,rfl,bY (by omega),q⟩
  ·rw [if_neg h] at q
   exact q
theorem gE {sort sg row:Str} {i c:Nat} (h1:sort ≠ "end") (h2:sort ≠ "word") (e:row.cps.toList[i]? = some c):fj sort sg row i = if sort = "any" ∨ sort = "still" then .int (if sort = "any" then 1 else 0)
   else if sort = "none" then (if c ∈ sg.cps.toList then .cK else .int 1)
   else if c ∈ sg.cps.toList then .int (if sort = "many" then 1 + gi sg.cps.toList (row.cps.toList.drop (i + 1)) else 1) else .cK:=by
 rw [fj,if_neg h1,if_neg h2,e]
theorem ir {sort sg row:Str} {i:Nat} (h1:sort ≠ "end") (h2:sort ≠ "word") (h:row.length <= i):fj sort sg row i = .cK:=by
 rw [fj,if_neg h1,if_neg h2,List.getElem?_eq_none (by rw [getL (i:=0)];exact h)]
theorem GI (T:Txt K mg t):bC P w K mg base dh 1 t.kr t.rA ["self","row","at"] (lP t.cJ (λz=>[("signs",.str z)]) "one"):=by
 refine T.vF.ok IP ?_ ?_
 walk_at "i"
 ·obtain ⟨p,dx,sg,row,i,rfl,hp,hs,hw,hi,q⟩:=h
  refine @au _ _ _ _ _ _ (aI (cP (PW.pt (fD (aA fF (pv 2) (aQ bf (by rfl) T.bN (by decide +kernel) (aa (pv 1) ai)) (aF _)) (eO (aA gY (aS k8 (pv 1) (pv 2) (λ_ _=>rfl)) (aO (pv 0) rfl) rfl)))) az bJ)) ?_
  walk_at "rd"
  refine ⟨bY (by omega),dG (λh=>?_) (λh=>?_)⟩
  ·obtain ⟨c,e1,e2⟩:=strAt (row:=row) (i:=(i:Int)) (by omega) h
   rw [Int.toNat_natCast] at e1
   refine ⟨bY (by omega),c,e2,⟨_,rfl,_,_,_,_,_,rfl,hp,T.yg,T.gH,rfl,⟨sg,rfl,?_⟩⟩⟩
   rw [PySem.StrLaws.found_one]
   rw [gE (by decide) (by decide) e1,if_neg (by decide),if_neg (by decide)] at q
   refine dG (λh=>?_) (λh=>?_)
   ·rw [if_pos h,if_neg (by decide)] at q
    exact q
   ·rw [if_neg h] at q
    exact q
  ·rw [ir (by decide) (by decide) (by omega)] at q
   exact q
theorem HF (T:Txt K mg t):bC P w K mg base dh 1 t.kE t.qA ["self","row","at"] (lP t.aX (λz=>[("signs",.str z)]) "none"):=by
 refine T.vO.ok Jd ?_ ?_
 walk_at "i"
 ·obtain ⟨p,dx,sg,row,i,rfl,hp,hs,hw,hi,q⟩:=h
  refine @au _ _ _ _ _ _ (aI (cP (PW.pt (fD (aA fF (pv 2) (aQ bf (by rfl) T.bN (by decide +kernel) (aa (pv 1) ai)) (aF _)) (eO (aA sr (aS k8 (pv 1) (pv 2) (λ_ _=>rfl)) (aO (pv 0) rfl) rfl)))) az bJ)) ?_
  walk_at "rd"
  refine ⟨bY (by omega),dG (λh=>?_) (λh=>?_)⟩
  ·obtain ⟨c,e1,e2⟩:=strAt (row:=row) (i:=(i:Int)) (by omega) h
   rw [Int.toNat_natCast] at e1
   refine ⟨bY (by omega),c,e2,⟨_,rfl,_,_,_,_,_,rfl,hp,T.jx,T.eN,rfl,⟨sg,rfl,?_⟩⟩⟩
   rw [PySem.StrLaws.found_one]
   rw [gE (by decide) (by decide) e1,if_neg (by decide),if_pos rfl] at q
   refine g6 (λh=>?_) (λh=>?_)
   ·rw [if_neg h] at q
    exact q
   ·rw [if_pos h] at q
    exact q
  ·rw [ir (by decide) (by decide) (by omega)] at q
   exact q
theorem K4 (T:Txt K mg t):bC P w K mg base dh 1 t.rW t.zK ["self","row","at"] (lP t.cT (λz=>[]) "any"):=by
 refine T.BC.ok KN ?_ ?_
 walk_at "i"
 ·obtain ⟨p,dx,sg,row,i,rfl,hp,hs,hw,hi,q⟩:=h
  refine @au _ _ _ _ _ _ (aI (cP (aA fF (pv 2) (aQ bf (by rfl) T.bN (by decide +kernel) (aa (pv 1) ai)) (aF _)) az bJ)) ?_
  walk_at "rd"
  refine ⟨bY (by omega),dG (λh=>?_) (λh=>?_)⟩
  ·obtain ⟨c,e1,e2⟩:=strAt (row:=row) (i:=(i:Int)) (by omega) h
   rw [Int.toNat_natCast] at e1
   rw [gE (by decide) (by decide) e1,if_pos (by decide),if_pos rfl] at q
   exact q
  ·rw [ir (by decide) (by decide) (by omega)] at q
   exact q
theorem JZ (T:Txt K mg t):bC P w K mg base dh 1 t.kc t.rB ["self","row","at"] (lP t.bK (λz=>[]) "still"):=by
 refine T.uF.ok JS ?_ ?_
 walk_at "i"
 ·obtain ⟨p,dx,sg,row,i,rfl,hp,hs,hw,hi,q⟩:=h
  refine @au _ _ _ _ _ _ (aI (cP (aA fF (pv 2) (aQ bf (by rfl) T.bN (by decide +kernel) (aa (pv 1) ai)) (aF _)) az bJ)) ?_
  walk_at "rd"
  refine ⟨bY (by omega),dG (λh=>?_) (λh=>?_)⟩
  ·obtain ⟨c,e1,e2⟩:=strAt (row:=row) (i:=(i:Int)) (by omega) h
   rw [Int.toNat_natCast] at e1
   rw [gE (by decide) (by decide) e1,if_pos (by decide),if_neg (by decide)] at q
   exact q
  ·rw [ir (by decide) (by decide) (by omega)] at q
   exact q
theorem JK (T:Txt K mg t):bC P w K mg base dh 1 t.j0 t.rg ["self","row","at"] (lP t.cX (λz=>[]) "end"):=by
 refine T.uP.ok IM ?_ ?_
 walk_at "i"
 ·obtain ⟨p,dx,sg,row,i,rfl,hp,hs,hw,hi,q⟩:=h
  refine @au _ _ _ _ _ _ (aI (cP (aA cA (pv 2) (aQ bf (by rfl) T.bN (by decide +kernel) (aa (pv 1) ai)) (aF _)) az bJ)) ?_
  walk_at "rd"
  rw [fj,if_pos rfl] at q
  refine ⟨bY (by omega),rfl,dG (λh=>?_) (λh=>?_)⟩
  ·rw [if_pos (by omega)] at q
   exact q
  ·rw [if_neg (by omega)] at q
   exact q
theorem iZ {sg l:List Nat} {j c:Nat} (e:l[j]? = some c):gi sg (l.drop j) = if c ∈ sg then 1 + gi sg (l.drop (j + 1)) else 0:=by
 have hdrop:l.drop j = c :: l.drop (j + 1):=by
  rw [List.drop_eq_getElem?_toList_append,e];rfl
 rw [hdrop,gi]
theorem Ju (T:Txt K mg t):bC P w K mg base dh 1 t.ku t.qw ["self","row","at"] (lP t.bS (λz=>[("signs",.str z)]) "many"):=by
 refine T.tP.ok xg ?_ ?_
 walk_at "i"
 ·obtain ⟨p,dx,sg,row,i,rfl,hp,hs,hw,hi,q⟩:=h
  have q':Q (if 0 < gi sg.cps.toList (row.cps.toList.drop i) then .int (gi sg.cps.toList (row.cps.toList.drop i)) else .cK) H:=by
   by_cases h:i < row.length
   ·obtain ⟨c,e1,e2⟩:=strAt (row:=row) (i:=(i:Int)) (by omega) (by omega)
    rw [Int.toNat_natCast] at e1
    rw [gE (by decide) (by decide) e1,if_neg (by decide),if_neg (by decide),if_pos rfl] at q
    rw [iZ e1]
    by_cases h2:c ∈ sg.cps.toList
    ·rw [if_pos h2] at q ⊢
     rw [if_pos (by omega)]
     exact q
    ·rw [if_neg h2] at q ⊢
     exact q
   ·rw [ir (by decide) (by decide) (by omega)] at q
    have:row.cps.toList.drop i = []:=List.drop_eq_nil_of_le (by rw [getL (i:=0)];omega)
    rw [this]
    exact q
  refine @aq _ _ _ _ _ _ _ (aE (i:=3) xg.nd rfl (Or.inl rfl) (pv 2)) ?_
  walk_at "rd"
  refine aM (λσ' H'=>H' = H /\ σ' = [some (.ref p),some (.str row),some (.int i),some (.int ((i:Int) + gi sg.cps.toList (row.cps.toList.drop i)))]) (g9 PassesOwn.never (PW.pt (fD (aA fF (pv 3) (aQ bf (by rfl) T.bN (by decide +kernel) (aa (pv 1) ai)) (aF _)) (eO (aA gY (aS k8 (pv 1) (pv 3) (λ_ _=>rfl)) (aO (pv 0) rfl) rfl)))) av) ?_ ?_
  ·refine ⟨λm σ' H'=>∃ j:Nat,σ' = [some (.ref p),some (.str row),some (.int i),some (.int (j:Int))] /\ H' = H /\ j <= row.length /\ m = row.length - j /\ i + gi sg.cps.toList (row.cps.toList.drop i) = j + gi sg.cps.toList (row.cps.toList.drop j),⟨_,i,rfl,rfl,hi,rfl,rfl⟩,?_⟩
   rintro m σ' H' ⟨j,rfl,e,hj,rfl,hr⟩
   rw [e]
   clear e H'
   walk_at "rd"
   refine ⟨bY (by omega),dG (λh=>?_) (λh=>?_)⟩
   ·obtain ⟨c,e1,e2⟩:=strAt (row:=row) (i:=(j:Int)) (by omega) h
    rw [Int.toNat_natCast] at e1
    rw [iZ (j:=j) e1] at hr
    refine ⟨bY (by omega),c,e2,⟨_,rfl,_,_,_,_,_,rfl,hp,T.sE,T.gg,rfl,⟨sg,rfl,?_⟩⟩⟩
    rw [PySem.StrLaws.found_one]
    refine dG (λh2=>?_) (λh2=>?_)
    ·rw [if_pos h2] at hr
     refine ⟨_,λσ' H' z=>z,@au _ _ _ _ _ _ (xR (i:=3) xg.nd rfl (Or.inl rfl) az yq) ?_⟩
     walk_at "rd"
     exact ⟨row.length - (j + 1),by omega,j + 1,by simp,by omega,rfl,by omega⟩
    ·rw [if_neg h2] at hr
     refine ⟨rfl,?_⟩
     rw [show (i:Int) + (gi sg.cps.toList (row.cps.toList.drop i):Nat) = (j:Int) by omega]
   ·have:row.cps.toList.drop j = []:=List.drop_eq_nil_of_le (by rw [getL (i:=0)];omega)
    rw [this,gi] at hr
    omega
  rintro σ' H' ⟨e,rfl⟩
  rw [e]
  clear e H'
  refine @au _ _ _ _ _ _ (aI (cP (aA ia (pv 3) (pv 2) (aF _)) (aT fH (pv 3) (pv 2)) bJ)) ?_
  walk_at "rd"
  refine dG (λh=>?_) (λh=>?_)
  ·rw [if_pos (by omega)] at q'
   rw [show (i:Int) + (gi sg.cps.toList (row.cps.toList.drop i):Nat) - i = gi sg.cps.toList (row.cps.toList.drop i) by omega]
   exact q'
  ·rw [if_neg (by omega)] at q'
   exact q'
theorem o5 (sort sg row:Str) (i:Nat):(∃ n:Int,fj sort sg row i = .int n) ∨ fj sort sg row i = .cK:=by
 unfold fj
 repeat' split
 all_goals first | exact .inl ⟨_,rfl⟩ | exact .inr rfl
def fY (sort:Str):Bool:=!decide (sort = "still" ∨ sort = "end")
structure ur (P:Program) (w:World) (K:PySem.W.Frag) (mg:Str -> Option Value) (base:Heap) (C fe fs:Addr) (de ds:FuncData) (sort:Str) (fl:Str -> List (Str × V)):Prop where
 cl:mO K C
 me:Meth K C "eaten" fe
 ms:Meth K C "eats" fs
 ne:∀ z,(fl z).lookup ("eaten" : Str) = none
 ns:∀ z,(fl z).lookup ("eats" : Str) = none
 ge:bC P w K mg base dh 1 fe de ["self","row","at"] (lP C fl sort)
 be:Binds K de ["self","row","at"] []
 gs:bC P w K mg base dh 1 fs ds ["self"] (jK (fY sort))
 bs:Binds K ds ["self"] []
 ty:PySem.W.findIn K (.ref C) "__class__" = some (some (.builtin "object.__class__"))
 mr:PySem.W.mroIn K C (.type "object") = some true
theorem E9 (T:Txt K mg t):ur P w K mg base t.bT t.kC t.kG t.qx t.qY "word" (λz=>[("wanted",.str z)]) :=
 ⟨T.m6,T.Lr,T.K0,λ_=>by rfl,λ_=>by rfl,Ho T,T.uZ.binds (by walk_at "3"),by rw [show fY "word" = true by decide +kernel];exact HY T,T.ue.binds (by walk_at "1"),T.rS,T.se⟩
theorem G8 (T:Txt K mg t):ur P w K mg base t.cJ t.kr t.ko t.rA t.qp "one" (λz=>[("signs",.str z)]) :=
 ⟨T.yg,T.J9,T.K3,λ_=>by rfl,λ_=>by rfl,GI T,T.vF.binds (by walk_at "3"),by rw [show fY "one" = true by decide +kernel];exact JD T,T.uS.binds (by walk_at "1"),T.xP,T.yb⟩
theorem xJ (T:Txt K mg t):ur P w K mg base t.aX t.kE t.ki t.qA t.qt "none" (λz=>[("signs",.str z)]) :=
 ⟨T.jx,T.Kw,T.Le,λ_=>by rfl,λ_=>by rfl,HF T,T.vO.binds (by walk_at "3"),by rw [show fY "none" = true by decide +kernel];exact GA T,T.uO.binds (by walk_at "1"),T.jO,T.jG⟩
theorem EM (T:Txt K mg t):ur P w K mg base t.bS t.ku t.jT t.qw t.qB "many" (λz=>[("signs",.str z)]) :=
 ⟨T.sE,T.LG,T.LB,λ_=>by rfl,λ_=>by rfl,Ju T,T.tP.binds (by walk_at "3"),by rw [show fY "many" = true by decide +kernel];exact Gg T,T.vm.binds (by walk_at "1"),T.rZ,T.sD⟩
theorem GP (T:Txt K mg t):ur P w K mg base t.cT t.rW t.sq t.zK t.Ak "any" (λz=>[]) :=
 ⟨T.Hs,T.MI,T.L6,λ_=>by rfl,λ_=>by rfl,K4 T,T.BC.binds (by walk_at "3"),by rw [show fY "any" = true by decide +kernel];exact Km T,T.A8.binds (by walk_at "1"),T.ym,T.ye⟩
theorem Bc (T:Txt K mg t):ur P w K mg base t.bK t.kc t.iu t.rB t.pF "still" (λz=>[]) :=
 ⟨T.DU,T.K6,T.rK,λ_=>by rfl,λ_=>by rfl,JZ T,T.uF.binds (by walk_at "3"),by rw [show fY "still" = false by decide +kernel];exact A3 T,T.qb.binds (by walk_at "1"),T.pP,T.nB⟩
theorem Jv (T:Txt K mg t):ur P w K mg base t.cX t.j0 t.iu t.rg t.pF "end" (λz=>[]) :=
 ⟨T.Gu,T.Kg,T.xV,λ_=>by rfl,λ_=>by rfl,JK T,T.uP.binds (by walk_at "3"),by rw [show fY "end" = false by decide +kernel];exact A3 T,T.qb.binds (by walk_at "1"),T.xh,T.wV⟩
structure bx where
 sort:Str
 signs:Str
 bh:Str
 bQ:Str
 goal:Option Nat
 fold:Str
structure aN where
 name:Str
 bh:Str
 rules:List bx
abbrev sorts:List Str:=["word","one","none","many","any","still","end"]
abbrev bare (s:Str):Prop:=s = "any" ∨ s = "still" ∨ s = "end"
def fX (t:fE) (s:Str):Addr:=if s = "any" then t.cT else if s = "still" then t.bK else if s = "end" then t.cX else if s = "word" then t.bT else if s = "one" then t.cJ else if s = "none" then t.aX else t.bS
def jk (s z:Str):List (Str × V):=if bare s then [] else if s = "word" then [("wanted",.str z)] else [("signs",.str z)]
theorem yx:fX t "any" = t.cT:=by rw [fX,if_pos rfl]
theorem qF:fX t "still" = t.bK:=by rw [fX,if_neg (by decide),if_pos rfl]
theorem yE:fX t "end" = t.cX:=by rw [fX,if_neg (by decide),if_neg (by decide),if_pos rfl]
theorem ux:fX t "word" = t.bT:=by rw [fX,if_neg (by decide),if_neg (by decide),if_neg (by decide),if_pos rfl]
theorem yO:fX t "one" = t.cJ:=by rw [fX,if_neg (by decide),if_neg (by decide),if_neg (by decide),if_neg (by decide),if_pos rfl]
theorem wN:fX t "none" = t.aX:=by rw [fX,if_neg (by decide),if_neg (by decide),if_neg (by decide),if_neg (by decide),if_neg (by decide),if_pos rfl]
theorem tT:fX t "many" = t.bS:=by rw [fX,if_neg (by decide),if_neg (by decide),if_neg (by decide),if_neg (by decide),if_neg (by decide),if_neg (by decide)]
theorem AN:jk "any" = λ_=>[]:=by funext z;rw [jk,if_pos (by decide)]
theorem uM:jk "still" = λ_=>[]:=by funext z;rw [jk,if_pos (by decide)]
theorem Ci:jk "end" = λ_=>[]:=by funext z;rw [jk,if_pos (by decide)]
theorem yU:jk "word" = λz=>([("wanted",.str z)]:List (Str × V)):=by funext z;rw [jk,if_neg (by decide),if_pos rfl]
theorem qT {s:Str} (h:¬ bare s) (h2:s ≠ "word"):jk s = λz=>([("signs",.str z)]:List (Str × V)):=by funext z;rw [jk,if_neg h,if_neg h2]
theorem iN {s:Str} (h:s ∈ sorts):s = "word" ∨ s = "one" ∨ s = "none" ∨ s = "many" ∨ s = "any" ∨ s = "still" ∨ s = "end" := by simpa using h
theorem Fy (T:Txt K mg t) {s:Str} (h:s ∈ sorts):∃ fe fs de ds,ur P w K mg base (fX t s) fe fs de ds s (jk s):=by
 rcases iN h with rfl | rfl | rfl | rfl | rfl | rfl | rfl
 ·rw [ux,yU];exact ⟨_,_,_,_,E9 T⟩
 ·rw [yO,qT (by decide) (by decide)];exact ⟨_,_,_,_,G8 T⟩
 ·rw [wN,qT (by decide) (by decide)];exact ⟨_,_,_,_,xJ T⟩
 ·rw [tT,qT (by decide) (by decide)];exact ⟨_,_,_,_,EM T⟩
 ·rw [yx,AN];exact ⟨_,_,_,_,GP T⟩
 ·rw [qF,uM];exact ⟨_,_,_,_,Bc T⟩
 ·rw [yE,Ci];exact ⟨_,_,_,_,Jv T⟩
def iJ (t:fE) (H:Hp) (p:Addr) (s z:Str):Prop:=∃ dx,H p = some (.ins (fX t s) dx (jk s z))
def nW:Option Nat -> V
 | none=>.cK
 | some g=>.int g
def rf (p:Addr) (R:bx):List (Str × V):=[("pattern",.ref p),("colour",.str R.bh),("deed",.str R.bQ),("goal",nW R.goal),("fold",.str R.fold)]
def mf (M:aN) (l:Addr):List (Str × V):=[("name",.str M.name),("colour",.str M.bh),("rules",.ref l)]
def cR (t:fE) (H:Hp) (r:Addr) (R:bx):Prop:=∃ dx p,H r = some (.ins t.cz dx (rf p R)) /\ iJ t H p R.sort R.signs
theorem iJ.same {H H':Hp} {p:Addr} {s z:Str} (h:iJ t H p s z) (e:ak H H'):iJ t H' p s z:=let ⟨dx,x⟩:=h;⟨dx,e _ _ x⟩
theorem cR.same {H H':Hp} {r:Addr} {R:bx} (h:cR t H r R) (e:ak H H'):cR t H' r R:=let ⟨dx,p,x,y⟩:=h;⟨dx,p,e _ _ x,y.same e⟩
def bw {α β:Type} (R:α -> β -> Prop) (as:List α) (bs:List β):Prop:=as.length = bs.length /\ ∀ (i:Nat) a b,as[i]? = some a -> bs[i]? = some b -> R a b
theorem bw.nil {α β:Type} {R:α -> β -> Prop}:bw R [] []:=⟨rfl,λi a b h=>by simp at h⟩
theorem bw.mono {α β:Type} {R S:α -> β -> Prop} {as:List α} {bs:List β} (h:bw R as bs) (f:∀ a b,R a b -> S a b):bw S as bs:=⟨h.1,λi a b x y=>f a b (h.2 i a b x y)⟩
theorem cL {α:Type} {as:List α} {a x:α} {i:Nat} (h:(as ++ [a])[i]? = some x):as[i]? = some x ∨ (i = as.length /\ x = a):=by
 by_cases hi:i < as.length
 ·rw [List.getElem?_append_left hi] at h;exact .inl h
 ·rw [List.getElem?_append_right (by omega)] at h
  have:i - as.length = 0:=by
   cases e:i - as.length with
   | zero=>rfl
   | succ n=>rw [e] at h;simp at h
  rw [this] at h
  simp at h
  exact .inr ⟨by omega,h.symm⟩
theorem bw.snoc {α β:Type} {R:α -> β -> Prop} {as:List α} {bs:List β} {a:α} {b:β} (h:bw R as bs) (r:R a b):bw R (as ++ [a]) (bs ++ [b]):=by
 refine ⟨by simp [h.1],λi x y hx hy=>?_⟩
 have hl:=h.1
 rcases cL hx with h1 | ⟨e1,rfl⟩
 ·rcases cL hy with h2 | ⟨e2,rfl⟩
  ·exact h.2 i x y h1 h2
  ·have:=(List.getElem?_eq_some_iff.mp h1).1;omega
 ·rcases cL hy with h2 | ⟨e2,rfl⟩
  ·have:=(List.getElem?_eq_some_iff.mp h2).1;omega
  ·exact r
theorem bw.at {α β:Type} {R:α -> β -> Prop} {as:List α} {bs:List β} (h:bw R as bs) {i:Nat} {b:β} (e:bs[i]? = some b):∃ a,as[i]? = some a /\ R a b:=by
 have hi:=(List.getElem?_eq_some_iff.mp e).1
 have hi2:i < as.length:=by rw [h.1];exact hi
 exact ⟨as[i],List.getElem?_eq_getElem hi2,h.2 i _ _ (List.getElem?_eq_getElem hi2) e⟩
structure cj (t:fE) (H:Hp) (as ls:List Addr) (ms:List aN):Prop where
 la:as.length = ms.length
 ll:ls.length = ms.length
 nd:ls.Nodup
 ob:∀ (i:Nat) a l m,as[i]? = some a -> ls[i]? = some l -> ms[i]? = some m -> ∃ dx rs,H a = some (.ins t.bP dx (mf m l)) /\ H l = some (.lst (rs.map V.ref)) /\ bw (cR t H) rs m.rules
theorem cj.same {H H':Hp} {as ls:List Addr} {ms:List aN} (h:cj t H as ls ms) (e:ak H H'):cj t H' as ls ms :=
 ⟨h.la,h.ll,h.nd,λi a l m h1 h2 h3=>let ⟨dx,rs,x,y,z⟩:=h.ob i a l m h1 h2 h3;⟨dx,rs,e _ _ x,e _ _ y,z.mono λ_ _ r=>r.same e⟩⟩
def IsRules (t:fE) (H:Hp) (a:Addr) (ms:List aN):Prop:=∃ dx lm as ls,H a = some (.ins t.cG dx [("modes",.ref lm)]) /\ H lm = some (.lst (as.map V.ref)) /\ cj t H as ls ms
theorem IsRules.same {H H':Hp} {a:Addr} {ms:List aN} (h:IsRules t H a ms) (e:ak H H'):IsRules t H' a ms:=let ⟨dx,lm,as,ls,x,y,z⟩:=h;⟨dx,lm,as,ls,e _ _ x,e _ _ y,z.same e⟩
theorem eK {H:Hp} {x dx:Addr} {o1 o2 o3:HO} (h1:H x = none) (h2:H dx = none):ak H (upd (upd (upd H dx o1) x o2) x o3):=λb o e=>by
 rw [ao (aj e h1),ao (aj e h1),ao (aj e h2)];exact e
theorem bE {H:Hp} {x dx:Addr} {o1 o2:HO} (h1:H x = none) (h2:H dx = none):ak H (upd (upd H dx o1) x o2):=λb o e=>by
 rw [ao (aj e h1),ao (aj e h2)];exact e
def EU (t:fE):Sp:=λvs H Q _=>∃ (x dx p:Addr) (R:bx),vs = [.ref x,.ref p,.str R.bh,.str R.bQ,nW R.goal,.str R.fold] /\ H x = some (.ins t.cz dx []) /\ Q .cK (upd H x (.ins t.cz dx (rf p R)))
theorem AY (T:Txt K mg t):bC P w K mg base dh 1 t.lC t.vN ["self","pattern","colour","deed","goal","fold"] (EU t):=by
 refine T.wg.ok G4 ?_ ?_
 walk_at "i"
 ·obtain ⟨x,dx,p,R,rfl,hx,q⟩:=h
  refine @aq _ _ _ _ _ _ _ (cI (pv 0) (pv 1) rfl) ⟨_,rfl,_,rfl,x,_,dx,[],rfl,hx,T.cu,T.cM,by decide,?_⟩
  refine @aq _ _ _ _ _ _ _ (cI (pv 0) (pv 2) rfl) ⟨_,rfl,_,rfl,x,_,dx,[("pattern",.ref p)],rfl,af,T.cu,T.eE,by show 1 < 1000;decide,?_⟩
  refine @aq _ _ _ _ _ _ _ (cI (pv 0) (pv 3) rfl) ⟨_,rfl,_,rfl,x,_,dx,[("pattern",.ref p),("colour",.str R.bh)],rfl,af,T.cu,T.di,by show 2 < 1000;decide,?_⟩
  refine @aq _ _ _ _ _ _ _ (cI (pv 0) (pv 4) rfl) ⟨_,rfl,_,rfl,x,_,dx,[("pattern",.ref p),("colour",.str R.bh),("deed",.str R.bQ)],rfl,af,T.cu,T.fc,by show 3 < 1000;decide,?_⟩
  refine @au _ _ _ _ _ _ (cI (pv 0) (pv 5) rfl) ⟨_,rfl,_,rfl,x,_,dx,[("pattern",.ref p),("colour",.str R.bh),("deed",.str R.bQ),("goal",nW R.goal)],rfl,af,T.cu,T.eW,by show 4 < 1000;decide,?_⟩
  rw [gk,gk,gk,gk]
  exact q
def Fj (t:fE):Sp:=λvs H Q _=>∃ (x dx l:Addr) (n c:Str) (rs:List V),vs = [.ref x,.str n,.str c,.ref l] /\ H x = some (.ins t.bP dx []) /\ H l = some (.lst rs) /\
 ∀ l2 H',H l2 = none -> H' x = some (.ins t.bP dx (mf ⟨n,c,[]⟩ l2)) -> H' l2 = some (.lst rs) -> gy H H' x -> Q .cK H'
theorem B5 (T:Txt K mg t):bC P w K mg base dh 1 t.mh t.wM ["self","name","colour","rules"] (Fj t):=by
 refine T.vj.ok Ht ?_ ?_
 walk_at "i"
 ·obtain ⟨x,dx,l,n,c,rs,rfl,hx,hl,q⟩:=h
  have nlx:l ≠ x:=cB hl hx (by intro z;cases z)
  refine @aq _ _ _ _ _ _ _ (cI (pv 0) (pv 1) rfl) ⟨_,rfl,_,rfl,x,_,dx,[],rfl,hx,T.d7,T.e7,by decide,?_⟩
  refine @aq _ _ _ _ _ _ _ (cI (pv 0) (pv 2) rfl) ⟨_,rfl,_,rfl,x,_,dx,[("name",.str n)],rfl,af,T.d7,T.eF,by show 1 < 1000;decide,?_⟩
  refine @au _ _ _ _ _ _ (cI (pv 0) (cS d8 (by rfl) T.gu (by decide +kernel) (aa (pv 3) ai)) rfl) ⟨_,rfl,l,rs,rfl,.inl (bu.of (by rw [ao nlx,ao nlx];exact hl)),λl2 hl2=>?_⟩
  have n2:x ≠ l2:=aj af hl2
  have hl0:H l2 = none:=by rw [ao (Ne.symm n2),ao (Ne.symm n2)] at hl2;exact hl2
  refine ⟨_,rfl,x,_,dx,[("name",.str n),("colour",.str c)],rfl,by rw [ao n2];exact af,T.d7,T.cU,by show 2 < 1000;decide,?_⟩
  refine q l2 _ hl0 af (by rw [ao (Ne.symm n2)];exact af) λb o hb nb=>?_
  rw [ao nb,ao (aj hb hl0),ao nb,ao nb];exact hb
def B7 (t:fE):Sp:=λvs H Q _=>∃ (x dx l:Addr) (rs:List V),vs = [.ref x,.ref l] /\ H x = some (.ins t.cG dx []) /\ H l = some (.lst rs) /\
 ∀ l2 H',H l2 = none -> H' x = some (.ins t.cG dx [("modes",.ref l2)]) -> H' l2 = some (.lst rs) -> gy H H' x -> Q .cK H'
theorem B4 (T:Txt K mg t):bC P w K mg base dh 1 t.lJ t.t7 ["self","modes"] (B7 t):=by
 refine T.t6.ok HZ ?_ ?_
 walk_at "i"
 ·obtain ⟨x,dx,l,rs,rfl,hx,hl,q⟩:=h
  refine @au _ _ _ _ _ _ (cI (pv 0) (cS d8 (by rfl) T.gu (by decide +kernel) (aa (pv 1) ai)) rfl) ⟨_,rfl,l,rs,rfl,.inl (bu.of hl),λl2 hl2=>?_⟩
  have n2:x ≠ l2:=aj hx hl2
  refine ⟨_,rfl,x,_,dx,[],rfl,by rw [ao n2];exact hx,T.fS,T.b8,by decide,?_⟩
  refine q l2 _ hl2 af (by rw [ao (Ne.symm n2)];exact af) λb o hb nb=>?_
  rw [ao nb,ao (aj hb hl2)];exact hb
abbrev cW (s z:Str):List Str:=if bare s then [s] else [s,gQ z]
structure m7 (s z:Str):Prop where
 sort:s ∈ sorts
 MH:bare s -> z = ""
 sg:¬ bare s -> 1 <= z.length /\ z.length <= 200 /\ 95 ∉ z.cps.toList /\ 10 ∉ z.cps.toList
theorem drop_cons {α:Type} {ws:List α} {i:Nat} {x:α} {r:List α} (h:ws.drop i = x :: r):ws[i]? = some x /\ ws.drop (i + 1) = r:=by
 constructor
 ·have:=congrArg (λl=>l[0]?) h
  simpa [List.getElem?_drop] using this
 ·rw [← List.drop_drop,h];rfl
theorem fQ {ws:List Str} {i:Nat} {x:Str} {r:List Str} (h:ws.drop i = x :: r):pk ws i = x:=by
 unfold pk
 rw [List.getD_eq_getElem?_getD,(drop_cons h).1]
 rfl
theorem ET {ws:List Str} {i:Nat} {x:Str} {r:List Str} (h:ws.drop i = x :: r):i < ws.length:=(List.getElem?_eq_some_iff.mp (drop_cons h).1).1
theorem vL {ws:List Str} {i:Nat} (h:ws.drop i = []):ws.length <= i:=List.drop_eq_nil_iff.mp h
def ER (t:fE):Sp:=λvs H Q _=>∃ (p dx lw:Addr) (row:Int) (ws:List Str) (i:Nat) (s z:Str) (rest:List Str),vs = [.ref p] /\ jP t H p dx lw row ws i /\ ws.drop i = cW s z ++ rest /\ m7 s z /\
 ∀ a H' j,iJ t H' a s z -> jP t H' p dx lw row ws j -> ws.drop j = rest -> gy H H' p -> Q (.ref a) H'
theorem Js (T:Txt K mg t):bC P w K mg base dh 5 t.nO t.wo ["cursor"] (ER t):=by
 refine T.t8.ok xr ?_ ?_
 walk_at "i"
 ·obtain ⟨p,dx,lw,row,ws,i,s,z,rest,rfl,C,hd,G,q⟩:=h
  have hk:pk ws i = s:=by
   by_cases hb:bare s
   ·rw [cW,if_pos hb] at hd;exact fQ hd
   ·rw [cW,if_neg hb] at hd;exact fQ hd
  refine @aq _ _ _ _ _ _ _ (aE (i:=1) xr.nd rfl (Or.inl rfl) (br (pv 0) T.aP T.EI (yV T) (hr.mono (by decide)) (T.sY.binds (by walk_at "2")) .nil aH (aa (kq rfl T.sF (v:=V.ref t.dJ) rfl) ai))) ⟨_,rfl,p,dx,_,rfl,C.ob,rfl,p,dx,lw,t.dJ,sorts,row,ws,i,rfl,C,T.wm _,by rw [hk];exact G.sort,λH1 C1 a1=>?_⟩
  rw [hk]
  refine @aq _ _ _ _ _ _ _ (bB (aA cA (pv 1) aG (aF _)) av av) ⟨_,rfl,rfl,_,rfl,dG (λh=>?_) (λh1=>bg ?_)⟩
  ·have h:=V.str.inj h
   subst h
   refine @au _ _ _ _ _ _ (aI (oY T.xF rfl T.Es)) λx dx' nx ndx ne=>?_
   rw [cW,if_pos (by decide)] at hd
   exact q x _ (i + 1) ⟨dx',by rw [yx,AN];exact af⟩ (C1.same (bE nx ndx)) (drop_cons hd).2 (a1.same (bE nx ndx))
  refine @aq _ _ _ _ _ _ _ (bB (aA cA (pv 1) aG (aF _)) av av) ⟨_,rfl,rfl,_,rfl,dG (λh=>?_) (λh2=>bg ?_)⟩
  ·have h:=V.str.inj h
   subst h
   refine @au _ _ _ _ _ _ (aI (oY T.oS rfl T.Au)) λx dx' nx ndx ne=>?_
   rw [cW,if_pos (by decide)] at hd
   exact q x _ (i + 1) ⟨dx',by rw [qF,uM];exact af⟩ (C1.same (bE nx ndx)) (drop_cons hd).2 (a1.same (bE nx ndx))
  refine @aq _ _ _ _ _ _ _ (bB (aA cA (pv 1) aG (aF _)) av av) ⟨_,rfl,rfl,_,rfl,dG (λh=>?_) (λh3=>bg ?_)⟩
  ·have h:=V.str.inj h
   subst h
   refine @au _ _ _ _ _ _ (aI (oY T.xH rfl T.Fl)) λx dx' nx ndx ne=>?_
   rw [cW,if_pos (by decide)] at hd
   exact q x _ (i + 1) ⟨dx',by rw [yE,Ci];exact af⟩ (C1.same (bE nx ndx)) (drop_cons hd).2 (a1.same (bE nx ndx))
  have nb:¬ bare s:=by
   rintro (e | e | e)
   ·exact h1 (by rw [e])
   ·exact h2 (by rw [e])
   ·exact h3 (by rw [e])
  rw [cW,if_neg nb] at hd
  have hd2:=(drop_cons hd).2
  obtain ⟨z1,z2,z3,z4⟩:=G.sg nb
  refine @aq _ _ _ _ _ _ _ (aE (i:=2) xr.nd rfl (Or.inl rfl) (b7 (pv 0) T.aP T.Mc (KZ T) (hr.mono (by decide)) (T.Di.binds (by walk_at "1")) .nil aH)) ⟨_,rfl,p,dx,_,rfl,C1.ob,rfl,p,dx,lw,row,ws,i + 1,z,rfl,C1,fQ hd2,z1,by omega,z3,λH2 C2 a2=>?_⟩
  have hd3:=(drop_cons hd2).2
  have a3:=a1.trans a2
  refine @aq _ _ _ _ _ _ _ (bB (aA cA (pv 1) aG (aF _)) av av) ⟨_,rfl,rfl,_,rfl,dG (λh=>?_) (λh4=>bg ?_)⟩
  ·have h:=V.str.inj h
   subst h
   refine @au _ _ _ _ _ _ (aI (dH T.rG (JL T) (hr.mono (by decide)) rfl T.Dy (T.yM.binds (by walk_at "2")) .nil aH (aa (pv 2) ai))) ⟨_,rfl,λx dx' nx ndx ne=>⟨x,dx',z,rfl,af,rfl,?_⟩⟩
   exact q x _ (i + 1 + 1) ⟨dx',by rw [ux,yU];exact af⟩ (C2.same (eK nx ndx)) hd3 (a3.same (eK nx ndx))
  refine @aq _ _ _ _ _ _ _ (bB (aA cA (pv 1) aG (aF _)) av av) ⟨_,rfl,rfl,_,rfl,dG (λh=>?_) (λh5=>bg ?_)⟩
  ·have h:=V.str.inj h
   subst h
   refine @au _ _ _ _ _ _ (aI (dH T.xT (JP T) (hr.mono (by decide)) rfl T.EH (T.yK.binds (by walk_at "2")) .nil aH (aa (pv 2) ai))) ⟨_,rfl,λx dx' nx ndx ne=>⟨x,dx',z,rfl,af,rfl,?_⟩⟩
   exact q x _ (i + 1 + 1) ⟨dx',by rw [yO,qT nb (by decide)];exact af⟩ (C2.same (eK nx ndx)) hd3 (a3.same (eK nx ndx))
  refine @aq _ _ _ _ _ _ _ (bB (aA cA (pv 1) aG (aF _)) av av) ⟨_,rfl,rfl,_,rfl,dG (λh=>?_) (λh6=>bg ?_)⟩
  ·have h:=V.str.inj h
   subst h
   refine @au _ _ _ _ _ _ (aI (dH T.jL (Ie T) (hr.mono (by decide)) rfl T.vA (T.za.binds (by walk_at "2")) .nil aH (aa (pv 2) ai))) ⟨_,rfl,λx dx' nx ndx ne=>⟨x,dx',z,rfl,af,rfl,?_⟩⟩
   exact q x _ (i + 1 + 1) ⟨dx',by rw [wN,qT nb (by decide)];exact af⟩ (C2.same (eK nx ndx)) hd3 (a3.same (eK nx ndx))
  have h:s = "many" := by
   rcases iN G.sort with e | e | e | e | e | e | e
   ·exact absurd (by rw [e]) h4
   ·exact absurd (by rw [e]) h5
   ·exact absurd (by rw [e]) h6
   ·exact e
   ·exact absurd (by rw [e]) h1
   ·exact absurd (by rw [e]) h2
   ·exact absurd (by rw [e]) h3
  subst h
  refine @au _ _ _ _ _ _ (aI (dH T.rV (GR T) (hr.mono (by decide)) rfl T.AL (T.yF.binds (by walk_at "2")) .nil aH (aa (pv 2) ai))) ⟨_,rfl,λx dx' nx ndx ne=>⟨x,dx',z,rfl,af,rfl,?_⟩⟩
  exact q x _ (i + 1 + 1) ⟨dx',by rw [tT,qT nb (by decide)];exact af⟩ (C2.same (eK nx ndx)) hd3 (a3.same (eK nx ndx))
def BL (t:fE):Sp:=λvs H Q _=>∃ (p dx lw d:Addr) (nw:V) (row:Int) (ws:List Str) (i g:Nat) (kvs:List (Key × V)),vs = [.ref p,.ref d,nw] /\ jP t H p dx lw row ws i /\ H d = some (.dK kvs) /\ isName (pk ws i) = true /\ gA kvs (.inr (pk ws i)) = some (.int g) /\
 ∀ H',jP t H' p dx lw row ws (i + 1) -> gy H H' p -> Q (.int g) H'
theorem Il (T:Txt K mg t):bC P w K mg base dh 5 t.nT t.wJ ["cursor","numbers","nowhere"] (BL t):=by
 refine T.uA.ok w6 ?_ ?_
 walk_at "i"
 ·obtain ⟨p,dx,lw,d,nw,row,ws,i,g,kvs,rfl,C,hd,hn,hv,q⟩:=h
  refine @aq _ _ _ _ _ _ _ (aE (i:=3) w6.nd rfl (Or.inl rfl) (cD (aa (aO (pv 0) rfl) (aa (aO (pv 0) rfl) ai)))) ?_
  refine ⟨_,rfl,_,_,_,_,_,rfl,C.ob,T.aP,T.gj,rfl,?_⟩
  refine ⟨_,rfl,_,_,_,_,_,rfl,C.ob,T.aP,T.dI,rfl,?_⟩
  refine ⟨by show 2 <= sizeLine;decide,λpt hpt=>?_⟩
  have s1:ak H (upd H pt (.tup [.int row,.int i])):=ak.upd hpt
  have C1:=C.same s1
  refine @aq _ _ _ _ _ _ _ (aE (i:=4) w6.nd rfl (Or.inl rfl) (b7 (pv 0) T.aP T.EN (yw T) (hr.mono (by decide)) (T.wC.binds (by walk_at "1")) .nil aH)) ⟨_,rfl,p,dx,_,rfl,C1.ob,rfl,p,dx,lw,row,ws,i,rfl,C1,hn,λH2 C2 a2=>?_⟩
  have npd:d ≠ p:=cB hd C.ob (by intro z;cases z)
  have hd2:H2 d = some (.dK kvs):=a2 _ _ (s1 _ _ hd) npd
  refine @aq _ _ _ _ _ _ _ (bB (Im (zI (mD hr) (pv 4) (pv 1))) av av) ⟨_,rfl,_,rfl,d,_,rfl,tR.k (k:=.inr (pk ws i)) hd2,_,rfl,?_⟩
  rw [hv]
  refine rR (bg ?_)
  refine @au _ _ _ _ _ _ (aI (DI (mD hr) (pv 1) (pv 4) ⟨rfl,rfl,rfl,rfl⟩)) ⟨_,rfl,d,rfl,.inl ⟨kvs,.inl hd2⟩,_,rfl,_,tR.k (k:=.inr (pk ws i)) hd2,?_⟩
  rw [hv]
  exact q H2 C2 (s1.Fw a2)
abbrev wO:List Str:=["stay","push","pop","into"]
abbrev kh (d:Str):Prop:=d = "push" ∨ d = "into"
def zu (names:List Str):Option Nat -> List Str
 | some g=>[names.getD g ""]
 | none=>[]
theorem Ad {names:List Str} {g:Option Nat}:(zu names g).length <= 1:=by cases g <;> simp [zu]
def dF (names:List Str) (R:bx):List Str:=cW R.sort R.signs ++ ((if fY R.sort = true then [R.bh] else []) ++ ([R.bQ] ++ (zu names R.goal ++ if R.fold = "" then [] else [R.fold])))
structure g7 (names:List Str) (R:bx):Prop where
 pat:m7 R.sort R.signs
 col:fY R.sort = true -> isName R.bh = true
 LW:fY R.sort = false -> R.bh = ""
 bQ:R.bQ ∈ wO
 goal:kh R.bQ -> ∃ g,R.goal = some g /\ g < names.length
 F2:¬ kh R.bQ -> R.goal = none
 fold:R.fold = "" ∨ R.fold = "open" ∨ R.fold = "close"
def numsOf (names:List Str) (kvs:List (Key × V)):Prop:=∀ (g:Nat) n,names[g]? = some n -> gA kvs (.inr n) = some (.int g)
def DW (t:fE):Sp:=λvs H Q _=>∃ (p dx lw d:Addr) (nw:V) (row:Int) (ws:List Str) (kvs:List (Key × V)) (names:List Str) (R:bx),vs = [.ref p,.ref d,nw] /\ jP t H p dx lw row ws 0 /\ ws = dF names R /\ H d = some (.dK kvs) /\ numsOf names kvs /\
 (∀ n ∈ names,isName n = true) /\ g7 names R /\ ∀ r H',cR t H' r R -> gy H H' p -> Q (.ref r) H'
theorem iJ.Fw {H H':Hp} {p a dx lw:Addr} {row:Int} {ws:List Str} {i:Nat} {s z:Str} (h:iJ t H a s z) (C:jP t H p dx lw row ws i) (e:gy H H' p):iJ t H' a s z:=by
 obtain ⟨d,x⟩:=h
 refine ⟨d,e _ _ x (cB x C.ob λq=>?_)⟩
 injection q with _ _ q
 unfold jk cf at q
 split at q
 ·cases q
 ·split at q <;> simp at q
theorem Gf (T:Txt K mg t):bC P w K mg base dh 6 t.n5 t.vV ["cursor","numbers","nowhere"] (DW t):=by
 refine T.vG.ok kP ?_ ?_
 walk_at "i"
 ·obtain ⟨p,dx,lw,d,nw,row,ws,kvs,names,R,rfl,C,hws,hd,hnum,hnm,G,q⟩:=h
  have npd:d ≠ p:=cB hd C.ob (by intro z;cases z)
  obtain ⟨fe,fs,de,ds,PK⟩:=Fy (P:=P) (w:=w) (base:=base) T G.pat.sort
  refine @aq _ _ _ _ _ _ _ (aE (i:=3) kP.nd rfl (Or.inl rfl) (aZ (Js T) (hr.mono (by decide)) rfl T.HW T.t8.kp (T.t8.binds (by walk_at "1")) .nil aH (aa (pv 0) ai))) ⟨_,rfl,p,dx,lw,row,ws,0,R.sort,R.signs,_,rfl,C,by rw [List.drop_zero,hws,dF],G.pat,λpa H1 j1 hp1 C1 hd1 a1=>?_⟩
  refine aM (λσ' H'=>∃ j,σ' = [some (.ref p),some (.ref d),some nw,some (.ref pa),some (.str R.bh),none,none,none] /\ jP t H' p dx lw row ws j /\ iJ t H' pa R.sort R.signs /\ gy H H' p /\
   ws.drop j = R.bQ :: (zu names R.goal ++ if R.fold = "" then [] else [R.fold])) (aE (i:=4) kP.nd rfl (Or.inl rfl) (cP (iI (b7 (pv 3) PK.cl PK.ms PK.gs (hr.mono (by decide)) PK.bs .nil aH)) (b7 (pv 0) T.aP T.EN (yw T) (hr.mono (by decide)) (T.wC.binds (by walk_at "1")) .nil aH) aG)) ?_ ?_
  ·obtain ⟨dpa,hpa⟩:=hp1
   refine ⟨_,rfl,pa,dpa,_,rfl,hpa,PK.ns _,_,rfl,_,rfl,LQ (λh=>?_) (λh=>?_)⟩
   ·rw [if_pos h] at hd1
    refine ⟨_,rfl,p,dx,_,rfl,C1.ob,rfl,p,dx,lw,row,ws,j1,rfl,C1,by rw [fQ hd1];exact G.col h,λH2 C2 a2=>?_⟩
    rw [fQ hd1]
    exact ⟨j1 + 1,rfl,C2,iJ.Fw ⟨dpa,hpa⟩ C1 a2,a1.trans a2,(drop_cons hd1).2⟩
   ·rw [h,if_neg (by decide)] at hd1
    rw [G.LW h]
    exact ⟨j1,rfl,C1,⟨dpa,hpa⟩,a1,hd1⟩
  rintro σ' H2 ⟨j2,rfl,C2,hp2,a2,hd2⟩
  refine @aq _ _ _ _ _ _ _ (aE (i:=5) kP.nd rfl (Or.inl rfl) (br (pv 0) T.aP T.EI (yV T) (hr.mono (by decide)) (T.sY.binds (by walk_at "2")) .nil aH (aa (kq rfl T.zD (v:=V.ref t.gG) rfl) ai))) ⟨_,rfl,p,dx,_,rfl,C2.ob,rfl,p,dx,lw,t.gG,wO,row,ws,j2,rfl,C2,T.B3 _,by rw [fQ hd2];exact G.bQ,λH3 C3 a3=>?_⟩
  rw [fQ hd2]
  have hp3:=hp2.Fw C2 a3
  have a3:=a2.trans a3
  have hd3:=(drop_cons hd2).2
  refine aM (λσ' H'=>∃ j,σ' = [some (.ref p),some (.ref d),some nw,some (.ref pa),some (.str R.bh),some (.str R.bQ),some (nW R.goal),none] /\ jP t H' p dx lw row ws j /\ iJ t H' pa R.sort R.signs /\ gy H H' p /\
   ws.drop j = if R.fold = "" then [] else [R.fold]) (aE (i:=6) kP.nd rfl (Or.inl rfl) (cP (aA qH (pv 5) (kq rfl T.zW (v:=V.ref t.iH) rfl) rfl) (aZ (Il T) (hr.mono (by decide)) rfl T.Ir T.uA.kp (T.uA.binds (by walk_at "3")) .nil aH (aa (pv 0) (aa (pv 1) (aa (pv 2) ai)))) bJ)) ?_ ?_
  ·refine ⟨_,rfl,_,_,rfl,.inr (T.AX _),rfl,rfl,_,rfl,?_⟩
   rw [show ([.str "push",.str "into"]:List V) = (["push","into"]:List Str).map V.str from rfl,pJ]
   refine dG (λh=>?_) (λh=>?_)
   ·have h:kh R.bQ:=by simpa using h
    obtain ⟨g,eg,hg⟩:=G.goal h
    rw [eg] at hd3 ⊢
    have e:=fQ hd3
    have hgn:names[g]? = some (names.getD g ""):=by simp [hg]
    have hv:=hnum g _ hgn
    have hin:isName (names.getD g "") = true:=hnm _ (List.mem_of_getElem? hgn)
    refine ⟨_,rfl,_,rfl,_,rfl,p,dx,lw,d,nw,row,ws,j2 + 1,g,kvs,rfl,C3,a3 _ _ hd npd,by rw [e];exact hin,by rw [e];exact hv,λH4 C4 a4=>?_⟩
    exact ⟨_,rfl,C4,hp3.Fw C3 a4,a3.trans a4,(drop_cons hd3).2⟩
   ·have h:¬ kh R.bQ:=by simpa using h
    rw [G.F2 h] at hd3 ⊢
    exact ⟨_,rfl,C3,hp3,a3,hd3⟩
  rintro σ' H4 ⟨j4,rfl,C4,hp4,a4,hd4⟩
  refine aM (λσ' H'=>∃ j,σ' = [some (.ref p),some (.ref d),some nw,some (.ref pa),some (.str R.bh),some (.str R.bQ),some (nW R.goal),some (.str R.fold)] /\ jP t H' p dx lw row ws j /\ iJ t H' pa R.sort R.signs /\ gy H H' p /\
   ws.drop j = []) (aE (i:=7) kP.nd rfl (Or.inl rfl) (cP (iI (b7 (pv 0) T.aP T.E3 (zp T) (hr.mono (by decide)) (T.uh.binds (by walk_at "1")) .nil aH)) (br (pv 0) T.aP T.EI (yV T) (hr.mono (by decide)) (T.sY.binds (by walk_at "2")) .nil aH (aa (kq rfl T.zZ (v:=V.ref t.gJ) rfl) ai)) aG)) ?_ ?_
  ·refine ⟨_,rfl,p,dx,_,rfl,C4.ob,rfl,p,dx,lw,row,ws,j4,rfl,C4,_,rfl,dG (λh=>?_) (λh=>?_)⟩
   ·have hf:R.fold ≠ "" := λz=>by rw [if_pos z] at hd4;have:=vL hd4;omega
    rw [if_neg hf] at hd4
    refine ⟨_,rfl,p,dx,_,rfl,C4.ob,rfl,p,dx,lw,t.gJ,["open","close"],row,ws,j4,rfl,C4,T.Az _,?_,λH5 C5 a5=>?_⟩
    ·rw [fQ hd4]
     rcases G.fold with z | z | z
     ·exact absurd z hf
     ·rw [z];decide
     ·rw [z];decide
    ·rw [fQ hd4]
     exact ⟨_,rfl,C5,hp4.Fw C4 a5,a4.trans a5,(drop_cons hd4).2⟩
   ·have hf:R.fold = "" := by
     by_cases z:R.fold = ""
     ·exact z
     ·rw [if_neg z] at hd4;exact absurd (ET hd4) h
    rw [if_pos hf] at hd4
    rw [hf]
    exact ⟨_,rfl,C4,hp4,a4,hd4⟩
  rintro σ' H5 ⟨j5,rfl,C5,hp5,a5,hd5⟩
  have hj5:=vL hd5
  refine @aq _ _ _ _ _ _ _ (bH (br (pv 0) T.aP T.zS (qN T) (hr.mono (by decide)) (T.qh.binds (by walk_at "2")) .nil aH (aa (Bu (b7 (pv 0) T.aP T.E3 (zp T) (hr.mono (by decide)) (T.uh.binds (by walk_at "1")) .nil aH)) ai))) ⟨_,rfl,p,dx,_,rfl,C5.ob,rfl,⟨_,rfl,p,dx,_,rfl,C5.ob,rfl,p,dx,lw,row,ws,j5,rfl,C5,_,rfl,?_⟩⟩
  rw [decide_eq_false (by omega)]
  refine ⟨_,rfl,?_⟩
  refine @au _ _ _ _ _ _ (aI (dH T.nh (AY T) (hr.mono (by decide)) rfl T.tY (T.wg.binds (by walk_at "6")) .nil aH (aa (pv 3) (aa (pv 4) (aa (pv 5) (aa (pv 6) (aa (pv 7) ai))))))) ⟨_,rfl,_,rfl,_,rfl,_,rfl,_,rfl,λx dx' nx ndx ne=>⟨x,dx',pa,R,rfl,af,rfl,?_⟩⟩
  exact q x _ ⟨dx',pa,af,hp5.same (eK nx ndx)⟩ (a5.same (eK nx ndx))
inductive Item where
 | mode (n c:Str)
 | rule (R:bx)
def Item.words (names:List Str):Item -> List Str
 | .mode n c=>["mode",n,c]
 | .rule R=>dF names R
def rowOf (names:List Str) (it:Item):Str:=Str.join ⟨#[32]⟩ (it.words names)
def iA (R:bx):List aN -> List aN
 | []=>[]
 | [m]=>[{ m with rules:=m.rules ++ [R] }]
 | m :: n :: r=>m :: iA R (n :: r)
def stepI (ms:List aN):Item -> List aN
 | .mode n c=>ms ++ [⟨n,c,[]⟩]
 | .rule R=>iA R ms
def foldI (its:List Item):List aN:=its.foldl stepI []
def AV:Item -> List Str
 | .mode n _=>[n]
 | .rule _=>[]
def namesOf (its:List Item):List Str:=its.flatMap AV
structure dY (its:List Item):Prop where
 ne:its ≠ []
 mode:∀ (i:Nat) n c,its[i]? = some (.mode n c) -> isName n = true /\ isName c = true /\ (namesOf (its.take i)).length < 12 /\ n ∉ namesOf (its.take i)
 rule:∀ (i:Nat) R,its[i]? = some (.rule R) -> g7 (namesOf its) R /\ ∃ ms m,foldI (its.take i) = ms ++ [m] /\ m.rules.length < 12
theorem j6 (R:bx) (m:aN):∀ ms:List aN,iA R (ms ++ [m]) = ms ++ [{ m with rules:=m.rules ++ [R] }]
 | []=>rfl
 | [x]=>rfl
 | x :: y :: r=>by
  show x :: iA R (y :: r ++ [m]) = _
  rw [j6 R m (y :: r)]
  rfl
theorem jt (R:bx):∀ ms:List aN,(iA R ms).map (·.name) = ms.map (·.name)
 | []=>rfl
 | [x]=>rfl
 | x :: y :: r=>by
  show x.name :: (iA R (y :: r)).map (·.name) = _
  rw [jt R (y :: r)]
  rfl
theorem take_snoc {α:Type} {l:List α} {i:Nat} {x:α} (h:l[i]? = some x):l.take (i + 1) = l.take i ++ [x]:=by rw [List.take_succ,h];rfl
theorem oX (its:List Item) (it:Item):foldI (its ++ [it]) = stepI (foldI its) it:=by unfold foldI;rw [List.foldl_append];rfl
theorem lH (a b:List Item):namesOf (a ++ b) = namesOf a ++ namesOf b:=by unfold namesOf;rw [List.flatMap_append]
theorem gx:∀ (its:List Item) (ms:List aN),(its.foldl stepI ms).map (·.name) = ms.map (·.name) ++ namesOf its
 | [],ms=>by simp [namesOf]
 | .mode n c :: r,ms=>by
  rw [List.foldl_cons,gx r]
  simp [stepI,namesOf,AV]
 | .rule R :: r,ms=>by
  rw [List.foldl_cons,gx r]
  simp [stepI,namesOf,AV,jt]
theorem pI (its:List Item):(foldI its).map (·.name) = namesOf its:=by
 unfold foldI;rw [gx];rfl
structure iw (x:Str):Prop where
 b:32 ∉ x.cps.toList
 n:10 ∉ x.cps.toList
 l:x.length <= 202
theorem aU (x:Str):x.cps.toList.length = x.length:=by simp [Str.length]
theorem je {x:Str} (h:isName x = true):iw x:=by
 unfold isName at h
 simp only [Bool.and_eq_true,decide_eq_true_eq,List.all_eq_true] at h
 obtain ⟨⟨h1,h2⟩,h3⟩:=h
 refine ⟨λz=>?_,λz=>?_,by omega⟩
 ·exact absurd (h3 _ z) (by decide +kernel)
 ·exact absurd (h3 _ z) (by decide +kernel)
theorem uX {z:Str} (h:z.length <= 200) (h2:10 ∉ z.cps.toList):iw (gQ z):=by
 refine ⟨λy=>?_,λy=>?_,?_⟩
 ·rw [fK] at y
  rcases List.mem_cons.mp y with y | y
  ·exact absurd y (by decide)
  ·unfold jm at y
   obtain ⟨c,_,e⟩:=List.mem_map.mp y
   split at e <;> omega
 ·rw [fK] at y
  rcases List.mem_cons.mp y with y | y
  ·exact absurd y (by decide)
  ·unfold jm at y
   obtain ⟨c,hc,e⟩:=List.mem_map.mp y
   split at e
   ·omega
   ·exact h2 (e ▸ hc)
 ·have:=congrArg List.length (fK z)
  rw [aU,List.length_cons,jm,List.length_map,aU] at this
  omega
theorem jg {s:Str} (h:s ∈ sorts):iw s /\ s ≠ "mode" := by
 rcases iN h with rfl | rfl | rfl | rfl | rfl | rfl | rfl <;> exact ⟨⟨by decide +kernel,by decide +kernel,by decide +kernel⟩,by decide +kernel⟩
theorem zE {s z:Str} (G:m7 s z):∀ x ∈ cW s z,iw x:=by
 intro x hx
 unfold cW at hx
 split at hx
 ·rw [List.mem_singleton.mp hx];exact (jg G.sort).1
 ·rename_i hb
  obtain ⟨z1,z2,z3,z4⟩:=G.sg hb
  rcases List.mem_cons.mp hx with e | e
  ·rw [e];exact (jg G.sort).1
  ·rw [List.mem_singleton.mp e];exact uX z2 z4
theorem xQ {names:List Str} {R:bx} (hn:∀ n ∈ names,isName n = true) (G:g7 names R):∀ x ∈ dF names R,iw x:=by
 intro x hx
 unfold dF at hx
 simp only [List.mem_append] at hx
 rcases hx with hx | hx | hx | hx | hx
 ·exact zE G.pat x hx
 ·split at hx
  ·rename_i h;rw [List.mem_singleton.mp hx];exact je (G.col h)
  ·cases hx
 ·rw [List.mem_singleton.mp hx]
  have:=G.bQ
  simp only [List.mem_cons,List.not_mem_nil,or_false] at this
  rcases this with e | e | e | e <;> rw [e] <;> exact ⟨by decide +kernel,by decide +kernel,by decide +kernel⟩
 ·cases e:R.goal with
  | some g =>
   rw [e] at hx
   rw [List.mem_singleton.mp hx]
   have hg:g < names.length:=by
    by_cases h:kh R.bQ
    ·obtain ⟨g',e',h'⟩:=G.goal h
     rw [e] at e';cases e';exact h'
    ·rw [G.F2 h] at e;cases e
   refine je (hn _ ?_)
   have:names.getD g "" = names[g]:=by simp [hg]
   rw [this];exact List.getElem_mem hg
  | none=>rw [e] at hx;cases hx
 ·split at hx
  ·cases hx
  ·rw [List.mem_singleton.mp hx]
   rcases G.fold with e | e | e <;> rw [e] <;> exact ⟨by decide +kernel,by decide +kernel,by decide +kernel⟩
theorem EY {s z:Str}:1 <= (cW s z).length /\ (cW s z).length <= 2:=by
 unfold cW
 split
 ·exact ⟨by show 1 <= 1;decide,by show 1 <= 2;decide⟩
 ·exact ⟨by show 1 <= 2;decide,by show 2 <= 2;decide⟩
theorem AR {names:List Str} {R:bx}:1 <= (dF names R).length /\ (dF names R).length <= 7:=by
 have h1:=EY (s:=R.sort) (z:=R.signs)
 have h2:(if fY R.sort = true then [R.bh] else []).length <= 1:=by split <;> simp
 have h3:=Ad (names:=names) (g:=R.goal)
 have h4:(if R.fold = "" then [] else [R.fold]).length <= 1:=by split <;> simp
 unfold dF
 simp only [List.length_append,List.length_cons,List.length_nil]
 omega
theorem oQ {its:List Item} (G:dY its):∀ n ∈ namesOf its,isName n = true:=by
 intro n hn
 unfold namesOf at hn
 obtain ⟨it,h1,h2⟩:=List.mem_flatMap.mp hn
 obtain ⟨i,h3⟩:=List.mem_iff_getElem?.mp h1
 cases it with
 | mode a c =>
  have e:n = a:=List.mem_singleton.mp h2
  rw [e]
  exact (G.mode i a c h3).1
 | rule R=>cases h2
theorem nF {its:List Item} (G:dY its) {i:Nat} {it:Item} (h:its[i]? = some it):(∀ x ∈ it.words (namesOf its),iw x) /\ it.words (namesOf its) ≠ [] /\ (it.words (namesOf its)).length <= 7:=by
 cases it with
 | mode n c =>
  obtain ⟨h1,h2,_⟩:=G.mode i n c h
  refine ⟨λx hx=>?_,by simp [Item.words],by simp [Item.words]⟩
  simp only [Item.words,List.mem_cons,List.not_mem_nil,or_false] at hx
  rcases hx with e | e | e
  ·rw [e];exact ⟨by decide +kernel,by decide +kernel,by decide +kernel⟩
  ·rw [e];exact je h1
  ·rw [e];exact je h2
 | rule R =>
  obtain ⟨h1,_⟩:=G.rule i R h
  have hl:=AR (names:=namesOf its) (R:=R)
  exact ⟨xQ (oQ G) h1,λz=>by simp only [Item.words] at z;rw [z] at hl;simp at hl,hl.2⟩
theorem qv {c d:Nat} (hcd:d ≠ c):∀ {ps:List (List Nat)},(∀ p ∈ ps,d ∉ p) -> d ∉ eY c ps
 | [],_,z=>by cases z
 | [x],h,z=>h x (by simp) z
 | x :: y :: r,h,z=>by
  unfold eY at z
  rcases List.mem_append.mp z with z | z
  ·exact h x (by simp) z
  ·rcases List.mem_cons.mp z with z | z
   ·exact hcd z
   ·exact qv hcd (λp hp=>h p (List.mem_cons_of_mem _ hp)) z
theorem kL {c m:Nat}:∀ {ps:List (List Nat)},(∀ p ∈ ps,p.length <= m) -> (eY c ps).length <= ps.length * (m + 1)
 | [],_=>by simp [eY]
 | [x],h=>by have:=h x (by simp);simp [eY];omega
 | x :: y :: r,h=>by
  have h1:=h x (by simp)
  have h2:=kL (c:=c) (ps:=y :: r) (λp hp=>h p (List.mem_cons_of_mem _ hp))
  unfold eY
  rw [List.length_append,List.length_cons,List.length_cons,Nat.succ_mul]
  omega
theorem jS {its:List Item} (G:dY its) {i:Nat} {it:Item} (h:its[i]? = some it):10 ∉ (rowOf (namesOf its) it).cps.toList /\ (rowOf (namesOf its) it).length <= 1421 /\ PySem.Txt.split (rowOf (namesOf its) it) ⟨#[32]⟩ = it.words (namesOf its):=by
 obtain ⟨h1,h2,h3⟩:=nF G h
 refine ⟨?_,?_,jE h2 λp hp=>(h1 p hp).b⟩
 ·unfold rowOf
  rw [gB]
  refine qv (by decide) λp hp=>?_
  obtain ⟨x,hx,rfl⟩:=List.mem_map.mp hp
  exact (h1 x hx).n
 ·have h4:=kL (c:=32) (m:=202) (ps:=(it.words (namesOf its)).map λp=>p.cps.toList) (λp hp=>by
   obtain ⟨x,hx,rfl⟩:=List.mem_map.mp hp
   rw [aU];exact (h1 x hx).l)
  rw [← gB,aU,List.length_map] at h4
  unfold rowOf
  omega
def rowsOf (its:List Item):List Str:=its.map (rowOf (namesOf its))
theorem mU {its:List Item} {i:Nat} {x:Str} (h:(rowsOf its)[i]? = some x):∃ it,its[i]? = some it /\ x = rowOf (namesOf its) it:=by
 unfold rowsOf at h
 rw [List.getElem?_map] at h
 obtain ⟨it,h1,h2⟩:=Option.map_eq_some_iff.mp h
 exact ⟨it,h1,h2.symm⟩
theorem xE {its:List Item} (G:dY its):PySem.Txt.split (Str.join ⟨#[10]⟩ (rowsOf its)) ⟨#[10]⟩ = rowsOf its:=by
 refine jE (by unfold rowsOf;simpa using G.ne) λp hp=>?_
 obtain ⟨i,h⟩:=List.mem_iff_getElem?.mp hp
 obtain ⟨it,h1,rfl⟩:=mU h
 exact (jS G h1).1
theorem text_len {its:List Item} (G:dY its) (hl:its.length <= 200):(Str.join ⟨#[10]⟩ (rowsOf its)).length <= 300000:=by
 have h4:=kL (c:=10) (m:=1421) (ps:=(rowsOf its).map λp=>p.cps.toList) (λp hp=>by
  obtain ⟨x,hx,rfl⟩:=List.mem_map.mp hp
  obtain ⟨i,h⟩:=List.mem_iff_getElem?.mp hx
  obtain ⟨it,h1,rfl⟩:=mU h
  rw [aU];exact (jS G h1).2.1)
 rw [← gB,aU,List.length_map,rowsOf,List.length_map] at h4
 unfold rowsOf
 omega
structure Nums (names:List Str) (kvs:List (Key × V)):Prop where
 has:numsOf names kvs
 not:∀ n,n ∉ names -> gA kvs (.inr n) = none
 len:kvs.length = names.length
theorem Nums.nil:Nums [] []:=⟨λg n h=>by simp at h,λ_ _=>rfl,rfl⟩
theorem Nums.put {names:List Str} {kvs:List (Key × V)} {n:Str} (N:Nums names kvs) (h:n ∉ names):Nums (names ++ [n]) (putK kvs (.inr n) (.int names.length)):=by
 refine ⟨λg m e=>?_,λm hm=>?_,?_⟩
 ·rw [sP]
  rcases cL e with e | ⟨e1,e2⟩
  ·have:m ≠ n:=λz=>h (z ▸ List.mem_of_getElem? e)
   rw [if_neg (λz=>this (Sum.inr.inj z))]
   exact N.has g m e
  ·rw [e2,if_pos rfl,e1]
 ·rw [sP,if_neg (λz=>hm (by rw [Sum.inr.inj z];simp))]
  exact N.not m λz=>hm (List.mem_append_left _ z)
 ·unfold putK
  rw [iU,N.not n h,if_neg (by decide),List.length_append,List.length_append,N.len]
  rfl
def G3:Sp:=λvs H Q _=>∃ (a:Addr) (its:List Item),vs = [.ref a] /\ H a = some (.lst ((rowsOf its).map V.str)) /\ dY its /\ its.length <= 200 /\
 ∀ d kvs H',H' d = some (.dK kvs) -> Nums (namesOf its) kvs -> ak H H' -> Q (.ref d) H'
theorem o6 {names:List Str} {R:bx} (G:g7 names R):∃ x r,dF names R = x :: r /\ x ≠ "mode" := by
 unfold dF cW
 split
 ·exact ⟨R.sort,_,rfl,(jg G.pat.sort).2⟩
 ·exact ⟨R.sort,_,rfl,(jg G.pat.sort).2⟩
theorem Hx (T:Txt K mg t):bC P w K mg base dh 1 t.p9 t.tG ["rows"] G3:=by
 refine T.uV.ok r9 ?_ ?_
 walk_at "i"
 ·obtain ⟨a,its,rfl,ha,G,hlen,q⟩:=h
  have sp1:(" " : Str) = ⟨#[32]⟩:=by decide +kernel
  refine @aq _ _ _ _ _ _ _ (aE (i:=1) r9.nd rfl (Or.inl rfl) BK) λd hd=>?_
  refine @aM _ _ _ _ _ _ _ (λσ' H'=>∃ x y kvs,σ' = [some (.ref a),some (.ref d),x,y] /\ H' d = some (.dK kvs) /\ Nums (namesOf its) kvs /\ ak H H') (dZ PassesOwn.never rfl (dX (pv 0)) (b9 (i:=2) r9.nd rfl (Or.inl rfl)) av) ?_ ?_
  ·refine ⟨_,rfl,a,rfl,⟨_,bu.of (by rw [ao (aj ha hd)];exact ha)⟩,fM (xs:=(rowsOf its).map V.str) (λi σ' H'=>∃ x y kvs,σ' = [some (.ref a),some (.ref d),x,y] /\ H' d = some (.dK kvs) /\ Nums (namesOf (its.take i)) kvs /\ ak H H') ⟨_,_,[],rfl,af,Nums.nil,ak.upd hd⟩ ?_ ?_ ?_⟩
   ·rintro i σ' H' _ ⟨x,y,kvs,rfl,h1,h2,h3⟩
    exact bu.of (h3 _ _ ha)
   ·rintro i xv σ' H1 hx ⟨x,y,kvs,rfl,h1,h2,s1⟩
    rw [List.getElem?_map] at hx
    obtain ⟨row,hrow,rfl⟩:=Option.map_eq_some_iff.mp hx
    obtain ⟨it,hit,rfl⟩:=mU hrow
    obtain ⟨g1,g2,g3⟩:=jS G hit
    refine @aq _ _ _ _ _ _ _ (aE (i:=3) r9.nd rfl (Or.inl rfl) (e9 F.plainAttrs_str F.slot_str_split F.type_str_split kF (pv 2) (aa aG ai))) ⟨_,rfl,rfl,_,_,rfl,rfl,by decide,bY (by omega),λlw hlw=>?_⟩
    rw [sp1,g3]
    have s2:ak H1 (upd H1 lw (.lst ((it.words (namesOf its)).map V.str))):=ak.upd hlw
    have hw:upd H1 lw (.lst ((it.words (namesOf its)).map V.str)) lw = some (.lst ((it.words (namesOf its)).map V.str)):=af
    have hd2:=s2 _ _ h1
    generalize upd H1 lw (.lst ((it.words (namesOf its)).map V.str)) = H2 at s2 hw hd2
    cases it with
    | mode n c =>
     obtain ⟨m1,m2,m3,m4⟩:=G.mode i n c hit
     refine @au _ _ _ _ _ _ (bB (PW.pt (fD (aA cA (aS aW (pv 3) az (λ_ _=>rfl)) aG (aF _)) (eO (aA ia (aQ aV (by rfl) T.bN (by decide +kernel) (aa (pv 3) ai)) az (aF _))))) av av) ⟨_,rfl,_,_,_,_,rfl,rfl,bu.of hw,bq (j:=0) rfl,rfl,_,rfl,dG (λ_=>?_) (λh=>absurd rfl h)⟩
     refine ⟨_,rfl,_,_,rfl,.inl (bu.of hw),_,_,rfl,rfl,_,rfl,dG (λ_=>?_) (λh=>absurd (by simp [Item.words]) h)⟩
     refine @au _ _ _ _ _ _ (E2 (mD hr) (pv 1) (aS aW (pv 3) az (λ_ _=>rfl)) (aQ Ag (by rfl) T.bN (by decide +kernel) (aa (pv 1) ai)) rfl) ⟨_,rfl,d,kvs,rfl,hd2,_,rfl,_,rfl,_,_,_,_,rfl,rfl,bu.of hw,bq (j:=1) rfl,d,_,rfl,DL.k (k:=.inr n) hd2 ?_,?_⟩
     ·rw [h2.len];exact fG (by omega)
     ·refine ⟨_,_,_,rfl,af,?_,λb o hb=>?_⟩
      ·rw [take_snoc hit,lH,h2.len]
       exact h2.put m4
      ·rw [ao (aj hb hd)];exact s2 _ _ (s1 _ _ hb)
    | rule R =>
     obtain ⟨r1,_⟩:=G.rule i R hit
     obtain ⟨fw,fr,e1,e2⟩:=o6 r1
     have hw':H2 lw = some (.lst (V.str fw :: fr.map V.str)):=by rw [hw];simp only [Item.words];rw [e1];rfl
     refine @au _ _ _ _ _ _ (bB (PW.pt (fD (aA cA (aS aW (pv 3) az (λ_ _=>rfl)) aG (aF _)) (eO (aA ia (aQ aV (by rfl) T.bN (by decide +kernel) (aa (pv 3) ai)) az (aF _))))) av av) ⟨_,rfl,_,_,_,_,rfl,rfl,bu.of hw',bq (j:=0) rfl,rfl,_,rfl,dG (λh=>absurd (V.str.inj h) e2) (λ_=>bg ?_)⟩
     refine ⟨_,_,kvs,rfl,hd2,?_,s1.trans s2⟩
     rw [take_snoc hit,lH]
     show Nums (namesOf (its.take i) ++ []) kvs
     rw [List.append_nil]
     exact h2
   ·rintro σ' H' ⟨x,y,kvs,rfl,h1,h2,h3⟩
    refine ⟨x,y,kvs,rfl,h1,?_,h3⟩
    rw [List.length_map,rowsOf,List.length_map,List.take_length] at h2
    exact h2
  rintro σ' H' ⟨x,y,kvs,rfl,h1,h2,h3⟩
  exact @au _ _ _ _ _ _ (aI (pv 1)) ⟨_,rfl,q d kvs H' h1 h2 h3⟩
def BU (t:fE):Sp:=λvs H Q _=>∃ (p dx lw lm:Addr) (row:Int) (n c:Str) (as ls:List Addr) (ms:List aN),vs = [.ref p,.ref lm] /\ jP t H p dx lw row ["mode",n,c] 0 /\ isName n = true /\ isName c = true /\ H lm = some (.lst (as.map V.ref)) /\ cj t H as ls ms /\ ms.length < 12 /\ n ∉ ms.map (·.name) /\
 ∀ m l2 dm H',H' m = some (.ins t.bP dm (mf ⟨n,c,[]⟩ l2)) -> H' l2 = some (.lst []) -> H l2 = none -> gy H H' p -> Q (.ref m) H'
theorem Fo {H:Hp} {m dm l p dx lw:Addr} {M:aN} {row:Int} {ws:List Str} {i:Nat} (h:H m = some (.ins t.bP dm (mf M l))) (C:jP t H p dx lw row ws i):m ≠ p:=cB h C.ob λq=>by
 injection q with _ _ q
 unfold mf cf at q
 simp at q
theorem Jw (T:Txt K mg t):bC P w K mg base dh 5 t.n9 t.uR ["cursor","modes"] (BU t):=by
 refine T.sO.ok yh ?_ ?_
 walk_at "i"
 ·obtain ⟨p,dx,lw,lm,row,n,c,as,ls,ms,rfl,C,hn,hc,hlm,hM,hl12,hnn,q⟩:=h
  have nlp:lm ≠ p:=cB hlm C.ob (by intro z;cases z)
  refine @aq _ _ _ _ _ _ _ (bH (br (pv 0) T.aP T.zS (qN T) (hr.mono (by decide)) (T.qh.binds (by walk_at "2")) .nil aH (aa (fC fF (aQ aV (by rfl) T.bN (by decide +kernel) (aa (pv 1) ai)) (fm rfl T.nA) (aF _)) ai))) ⟨_,rfl,p,dx,_,rfl,C.ob,rfl,_,rfl,_,_,rfl,.inl (bu.of hlm),_,_,rfl,rfl,?_⟩
  dsimp only
  rw [decide_eq_true (by rw [List.length_map,hM.la];omega)]
  refine ⟨_,rfl,?_⟩
  refine @aq _ _ _ _ _ _ _ (bH (br (pv 0) T.aP T.EI (yV T) (hr.mono (by decide)) (T.sY.binds (by walk_at "2")) .nil aH (aa (cD (aa aG ai)) ai))) ⟨_,rfl,p,dx,_,rfl,C.ob,rfl,by show 1 <= sizeLine;decide,λpt hpt=>?_⟩
  have s1:ak H (upd H pt (.tup [.str "mode"])):=ak.upd hpt
  have C1:=C.same s1
  refine ⟨p,dx,lw,pt,["mode"],row,_,0,rfl,C1,gh.of af,List.mem_singleton.mpr rfl,λH2 C2 a2=>?_⟩
  have a2:=s1.Fw a2
  have hlm2:H2 lm = some (.lst (as.map V.ref)):=a2 _ _ hlm nlp
  refine @aq _ _ _ _ _ _ _ (@bH _ _ _ _ (@br _ _ _ _ _ _ _ _ _ _ _ _ _ _ _ _ _ _ _ _ (pv 0) T.aP T.zS (qN T) (hr.mono (by decide)) (T.qh.binds (by walk_at "2")) .nil aH (@aa _ _ _ _ _ (@fC _ _ _ _ _ _ _ _ sj (@b7 _ _ _ _ _ _ _ _ _ _ _ _ _ _ _ _ _ (pv 0) T.aP T.yc (ou T) (hr.mono (by decide)) (T.oB.binds (by walk_at "1")) .nil aH (by left)) (@iD _ (ay zw) _ ["cursor","modes","name","colour"] _ _ ("mode") _ _ [] _ _ (by walk_at "ck") (@dX _ _ _ _ (pv 1)) (λ_ _ _ _=>by exact (@m8 _ K _ _ _ _ (pv 0) rfl (by left))) (by left) (by left) (by left) (by left)) rfl) ai (by left)) (by left) (by left) (by left)) (by left)) ?_
  refine ⟨_,rfl,p,dx,_,rfl,C2.ob,rfl,⟨_,rfl,p,dx,_,rfl,C2.ob,rfl,p,dx,lw,row,_,0 + 1,rfl,C2,?_⟩⟩
  refine ⟨_,rfl,lm,rfl,⟨_,bu.of hlm2⟩,gp (xs:=as.map V.ref) (λi ys H'=>H' = H2 /\ ys = ((ms.map (·.name)).take i).map V.str) ⟨rfl,rfl⟩ (fG (by rw [List.length_map,hM.la];omega)) ?_ ?_ ?_⟩
  ·rintro i ys H' _ ⟨rfl,_⟩
   exact bu.of hlm2
  ·rintro i xv ys H' hx hyl ⟨rfl,rfl⟩
   rw [List.getElem?_map] at hx
   obtain ⟨a,ha,rfl⟩:=Option.map_eq_some_iff.mp hx
   have hi:i < as.length:=(List.getElem?_eq_some_iff.mp ha).1
   obtain ⟨m,hm⟩:∃ m,ms[i]? = some m:=⟨ms[i]'(by rw [← hM.la];exact hi),List.getElem?_eq_getElem _⟩
   obtain ⟨l,hll⟩:∃ l,ls[i]? = some l:=⟨ls[i]'(by rw [hM.ll,← hM.la];exact hi),List.getElem?_eq_getElem _⟩
   obtain ⟨dm,rs,o1,o2,o3⟩:=hM.ob i a l m ha hll hm
   refine ⟨_,rfl,a,t.bP,dm,_,_,rfl,a2 _ _ o1 (Fo o1 C),T.d7,T.e7,rfl,?_⟩
   refine fh (by rw [List.length_map];exact hi) hyl ⟨rfl,?_⟩
   rw [take_snoc (l:=ms.map (·.name)) (x:=m.name) (by rw [List.getElem?_map,hm];rfl),List.map_append]
   rfl
  ·rintro ys H' hyl ⟨rfl,rfl⟩ D hD
   have hall:(ms.map (·.name)).take (as.map V.ref).length = ms.map (·.name):=List.take_of_length_le (by rw [List.length_map,List.length_map,hM.la];omega)
   rw [hall]
   have s3:ak H' (upd H' D (.lst ((ms.map (·.name)).map V.str))):=ak.upd hD
   have C3:=C2.same s3
   refine ⟨D,_,rfl,.inl (bu.of af),rfl,q8,?_⟩
   rw [if_pos rfl,pJ,decide_eq_false (p:=pk ["mode",n,c] (0 + 1) ∈ ms.map (·.name)) hnn]
   refine ⟨_,rfl,?_⟩
   refine @aq _ _ _ _ _ _ _ (aE (i:=2) yh.nd rfl (Or.inl rfl) (b7 (pv 0) T.aP T.EN (yw T) (hr.mono (by decide)) (T.wC.binds (by walk_at "1")) .nil aH)) ⟨_,rfl,p,dx,_,rfl,C3.ob,rfl,p,dx,lw,row,_,0 + 1,rfl,C3,hn,λH4 C4 a4=>?_⟩
   refine @aq _ _ _ _ _ _ _ (aE (i:=3) yh.nd rfl (Or.inl rfl) (b7 (pv 0) T.aP T.EN (yw T) (hr.mono (by decide)) (T.wC.binds (by walk_at "1")) .nil aH)) ⟨_,rfl,p,dx,_,rfl,C4.ob,rfl,p,dx,lw,row,_,0 + 1 + 1,rfl,C4,hc,λH5 C5 a5=>?_⟩
   have a5:=(a2.same s3).trans (a4.trans a5)
   refine @aq _ _ _ _ _ _ _ (bH (br (pv 0) T.aP T.zS (qN T) (hr.mono (by decide)) (T.qh.binds (by walk_at "2")) .nil aH (aa (Bu (b7 (pv 0) T.aP T.E3 (zp T) (hr.mono (by decide)) (T.uh.binds (by walk_at "1")) .nil aH)) ai))) ⟨_,rfl,p,dx,_,rfl,C5.ob,rfl,⟨_,rfl,p,dx,_,rfl,C5.ob,rfl,p,dx,lw,row,_,0 + 1 + 1 + 1,rfl,C5,_,rfl,?_⟩⟩
   refine ⟨_,rfl,?_⟩
   refine @au _ _ _ _ _ _ (aI (dH T.mV (B5 T) (hr.mono (by decide)) rfl T.wK (T.vj.binds (by walk_at "4")) .nil aH (aa (pv 2) (aa (pv 3) (aa (bG ai) ai))))) ⟨_,rfl,_,rfl,by show 0 <= sizeLine;decide,λl1 hl1=>?_⟩
   intro x dm nx ndm ne
   have nl1:l1 ≠ x:=aj af nx
   have nl2:l1 ≠ dm:=aj af ndm
   refine ⟨x,dm,l1,n,c,[],rfl,af,by rw [ao nl1,ao nl2];exact af,λl2 H6 h1 h2 h3 h4=>⟨rfl,?_⟩⟩
   have key:∀ b o,H5 b = some o -> b ≠ x /\ b ≠ dm /\ b ≠ l1:=λb o hb=>by
    have e1:b ≠ l1:=aj hb hl1
    have hb':upd H5 l1 (.lst []) b = some o:=by rw [ao e1];exact hb
    exact ⟨aj hb' nx,aj hb' ndm,e1⟩
   have hadv:∀ b o,H5 b = some o -> H6 b = some o:=λb o hb=>by
    obtain ⟨k1,k2,k3⟩:=key b o hb
    refine h4 b o ?_ k1
    rw [ao k1,ao k2,ao k3];exact hb
   refine q x l2 dm H6 h2 h3 ?_ λb o hb nb=>hadv b o (a5 b o hb nb)
   cases e:H l2 with
   | none=>rfl
   | some o =>
    by_cases z:l2 = p
    ·have h5:=hadv p _ C5.ob
     rw [z,h5] at h3
     cases h3
    ·have h5:=a5 _ _ e z
     obtain ⟨k1,k2,k3⟩:=key _ _ h5
     rw [ao k1,ao k2,ao k3,h5] at h1
     cases h1
def JX (t:fE):Sp:=λvs H Q _=>∃ (its:List Item),vs = [.str (Str.join ⟨#[10]⟩ (rowsOf its))] /\ dY its /\ its.length <= 200 /\ ∀ a H',IsRules t H' a (foldI its) -> ak H H' -> Q (.ref a) H'
theorem qE (its:List Item):(foldI its).length = (namesOf its).length:=by rw [← pI,List.length_map]
theorem gy.fresh {H H1 H2:Hp} {p:Addr} (s:ak H H1) (h:H p = none) (a:gy H1 H2 p):ak H H2:=λb o hb=>a b o (s b o hb) (aj hb h)
theorem cR.jA {H:Hp} {r l:Addr} {R:bx} {xs:List V} {o:HO} (h:cR t H r R) (hl:H l = some (.lst xs)):cR t (upd H l o) r R:=by
 obtain ⟨dx,p,x,⟨dp,y⟩⟩:=h
 exact ⟨dx,p,by rw [ao (cB x hl (by intro z;cases z))];exact x,dp,by rw [ao (cB y hl (by intro z;cases z))];exact y⟩
theorem cj.jA {H:Hp} {as ls:List Addr} {ms:List aN} {l:Addr} {xs:List V} {o:HO} (h:cj t H as ls ms) (hl:H l = some (.lst xs)) (hn:l ∉ ls):cj t (upd H l o) as ls ms :=
 ⟨h.la,h.ll,h.nd,λi a l' m h1 h2 h3=>by
  obtain ⟨dx,rs,x,y,z⟩:=h.ob i a l' m h1 h2 h3
  exact ⟨dx,rs,by rw [ao (cB x hl (by intro z;cases z))];exact x,by rw [ao (show l' ≠ l from λe=>hn (e ▸ List.mem_of_getElem? h2))];exact y,z.mono λ_ _ r=>r.jA hl⟩⟩
theorem cj.alive {H:Hp} {as ls:List Addr} {ms:List aN} (h:cj t H as ls ms) {l:Addr} (hl:l ∈ ls):∃ xs,H l = some (.lst xs):=by
 obtain ⟨i,e⟩:=List.mem_iff_getElem?.mp hl
 have hi:=(List.getElem?_eq_some_iff.mp e).1
 obtain ⟨dx,rs,x,y,z⟩:=h.ob i _ l _ (List.getElem?_eq_getElem (by rw [h.la,← h.ll];exact hi)) e (List.getElem?_eq_getElem (by rw [← h.ll];exact hi))
 exact ⟨_,y⟩
theorem cj.MC {H:Hp} {as ls:List Addr} {ms:List aN} {m l dm:Addr} {n c:Str} (h:cj t H as ls ms) (hm:H m = some (.ins t.bP dm (mf ⟨n,c,[]⟩ l))) (hl:H l = some (.lst [])) (hn:l ∉ ls):cj t H (as ++ [m]) (ls ++ [l]) (ms ++ [⟨n,c,[]⟩]):=by
 refine ⟨by simp [h.la],by simp [h.ll],?_,λi a l' m' h1 h2 h3=>?_⟩
 ·refine List.nodup_append.mpr ⟨h.nd,by simp,λa ha b hb=>?_⟩
  rw [List.mem_singleton.mp hb]
  exact λe=>hn (e ▸ ha)
 ·have e1:=h.la
  have e2:=h.ll
  rcases cL h1 with h1 | ⟨i1,rfl⟩
  ·have:=(List.getElem?_eq_some_iff.mp h1).1
   rcases cL h2 with h2 | ⟨i2,rfl⟩
   ·rcases cL h3 with h3 | ⟨i3,rfl⟩
    ·exact h.ob i a l' m' h1 h2 h3
    ·omega
   ·omega
  ·rcases cL h2 with h2 | ⟨i2,rfl⟩
   ·have:=(List.getElem?_eq_some_iff.mp h2).1;omega
   ·rcases cL h3 with h3 | ⟨i3,rfl⟩
    ·have:=(List.getElem?_eq_some_iff.mp h3).1;omega
    ·exact ⟨dm,[],hm,hl,bw.nil⟩
theorem Ck {l:List Addr} (h:l.Nodup) {i j:Nat} {a:Addr} (h1:l[i]? = some a) (h2:l[j]? = some a):i = j:=by
 obtain ⟨i1,e1⟩:=List.getElem?_eq_some_iff.mp h1
 obtain ⟨j1,e2⟩:=List.getElem?_eq_some_iff.mp h2
 exact (List.getElem_inj h).mp (e1.trans e2.symm)
theorem cj.L3 {H:Hp} {as ls:List Addr} {ms:List aN} {m:aN} {l r:Addr} {rs:List Addr} {R:bx} (h:cj t H as ls (ms ++ [m])) (hl:ls[ms.length]? = some l) (hH:H l = some (.lst (rs.map V.ref))) (hA:bw (cR t H) rs m.rules) (hr:cR t H r R) :
  cj t (upd H l (.lst (rs.map V.ref ++ [.ref r]))) as ls (ms ++ [{ m with rules:=m.rules ++ [R] }]):=by
 refine ⟨by rw [h.la];simp,by rw [h.ll];simp,h.nd,λi a l' m' h1 h2 h3=>?_⟩
 rcases cL h3 with h3 | ⟨i3,rfl⟩
 ·have hi:=(List.getElem?_eq_some_iff.mp h3).1
  obtain ⟨dx,rs',x,y,z⟩:=h.ob i a l' m' h1 h2 (by rw [List.getElem?_append_left hi];exact h3)
  refine ⟨dx,rs',by rw [ao (cB x hH (by intro z;cases z))];exact x,?_,z.mono λ_ _ r=>r.jA hH⟩
  rw [ao (λe=>?_)]
  ·exact y
  ·subst e
   have:=Ck h.nd h2 hl
   omega
 ·subst i3
  rw [hl] at h2
  cases h2
  obtain ⟨dx,rs',x,y,z⟩:=h.ob _ a l m h1 hl (by simp)
  refine ⟨dx,rs ++ [r],by rw [ao (cB x hH (by intro z;cases z))];exact x,by rw [af,List.map_append];rfl,?_⟩
  exact bw.snoc (hA.mono λ_ _ r=>r.jA hH) (hr.jA hH)
theorem q9 {α β:Type} {f:α -> β} {as:List α} {k:Nat} {a:α} (hl:as.length = k + 1) (h:as[k]? = some a):we (as.map f) (-1) = some (f a):=by
 unfold we Ac
 rw [List.length_map,hl]
 have e:((-1:Int) + ((k + 1:Nat):Int)).toNat = k:=by omega
 first
  | (rw [if_neg (by omega),if_pos (by omega)];simp only [Option.bind_some];rw [show (((k + 1:Nat):Int) + (-1:Int)).toNat = k by omega,List.getElem?_map,h];rfl)
  | (rw [if_neg (by omega),if_pos (by omega)];simp only [Option.bind_some];rw [e,List.getElem?_map,h];rfl)
theorem JT (T:Txt K mg t):bC P w K mg base dh 7 t.pY t.tM ["text"] (JX t):=by
 refine T.uT.ok iB ?_ ?_
 walk_at "i"
 ·obtain ⟨its,rfl,G,hlen,q⟩:=h
  have nl1:("\n" : Str) = ⟨#[10]⟩:=by decide +kernel
  refine @aq _ _ _ _ _ _ _ (aE (i:=1) iB.nd rfl (Or.inl rfl) (e9 F.plainAttrs_str F.slot_str_split F.type_str_split kF (pv 0) (aa aG ai))) ⟨_,rfl,rfl,_,_,rfl,rfl,by decide,bY (by have:=text_len G hlen;omega),λlr hlr=>?_⟩
  rw [nl1,xE G]
  have s1:ak H (upd H lr (.lst ((rowsOf its).map V.str))):=ak.upd hlr
  have hr1:upd H lr (.lst ((rowsOf its).map V.str)) lr = some (.lst ((rowsOf its).map V.str)):=af
  generalize upd H lr (.lst ((rowsOf its).map V.str)) = H1 at s1 hr1
  refine @aq _ _ _ _ _ _ _ (aE (i:=2) iB.nd rfl (Or.inl rfl) (aZ (Hx T) (hr.mono (by decide)) rfl T.J1 T.uV.kp (T.uV.binds (by walk_at "1")) .nil aH (aa (pv 1) ai))) ⟨_,rfl,lr,its,rfl,hr1,G,hlen,λd kvs H2 hd2 hN s2=>?_⟩
  have hr2:=s2 _ _ hr1
  have s2:=s1.trans s2
  refine @aq _ _ _ _ _ _ _ (aE (i:=3) iB.nd rfl (Or.inl rfl) (bG ai)) ⟨by show 0 <= sizeLine;decide,λlm hlm=>?_⟩
  have s3:ak H2 (upd H2 lm (.lst [])):=ak.upd hlm
  have hm3:upd H2 lm (.lst []) lm = some (.lst []):=af
  generalize upd H2 lm (.lst []) = H3 at s3 hm3
  have hlm0:H lm = none:=s2.free hlm
  have hr3:=s3 _ _ hr2
  have hd3:=s3 _ _ hd2
  have s3:=s2.trans s3
  refine @aq _ _ _ _ _ _ _ (aE (i:=4) iB.nd rfl (Or.inl rfl) (bG ai)) ⟨by show 0 <= sizeLine;decide,λnw hnw=>?_⟩
  have s4:ak H3 (upd H3 nw (.lst [])):=ak.upd hnw
  have hw4:upd H3 nw (.lst []) nw = some (.lst []):=af
  generalize upd H3 nw (.lst []) = H4 at s4 hw4
  have hr4:=s4 _ _ hr3
  have hd4:=s4 _ _ hd3
  have hm4:=s4 _ _ hm3
  have nmw:lm ≠ nw:=aj hm3 hnw
  have s4:=s3.trans s4
  have nlr:lr ≠ lm:=aj hr2 hlm
  have nlrw:lr ≠ nw:=aj hr3 hnw
  refine @aM _ _ _ _ _ _ _ (λσ' H'=>∃ x5 x6 x7 x8 as ls,σ' = [some (.str (Str.join ⟨#[10]⟩ (rowsOf its))),some (.ref lr),some (.ref d),some (.ref lm),some (.ref nw),x5,x6,x7,x8] /\ H' lm = some (.lst (as.map V.ref)) /\ H' nw = some (.lst []) /\ cj t H' as ls (foldI its) /\ ak H H') (dZ PassesOwn.never rfl (zq rfl T.gM (aa (pv 1) ai)) (sI rfl (dQ (b9 (i:=5) iB.nd rfl (Or.inl rfl)) (dQ (b9 (i:=6) iB.nd rfl (Or.inl rfl)) mS))) av) ?_ ?_
  ·refine ⟨_,rfl,lr,_,rfl,bu.of hr4,qM (xs:=(rowsOf its).map V.str) (λi σ' H'=>∃ x5 x6 x7 x8 as ls,σ' = [some (.str (Str.join ⟨#[10]⟩ (rowsOf its))),some (.ref lr),some (.ref d),some (.ref lm),some (.ref nw),x5,x6,x7,x8] /\ H' lm = some (.lst (as.map V.ref)) /\ H' nw = some (.lst []) /\ H' lr = some (.lst ((rowsOf its).map V.str)) /\ H' d = some (.dK kvs) /\ cj t H' as ls (foldI (its.take i)) /\ lm ∉ ls /\ nw ∉ ls /\ lr ∉ ls /\ (∀ l ∈ ls,H l = none) /\ ak H H') ?_ ?_ ?_ ?_⟩
   ·exact ⟨_,_,_,_,[],[],rfl,hm4,hw4,hr4,hd4,⟨rfl,rfl,List.nodup_nil,λi a l m h=>by simp at h⟩,by simp,by simp,by simp,by simp,s4⟩
   ·rintro i σ' H' _ ⟨x5,x6,x7,x8,as,ls,rfl,h1,h2,h3,_⟩
    exact bu.of h3
   ·rintro i xv pt σ' H5 hx hpt ⟨x5,x6,x7,x8,as,ls,rfl,hm5,hw5,hr5,hd5,hM,nl1',nl2',nl3',hfr,s5⟩
    rw [List.getElem?_map] at hx
    obtain ⟨row,hrow,rfl⟩:=Option.map_eq_some_iff.mp hx
    obtain ⟨it,hit,rfl⟩:=mU hrow
    obtain ⟨g1,g2,g3⟩:=jS G hit
    obtain ⟨w1,w2,w3⟩:=nF G hit
    have s6:ak H5 (upd H5 pt (.tup [.int i,.str (rowOf (namesOf its) it)])):=ak.upd hpt
    refine ⟨pt,[.int i,.str (rowOf (namesOf its) it)],rfl,gh.of af,rfl,_,_,rfl,_,_,rfl,rfl,?_⟩
    generalize upd H5 pt (.tup [.int i,.str (rowOf (namesOf its) it)]) = H6 at s6
    refine @aq _ _ _ _ _ _ _ (aE (i:=7) iB.nd rfl (Or.inl rfl) (dH T.k7 (KY T) (hr.mono (by decide)) rfl T.xj (T.Em.binds (by walk_at "3")) .nil aH (aa (pv 5) (aa (pv 6) ai)))) ⟨_,rfl,_,rfl,λp dx np ndx ne=>⟨p,dx,i,_,rfl,af,by omega,by rw [g3];omega,λlw H7 hlw C7 a7=>⟨rfl,?_⟩⟩⟩
    rw [g3] at C7
    have s7:ak H5 H7:=λb o hb=>a7 b o (by rw [ao (aj (s6 _ _ hb) np),ao (aj (s6 _ _ hb) ndx)];exact s6 _ _ hb) (aj (s6 _ _ hb) np)
    have hp5:H5 p = none:=s6.free np
    have hm7:=s7 _ _ hm5
    have hM7:=hM.same s7
    have hml:as.length = (foldI (its.take i)).length:=hM.la
    cases it with
    | mode n c =>
     obtain ⟨m1,m2,m3,m4⟩:=G.mode i n c hit
     refine @au _ _ _ _ _ _ (bB (PW.pt (g8 (jI (ie (pv 3) (λ_=>rfl))) (gv (aA cA (b7 (pv 7) T.aP T.yc (ou T) (hr.mono (by decide)) (T.oB.binds (by walk_at "1")) .nil aH) aG (aF _))))) av av) ⟨_,rfl,_,.inl ⟨_,bu.of hm7,rfl⟩,?_⟩
     refine (λhb=>LQ (λ_=>Ep hb) (λ_=>⟨_,rfl,p,dx,_,rfl,C7.ob,rfl,p,dx,lw,i,_,0,rfl,C7,rfl,_,rfl,dG (λ_=>hb) (λh=>absurd rfl h)⟩)) ?_
     refine @au _ _ _ _ _ _ (bH (e9 F.plainAttrs_list F.slot_list_append F.type_list_append c8 (pv 3) (aa (aZ (Jw T) (hr.mono (by decide)) rfl T.Iu T.sO.kp (T.sO.binds (by walk_at "2")) .nil aH (aa (pv 7) (aa (pv 3) ai))) ai))) ⟨_,rfl,.inl ⟨rfl,_,bu.of hm7⟩,_,rfl,_,rfl,p,dx,lw,lm,i,n,c,as,ls,_,rfl,C7,m1,m2,hm7,hM7,by rw [qE];exact m3,by rw [pI];exact m4,λm l2 dm H8 e1 e2 e3 a8=>?_⟩
     have s8:ak H5 H8:=gy.fresh s7 hp5 a8
     have hm8:=s8 _ _ hm5
     have n1:lm ≠ l2:=aj hm7 e3
     have hn2:l2 ∉ ls:=λz=>by
      obtain ⟨xs,hx⟩:=hM7.alive z
      rw [hx] at e3;cases e3
     refine ⟨lm,_,_,rfl,rfl,hm8,fG (by rw [List.length_map,hml,qE];omega),?_⟩
     refine ⟨_,_,_,_,as ++ [m],ls ++ [l2],rfl,by rw [af,List.map_append];rfl,?_,?_,?_,?_,?_,?_,?_,?_,?_⟩
     ·rw [ao (Ne.symm nmw)];exact s8 _ _ hw5
     ·rw [ao nlr];exact s8 _ _ hr5
     ·rw [ao (cB hd5 hm5 (by intro z;cases z))];exact s8 _ _ hd5
     ·rw [take_snoc hit,oX]
      exact cj.MC ((hM.same s8).jA hm8 nl1') (by rw [ao (cB e1 hm8 (by intro z;cases z))];exact e1) (by rw [ao (Ne.symm n1)];exact e2) hn2
     ·intro z
      rcases List.mem_append.mp z with z | z
      ·exact nl1' z
      ·exact n1 (List.mem_singleton.mp z)
     ·intro z
      rcases List.mem_append.mp z with z | z
      ·exact nl2' z
      ·exact aj (s7 _ _ hw5) e3 (List.mem_singleton.mp z)
     ·intro z
      rcases List.mem_append.mp z with z | z
      ·exact nl3' z
      ·exact aj (s7 _ _ hr5) e3 (List.mem_singleton.mp z)
     ·intro l hl
      rcases List.mem_append.mp hl with z | z
      ·exact hfr l z
      ·rw [List.mem_singleton.mp z];exact (s5.trans s7).free e3
     ·intro b o hb
      rw [ao (aj hb hlm0)]
      exact s8 _ _ (s5 _ _ hb)
    | rule R =>
     obtain ⟨r1,ms,m,hms,hm12⟩:=G.rule i R hit
     obtain ⟨fw,fr,f1,f2⟩:=o6 r1
     rw [hms] at hM hM7 hml
     have hk:as.length = ms.length + 1:=by rw [hml];simp
     obtain ⟨a,ha⟩:∃ a,as[ms.length]? = some a:=⟨as[ms.length]'(by omega),List.getElem?_eq_getElem _⟩
     obtain ⟨l,hl⟩:∃ l,ls[ms.length]? = some l:=⟨ls[ms.length]'(by rw [hM.ll];simp),List.getElem?_eq_getElem _⟩
     obtain ⟨dm,rs,o1,o2,o3⟩:=hM.ob ms.length a l m ha hl (by simp)
     have o1':=s7 _ _ o1
     have o2':=s7 _ _ o2
     have hrl:rs.length < 12:=by rw [o3.1];exact hm12
     have hl0:H l = none:=hfr l (List.mem_of_getElem? hl)
     have hnl:l ∈ ls:=List.mem_of_getElem? hl
     refine @au _ _ _ _ _ _ (bB (PW.pt (g8 (jI (ie (pv 3) (λ_=>rfl))) (gv (aA cA (b7 (pv 7) T.aP T.yc (ou T) (hr.mono (by decide)) (T.oB.binds (by walk_at "1")) .nil aH) aG (aF _))))) av av) ⟨_,rfl,_,.inl ⟨_,bu.of hm7,rfl⟩,LQ (λh=>?_) (λ_=>?_)⟩
     ·exfalso
      have:as ≠ []:=λz=>by rw [z] at hk;simp at hk
      cases as with
      | nil=>exact this rfl
      | cons _ _=>simp at h
     refine ⟨_,rfl,p,dx,_,rfl,C7.ob,rfl,p,dx,lw,i,_,0,rfl,C7,rfl,_,rfl,dG (λh=>?_) (λ_=>?_)⟩
     ·exfalso
      refine f2 ?_
      have h:=V.str.inj h
      simp only [Item.words,f1] at h
      exact h
     refine @aq _ _ _ _ _ _ _ (aE (i:=8) iB.nd rfl (Or.inl rfl) (aO (aS aW (pv 3) (ic fJ az) (λ_ _=>rfl)) rfl)) ⟨_,rfl,_,rfl,_,_,_,_,rfl,rfl,bu.of hm7,q9 hk ha,a,t.bP,dm,_,_,rfl,o1',T.d7,T.cU,rfl,?_⟩
     refine @aq _ _ _ _ _ _ _ (bH (br (pv 7) T.aP T.zS (qN T) (hr.mono (by decide)) (T.qh.binds (by walk_at "2")) .nil aH (aa (fC fF (aQ aV (by rfl) T.bN (by decide +kernel) (aa (pv 8) ai)) (fm rfl T.oR) (aF _)) ai))) ⟨_,rfl,p,dx,_,rfl,C7.ob,rfl,_,rfl,_,_,rfl,.inl (bu.of o2'),_,_,rfl,rfl,?_⟩
     dsimp only
     rw [decide_eq_true (by rw [List.length_map];omega)]
     refine ⟨_,rfl,?_⟩
     refine @au _ _ _ _ _ _ (bH (e9 F.plainAttrs_list F.slot_list_append F.type_list_append c8 (pv 8) (aa (aZ (Gf T) (hr.mono (by decide)) rfl T.JW T.vG.kp (T.vG.binds (by walk_at "3")) .nil aH (aa (pv 7) (aa (pv 2) (aa (pv 4) ai)))) ai))) ⟨_,rfl,.inl ⟨rfl,_,bu.of o2'⟩,_,rfl,_,rfl,_,rfl,p,dx,lw,d,_,i,_,kvs,namesOf its,R,rfl,C7,rfl,s7 _ _ hd5,hN.has,oQ G,r1,λr H8 hr8 a8=>?_⟩
     have s8:ak H5 H8:=gy.fresh s7 hp5 a8
     have o2'':=s8 _ _ o2
     refine ⟨l,_,_,rfl,rfl,o2'',fG (by rw [List.length_map];omega),?_⟩
     refine ⟨_,_,_,_,as,ls,rfl,?_,?_,?_,?_,?_,nl1',nl2',nl3',hfr,?_⟩
     ·rw [ao (show lm ≠ l from λz=>nl1' (z ▸ hnl))];exact s8 _ _ hm5
     ·rw [ao (show nw ≠ l from λz=>nl2' (z ▸ hnl))];exact s8 _ _ hw5
     ·rw [ao (show lr ≠ l from λz=>nl3' (z ▸ hnl))];exact s8 _ _ hr5
     ·rw [ao (cB hd5 o2 (by intro z;cases z))];exact s8 _ _ hd5
     ·rw [take_snoc hit,oX,hms]
      show cj _ _ _ _ (iA R (ms ++ [m]))
      rw [j6]
      exact (hM.same s8).L3 hl o2'' (o3.mono λ_ _ r=>r.same s8) hr8
     ·intro b o hb
      rw [ao (aj hb hl0)]
      exact s8 _ _ (s5 _ _ hb)
   ·rintro σ' H' ⟨x5,x6,x7,x8,as,ls,rfl,h1,h2,h3,h4,h5,_,_,_,_,h6⟩
    rw [List.length_map,rowsOf,List.length_map,List.take_length] at h5
    exact ⟨_,_,_,_,as,ls,rfl,h1,h2,h5,h6⟩
  rintro σ' H' ⟨x5,x6,x7,x8,as,ls,rfl,h1,h2,h5,h6⟩
  refine @aq _ _ _ _ _ _ _ (bB (ie (pv 4) (λ_=>rfl)) av av) ⟨_,rfl,_,.inl ⟨_,bu.of h2,rfl⟩,rR (bg ?_)⟩
  refine @au _ _ _ _ _ _ (aI (dH T.j8 (B4 T) (hr.mono (by decide)) rfl T.qO (T.t6.binds (by walk_at "2")) .nil aH (aa (pv 3) ai))) ⟨_,rfl,λx dx nx ndx ne=>⟨x,dx,lm,_,rfl,af,by rw [ao (aj h1 nx),ao (aj h1 ndx)];exact h1,λl2 H8 e1 e2 e3 e4=>⟨rfl,?_⟩⟩⟩
  have s8:ak H' H8:=λb o hb=>e4 b o (by rw [ao (aj hb nx),ao (aj hb ndx)];exact hb) (aj hb nx)
  exact q x H8 ⟨dx,l2,as,ls,e2,e3,h5.same s8⟩ (h6.trans s8)
def fq (R:bx) (row:Str) (i:Nat):Bool:=decide (fj R.sort R.signs row i ≠ .cK)
def fV (row:Str) (i:Nat):Nat -> List bx -> Option Nat
 | _,[]=>none
 | k,R :: r=>if fq R row i = true then some k else fV row i (k + 1) r
def firstM (rs:List bx) (row:Str) (i:Nat):Option Nat:=fV row i 0 rs
def GoodR (R:bx):Prop:=R.sort ∈ sorts /\ R.signs.length <= 200
def r6 (rs:List bx):Prop:=rs.length <= 200 /\ ∀ R ∈ rs,GoodR R
theorem fP {α:Type} {l:List α} {i:Nat} {x:α} (h:l[i]? = some x):l.drop i = x :: l.drop (i + 1):=by
 rw [List.drop_eq_getElem?_toList_append,h];rfl
theorem qD {row:Str} {i k:Nat} {rs:List bx} {R:bx} {n:Nat} (h:rs[n]? = some R):fV row i k (rs.drop n) = if fq R row i = true then some k else fV row i (k + 1) (rs.drop (n + 1)):=by
 rw [fP h];rfl
theorem IsRules.mode {H:Hp} {a:Addr} {ms:List aN} (h:IsRules t H a ms) {k:Nat} {m:aN} (hm:ms[k]? = some m) :
  ∃ (dx lm:Addr) (as:List Addr) (b lr dm:Addr) (rs:List Addr),H a = some (.ins t.cG dx [("modes",.ref lm)]) /\ H lm = some (.lst (as.map V.ref)) /\ as.length = ms.length /\ as[k]? = some b /\ H b = some (.ins t.bP dm (mf m lr)) /\ H lr = some (.lst (rs.map V.ref)) /\ bw (cR t H) rs m.rules:=by
 obtain ⟨dx,lm,as,ls,ha,hlm,hM⟩:=h
 have hk:=(List.getElem?_eq_some_iff.mp hm).1
 obtain ⟨b,hb⟩:∃ b,as[k]? = some b:=⟨as[k]'(by rw [hM.la];exact hk),List.getElem?_eq_getElem _⟩
 obtain ⟨lr,hlr⟩:∃ b,ls[k]? = some b:=⟨ls[k]'(by rw [hM.ll];exact hk),List.getElem?_eq_getElem _⟩
 obtain ⟨dm,rs,o1,o2,o3⟩:=hM.ob k b lr m hb hlr hm
 exact ⟨dx,lm,as,b,lr,dm,rs,ha,hlm,hM.la,hb,o1,o2,o3⟩
theorem dU {as:List Addr} {k:Nat} {b:Addr} (h:as[k]? = some b):we (as.map V.ref) ((k:Nat):Int) = some (.ref b):=bq (by rw [List.getElem?_map,h];rfl)
def En (t:fE):Sp:=λvs H Q _=>∃ (a:Addr) (ms:List aN) (m:aN) (k i:Nat) (row:Str),vs = [.ref a,.int k,.str row,.int i] /\ IsRules t H a ms /\ ms[k]? = some m /\ r6 m.rules /\ row.length <= 1000 /\ i <= row.length /\
 ∀ H',ak H H' -> Q (nW (firstM m.rules row i)) H'
theorem By (T:Txt K mg t):bC P w K mg base dh 2 t.nR t.v7 ["rules","mode","row","at"] (En t):=by
 refine T.pV.ok w9 ?_ ?_
 walk_at "i"
 ·obtain ⟨a,ms,m,k,i,row,rfl,hR,hm,hok,hrow,hi,q⟩:=h
  obtain ⟨dx,lm,as,b,lr,dm,rs,ha,hlm,hal,hb,hmo,hlr,hA⟩:=hR.mode hm
  refine @aM _ _ _ _ _ _ _ (λσ' H'=>(∃ x y,σ' = [some (.ref a),some (.int k),some (.str row),some (.int i),x,y]) /\ ak H H' /\ firstM m.rules row i = none) (dZ PassesOwn.never rfl (zq rfl T.gM (aa (aO (aS aW (aO (pv 0) rfl) (pv 1) (λ_ _=>rfl)) rfl) ai)) (sI rfl (dQ (b9 (i:=4) w9.nd rfl (Or.inl rfl)) (dQ (b9 (i:=5) w9.nd rfl (Or.inl rfl)) mS))) av) ?_ ?_
  ·refine ⟨_,rfl,_,_,_,_,_,rfl,ha,T.fS,T.b8,rfl,⟨_,rfl,_,_,_,_,rfl,rfl,bu.of hlm,dU hb,b,t.bP,dm,_,_,rfl,hmo,T.d7,T.cU,rfl,lr,_,rfl,bu.of hlr,qM (xs:=rs.map V.ref) (λn σ' H'=>(∃ x y,σ' = [some (.ref a),some (.int k),some (.str row),some (.int i),x,y]) /\ ak H H' /\ firstM m.rules row i = fV row i n (m.rules.drop n)) ⟨⟨_,_,rfl⟩,ak.refl H,rfl⟩ ?_ ?_ ?_⟩⟩
   ·rintro n σ' H' _ ⟨_,s1,_⟩
    exact bu.of (s1 _ _ hlr)
   ·rintro n xv pt σ' H1 hx hpt ⟨⟨x,y,rfl⟩,s1,hf⟩
    rw [List.getElem?_map] at hx
    obtain ⟨r,hr0,rfl⟩:=Option.map_eq_some_iff.mp hx
    obtain ⟨R,hR1⟩:∃ R,m.rules[n]? = some R:=⟨m.rules[n]'(by rw [← hA.1];exact (List.getElem?_eq_some_iff.mp hr0).1),List.getElem?_eq_getElem _⟩
    obtain ⟨dr,pa,hr1,dp,hp1⟩:=hA.2 n r R hr0 hR1
    obtain ⟨g1,g2⟩:=hok.2 R (List.mem_of_getElem? hR1)
    obtain ⟨fe,fs,de,ds,PK⟩:=Fy (P:=P) (w:=w) (base:=base) T g1
    have s2:ak H (upd H1 pt (.tup [.int n,.ref r])):=s1.trans (ak.upd hpt)
    refine ⟨pt,[.int n,.ref r],rfl,gh.of af,rfl,_,_,rfl,_,_,rfl,rfl,?_⟩
    rw [qD hR1] at hf
    generalize upd H1 pt (.tup [.int n,.ref r]) = H2 at s2
    refine @au _ _ _ _ _ _ (bB (aA gc (br (aO (pv 5) rfl) PK.cl PK.me PK.ge (hr.mono (by decide)) PK.be .nil aH (aa (pv 2) (aa (pv 3) ai))) bJ (aF _)) av av) (⟨_,rfl,_,_,_,_,_,rfl,(s2 _ _ hr1),T.cu,T.cM,rfl,⟨pa,dp,_,rfl,s2 _ _ hp1,PK.ne _,_,rfl,_,rfl,pa,dp,R.signs,row,i,rfl,s2 _ _ hp1,by omega,hrow,hi,rfl,_,rfl,g6 (λh=>?_) (λh=>bg ⟨⟨_,_,rfl⟩,s2,?_⟩)⟩⟩)
    ·refine @au _ _ _ _ _ _ (aI (pv 4)) ⟨_,rfl,?_⟩
     rw [if_pos (show fq R row i = true from decide_eq_true h)] at hf
     have:=q H2 s2
     rw [hf] at this
     exact this
    ·rw [if_neg (by rw [fq,decide_eq_false (λz=>z h)];decide)] at hf
     exact hf
   ·rintro σ' H' ⟨h1,h2,h3⟩
    rw [List.length_map,hA.1,List.drop_length] at h3
    exact ⟨h1,h2,h3⟩
  rintro σ' H' ⟨⟨x,y,rfl⟩,s1,hn⟩
  refine @au _ _ _ _ _ _ (aI bJ) ?_
  have:=q H' s1
  rw [hn] at this
  exact this
def bL (n:Nat):V:=.int (n:Int)
def cC (on:List Nat) (d:Str) (g:Option Nat):List Nat :=
 if d = "push" then on ++ [g.getD 0] else if d = "into" then on.dropLast ++ [g.getD 0] else if d = "pop" then (if on.length = 1 then [0] else on.dropLast) else on
def yX (R:bx):Prop:=kh R.bQ -> ∃ g,R.goal = some g
theorem wF {α:Type}:∀ (l:List α) (x:α),l ≠ [] -> l.set (l.length - 1) x = l.dropLast ++ [x]
 | [],_,h=>absurd rfl h
 | [a],x,_=>rfl
 | a :: b :: r,x,_=>by
  have:=wF (b :: r) x (by simp)
  show a :: (b :: r).set ((b :: r).length - 1) x = a :: ((b :: r).dropLast ++ [x])
  rw [this]
theorem E7 {n:Nat} (h:0 < n):Ac n (-1) = some (n - 1):=by
 unfold Ac
 first
  | (rw [if_neg (by omega),if_pos (by omega)];congr 1;omega)
  | (rw [if_pos (by omega)];congr 1;omega)
def Hz (t:fE):Sp:=λvs H Q _=>∃ (lo r:Addr) (on:List Nat) (R:bx),vs = [.ref lo,.ref r] /\ H lo = some (.lst (on.map bL)) /\ cR t H r R /\ on ≠ [] /\ on.length <= 100000 /\ yX R /\ Q .cK (upd H lo (.lst ((cC on R.bQ R.goal).map bL)))
theorem HR {H:Hp} {a:Addr} {o:HO} (h:H a = some o):upd H a o = H:=by
 funext b
 by_cases e:b = a
 ·rw [e,af,h]
 ·rw [ao e]
theorem BD (T:Txt K mg t):bC P w K mg base dh 1 t.nY t.tQ ["modes","rule"] (Hz t):=by
 refine T.oG.ok Ic ?_ ?_
 walk_at "i"
 ·obtain ⟨lo,r,on,R,rfl,hlo,⟨dr,pa,hr1,hp1⟩,hne,hlen,hg,q⟩:=h
  have nlr:r ≠ lo:=cB hr1 hlo (by intro z;cases z)
  have hpos:0 < on.length:=by cases on with | nil=>exact absurd rfl hne | cons _ _=>simp
  refine @au _ _ _ _ _ _ (bB (aA cA (aO (pv 1) rfl) aG (aF _)) av av) (⟨_,rfl,_,_,_,_,_,rfl,hr1,T.cu,T.di,rfl,⟨rfl,_,rfl,dG (λh=>?_) (λh1=>?_)⟩⟩)
  ·have h:=V.str.inj h
   obtain ⟨g,eg⟩:=hg (.inl h)
   refine @au _ _ _ _ _ _ (bH (e9 F.plainAttrs_list F.slot_list_append F.type_list_append c8 (pv 0) (aa (aO (pv 1) rfl) ai))) ⟨_,rfl,.inl ⟨rfl,_,bu.of hlo⟩,⟨_,rfl,_,_,_,_,_,rfl,hr1,T.cu,T.fc,rfl,⟨lo,_,_,rfl,rfl,hlo,fG (by rw [List.length_map];omega),?_⟩⟩⟩
   rw [cC,if_pos h,eg,List.map_append] at q
   rw [eg]
   exact q
  ·have h1:R.bQ ≠ "push" := λz=>h1 (by rw [z])
   refine @au _ _ _ _ _ _ (bB (aA cA (aO (pv 1) rfl) aG (aF _)) av av) (⟨_,rfl,_,_,_,_,_,rfl,hr1,T.cu,T.di,rfl,⟨rfl,_,rfl,dG (λh=>?_) (λh2=>?_)⟩⟩)
   ·have h:=V.str.inj h
    obtain ⟨g,eg⟩:=hg (.inr h)
    refine @au _ _ _ _ _ _ (oO (aO (pv 1) rfl) (nZ (pv 0) (ic fJ az) set_list)) (⟨_,rfl,_,_,_,_,_,rfl,hr1,T.cu,T.fc,rfl,⟨_,rfl,_,rfl,lo,_,_,_,rfl,rfl,hlo,E7 (by rw [List.length_map];exact hpos),?_⟩⟩)
    rw [cC,if_neg h1,if_pos h,eg,List.map_append] at q
    rw [wF _ _ (by simpa using hne),eg,← List.map_dropLast]
    exact q
   ·have h2:R.bQ ≠ "into" := λz=>h2 (by rw [z])
    refine @au _ _ _ _ _ _ (bB (aA cA (aO (pv 1) rfl) aG (aF _)) av av) (⟨_,rfl,_,_,_,_,_,rfl,hr1,T.cu,T.di,rfl,⟨rfl,_,rfl,dG (λh=>?_) (λh3=>bg ?_)⟩⟩)
    ·have h:=V.str.inj h
     rw [cC,if_neg h1,if_neg h2,if_pos h] at q
     obtain ⟨y,hy⟩:∃ y,(on.map bL)[(on.map bL).length - 1]? = some y:=⟨_,List.getElem?_eq_getElem (by rw [List.length_map];omega)⟩
     refine @aq _ _ _ _ _ _ _ (bH (HM F.plainAttrs_list F.slot_list_pop F.type_list_pop Ij (pv 0))) ⟨_,rfl,.inl ⟨rfl,_,bu.of hlo⟩,lo,_,y,rfl,rfl,hlo,hy,?_⟩
     refine @au _ _ _ _ _ _ (bB (jI (ie (pv 0) (λ_=>rfl))) av av) ⟨_,rfl,_,.inl ⟨_,bu.of af,rfl⟩,?_⟩
     rw [← List.map_dropLast]
     by_cases h1l:on.length = 1
     ·rw [if_pos h1l] at q
      have e:on.dropLast = []:=List.eq_nil_of_length_eq_zero (by rw [List.length_dropLast,h1l])
      rw [e]
      refine Ep (@au _ _ _ _ _ _ (bH (e9 F.plainAttrs_list F.slot_list_append F.type_list_append c8 (pv 0) (aa (fm rfl T.i8) ai))) ⟨_,rfl,.inl ⟨rfl,_,bu.of af⟩,lo,_,_,rfl,rfl,af,by decide,?_⟩)
      rw [gk]
      exact q
     ·rw [if_neg h1l] at q
      have e:on.dropLast ≠ []:=λz=>by
       have:=congrArg List.length z
       rw [List.length_dropLast] at this
       simp at this
       omega
      cases hd:on.dropLast with
      | nil=>exact absurd hd e
      | cons x r =>
       rw [hd] at q
       exact rR (bg q)
    ·have h3:R.bQ ≠ "pop" := λz=>h3 (by rw [z])
     rw [cC,if_neg h1,if_neg h2,if_neg h3,HR hlo] at q
     exact q
theorem Ej {on:List Nat} {d:Str} {g:Option Nat} (h:on ≠ []):cC on d g ≠ []:=by
 unfold cC
 split
 ·simp
 ·split
  ·simp
  ·split
   ·split
    ·simp
    ·intro z
     have:=congrArg List.length z
     rw [List.length_dropLast] at this
     cases on with
     | nil=>exact h rfl
     | cons x r =>
      cases r with
      | nil=>rename_i h1 _ ;simp at *
      | cons y r=>simp at this
   ·exact h
theorem dD {on:List Nat} {k:Nat} (h:on.getLast? = some k):we (on.map bL) (-1) = some (bL k):=by
 obtain ⟨pre,rfl⟩:∃ pre,on = pre ++ [k]:=by
  rcases List.eq_nil_or_concat on with rfl | ⟨p,x,rfl⟩
  ·simp at h
  ·simp at h
   exact ⟨p,by rw [h,List.concat_eq_append]⟩
 exact q9 (k:=pre.length) (by simp) (by simp)
structure dw (ms:List aN):Prop where
 pos:0 < ms.length
 len:ms.length <= 200
 ok:∀ m ∈ ms,r6 m.rules
 bQ:∀ m ∈ ms,∀ R ∈ m.rules,R.bQ ∈ wO
 goal:∀ m ∈ ms,∀ R ∈ m.rules,kh R.bQ -> ∃ g,R.goal = some g /\ g < ms.length
theorem dw.gd {ms:List aN} (G:dw ms) {m:aN} {R:bx} (h:m ∈ ms) (h2:R ∈ m.rules):yX R:=λz=>let ⟨g,e,_⟩:=G.goal m h R h2 z;⟨g,e⟩
def iY (ms:List aN) (on:List Nat):Prop:=on ≠ [] /\ ∀ x ∈ on,x < ms.length
theorem iY.bQ {ms:List aN} (G:dw ms) {on:List Nat} (h:iY ms on) {m:aN} {R:bx} (h1:m ∈ ms) (h2:R ∈ m.rules):iY ms (cC on R.bQ R.goal):=by
 refine ⟨Ej h.1,λx hx=>?_⟩
 unfold cC at hx
 split at hx
 ·rename_i e
  obtain ⟨g,eg,hg⟩:=G.goal m h1 R h2 (.inl e)
  rcases List.mem_append.mp hx with hx | hx
  ·exact h.2 x hx
  ·rw [List.mem_singleton.mp hx,eg];exact hg
 ·split at hx
  ·rename_i e
   obtain ⟨g,eg,hg⟩:=G.goal m h1 R h2 (.inr e)
   rcases List.mem_append.mp hx with hx | hx
   ·exact h.2 x (List.dropLast_subset _ hx)
   ·rw [List.mem_singleton.mp hx,eg];exact hg
  ·split at hx
   ·split at hx
    ·rw [List.mem_singleton.mp hx];exact G.pos
    ·exact h.2 x (List.dropLast_subset _ hx)
   ·exact h.2 x hx
def bz (on:List Nat):Nat:=on.getLastD 0
theorem dR {on:List Nat} (h:on ≠ []):on.getLast? = some (bz on):=by
 unfold bz
 rw [List.getLastD_eq_getLast?,List.getLast?_eq_some_getLast h]
 rfl
theorem nc {on:List Nat} (h:on ≠ []):bz on ∈ on:=List.mem_of_getLast? (dR h)
theorem iY.mode {ms:List aN} {on:List Nat} (h:iY ms on):∃ m,ms[bz on]? = some m:=⟨ms[bz on]'(h.2 _ (nc h.1)),List.getElem?_eq_getElem _⟩
def bX (rs:List bx) (row:Str) (i:Nat):Option bx:=(firstM rs row i).bind (rs[·]?)
def iy (rs:List bx) (row:Str):Option bx:=(bX rs row 0).bind λR=>if fY R.sort = true then none else some R
theorem gI {row:Str} {i:Nat}:∀ {rs:List bx} {k n:Nat},fV row i k rs = some n -> k <= n /\ ∃ R,rs[n - k]? = some R /\ fq R row i = true /\ ∀ j,j < n - k -> ∀ R',rs[j]? = some R' -> fq R' row i = false
 | [],k,n,h=>by cases h
 | R :: r,k,n,h=>by
  rw [fV] at h
  split at h
  ·rename_i hf
   cases h
   refine ⟨Nat.le_refl _,R,by rw [Nat.sub_self];rfl,hf,λj hj=>?_⟩
   omega
  ·rename_i hf
   obtain ⟨h1,R',h2,h3,h4⟩:=gI h
   have e:n - k = (n - (k + 1)) + 1:=by omega
   refine ⟨by omega,R',by rw [e,List.getElem?_cons_succ];exact h2,h3,λj hj R'' hR=>?_⟩
   cases j with
   | zero =>
    rw [List.getElem?_cons_zero] at hR
    cases hR
    simpa using hf
   | succ j=>exact h4 j (by omega) R'' (by rw [List.getElem?_cons_succ] at hR;exact hR)
theorem ve {rs:List bx} {row:Str} {i n:Nat} (h:firstM rs row i = some n):∃ R,rs[n]? = some R /\ bX rs row i = some R /\ fq R row i = true:=by
 obtain ⟨_,R,h2,h3,_⟩:=gI h
 rw [Nat.sub_zero] at h2
 exact ⟨R,h2,by rw [bX,h];exact h2,h3⟩
def GV (t:fE):Sp:=λvs H Q _=>∃ (a:Addr) (ms:List aN) (m:aN) (k:Nat) (row:Str),vs = [.ref a,.int k,.str row] /\ IsRules t H a ms /\ ms[k]? = some m /\ r6 m.rules /\ row.length <= 1000 /\
 ∀ H',ak H H' -> (iy m.rules row = none -> Q .cK H') /\ ∀ R r,iy m.rules row = some R -> cR t H r R -> Q (.ref r) H'
theorem CP (T:Txt K mg t):bC P w K mg base dh 3 t.pG t.wQ ["rules","mode","row"] (GV t):=by
 refine T.pB.ok xx ?_ ?_
 walk_at "i"
 ·obtain ⟨a,ms,m,k,row,rfl,hR,hm,hok,hrow,q⟩:=h
  refine @aq _ _ _ _ _ _ _ (aE (i:=3) xx.nd rfl (Or.inl rfl) (aZ (By T) (hr.mono (by decide)) rfl T.Dt T.pV.kp (T.pV.binds (by walk_at "4")) .nil aH (aa (pv 0) (aa (pv 1) (aa (pv 2) (aa az ai)))))) ⟨_,rfl,_,rfl,_,rfl,a,ms,m,k,0,row,rfl,hR,hm,hok,hrow,by omega,λH1 s1=>?_⟩
  obtain ⟨dx,lm,as,b,lr,dm,rs,ha,hlm,hal,hb,hmo,hlr,hA⟩:=hR.mode hm
  cases hf:firstM m.rules row 0 with
  | none =>
   have e:iy m.rules row = none:=by rw [iy,bX,hf];rfl
   exact @aq _ _ _ _ _ _ _ (bB (aA oz (pv 3) bJ (aF _)) av av) ⟨_,rfl,rfl,_,rfl,dG (λ_=>@au _ _ _ _ _ _ (aI bJ) ((q H1 s1).1 e)) (λh=>absurd rfl h)⟩
  | some n =>
   obtain ⟨R,hn,hru,_⟩:=ve hf
   obtain ⟨r,hr0,hr1⟩:=hA.at hn
   obtain ⟨g1,g2⟩:=hok.2 R (List.mem_of_getElem? hn)
   obtain ⟨fe,fs,de,ds,PK⟩:=Fy (P:=P) (w:=w) (base:=base) T g1
   refine @aq _ _ _ _ _ _ _ (bB (aA oz (pv 3) bJ (aF _)) av av) ⟨_,rfl,rfl,_,rfl,dG (λh=>by cases h) (λ_=>bg ?_)⟩
   refine @aq _ _ _ _ _ _ _ (aE (i:=4) xx.nd rfl (Or.inl rfl) (aS aW (aO (aS aW (aO (pv 0) rfl) (pv 1) (λ_ _=>rfl)) rfl) (pv 3) (λ_ _=>rfl))) (⟨_,rfl,_,_,_,_,_,rfl,(s1 _ _ ha),T.fS,T.b8,rfl,⟨_,rfl,_,_,_,_,rfl,rfl,bu.of (s1 _ _ hlm),dU hb,b,t.bP,dm,_,_,rfl,s1 _ _ hmo,T.d7,T.cU,rfl,_,rfl,_,_,_,_,rfl,rfl,bu.of (s1 _ _ hlr),dU hr0,?_⟩⟩)
   obtain ⟨dr,pa,o1,dp,o2⟩:=id hr1
   have e:iy m.rules row = if fY R.sort = true then none else some R:=by rw [iy,hru];rfl
   refine @au _ _ _ _ _ _ (aI (cP (iI (b7 (aO (pv 4) rfl) PK.cl PK.ms PK.gs (hr.mono (by decide)) PK.bs .nil aH)) bJ (pv 4))) (⟨_,rfl,_,_,_,_,_,rfl,(s1 _ _ o1),T.cu,T.cM,rfl,⟨pa,dp,_,rfl,s1 _ _ o2,PK.ns _,_,rfl,_,rfl,LQ (λh=>?_) (λh=>⟨_,rfl,?_⟩)⟩⟩)
   ·rw [if_pos h] at e
    exact (q H1 s1).1 e
   ·rw [if_neg (by rw [h];decide)] at e
    exact (q H1 s1).2 R r e hr1
def kX (ms:List aN) (k:Nat) (row:Str):Option bx:=(ms[k]?).bind λm=>iy m.rules row
def ju (ms:List aN) (row:Str) (first:Nat):Nat -> List Nat -> List Nat -> Option (List Nat)
 | 0,_,_=>none
 | f + 1,on,ring=>match kX ms (bz on) row with
  | none=>none
  | some R=>if R.bQ = "pop" /\ on.length = 1 /\ first ≠ 0 then none else if bz (cC on R.bQ R.goal) = first then some (ring ++ [bz on]) else ju ms row first f (cC on R.bQ R.goal) (ring ++ [bz on])
def gW (ms:List aN) (first:Nat) (row:Str):Option (List Nat):=ju ms row first ms.length [first] []
theorem pA {on:List Nat} {d:Str} {g:Option Nat}:(cC on d g).length <= on.length + 1:=by
 unfold cC
 split
 ·simp
 ·split
  ·simp
  ·split
   ·split
    ·simp
    ·simp;omega
   ·omega
theorem um {rs:List bx} {row:Str} {R:bx} (h:iy rs row = some R):R ∈ rs:=by
 unfold iy at h
 cases e:bX rs row 0 with
 | none=>rw [e] at h;cases h
 | some R' =>
  rw [e] at h
  have:(if fY R'.sort = true then none else some R') = some R:=h
  split at this
  ·cases this
  ·cases this
   unfold bX at e
   cases e2:firstM rs row 0 with
   | none=>rw [e2] at e;cases e
   | some n=>rw [e2] at e;exact List.mem_of_getElem? e
def xB (t:fE):Sp:=λvs H Q _=>∃ (a:Addr) (ms:List aN) (first:Nat) (row:Str),vs = [.ref a,.int first,.str row] /\ IsRules t H a ms /\ dw ms /\ first < ms.length /\ row.length <= 1000 /\
 ∀ H',ak H H' -> (gW ms first row = none -> Q .cK H') /\ ∀ ring l,gW ms first row = some ring -> H' l = some (.lst (ring.map bL)) -> H l = none -> Q (.ref l) H'
theorem DX (T:Txt K mg t):bC P w K mg base dh 4 t.nP t.tD ["rules","first","row"] (xB t):=by
 refine T.pN.ok o7 ?_ ?_
 walk_at "i"
 ·obtain ⟨a,ms,first,row,rfl,hR,G,hfirst,hrow,q⟩:=h
  refine @aq _ _ _ _ _ _ _ (aE (i:=3) o7.nd rfl (Or.inl rfl) (bG ai)) ⟨by show 0 <= sizeLine;decide,λlg hlg=>?_⟩
  have s1:ak H (upd H lg (.lst [])):=ak.upd hlg
  have hg1:upd H lg (.lst []) lg = some (.lst []):=af
  generalize upd H lg (.lst []) = H1 at s1 hg1
  refine @aq _ _ _ _ _ _ _ (aE (i:=4) o7.nd rfl (Or.inl rfl) (bG (aa (pv 1) ai))) ⟨_,rfl,by show 1 <= sizeLine;decide,λlo hlo=>?_⟩
  have s2:ak H1 (upd H1 lo (.lst [.int first])):=ak.upd hlo
  have ho2:upd H1 lo (.lst [.int first]) lo = some (.lst ([first].map bL)):=af
  have hg2:=s2 _ _ hg1
  have ngo:lg ≠ lo:=aj hg1 hlo
  have hlo0:H lo = none:=s1.free hlo
  generalize upd H1 lo (.lst [.int first]) = H2 at s2 ho2 hg2
  have s2:=s1.trans s2
  show At _ _ _ [some (.ref a),some (.int first),some (.str row),some (.ref lg),some (.ref lo),none] H2
  obtain ⟨dx,lm,as,ls,ha,hlm,hM⟩:=id hR
  refine @aM _ _ _ _ _ _ _ (λσ' H'=>(∃ x,σ' = [some (.ref a),some (.int first),some (.str row),some (.ref lg),some (.ref lo),x]) /\ ak H H' /\ gW ms first row = none) (g9 PassesOwn.never (aA fF (aQ aV (by rfl) T.bN (by decide +kernel) (aa (pv 3) ai)) (aQ aV (by rfl) T.bN (by decide +kernel) (aa (aO (pv 0) rfl) ai)) (aF _)) av) ?_ ?_
  ·refine ⟨λf σ' H'=>∃ (on ring:List Nat),(∃ x,σ' = [some (.ref a),some (.int first),some (.str row),some (.ref lg),some (.ref lo),x]) /\ H' lg = some (.lst (ring.map bL)) /\ H' lo = some (.lst (on.map bL)) /\ ak H H' /\ f + ring.length = ms.length /\ iY ms on /\ on.length <= ring.length + 1 /\ gW ms first row = ju ms row first f on ring,⟨ms.length,[first],[],⟨_,rfl⟩,hg2,ho2,s2,by simp,⟨by simp,by simpa using hfirst⟩,by simp,rfl⟩,?_⟩
   rintro f σ' H3 ⟨on,ring,⟨x,rfl⟩,hg3,ho3,s3,hfl,hon,honl,hrec⟩
   have hlen:=G.len
   refine ⟨_,rfl,_,_,rfl,.inl (bu.of hg3),⟨_,rfl,_,_,_,_,_,rfl,(s3 _ _ ha),T.fS,T.b8,rfl,⟨_,_,rfl,.inl (bu.of (s3 _ _ hlm)),_,_,rfl,rfl,_,rfl,dG (λh=>?_) (λh=>?_)⟩⟩⟩
   ·rw [List.length_map,List.length_map,hM.la] at h
    obtain ⟨f',rfl⟩:∃ f',f = f' + 1:=⟨f - 1,by omega⟩
    obtain ⟨m,hm⟩:=hon.mode
    have hmm:=List.mem_of_getElem? hm
    have hid:kX ms (bz on) row = iy m.rules row:=by rw [kX,hm];rfl
    rw [ju,hid] at hrec
    refine ⟨_,λσ' H' z=>z,?_⟩
    obtain ⟨dx',lm',as',b,lr,dm,rs,ha',hlm',hal',hb,hmo,hlr,hA⟩:=(hR.same s3).mode hm
    cases hi0:iy m.rules row with
    | none =>
     rw [hi0] at hrec
     refine @aq _ _ _ _ _ _ _ (aE (i:=5) o7.nd rfl (Or.inl rfl) (aZ (CP T) (hr.mono (by decide)) rfl T.DS T.pB.kp (T.pB.binds (by walk_at "3")) .nil aH (aa (pv 0) (aa (aS aW (pv 4) (ic fJ az) (λ_ _=>rfl)) (aa (pv 2) ai))))) ⟨_,rfl,_,rfl,_,rfl,_,_,_,_,rfl,rfl,bu.of ho3,dD (dR hon.1),_,rfl,a,ms,m,bz on,row,rfl,hR.same s3,hm,G.ok m hmm,hrow,λH4 s4=>⟨λ_=>?_,(λR r e=>by rw [hi0] at e;cases e)⟩⟩
     exact @aq _ _ _ _ _ _ _ (bB (aA oz (pv 5) bJ (aF _)) av av) ⟨_,rfl,rfl,_,rfl,dG (λ_=>@au _ _ _ _ _ _ (aI bJ) ((q H4 (s3.trans s4)).1 hrec)) (λh=>absurd rfl h)⟩
    | some R =>
     rw [hi0] at hrec
     have hRm:=um hi0
     refine @aq _ _ _ _ _ _ _ (aE (i:=5) o7.nd rfl (Or.inl rfl) (aZ (CP T) (hr.mono (by decide)) rfl T.DS T.pB.kp (T.pB.binds (by walk_at "3")) .nil aH (aa (pv 0) (aa (aS aW (pv 4) (ic fJ az) (λ_ _=>rfl)) (aa (pv 2) ai))))) ⟨_,rfl,_,rfl,_,rfl,_,_,_,_,rfl,rfl,bu.of ho3,dD (dR hon.1),_,rfl,a,ms,m,bz on,row,rfl,hR.same s3,hm,G.ok m hmm,hrow,λH4 s4=>⟨(λe=>by rw [hi0] at e;cases e),λR' r e hr1=>?_⟩⟩
     rw [hi0] at e
     cases e
     refine @aq _ _ _ _ _ _ _ (bB (aA oz (pv 5) bJ (aF _)) av av) ⟨_,rfl,rfl,_,rfl,dG (λh=>by cases h) (λ_=>bg ?_)⟩
     have hr4:=hr1.same s4
     have hg4:=s4 _ _ hg3
     have ho4:=s4 _ _ ho3
     obtain ⟨dr,pa,o1,hpat⟩:=id hr4
     refine @aM _ _ _ _ _ _ _ (λσ' H'=>σ' = [some (.ref a),some (.int first),some (.str row),some (.ref lg),some (.ref lo),some (.ref r)] /\ H' = H4 /\ ¬ (R.bQ = "pop" /\ on.length = 1 /\ first ≠ 0)) (bB (PW.pt (fD (aA cA (aO (pv 5) rfl) aG (aF _)) (fD (aA cA (aQ aV (by rfl) T.bN (by decide +kernel) (aa (pv 4) ai)) az (aF _)) (eO (aA om (pv 1) (fm rfl T.i8) (aF _)))))) av av) ?_ ?_
     ·refine ⟨_,rfl,_,_,_,_,_,rfl,o1,T.cu,T.di,rfl,⟨rfl,_,rfl,dG (λh1=>?_) (λh1=>bg ⟨rfl,rfl,λz=>h1 (by rw [z.1])⟩)⟩⟩
      refine ⟨_,rfl,_,_,rfl,.inl (bu.of ho4),rfl,_,rfl,dG (λh2=>?_) (λh2=>bg ⟨rfl,rfl,λz=>h2 (by rw [List.length_map,z.2.1];rfl)⟩)⟩
      refine ⟨_,rfl,rfl,_,rfl,g6 (λh3=>?_) (λh3=>bg ⟨rfl,rfl,λz=>z.2.2 (by have:=V.int.inj h3;omega)⟩)⟩
      have h2:=V.int.inj h2
      rw [List.length_map] at h2
      have hc:R.bQ = "pop" /\ on.length = 1 /\ first ≠ 0:=⟨V.str.inj h1,by omega,λz=>h3 (by rw [z];rfl)⟩
      simp only [if_pos hc] at hrec
      exact @au _ _ _ _ _ _ (aI bJ) ((q H4 (s3.trans s4)).1 hrec)
     rintro σ' H' ⟨rfl,e,hnc⟩
     rw [e]
     clear e H'
     simp only [if_neg hnc] at hrec
     refine @aq _ _ _ _ _ _ _ (bH (e9 F.plainAttrs_list F.slot_list_append F.type_list_append c8 (pv 3) (aa (aS aW (pv 4) (ic fJ az) (λ_ _=>rfl)) ai))) ⟨_,rfl,.inl ⟨rfl,_,bu.of hg4⟩,_,rfl,_,rfl,_,_,_,_,rfl,rfl,bu.of ho4,dD (dR hon.1),lg,_,_,rfl,rfl,hg4,fG (by rw [List.length_map];omega),?_⟩
     have hg5:upd H4 lg (.lst (ring.map bL ++ [bL (bz on)])) lg = some (.lst ((ring ++ [bz on]).map bL)):=by rw [af,List.map_append];rfl
     have ho5:upd H4 lg (.lst (ring.map bL ++ [bL (bz on)])) lo = some (.lst (on.map bL)):=by rw [ao (Ne.symm ngo)];exact ho4
     have hr5:cR t (upd H4 lg (.lst (ring.map bL ++ [bL (bz on)]))) r R:=hr4.jA hg4
     have s5:ak H (upd H4 lg (.lst (ring.map bL ++ [bL (bz on)]))):=λb o hb=>by rw [ao (aj hb hlg)];exact s4 _ _ (s3 _ _ hb)
     generalize upd H4 lg (.lst (ring.map bL ++ [bL (bz on)])) = H5 at hg5 ho5 hr5 s5
     refine @aq _ _ _ _ _ _ _ (bH (aZ (BD T) (hr.mono (by decide)) rfl T.AI T.oG.kp (T.oG.binds (by walk_at "2")) .nil aH (aa (pv 4) (aa (pv 5) ai)))) ⟨_,rfl,_,rfl,lo,r,on,R,rfl,ho5,hr5,hon.1,by omega,G.gd hmm hRm,?_⟩
     have hon6:=hon.bQ G hmm hRm
     have hol6:(cC on R.bQ R.goal).length <= on.length + 1:=pA
     have hg6:upd H5 lo (.lst ((cC on R.bQ R.goal).map bL)) lg = some (.lst ((ring ++ [bz on]).map bL)):=by rw [ao ngo];exact hg5
     have s6:ak H (upd H5 lo (.lst ((cC on R.bQ R.goal).map bL))):=λb o hb=>by rw [ao (aj hb hlo0)];exact s5 _ _ hb
     refine @au _ _ _ _ _ _ (bB (aA cA (aS aW (pv 4) (ic fJ az) (λ_ _=>rfl)) (pv 1) (aF _)) av av) ⟨_,rfl,_,rfl,_,_,_,_,rfl,rfl,bu.of af,dD (dR hon6.1),_,rfl,rfl,_,rfl,dG (λh=>?_) (λh=>bg ?_)⟩
     ·have h:bz (cC on R.bQ R.goal) = first:=by have:=V.int.inj h;omega
      rw [if_pos h] at hrec
      exact @au _ _ _ _ _ _ (aI (pv 3)) ⟨_,rfl,(q _ s6).2 _ lg hrec hg6 hlg⟩
     ·have h:¬ bz (cC on R.bQ R.goal) = first:=λz=>h (by rw [← z];rfl)
      rw [if_neg h] at hrec
      refine ⟨f',by omega,_,_,⟨_,rfl⟩,hg6,af,s6,?_,hon6,?_,hrec⟩
      ·simp only [List.length_append,List.length_cons,List.length_nil];omega
      ·simp only [List.length_append,List.length_cons,List.length_nil];omega
   ·rw [List.length_map,List.length_map,hM.la] at h
    have:f = 0:=by omega
    subst this
    exact ⟨⟨_,rfl⟩,s3,hrec⟩
  rintro σ' H' ⟨⟨x,rfl⟩,s3,hn⟩
  exact @au _ _ _ _ _ _ (aI bJ) ((q H' s3).1 hn)
abbrev Ey:Str:=" !\"#$&'()*+,-./0123456789:;<=>?@ABCDEFGHIJKLMNOPQRSTUVWXYZ[\\]^_`abcdefghijklmnopqrstuvwxyz{|}~"
def eX:List Str:="" :: Ey.cps.toList.map λc=>(⟨#[c]⟩:Str)
def E6:Sp:=λvs H Q _=>vs = [] /\ ∀ l H',H' l = some (.lst (eX.map V.str)) -> H l = none -> ak H H' -> Q (.ref l) H'
theorem II (T:Txt K mg t):bC P w K mg base dh 1 t.oA t.wG [] E6:=by
 refine T.uE.ok HE (λvs H Q E h=>?_) (λcdv A outer s H vs Q E hr h=>mY ?_)
 ·obtain ⟨rfl,_⟩:=h
  rfl
 ·obtain ⟨rfl,q⟩:=h
  refine @au _ _ _ _ _ _ (aI (aT eu (bG (aa aG ai)) (cS (wY rfl) (by rfl) T.gu (by decide +kernel) (aa (fm rfl T.zH) ai)))) ⟨by show 1 <= sizeLine;decide,λl1 hl1=>⟨_,rfl,by decide +kernel,λl2 hl2=>?_⟩⟩
  refine ⟨l1,l2,_,_,rfl,rfl,ak.upd hl2 _ _ af,af,bY (by simp only [oE,List.length_map,List.length_cons,List.length_nil];decide +kernel),λl hl=>?_⟩
  refine q l _ ?_ (((ak.upd hl1).to hl2).free hl) (((ak.upd hl1).to hl2).to hl)
  rw [af,eX,List.map_cons,List.map_map]
  rfl
theorem Al:∀ r ∈ eX,r.length <= 1:=by
 intro r hr
 rcases List.mem_cons.mp hr with e | e
 ·rw [e];decide
 ·obtain ⟨c,_,rfl⟩:=List.mem_map.mp e
  exact Nat.le_refl 1
def j7 (ms:List aN) (row:Str):Nat -> Nat -> Option (List Nat)
 | 0,_=>none
 | n + 1,k=>match gW ms k row with
  | some r=>some r
  | none=>j7 ms row n (k + 1)
def jX (ms:List aN):List Str -> Option (List Nat × Str)
 | []=>none
 | row :: r=>match j7 ms row ms.length 0 with
  | some ring=>some (ring,row)
  | none=>jX ms r
def lX (ms:List aN):Option (List Nat × Str):=jX ms eX
def nameAt (ms:List aN) (k:Nat):Str:=match ms[k]? with
 | some m=>m.name
 | none=>""
def GJ (row:Str):V:=if row = "" then .cK else .str row
def GB (t:fE):Sp:=λvs H Q _=>∃ (a:Addr) (ms:List aN),vs = [.ref a] /\ IsRules t H a ms /\ dw ms /\
 ∀ H',ak H H' -> (lX ms = none -> Q .cK H') /\ ∀ ring row p l,lX ms = some (ring,row) -> H' p = some (.tup [.ref l,GJ row]) -> H' l = some (.lst ((ring.map (nameAt ms)).map V.str)) -> Q (.ref p) H'
theorem wz {ms:List aN} (G:dw ms) {row:Str} {first:Nat}:∀ {f:Nat} {on ring r:List Nat},iY ms on -> (∀ x ∈ ring,x < ms.length) -> ju ms row first f on ring = some r -> ∀ x ∈ r,x < ms.length
 | 0,on,ring,r,_,_,h=>by cases h
 | f + 1,on,ring,r,ho,hr,h=>by
  rw [ju] at h
  obtain ⟨m,hm⟩:=ho.mode
  have hid:kX ms (bz on) row = iy m.rules row:=by rw [kX,hm];rfl
  rw [hid] at h
  have h2:∀ x ∈ ring ++ [bz on],x < ms.length:=λx hx=>by
   rcases List.mem_append.mp hx with hx | hx
   ·exact hr x hx
   ·rw [List.mem_singleton.mp hx];exact ho.2 _ (nc ho.1)
  cases e:iy m.rules row with
  | none=>rw [e] at h;cases h
  | some R =>
   rw [e] at h
   have h:(if R.bQ = "pop" /\ on.length = 1 /\ first ≠ 0 then none else if bz (cC on R.bQ R.goal) = first then some (ring ++ [bz on]) else ju ms row first f (cC on R.bQ R.goal) (ring ++ [bz on])) = some r:=h
   split at h
   ·cases h
   ·split at h
    ·cases h;exact h2
    ·exact wz G (ho.bQ G (List.mem_of_getElem? hm) (um e)) h2 h
theorem qV {ms:List aN} {row:Str} {first:Nat}:∀ {f:Nat} {on ring r:List Nat},ju ms row first f on ring = some r -> r.length <= ring.length + f
 | 0,on,ring,r,h=>by cases h
 | f + 1,on,ring,r,h=>by
  rw [ju] at h
  cases e:kX ms (bz on) row with
  | none=>rw [e] at h;cases h
  | some R =>
   rw [e] at h
   have h:(if R.bQ = "pop" /\ on.length = 1 /\ first ≠ 0 then none else if bz (cC on R.bQ R.goal) = first then some (ring ++ [bz on]) else ju ms row first f (cC on R.bQ R.goal) (ring ++ [bz on])) = some r:=h
   split at h
   ·cases h
   ·split at h
    ·cases h;simp
    ·have:=qV h
     rw [List.length_append,List.length_cons,List.length_nil] at this
     omega
theorem D4 (T:Txt K mg t):bC P w K mg base dh 5 t.pe t.vC ["rules"] (GB t):=by
 refine T.pS.ok qa ?_ ?_
 walk_at "i"
 ·obtain ⟨a,ms,rfl,hR,G,q⟩:=h
  have hlen:=G.len
  refine @aM _ _ _ _ _ _ _ (λσ' H'=>(∃ x y z,σ' = [some (.ref a),x,y,z]) /\ ak H H' /\ lX ms = none) (dZ PassesOwn.never rfl (dX (pM (II T) (hr.mono (by decide)) rfl T.Jk T.uE.kp (T.uE.binds (by walk_at "0")) .nil aH)) (b9 (i:=1) qa.nd rfl (Or.inl rfl)) av) ?_ ?_
  ·refine ⟨rfl,λl H1 hl1 hl0 s1=>⟨l,rfl,⟨_,bu.of hl1⟩,fM (xs:=eX.map V.str) (λi σ' H'=>(∃ x y z,σ' = [some (.ref a),x,y,z]) /\ H' l = some (.lst (eX.map V.str)) /\ ak H H' /\ lX ms = jX ms (eX.drop i)) ⟨⟨_,_,_,rfl⟩,hl1,s1,rfl⟩ ?_ ?_ ?_⟩⟩
   ·rintro i σ' H' _ ⟨_,h,_⟩
    exact bu.of h
   ·rintro i xv σ' H2 hx ⟨⟨x,y,z,rfl⟩,hl2,s2,hrec⟩
    rw [List.getElem?_map] at hx
    obtain ⟨row,hrow,rfl⟩:=Option.map_eq_some_iff.mp hx
    have hrl:=Al row (List.mem_of_getElem? hrow)
    rw [fP hrow,jX] at hrec
    obtain ⟨dx,lm,as,ls,ha,hlm,hM⟩:=id hR
    refine @au _ _ _ _ _ _ (dZ PassesOwn.never rfl (jd rfl T.jh (aa (aQ aV (by rfl) T.bN (by decide +kernel) (aa (aO (pv 0) rfl) ai)) ai)) (b9 (i:=2) qa.nd rfl (Or.inl rfl)) av) (⟨_,rfl,_,_,_,_,_,rfl,(s2 _ _ ha),T.fS,T.b8,rfl,⟨_,_,rfl,.inl (bu.of (s2 _ _ hlm)),(ms.length:Int),by rw [List.length_map,hM.la],by omega,by omega,jv (n:=((ms.length:Nat):Int).toNat) (λk σ' H'=>(∃ y z,σ' = [some (.ref a),some (.str row),y,z]) /\ H' l = some (.lst (eX.map V.str)) /\ ak H H' /\ j7 ms row ms.length 0 = j7 ms row (ms.length - k) k) ⟨⟨_,_,rfl⟩,hl2,s2,rfl⟩ ?_ ?_⟩⟩)
    ·rintro k σ' H3 hk ⟨⟨y,z,rfl⟩,hl3,s3,hrow3⟩
     have hk':k < ms.length:=by omega
     rw [show ms.length - k = (ms.length - (k + 1)) + 1 by omega,j7] at hrow3
     cases hf:gW ms k row with
     | none =>
      rw [hf] at hrow3
      refine @aq _ _ _ _ _ _ _ (aE (i:=3) qa.nd rfl (Or.inl rfl) (aZ (DX T) (hr.mono (by decide)) rfl T.DE T.pN.kp (T.pN.binds (by walk_at "3")) .nil aH (aa (pv 0) (aa (pv 2) (aa (pv 1) ai))))) ⟨_,rfl,_,rfl,_,rfl,a,ms,k,row,(by rw [Int.zero_add];rfl),hR.same s3,G,hk',by omega,λH4 s4=>⟨λ_=>?_,(λring lg e=>by rw [hf] at e;cases e)⟩⟩
      exact @au _ _ _ _ _ _ (bB (aA gc (pv 3) bJ (aF _)) av av) ⟨_,rfl,rfl,_,rfl,g6 (λh=>absurd rfl h) (λ_=>bg ⟨⟨_,_,rfl⟩,s4 _ _ hl3,s3.trans s4,hrow3⟩)⟩
     | some ring =>
      rw [hf] at hrow3
      have hrec:lX ms = some (ring,row):=by rw [hrec,hrow3]
      refine @aq _ _ _ _ _ _ _ (aE (i:=3) qa.nd rfl (Or.inl rfl) (aZ (DX T) (hr.mono (by decide)) rfl T.DE T.pN.kp (T.pN.binds (by walk_at "3")) .nil aH (aa (pv 0) (aa (pv 2) (aa (pv 1) ai))))) ⟨_,rfl,_,rfl,_,rfl,a,ms,k,row,(by rw [Int.zero_add];rfl),hR.same s3,G,hk',by omega,λH4 s4=>⟨(λe=>by rw [hf] at e;cases e),λring' lg e hlg hlg0=>?_⟩⟩
      rw [hf] at e
      cases e
      have s4':=s3.trans s4
      have hlt:∀ x ∈ ring,x < ms.length:=wz G ⟨by simp,by simpa using hk'⟩ (by simp) hf
      have hrl2:ring.length < 1000000:=by
       have:=qV hf
       simp only [List.length_nil] at this
       omega
      refine @au _ _ _ _ _ _ (bB (aA gc (pv 3) bJ (aF _)) av av) ⟨_,rfl,rfl,_,rfl,g6 (λ_=>?_) (λh=>by cases h)⟩
      refine @au _ _ _ _ _ _ (@aI _ _ _ _ (@cD _ _ _ _ _ (@aa _ _ _ _ _ (@iD _ (ay zg) _ ["rules","row","first","ring"] _ _ ("mode") _ _ [("rules",0)] _ _ (by walk_at "ck") (@dX _ _ _ _ (pv 3)) (λ_ _ _ _=>by exact (@m8 _ K _ _ _ _ (@aS _ _ _ _ _ _ _ (Bg (K:=K) rfl) (@m8 _ K _ _ _ _ (pv 0) rfl (by left)) (pv 1) (λ_ _=>rfl)) rfl (by left))) (by left) (by left) (by left) (by left)) (@aa _ _ _ _ _ (@cP _ _ _ _ _ _ _ _ (@ie _ _ _ (pv 1) (λ_=>rfl)) (pv 1) bJ) ai (by left)) (by left)))) ⟨_,rfl,lg,rfl,⟨_,bu.of hlg⟩,gp (xs:=ring.map bL) (λi ys H5=>ys = ((ring.take i).map (nameAt ms)).map V.str /\ ak H4 H5) ⟨rfl,ak.refl H4⟩ (by rw [List.length_map];exact Nat.lt_trans hrl2 (by decide)) ?_ ?_ ?_⟩
      ·rintro i ys H5 _ ⟨_,s5⟩
       exact bu.of (s5 _ _ hlg)
      ·rintro i xv ys H5 hx hyl ⟨rfl,s5⟩
       rw [List.getElem?_map] at hx
       obtain ⟨n,hn,rfl⟩:=Option.map_eq_some_iff.mp hx
       obtain ⟨m,hm⟩:∃ m,ms[n]? = some m:=⟨ms[n]'(hlt n (List.mem_of_getElem? hn)),List.getElem?_eq_getElem _⟩
       obtain ⟨dx,lm,as,b,lr,dm,rs,ha,hlm,hal,hb,hmo,hlr,hA⟩:=(hR.same (s4'.trans s5)).mode hm
       refine ⟨_,rfl,_,_,_,_,_,rfl,ha,T.fS,T.b8,rfl,⟨_,rfl,_,_,_,_,rfl,rfl,bu.of hlm,dU hb,b,t.bP,dm,_,_,rfl,hmo,T.d7,T.e7,rfl,?_⟩⟩
       have hi:=(List.getElem?_eq_some_iff.mp hn).1
       refine fh (by rw [List.length_map];exact hi) hyl ⟨?_,s5⟩
       rw [take_snoc hn,List.map_append,List.map_append]
       show _ = _ ++ [V.str (nameAt ms n)]
       rw [nameAt,hm]
      ·rintro ys H5 hyl ⟨rfl,s5⟩ D hD
       have e5:ring.take (ring.map bL).length = ring:=by rw [List.length_map,List.take_length]
       rw [e5]
       have s6:ak H (upd H5 D (.lst ((ring.map (nameAt ms)).map V.str))):=(s4'.trans s5).to hD
       have hD6:upd H5 D (.lst ((ring.map (nameAt ms)).map V.str)) D = some (.lst ((ring.map (nameAt ms)).map V.str)):=af
       generalize upd H5 D (.lst ((ring.map (nameAt ms)).map V.str)) = H6 at s6 hD6
       by_cases h0:row = ""
       ·refine ⟨_,rfl,false,⟨bY (by omega),(by rw [h0];rfl)⟩,rR ⟨by show 2 <= sizeLine;decide,λtp htp=>?_⟩⟩
        exact (q _ (s6.to htp)).2 ring row tp D hrec (by rw [af,GJ,if_pos h0]) (ak.upd htp _ _ hD6)
       ·have hrl1:row.length ≠ 0:=λz=>h0 (m9 (by rw [show (Str.ofString "").cps.toList = [] from by decide +kernel];exact List.eq_nil_of_length_eq_zero (by rw [aU];exact z)))
        refine ⟨_,rfl,true,⟨bY (by omega),?_⟩,Ep ⟨_,rfl,by show 2 <= sizeLine;decide,λtp htp=>?_⟩⟩
        ·have:(row.length:Int) ≠ 0:=by omega
         simpa using this
        ·exact (q _ (s6.to htp)).2 ring row tp D hrec (by rw [af,GJ,if_neg h0]) (ak.upd htp _ _ hD6)
    ·rintro σ' H3 ⟨⟨y,z,rfl⟩,hl3,s3,hrow3⟩
     rw [Int.toNat_natCast,Nat.sub_self] at hrow3
     refine ⟨⟨_,_,_,rfl⟩,hl3,s3,?_⟩
     rw [hrec,hrow3]
     rfl
   ·rintro σ' H' ⟨h1,_,h2,h3⟩
    rw [List.length_map,List.drop_length] at h3
    exact ⟨h1,h2,h3⟩
  rintro σ' H' ⟨⟨x,y,z,rfl⟩,s1,hn⟩
  exact @au _ _ _ _ _ _ (aI bJ) ((q H' s1).1 hn)
def d9 (R:bx) (row:Str) (i:Nat):Nat:=match fj R.sort R.signs row i with
 | .int n=>n.toNat
 | _=>0
structure Cfg where
 on:List Nat
 aB:List Str
 marks:List (Nat × Str)
def cQ (ms:List aN) (k:Nat):Str:=match ms[k]? with
 | some m=>m.bh
 | none=>""
def cH (ms:List aN) (k:Nat):List bx:=match ms[k]? with
 | some m=>m.rules
 | none=>[]
def jl (c:Cfg) (R:bx) (row:Str):Cfg:=⟨cC c.on R.bQ R.goal,c.aB ++ List.replicate (d9 R row c.aB.length) R.bh,if R.fold = "" then c.marks else c.marks ++ [(c.aB.length,R.fold)]⟩
def cZ (ms:List aN) (row:Str) (c:Cfg):Option Cfg:=match bX (cH ms (bz c.on)) row c.aB.length with
 | some R=>some (jl c R row)
 | none=>if c.aB.length < row.length then some ⟨c.on,c.aB ++ [cQ ms (bz c.on)],c.marks⟩ else none
def goN (ms:List aN) (row:Str):Nat -> Cfg -> Option Cfg
 | 0,c=>match cZ ms row c with
  | none=>some c
  | some _=>none
 | n + 1,c=>match cZ ms row c with
  | none=>some c
  | some c'=>goN ms row n c'
theorem vn {ms:List aN} {row:Str} {n:Nat} {c c' d:Cfg} (h:cZ ms row c = some c') (g:goN ms row n c' = some d):goN ms row (n + 1) c = some d:=by
 rw [goN,h];exact g
theorem jZ {ms:List aN} {row:Str} {n:Nat} {c:Cfg} (h:cZ ms row c = none):goN ms row n c = some c:=by
 cases n with
 | zero=>rw [goN,h]
 | succ n=>rw [goN,h]
theorem iR {ms:List aN} {row:Str}:∀ {n m:Nat} {c d:Cfg},n <= m -> goN ms row n c = some d -> goN ms row m c = some d
 | 0,m,c,d,_,h=>by
  rw [goN] at h
  cases e:cZ ms row c with
  | none=>rw [e] at h;cases h;exact jZ e
  | some c'=>rw [e] at h;cases h
 | n + 1,0,c,d,h0,_=>by omega
 | n + 1,m + 1,c,d,h0,h=>by
  rw [goN] at h ⊢
  cases e:cZ ms row c with
  | none=>rw [e] at h;exact h
  | some c'=>rw [e] at h;exact iR (by omega) h
theorem Dw (sg:List Nat):∀ l:List Nat,gi sg l <= l.length
 | []=>Nat.le_refl _
 | c :: r=>by
  rw [gi]
  split
  ·have:=Dw sg r;rw [List.length_cons];omega
  ·exact Nat.zero_le _
theorem GC {s sg row:Str} {i:Nat} {n:Int} (hi:i <= row.length) (h:fj s sg row i = .int n):i + n.toNat <= row.length:=by
 have hl:=aU row
 by_cases h1:s = "end"
 ·rw [fj,if_pos h1] at h
  split at h
  ·have:=V.int.inj h
   omega
  ·cases h
 ·by_cases h2:s = "word"
  ·rw [fj,if_neg h1,if_pos h2] at h
   split at h
   ·rename_i hw
    have:=congrArg List.length hw
    rw [List.length_take,List.length_drop,aU,aU] at this
    have:=V.int.inj h
    omega
   ·cases h
  ·cases e:row.cps.toList[i]? with
   | none=>rw [fj,if_neg h1,if_neg h2,e] at h;cases h
   | some c =>
    have hi2:i < row.length:=by
     have:=(List.getElem?_eq_some_iff.mp e).1
     omega
    have hr:=Dw sg.cps.toList (row.cps.toList.drop (i + 1))
    rw [List.length_drop] at hr
    rw [gE h1 h2 e] at h
    split at h
    ·have:=V.int.inj h
     split at this <;> omega
    ·split at h
     ·split at h
      ·cases h
      ·have:=V.int.inj h;omega
     ·split at h
      ·have:=V.int.inj h
       split at this <;> omega
      ·cases h
theorem Dd {R:bx} {row:Str} {i:Nat} (hs:R.sort ∈ sorts) (hi:i <= row.length):i + d9 R row i <= row.length:=by
 unfold d9
 rcases o5 R.sort R.signs row i with ⟨n,e⟩ | e
 ·rw [e];exact GC hi e
 ·rw [e];exact hi
end
section
variable {P:Program} {w:World} {K:PySem.W.Frag} {mg:Str -> Option Value} {base:Heap} {t:fE}
def GM (H:Hp) (lk:Addr) (mk:List (Nat × Str)):Prop:=∃ ps,H lk = some (.lst (ps.map V.ref)) /\ bw (λp m=>H p = some (.tup [bL m.1,.str m.2])) ps mk
theorem GM.same {H H':Hp} {lk:Addr} {mk:List (Nat × Str)} (h:GM H lk mk) (s:ak H H'):GM H' lk mk:=let ⟨ps,a,b⟩:=h;⟨ps,s _ _ a,b.mono λ_ _ e=>s _ _ e⟩
theorem GM.jA {H:Hp} {lk l:Addr} {mk:List (Nat × Str)} {xs:List V} {o:HO} (h:GM H lk mk) (hl:H l = some (.lst xs)) (hn:lk ≠ l):GM (upd H l o) lk mk:=by
 obtain ⟨ps,a,b⟩:=h
 exact ⟨ps,by rw [ao hn];exact a,b.mono λp m e=>by rw [ao (cB e hl (by intro z;cases z))];exact e⟩
def GF (H0 H:Hp) (lk:Addr) (mk:List (Nat × Str)):Prop:=∃ ps:List Addr,H lk = some (.lst (ps.map V.ref)) /\ bw (λp m=>H p = some (.tup [bL m.1,.str m.2])) ps mk /\ ∀ p ∈ ps,H0 p = none
theorem GF.gm {H0 H:Hp} {lk:Addr} {mk:List (Nat × Str)} (h:GF H0 H lk mk):GM H lk mk:=let ⟨ps,a,b,_⟩:=h;⟨ps,a,b⟩
theorem GF.same {H0 H H':Hp} {lk:Addr} {mk:List (Nat × Str)} (h:GF H0 H lk mk) (s:ak H H'):GF H0 H' lk mk:=let ⟨ps,a,b,c⟩:=h;⟨ps,s _ _ a,b.mono λ_ _ e=>s _ _ e,c⟩
theorem GF.jA {H0 H:Hp} {lk l:Addr} {mk:List (Nat × Str)} {xs:List V} {o:HO} (h:GF H0 H lk mk) (hl:H l = some (.lst xs)) (hn:lk ≠ l):GF H0 (upd H l o) lk mk:=by
 obtain ⟨ps,a,b,c⟩:=h
 exact ⟨ps,by rw [ao hn];exact a,b.mono λp m e=>by rw [ao (cB e hl (by intro z;cases z))];exact e,c⟩
structure Told (H:Hp) (tp lt lo lk:Addr) (d:Cfg):Prop where
 tp:H tp = some (.tup [.ref lt,.ref lo,.ref lk])
 lt:H lt = some (.lst (d.aB.map V.str))
 lo:H lo = some (.lst (d.on.map bL))
 lk:GM H lk d.marks
theorem Told.same {H H':Hp} {tp lt lo lk:Addr} {d:Cfg} (h:Told H tp lt lo lk d) (s:ak H H'):Told H' tp lt lo lk d:=⟨s _ _ h.tp,s _ _ h.lt,s _ _ h.lo,h.lk.same s⟩
def JM (t:fE):Sp:=λvs H Q _=>∃ (a lo:Addr) (ms:List aN) (on:List Nat) (row:Str) (n:Nat) (d:Cfg),vs = [.ref a,.ref lo,.str row] /\ IsRules t H a ms /\ dw ms /\ H lo = some (.lst (on.map bL)) /\ iY ms on /\ row.length <= 1000 /\ on.length <= 50000 /\ n <= 40000 /\ goN ms row n ⟨on,[],[]⟩ = some d /\
 ∀ tp lt lo' lk H',Told H' tp lt lo' lk d -> GF H H' lk d.marks -> H lt = none -> H lo' = none -> H lk = none -> lt ≠ lo' -> lt ≠ lk -> lo' ≠ lk -> ak H H' -> Q (.ref tp) H'
theorem nS {α:Type} (x:α):∀ n:Nat,(List.replicate n [x]).flatten = List.replicate n x
 | 0=>rfl
 | n + 1=>by rw [List.replicate_succ,List.flatten_cons,nS x n,List.replicate_succ];rfl
theorem yH {R:bx} {row:Str} {i:Nat} (h:fq R row i = true):fj R.sort R.signs row i = bL (d9 R row i):=by
 unfold fq at h
 rw [decide_eq_true_eq] at h
 unfold d9
 have hn:∀ n:Int,fj R.sort R.signs row i = .int n -> 0 <= n:=by
  intro n
  unfold fj
  intro e
  repeat' split at e
  all_goals first
   | (have:=V.int.inj e;omega)
   | cases e
 rcases o5 R.sort R.signs row i with ⟨n,e⟩ | e
 ·rw [e]
  have:=hn n e
  show V.int n = V.int ((n.toNat:Nat):Int)
  rw [show ((n.toNat:Nat):Int) = n by omega]
 ·exact absurd e h
theorem HJ (T:Txt K mg t):bC P w K mg base dh 3 t.oW t.vh ["rules","modes","row"] (JM t):=by
 refine T.vI.ok i6 ?_ ?_
 walk_at "i"
 ·obtain ⟨a,lh,ms,on,row,n,d,rfl,hR,G,hlh,hok,hrow,honl,hn,hgo,q⟩:=h
  refine @aq _ _ _ _ _ _ _ (aE (i:=3) i6.nd rfl (Or.inl rfl) (cS d8 (by rfl) T.gu (by decide +kernel) (aa (pv 1) ai))) ⟨_,rfl,lh,_,rfl,.inl (bu.of hlh),λlo hlo=>?_⟩
  have s1:ak H (upd H lo (.lst (on.map bL))):=ak.upd hlo
  have ho1:upd H lo (.lst (on.map bL)) lo = some (.lst (on.map bL)):=af
  generalize upd H lo (.lst (on.map bL)) = H1 at s1 ho1
  refine @aq _ _ _ _ _ _ _ (aE (i:=4) i6.nd rfl (Or.inl rfl) (bG ai)) ⟨by show 0 <= sizeLine;decide,λlt hlt=>?_⟩
  have s2:ak H1 (upd H1 lt (.lst [])):=ak.upd hlt
  have ht2:upd H1 lt (.lst []) lt = some (.lst []):=af
  have ho2:=s2 _ _ ho1
  have not_:lo ≠ lt:=aj ho1 hlt
  have hlt0:H lt = none:=s1.free hlt
  generalize upd H1 lt (.lst []) = H2 at s2 ht2 ho2
  have s2:=s1.trans s2
  refine @aq _ _ _ _ _ _ _ (aE (i:=5) i6.nd rfl (Or.inl rfl) (bG ai)) ⟨by show 0 <= sizeLine;decide,λlk hlk=>?_⟩
  have s3:ak H2 (upd H2 lk (.lst [])):=ak.upd hlk
  have hk3:upd H2 lk (.lst []) lk = some (.lst []):=af
  have ho3:=s3 _ _ ho2
  have ht3:=s3 _ _ ht2
  have nok:lo ≠ lk:=aj ho2 hlk
  have ntk:lt ≠ lk:=aj ht2 hlk
  have hlk0:H lk = none:=s2.free hlk
  generalize upd H2 lk (.lst []) = H3 at s3 hk3 ho3 ht3
  have s3:=s2.trans s3
  show At _ _ _ [some (.ref a),some (.ref lh),some (.str row),some (.ref lo),some (.ref lt),some (.ref lk),none,none,none,none] H3
  refine @au _ _ _ _ _ _ (g9 PassesOwn.never (iI iS) av) ⟨λm σ' H'=>∃ c:Cfg,(∃ x6 x7 x8 x9,σ' = [some (.ref a),some (.ref lh),some (.str row),some (.ref lo),some (.ref lt),some (.ref lk),x6,x7,x8,x9]) /\ H' lo = some (.lst (c.on.map bL)) /\ H' lt = some (.lst (c.aB.map V.str)) /\ GF H H' lk c.marks /\ iY ms c.on /\ c.aB.length <= row.length /\ c.on.length + m <= on.length + n /\ c.marks.length + m <= n /\ goN ms row m c = some d /\ ak H H',⟨n,⟨on,[],[]⟩,⟨_,_,_,_,rfl⟩,ho3,ht3,⟨[],hk3,bw.nil,by simp⟩,hok,Nat.zero_le _,Nat.le_refl _,by simp,hgo,s3⟩,?_⟩
  rintro m σ' H4 ⟨c,⟨x6,x7,x8,x9,rfl⟩,ho4,ht4,hk4,hok4,htl4,hol4,hml4,hgo4,s4⟩
  refine ⟨true,rfl,Ep ⟨_,λσ' H' z=>z,?_⟩⟩
  refine @aq _ _ _ _ _ _ _ (aE (i:=6) i6.nd rfl (Or.inl rfl) (aQ aV (by rfl) T.bN (by decide +kernel) (aa (pv 4) ai))) ⟨_,rfl,_,_,rfl,.inl (bu.of ht4),?_⟩
  rw [List.length_map]
  show At _ _ _ [some (.ref a),some (.ref lh),some (.str row),some (.ref lo),some (.ref lt),some (.ref lk),some (.int c.aB.length),x7,x8,x9] H4
  obtain ⟨md,hm⟩:=hok4.mode
  have hmm:=List.mem_of_getElem? hm
  obtain ⟨dx,lm,as,b,lr,dm,rs,ha,hlm,hal,hb,hmo,hlr,hA⟩:=(hR.same s4).mode hm
  have hru:cH ms (bz c.on) = md.rules:=by rw [cH,hm]
  refine @aq _ _ _ _ _ _ _ (aE (i:=7) i6.nd rfl (Or.inl rfl) (aS aW (aO (pv 0) rfl) (aS aW (pv 3) (ic fJ az) (λ_ _=>rfl)) (λ_ _=>rfl))) (⟨_,rfl,_,_,_,_,_,rfl,ha,T.fS,T.b8,rfl,⟨_,rfl,_,rfl,_,_,_,_,rfl,rfl,bu.of ho4,dD (dR hok4.1),_,_,_,_,rfl,rfl,bu.of hlm,dU hb,?_⟩⟩)
  refine @aq _ _ _ _ _ _ _ (aE (i:=8) i6.nd rfl (Or.inl rfl) (aZ (By T) (hr.mono (by decide)) rfl T.Dt T.pV.kp (T.pV.binds (by walk_at "4")) .nil aH (aa (pv 0) (aa (aS aW (pv 3) (ic fJ az) (λ_ _=>rfl)) (aa (pv 2) (aa (pv 6) ai)))))) ⟨_,rfl,_,rfl,_,rfl,_,_,_,_,rfl,rfl,bu.of ho4,dD (dR hok4.1),_,rfl,_,rfl,a,ms,md,bz c.on,c.aB.length,row,rfl,hR.same s4,hm,G.ok md hmm,hrow,htl4,λH5 s5=>?_⟩
  have ho5:=s5 _ _ ho4
  have ht5:=s5 _ _ ht4
  have hk5:=hk4.same s5
  have s5':=s4.trans s5
  cases hf:firstM md.rules row c.aB.length with
  | none =>
   have hrn:bX (cH ms (bz c.on)) row c.aB.length = none:=by rw [hru,bX,hf];rfl
   refine @au _ _ _ _ _ _ (bB (aA gc (pv 8) bJ (aF _)) av av) ⟨_,rfl,rfl,_,rfl,g6 (λh=>absurd rfl h) (λ_=>?_)⟩
   refine @au _ _ _ _ _ _ (bB (aA fF (pv 6) (aQ bf (by rfl) T.bN (by decide +kernel) (aa (pv 2) ai)) (aF _)) av av) ⟨_,rfl,_,rfl,_,rfl,bY (by omega),_,_,rfl,rfl,_,rfl,dG (λh=>?_) (λh=>?_)⟩
   ·have hlt':c.aB.length < row.length:=by omega
    have hst:cZ ms row c = some ⟨c.on,c.aB ++ [cQ ms (bz c.on)],c.marks⟩:=by
     rw [cZ,hrn]
     show (if c.aB.length < row.length then _ else _) = _
     rw [if_pos hlt']
    have ecol:cQ ms (bz c.on) = md.bh:=by rw [cQ,hm]
    refine @au _ _ _ _ _ _ (bH (e9 F.plainAttrs_list F.slot_list_append F.type_list_append c8 (pv 4) (aa (aO (pv 7) rfl) ai))) ⟨_,rfl,.inl ⟨rfl,_,bu.of ht5⟩,⟨_,rfl,_,_,_,_,_,rfl,(s5 _ _ hmo),T.d7,T.eF,rfl,⟨lt,_,_,rfl,rfl,ht5,fG (by rw [List.length_map];omega),?_⟩⟩⟩
    obtain ⟨m',rfl⟩:∃ m',m = m' + 1:=by
     cases m with
     | zero=>rw [goN,hst] at hgo4;cases hgo4
     | succ m'=>exact ⟨m',rfl⟩
    rw [goN,hst] at hgo4
    refine ⟨m',by omega,⟨c.on,c.aB ++ [cQ ms (bz c.on)],c.marks⟩,⟨_,_,_,_,rfl⟩,?_,?_,hk5.jA ht5 (Ne.symm ntk),hok4,?_,?_,?_,hgo4,?_⟩
    ·rw [ao not_];exact ho5
    ·rw [af]
     show _ = some (HO.lst ((c.aB ++ [cQ ms (bz c.on)]).map V.str))
     rw [List.map_append,ecol]
     rfl
    ·show (c.aB ++ [cQ ms (bz c.on)]).length <= _
     rw [List.length_append,List.length_cons,List.length_nil]
     omega
    ·show c.on.length + m' <= _;omega
    ·show c.marks.length + m' <= _;omega
    ·intro b o hb
     rw [ao (aj hb hlt0)]
     exact s5' _ _ hb
   ·have hst:cZ ms row c = none:=by
     rw [cZ,hrn]
     show (if c.aB.length < row.length then _ else _) = _
     rw [if_neg (by omega)]
    have hd:d = c:=by
     rw [jZ hst] at hgo4
     exact (Option.some.inj hgo4).symm
    subst hd
    refine @au _ _ _ _ _ _ (aI (cD (aa (pv 4) (aa (pv 3) (aa (pv 5) ai))))) ⟨_,rfl,_,rfl,_,rfl,by show 3 <= sizeLine;decide,λtp htp=>?_⟩
    refine q tp lt lo lk _ ⟨af,?_,?_,(hk5.same (ak.upd htp)).gm⟩ (hk5.same (ak.upd htp)) hlt0 hlo hlk0 (Ne.symm not_) ntk nok (s5'.to htp)
    ·exact ak.upd htp _ _ ht5
    ·exact ak.upd htp _ _ ho5
  | some j =>
   obtain ⟨R,hj,hruR,hfit⟩:=ve hf
   have hRm:=List.mem_of_getElem? hj
   obtain ⟨g1,g2⟩:=(G.ok md hmm).2 R hRm
   obtain ⟨r,hr0,hr1⟩:=hA.at hj
   obtain ⟨fe,fs,de,ds,PK⟩:=Fy (P:=P) (w:=w) (base:=base) T g1
   have hst:cZ ms row c = some (jl c R row):=by rw [cZ,hru,hruR]
   obtain ⟨m',rfl⟩:∃ m',m = m' + 1:=by
    cases m with
    | zero=>rw [goN,hst] at hgo4;cases hgo4
    | succ m'=>exact ⟨m',rfl⟩
   rw [goN,hst] at hgo4
   have hr5:=hr1.same s5
   have hel:=Dd (R:=R) (row:=row) g1 htl4
   refine @au _ _ _ _ _ _ (bB (aA gc (pv 8) bJ (aF _)) av av) ⟨_,rfl,rfl,_,rfl,g6 (λ_=>?_) (λh=>by cases h)⟩
   refine @aq _ _ _ _ _ _ _ (aE (i:=9) i6.nd rfl (Or.inl rfl) (aS aW (aO (pv 7) rfl) (pv 8) (λ_ _=>rfl))) (⟨_,rfl,_,_,_,_,_,rfl,(s5 _ _ hmo),T.d7,T.cU,rfl,⟨_,rfl,_,_,_,_,rfl,rfl,bu.of (s5 _ _ hlr),dU hr0,?_⟩⟩)
   obtain ⟨dr,pa,o1,dp,o2⟩:=id hr5
   refine @aq _ _ _ _ _ _ _ (bH (e9 F.plainAttrs_list F.slot_list_extend F.type_list_extend zV (pv 4) (aa (aT D6 (bG (aa (aO (pv 9) rfl) ai)) (br (aO (pv 9) rfl) PK.cl PK.me PK.ge (hr.mono (by decide)) PK.be .nil aH (aa (pv 2) (aa (pv 6) ai)))) ai))) ⟨_,rfl,.inl ⟨rfl,_,bu.of ht5⟩,⟨_,rfl,_,_,_,_,_,rfl,o1,T.cu,T.eE,rfl,⟨by show 1 <= sizeLine;decide,λl1 hl1=>?_⟩⟩⟩
   have s6:ak H5 (upd H5 l1 (.lst [.str R.bh])):=ak.upd hl1
   have hl6:upd H5 l1 (.lst [.str R.bh]) l1 = some (.lst [.str R.bh]):=af
   generalize upd H5 l1 (.lst [.str R.bh]) = H6 at s6 hl6
   refine ⟨_,rfl,_,_,_,_,_,rfl,(s6 _ _ o1),T.cu,T.cM,rfl,⟨pa,dp,_,rfl,s6 _ _ o2,PK.ne _,_,rfl,_,rfl,pa,dp,R.signs,row,c.aB.length,rfl,s6 _ _ o2,by omega,hrow,htl4,?_⟩⟩
   rw [yH hfit]
   refine ⟨l1,_,_,rfl,rfl,hl6,by omega,by omega,by rw [Int.toNat_natCast];exact bY (by simp only [List.length_cons,List.length_nil];omega),λl2 hl2=>?_⟩
   rw [Int.toNat_natCast,nS]
   have s7:ak H5 (upd H6 l2 (.lst (List.replicate (d9 R row c.aB.length) (V.str R.bh)))):=s6.to hl2
   have hl7:upd H6 l2 (.lst (List.replicate (d9 R row c.aB.length) (V.str R.bh))) l2 = some (.lst (List.replicate (d9 R row c.aB.length) (V.str R.bh))):=af
   generalize upd H6 l2 (.lst (List.replicate (d9 R row c.aB.length) (V.str R.bh))) = H7 at s7 hl7
   have ht7:=s7 _ _ ht5
   have ho7:=s7 _ _ ho5
   have hk7:=hk5.same s7
   refine ⟨lt,l2,_,_,rfl,rfl,ht7,hl7,bY (by rw [List.length_map,List.length_replicate];omega),?_⟩
   have ht8:upd H7 lt (.lst (c.aB.map V.str ++ List.replicate (d9 R row c.aB.length) (V.str R.bh))) lt = some (.lst ((jl c R row).aB.map V.str)):=by
    rw [af]
    show _ = some (HO.lst ((c.aB ++ List.replicate (d9 R row c.aB.length) R.bh).map V.str))
    rw [List.map_append,List.map_replicate]
   have ho8:upd H7 lt (.lst (c.aB.map V.str ++ List.replicate (d9 R row c.aB.length) (V.str R.bh))) lo = some (.lst (c.on.map bL)):=by rw [ao not_];exact ho7
   have hk8:GF H (upd H7 lt (.lst (c.aB.map V.str ++ List.replicate (d9 R row c.aB.length) (V.str R.bh)))) lk c.marks:=hk7.jA ht7 (Ne.symm ntk)
   have hr8:cR t (upd H7 lt (.lst (c.aB.map V.str ++ List.replicate (d9 R row c.aB.length) (V.str R.bh)))) r R:=(hr5.same s7).jA ht7
   have s8:ak H (upd H7 lt (.lst (c.aB.map V.str ++ List.replicate (d9 R row c.aB.length) (V.str R.bh)))):=λb o hb=>by rw [ao (aj hb hlt0)];exact s7 _ _ (s5' _ _ hb)
   generalize upd H7 lt (.lst (c.aB.map V.str ++ List.replicate (d9 R row c.aB.length) (V.str R.bh))) = H8 at ht8 ho8 hk8 hr8 s8
   refine @aM _ _ _ _ _ _ _ (λσ' H'=>(∃ x7 x8,σ' = [some (.ref a),some (.ref lh),some (.str row),some (.ref lo),some (.ref lt),some (.ref lk),some (.int c.aB.length),x7,x8,some (.ref r)]) /\ H' lo = some (.lst (c.on.map bL)) /\ H' lt = some (.lst ((jl c R row).aB.map V.str)) /\ GF H H' lk (jl c R row).marks /\ cR t H' r R /\ ak H H') (bB (aA om (aO (pv 9) rfl) aG (aF _)) av av) ?_ ?_
   ·obtain ⟨dr8,pa8,o8,p8⟩:=id hr8
    refine ⟨_,rfl,_,_,_,_,_,rfl,o8,T.cu,T.eW,rfl,⟨rfl,_,rfl,g6 (λh=>?_) (λh=>bg ⟨⟨_,_,rfl⟩,ho8,ht8,?_,hr8,s8⟩)⟩⟩
    ·have h:R.fold ≠ "" := λz=>h (by rw [z])
     obtain ⟨ps,hps,hAp,hfr⟩:=hk8
     refine @au _ _ _ _ _ _ (bH (e9 F.plainAttrs_list F.slot_list_append F.type_list_append c8 (pv 5) (aa (cD (aa (pv 6) (aa (aO (pv 9) rfl) ai))) ai))) ⟨_,rfl,.inl ⟨rfl,_,bu.of hps⟩,_,rfl,⟨_,rfl,_,_,_,_,_,rfl,o8,T.cu,T.eW,rfl,⟨by show 2 <= sizeLine;decide,λtp htp=>?_⟩⟩⟩
     have s9:ak H8 (upd H8 tp (.tup [.int c.aB.length,.str R.fold])):=ak.upd htp
     have hp9:upd H8 tp (.tup [.int c.aB.length,.str R.fold]) tp = some (.tup [.int c.aB.length,.str R.fold]):=af
     generalize upd H8 tp (.tup [.int c.aB.length,.str R.fold]) = H9 at s9 hp9
     have hps9:=s9 _ _ hps
     have hpl:ps.length <= 100000:=by rw [hAp.1];omega
     refine ⟨lk,_,_,rfl,rfl,hps9,fG (by rw [List.length_map];omega),⟨_,_,rfl⟩,?_,?_,?_,?_,?_⟩
     ·rw [ao nok];exact s9 _ _ ho8
     ·rw [ao ntk];exact s9 _ _ ht8
     ·have em:(jl c R row).marks = c.marks ++ [(c.aB.length,R.fold)]:=if_neg h
      rw [em]
      refine ⟨ps ++ [tp],by rw [af,List.map_append];rfl,bw.snoc (hAp.mono λp m e=>?_) ?_,λp hp=>?_⟩
      ·rw [ao (cB (s9 _ _ e) hps9 (by intro z;cases z))];exact s9 _ _ e
      ·rw [ao (cB hp9 hps9 (by intro z;cases z))];exact hp9
      ·rcases List.mem_append.mp hp with hp | hp
       ·exact hfr p hp
       ·rw [List.mem_singleton.mp hp];exact s8.free htp
     ·exact (hr8.same s9).jA hps9
     ·intro b o hb
      rw [ao (aj hb hlk0)]
      exact s9 _ _ (s8 _ _ hb)
    ·have h:R.fold = "" := V.str.inj h
     have em:(jl c R row).marks = c.marks:=if_pos h
     rw [em]
     exact hk8
   rintro σ' H9 ⟨⟨y7,y8,rfl⟩,ho9,ht9,hk9,hr9,s9⟩
   refine @au _ _ _ _ _ _ (bH (aZ (BD T) (hr.mono (by decide)) rfl T.AI T.oG.kp (T.oG.binds (by walk_at "2")) .nil aH (aa (pv 3) (aa (pv 9) ai)))) ⟨_,rfl,_,rfl,lo,r,c.on,R,rfl,ho9,hr9,hok4.1,by omega,G.gd hmm hRm,?_⟩
   have hdl:=pA (on:=c.on) (d:=R.bQ) (g:=R.goal)
   refine ⟨m',by omega,jl c R row,⟨_,_,_,_,rfl⟩,af,?_,hk9.jA ho9 (Ne.symm nok),hok4.bQ G hmm hRm,?_,?_,?_,hgo4,?_⟩
   ·rw [ao (Ne.symm not_)];exact ht9
   ·show (c.aB ++ List.replicate _ _).length <= _
    rw [List.length_append,List.length_replicate]
    exact hel
   ·show (cC c.on R.bQ R.goal).length + m' <= _
    omega
   ·show (if R.fold = "" then c.marks else c.marks ++ [(c.aB.length,R.fold)]).length + m' <= _
    split
    ·omega
    ·rw [List.length_append,List.length_cons,List.length_nil];omega
   ·intro b o hb
    rw [ao (aj hb hlo)]
    exact s9 _ _ hb
theorem join_eq (sep:Str) (ys:List Str):PySem.Txt.join sep ys = Str.join sep ys:=eq_of_beq (PyProof.Rows.join_plain_closes sep ys)
theorem Hy {b c:Bool} {A B:Prop} (h:b = c) (k:if c = true then A else B):if b = true then A else B:=by rw [h];exact k
def Hg (K:PySem.W.Frag):Sp:=λvs H Q _=>∃ (a:Addr) (ns:List Int) (k m:Int),vs = [.ref a,.int k,.int m] /\ bu K H a (ns.map V.int) /\ 0 <= k /\ k <= 100000 /\ 0 < m /\ ns.length <= 63 /\
 ∀ d H',0 <= d -> d < m -> ak H H' -> Q (.int d) H'
theorem iX (T:Txt K mg t):bC P w K mg base dh 1 t.oU t.vU ["_law_script","_law_k","_law_many"] (Hg K):=by
 refine T.fB.ok kT ?_ ?_
 walk_at "i"
 ·obtain ⟨a,ns,k,m,rfl,hS,hk0,hk1,hm,hl,q⟩:=h
  refine @aM _ _ _ _ _ _ _ (λσ' H'=>∃ c:Int,σ' = [some (.ref a),some (.int k),some (.int m),some (.int c),none,none,none] /\ H' = H) (aE (i:=3) kT.nd rfl (Or.inl rfl) (cP (aA ia (aQ aV (by rfl) T.bN (by decide +kernel) (aa (pv 0) ai)) az (aF _)) (aS aW (pv 0) (aT iF (pv 1) (aQ aV (by rfl) T.bN (by decide +kernel) (aa (pv 0) ai))) (λ_ _=>rfl)) az)) ?_ ?_
  ·refine ⟨_,rfl,_,_,rfl,.inl hS,_,_,rfl,rfl,_,rfl,dG (λh=>?_) (λh=>⟨0,rfl,rfl⟩)⟩
   refine ⟨_,rfl,_,rfl,_,rfl,_,_,rfl,.inl hS,_,_,rfl,rfl,h,?_⟩
   obtain ⟨h1,h2⟩:=kg k h
   obtain ⟨v,e1,e2⟩:=DG (ns.map V.int) h1 h2
   rw [List.getElem?_map] at e1
   obtain ⟨c,e3,rfl⟩:=Option.map_eq_some_iff.mp e1
   exact ⟨_,_,_,_,rfl,rfl,hS,e2,c,rfl,rfl⟩
  rintro σ' H' ⟨c,rfl,e⟩
  rw [e]
  clear e H'
  refine @aq _ _ _ _ _ _ _ (aE (i:=4) kT.nd rfl (Or.inl rfl) (pv 3)) ⟨_,rfl,?_⟩
  refine @aM _ _ _ _ _ _ _ (λσ' H'=>(∃ x y,σ' = [some (.ref a),some (.int k),some (.int m),some (.int c),x,y,none]) /\ H' = H) (bB (PW.pt (fD (aA ia (aQ aV (by rfl) T.bN (by decide +kernel) (aa (pv 0) ai)) az (aF _)) (eO (aA cA (aT iF (aS aW (pv 0) az (λ_ _=>rfl)) az) az (aF _))))) av av) ?_ ?_
  ·refine ⟨_,rfl,_,_,rfl,.inl hS,_,_,rfl,rfl,_,rfl,dG (λh=>?_) (λh=>bg ⟨⟨_,_,rfl⟩,rfl⟩)⟩
   obtain ⟨n0,r0,rfl⟩:∃ n0 r0,ns = n0 :: r0:=by
    cases ns with
    | nil=>simp at h
    | cons x r=>exact ⟨x,r,rfl⟩
   refine ⟨_,rfl,_,_,_,_,rfl,rfl,hS,bq (j:=0) rfl,_,_,rfl,rfl,(by show (0:Int) < 2;decide),rfl,_,rfl,dG (λh2=>?_) (λh2=>bg ⟨⟨_,_,rfl⟩,rfl⟩)⟩
   refine @aM _ _ _ _ _ _ _ (λσ' H'=>(∃ (x:Int) (y:Option V),σ' = [some (.ref a),some (.int k),some (.int m),some (.int c),some (.int x),y,none]) /\ H' = H) (dZ PassesOwn.never rfl (jd rfl T.jh (aa (aT iF (aT sJ (pv 1) (aQ aV (by rfl) T.bN (by decide +kernel) (aa (pv 0) ai))) az) ai)) (b9 (i:=5) kT.nd rfl (Or.inl rfl)) av) ?_ ?_
   ·have hd:=kg (k / (((n0 :: r0).map V.int).length:Int)) (m:=60) (by decide)
    refine ⟨_,rfl,_,rfl,_,_,rfl,.inl hS,_,_,rfl,rfl,⟨h,(by rw [List.length_map] at h ⊢;omega)⟩,_,_,rfl,rfl,(by show (0:Int) < 60;decide),_,rfl,by omega,by omega,jv (λj σ' H'=>(∃ (x:Int) (y:Option V),σ' = [some (.ref a),some (.int k),some (.int m),some (.int c),some (.int x),y,none]) /\ H' = H) ⟨⟨_,_,rfl⟩,rfl⟩ ?_ (λσ' H' z=>z)⟩
    rintro j σ' H1 hj ⟨⟨x,y,rfl⟩,e⟩
    rw [e]
    exact @au _ _ _ _ _ _ (aE (i:=4) kT.nd rfl (Or.inl rfl) (aT sJ (pv 4) az)) ⟨_,rfl,_,_,rfl,rfl,⟨by decide,by decide⟩,⟨_,_,rfl⟩,rfl⟩
   rintro σ' H' ⟨⟨x,y,rfl⟩,e⟩
   rw [e]
   clear e H'
   refine @au _ _ _ _ _ _ (bB (aA ia (pv 4) az (aF _)) av av) ⟨_,rfl,_,_,rfl,rfl,_,rfl,dG (λh3=>?_) (λh3=>bg ⟨⟨_,_,rfl⟩,rfl⟩)⟩
   have hd:=kg (x / 2 % 500009) hm
   exact @au _ _ _ _ _ _ (aI (aT iF (aT iF (aT sJ (pv 4) az) az) (pv 2))) ⟨_,rfl,_,_,rfl,rfl,⟨by decide,by decide⟩,_,_,rfl,rfl,(by show (0:Int) < 500009;decide),_,rfl,_,_,rfl,rfl,hm,q _ H hd.1 hd.2 (ak.refl H)⟩
  rintro σ' H' ⟨⟨x,y,rfl⟩,e⟩
  rw [e]
  clear e H'
  refine @aq _ _ _ _ _ _ _ (aE (i:=6) kT.nd rfl (Or.inl rfl) (aT cN (aT cN (aT iF (pv 3) az) (aT oj (aT oj az (pv 1)) (pv 1))) az)) ?_
  walk_at "rd"
  refine ⟨by decide,.inl ⟨by decide,by decide⟩,.inr ⟨by omega,by omega⟩,?_⟩
  refine @au _ _ _ _ _ _ (aI (aT iF (aT iF (aT oj (aT iF (aT oj (pv 6) az) az) az) az) (pv 2))) ?_
  walk_at "rd"
  have hd:=kg ((c % 1000003 + 31 * k * k + 1) * 48271 % 999983 * 7919 % 524287) hm
  exact ⟨.inr ⟨by decide,by decide⟩,by decide,.inr ⟨by decide,by decide⟩,by decide,hm,q _ H hd.1 hd.2 (ak.refl H)⟩
def KS (R:bx) (z:Str):List V:=[.str R.sort,.str z,.str R.bh,.str R.bQ,nW R.goal,.str R.fold]
def LR (H:Hp) (tr:Addr) (R:bx):Prop:=∃ z,H tr = some (.tup (KS R z)) /\ z.length <= 200 /\ (¬ bare R.sort -> z = R.signs)
def vc (H:Hp) (tm:Addr) (m:aN):Prop:=∃ lr rs,H tm = some (.tup [.str m.name,.str m.bh,.ref lr]) /\ H lr = some (.lst (rs.map V.ref)) /\ bw (LR H) rs m.rules
def D8 (H:Hp) (lm:Addr) (ms:List aN):Prop:=∃ ts,H lm = some (.lst (ts.map V.ref)) /\ bw (vc H) ts ms
theorem LR.same {H H':Hp} {tr:Addr} {R:bx} (h:LR H tr R) (s:ak H H'):LR H' tr R:=let ⟨z,a,b⟩:=h;⟨z,s _ _ a,b⟩
theorem vc.same {H H':Hp} {tm:Addr} {m:aN} (h:vc H tm m) (s:ak H H'):vc H' tm m:=let ⟨lr,rs,x,y,z⟩:=h;⟨lr,rs,s _ _ x,s _ _ y,z.mono λ_ _ r=>r.same s⟩
theorem D8.same {H H':Hp} {lm:Addr} {ms:List aN} (h:D8 H lm ms) (s:ak H H'):D8 H' lm ms:=let ⟨ts,x,z⟩:=h;⟨ts,s _ _ x,z.mono λ_ _ r=>r.same s⟩
def KD (R:bx):Prop:=¬ bare R.sort -> 1 <= R.signs.length
theorem jz (x:Str) (i:Nat) (hi:i <= x.length):(PySem.Txt.slice x (some (i:Int)) none).cps.toList = x.cps.toList.drop i:=by
 have:=eq_of_beq (PyProof.Rows.slice_closes_fromL (x:=x) (i:=(i:Int)) (b:=(x.length:Int)) (by omega) (by omega) rfl)
 rw [this]
 show (x.cps.toList.drop (i:Int).toNat).take ((x.length:Int) - (i:Int)).toNat = _
 rw [Int.toNat_natCast,List.take_of_length_le (by rw [List.length_drop,aU];omega)]
theorem yf {x sg:Str}:(decide (0 + sg.length <= x.length) && Builtin.Str.subAt x sg 0) = decide (x.cps.toList.take sg.length = sg.cps.toList):=by
 have e2:Builtin.Str.subAt x sg 0 = decide (x.cps.toList.take sg.length = sg.cps.toList):=by
  unfold Builtin.Str.subAt
  rw [Bool.eq_iff_iff,beq_iff_eq,decide_eq_true_eq]
  rw [← Array.toList_inj]
  simp [Array.toList_extract,List.extract_eq_take_drop]
 rw [e2,Bool.eq_iff_iff,Bool.and_eq_true,decide_eq_true_eq,decide_eq_true_eq]
 refine ⟨λz=>z.2,λz=>⟨?_,z⟩⟩
 have:=congrArg List.length z
 rw [List.length_take,aU,aU] at this
 omega
theorem yJ {b:Bool} {x y:V}:we [x,y] (if b = true then (1:Int) else 0) = some (if b = true then y else x):=by
 cases b <;> rfl
def Gp:Sp:=λvs H Q _=>∃ (tr:Addr) (R:bx) (row:Str) (i:Nat),vs = [.ref tr,.str row,.int i] /\ LR H tr R /\ R.sort ∈ sorts /\ KD R /\ row.length <= 1000 /\ i <= row.length /\ ∀ H',ak H H' -> Q (fj R.sort R.signs row i) H'
theorem BQ (T:Txt K mg t):bC P w K mg base dh 1 t.pH t.v5 ["_law_rule","_law_row","_law_at"] Gp:=by
 refine T.pW.ok rM ?_ ?_
 walk_at "i"
 ·obtain ⟨tr,R,row,i,rfl,⟨z,htr,hzl,hzs⟩,hs,hsg,hrow,hi,q⟩:=h
  have hT:=λ{H':Hp} (s':ak H H')=>gh.of (K:=K) (s' _ _ htr)
  have hT0:=gh.of (K:=K) htr
  refine @aq _ _ _ _ _ _ _ (bB (aA cA (aS bW (pv 0) az (λ_ _=>rfl)) aG (aF _)) av av) ⟨_,rfl,_,_,_,_,rfl,rfl,hT0,bq (j:=0) rfl,rfl,_,rfl,dG (λh=>?_) (λh1=>bg ?_)⟩
  ·have h:=V.str.inj h
   refine @au _ _ _ _ _ _ (aI (aS aW (bG (aa bJ (aa az ai))) (cS gZ (by rfl) T.nU (by decide +kernel) (aa (fC cA (pv 2) (aQ bf (by rfl) T.bN (by decide +kernel) (aa (pv 1) ai)) (aF _)) ai)) (λ_ _=>rfl))) ⟨by show 2 <= sizeLine;decide,λl hl=>⟨_,rfl,_,rfl,_,rfl,bY (by omega),rfl,.inr ⟨_,rfl,l,_,_,_,rfl,rfl,bu.of af,yJ,?_⟩⟩⟩
   have q0:=q _ (ak.upd (o:=.lst [.cK,.int 0]) hl)
   rw [fj,if_pos h] at q0
   by_cases e:i = row.length
   ·rw [if_pos e] at q0
    rw [decide_eq_true (show V.int (i:Int) = V.int (row.length:Int) by rw [e])]
    exact q0
   ·rw [if_neg e] at q0
    rw [decide_eq_false (show ¬ V.int (i:Int) = V.int (row.length:Int) from λy=>e (by have:=V.int.inj y;omega))]
    exact q0
  have h1:R.sort ≠ "end" := λy=>h1 (by rw [y])
  refine @aq _ _ _ _ _ _ _ (bB (aA cA (pv 2) (aQ bf (by rfl) T.bN (by decide +kernel) (aa (pv 1) ai)) (aF _)) av av) ⟨_,rfl,_,rfl,_,rfl,bY (by omega),rfl,_,rfl,dG (λh=>?_) (λh3=>bg ?_)⟩
  ·have h:i = row.length:=by have:=V.int.inj h;omega
   have q0:=q H (ak.refl H)
   have e:fj R.sort R.signs row i = .cK:=by
    by_cases h2:R.sort = "word"
    ·rw [fj,if_neg h1,if_pos h2,if_neg]
     intro y
     have:=congrArg List.length y
     rw [List.length_take,List.length_drop,aU,aU] at this
     have:=hsg (by rw [h2];decide)
     omega
    ·exact ir h1 h2 (by omega)
   rw [e] at q0
   exact @au _ _ _ _ _ _ (aI bJ) q0
  have h3:i < row.length:=by
   have:¬ i = row.length:=λy=>h3 (by rw [y])
   omega
  obtain ⟨c,e1,e2⟩:=strAt (row:=row) (i:=(i:Int)) (by omega) (by omega)
  rw [Int.toNat_natCast] at e1
  refine @aq _ _ _ _ _ _ _ (bB (aA cA (aS bW (pv 0) az (λ_ _=>rfl)) aG (aF _)) av av) ⟨_,rfl,_,_,_,_,rfl,rfl,hT0,bq (j:=0) rfl,rfl,_,rfl,dG (λh=>?_) (λh4=>bg ?_)⟩
  ·have h:=V.str.inj h
   have q0:=q H (ak.refl H)
   rw [gE h1 (by rw [h];decide) e1,if_pos (.inr h),if_neg (by rw [h];decide)] at q0
   exact @au _ _ _ _ _ _ (aI az) q0
  have h4:R.sort ≠ "still" := λy=>h4 (by rw [y])
  refine @aq _ _ _ _ _ _ _ (bB (aA cA (aS bW (pv 0) az (λ_ _=>rfl)) aG (aF _)) av av) ⟨_,rfl,_,_,_,_,rfl,rfl,hT0,bq (j:=0) rfl,rfl,_,rfl,dG (λh=>?_) (λh5=>bg ?_)⟩
  ·have h:=V.str.inj h
   have hz:z = R.signs:=hzs (by rw [h];decide)
   refine @au _ _ _ _ _ _ (aI (aS aW (bG (aa bJ (aa (aQ bf (by rfl) T.bN (by decide +kernel) (aa (aS bW (pv 0) az (λ_ _=>rfl)) ai)) ai))) (cS gZ (by rfl) T.nU (by decide +kernel) (aa (e9 F.plainAttrs_str F.slot_str_startswith F.type_str_startswith nX (cy gR (pv 1) (cF (pv 2)) dj) (aa (aS bW (pv 0) az (λ_ _=>rfl)) ai)) ai)) (λ_ _=>rfl))) ⟨_,rfl,_,_,_,_,rfl,rfl,hT0,bq (j:=1) rfl,_,rfl,bY (by omega),by show 2 <= sizeLine;decide,λl hl=>⟨_,rfl,_,rfl,_,rfl,_,rfl,bY (by omega),rfl,_,rfl,_,_,_,_,rfl,rfl,hT (ak.upd hl),bq (j:=1) rfl,_,_,rfl,rfl,.inr ⟨_,rfl,l,_,_,_,rfl,rfl,bu.of af,yJ,?_⟩⟩⟩
   have q0:=q _ (ak.upd (o:=.lst [.cK,.int z.length]) hl)
   rw [fj,if_neg h1,if_pos h,← hz] at q0
   rw [yf,jz row i hi]
   by_cases e:(row.cps.toList.drop i).take z.length = z.cps.toList
   ·rw [if_pos e] at q0
    rw [decide_eq_true e]
    exact q0
   ·rw [if_neg e] at q0
    rw [decide_eq_false e]
    exact q0
  have h5:R.sort ≠ "word" := λy=>h5 (by rw [y])
  have qd:=λH' (s':ak H H')=>q H' s'
  simp only [gE h1 h5 e1] at qd
  refine @aq _ _ _ _ _ _ _ (bB (aA cA (aS bW (pv 0) az (λ_ _=>rfl)) aG (aF _)) av av) ⟨_,rfl,_,_,_,_,rfl,rfl,hT0,bq (j:=0) rfl,rfl,_,rfl,dG (λh=>?_) (λh6=>bg ?_)⟩
  ·have h:=V.str.inj h
   have q0:=qd H (ak.refl H)
   rw [if_pos (.inl h),if_pos h] at q0
   exact @au _ _ _ _ _ _ (aI az) q0
  have h6:R.sort ≠ "any" := λy=>h6 (by rw [y])
  have h7:¬ (R.sort = "any" ∨ R.sort = "still"):=λy=>y.elim h6 h4
  have hb:¬ bare R.sort:=λy=>by
   rcases y with y | y | y
   ·exact h6 y
   ·exact h4 y
   ·exact h1 y
  have hz:z = R.signs:=hzs hb
  refine @aq _ _ _ _ _ _ _ (bB (aA cA (aS bW (pv 0) az (λ_ _=>rfl)) aG (aF _)) av av) ⟨_,rfl,_,_,_,_,rfl,rfl,hT0,bq (j:=0) rfl,rfl,_,rfl,dG (λh=>?_) (λh8=>bg ?_)⟩
  ·have h:=V.str.inj h
   refine @au _ _ _ _ _ _ (aI (aS aW (bG (aa az (aa bJ ai))) (cS gZ (by rfl) T.nU (by decide +kernel) (aa (fC gY (aS k8 (pv 1) (pv 2) (λ_ _=>rfl)) (aS bW (pv 0) az (λ_ _=>rfl)) rfl) ai)) (λ_ _=>rfl))) ⟨by show 2 <= sizeLine;decide,λl hl=>⟨_,rfl,_,rfl,_,_,c,rfl,rfl,bY (by omega),e2,_,rfl,_,_,_,_,rfl,rfl,hT (ak.upd hl),bq (j:=1) rfl,_,_,rfl,rfl,.inr ⟨_,rfl,l,_,_,_,rfl,rfl,bu.of af,yJ,?_⟩⟩⟩
   have q0:=qd _ (ak.upd (o:=.lst [.int 1,.cK]) hl)
   rw [if_neg h7,if_pos h,← hz] at q0
   rw [PySem.StrLaws.found_one]
   by_cases e:c ∈ z.cps.toList
   ·rw [if_pos e] at q0
    rw [decide_eq_true e]
    exact q0
   ·rw [if_neg e] at q0
    rw [decide_eq_false e]
    exact q0
  have h8:R.sort ≠ "none" := λy=>h8 (by rw [y])
  simp only [if_neg h7,if_neg h8,← hz] at qd
  refine @aq _ _ _ _ _ _ _ (aE (i:=3) rM.nd rfl (Or.inl rfl) az) ?_
  show At _ _ _ [some (.ref tr),some (.str row),some (.int i),some (.int 0)] H
  refine @aM _ _ _ _ _ _ _ (λσ' H'=>H' = H /\ ∃ j:Nat,σ' = [some (.ref tr),some (.str row),some (.int i),some (.int j)] /\ j = if c ∈ z.cps.toList then (if R.sort = "many" then 1 + gi z.cps.toList (row.cps.toList.drop (i + 1)) else 1) else 0) (g9 PassesOwn.never (PW.pt (fD (aA fF (aT cN (pv 2) (pv 3)) (aQ bf (by rfl) T.bN (by decide +kernel) (aa (pv 1) ai)) (aF _)) (fD (aA gY (aS k8 (pv 1) (aT cN (pv 2) (pv 3)) (λ_ _=>rfl)) (aS bW (pv 0) az (λ_ _=>rfl)) rfl) (eO (PW.pt (g8 (aA cA (aS bW (pv 0) az (λ_ _=>rfl)) aG (aF _)) (gv (aA cA (pv 3) az (aF _))))))))) av) ?_ ?_
  ·refine ⟨λm σ' H'=>H' = H /\ ∃ j:Nat,σ' = [some (.ref tr),some (.str row),some (.int i),some (.int j)] /\ i + j <= row.length /\ m = row.length - j /\ (R.sort = "many" -> gi z.cps.toList (row.cps.toList.drop i) = j + gi z.cps.toList (row.cps.toList.drop (i + j))) /\ (R.sort ≠ "many" -> j <= 1) /\ (0 < j -> c ∈ z.cps.toList),⟨_,rfl,0,rfl,by omega,rfl,λ_=>by rw [Nat.zero_add,Nat.add_zero],λ_=>by omega,λy=>by omega⟩,?_⟩
   rintro m σ' H' ⟨e,j,rfl,hj,rfl,hm,ho,hc⟩
   rw [e]
   clear e H'
   have hstep:=iZ (sg:=z.cps.toList) e1
   refine ⟨_,rfl,_,rfl,_,_,rfl,rfl,_,rfl,_,rfl,bY (by omega),_,_,rfl,rfl,_,rfl,dG (λh=>?_) (λh=>?_)⟩
   ·have hlt:i + j < row.length:=by omega
    obtain ⟨c2,g1,g2⟩:=strAt (row:=row) (i:=(i:Int) + (j:Int)) (by omega) (by omega)
    rw [show ((i:Int) + (j:Int)).toNat = i + j by omega] at g1
    refine ⟨_,rfl,_,rfl,_,rfl,_,_,rfl,rfl,_,_,c2,rfl,rfl,bY (by omega),g2,_,rfl,_,_,_,_,rfl,rfl,hT0,bq (j:=1) rfl,_,_,rfl,rfl,_,rfl,?_⟩
    rw [PySem.StrLaws.found_one]
    refine dG (λh2=>?_) (λh2=>?_)
    ·have hj0:j = 0 -> c ∈ z.cps.toList:=λy=>by
      subst y
      rw [Nat.add_zero,e1] at g1
      rw [Option.some.inj g1];exact h2
     have key:∀ {G:Prop},(R.sort = "many" ∨ j = 0 -> G) -> (¬ R.sort = "many" -> ¬ j = 0 -> G) -> G:=λa b=>by
      by_cases y:R.sort = "many"
      ·exact a (.inl y)
      ·by_cases y2:j = 0
       ·exact a (.inr y2)
       ·exact b y y2
     have go:(R.sort = "many" ∨ j = 0) -> i + (j + 1) <= row.length /\ (R.sort = "many" -> gi z.cps.toList (row.cps.toList.drop i) = (j + 1) + gi z.cps.toList (row.cps.toList.drop (i + (j + 1)))) /\ (R.sort ≠ "many" -> j + 1 <= 1) /\ (0 < j + 1 -> c ∈ z.cps.toList):=λy=>by
      refine ⟨by omega,λy2=>?_,λy2=>?_,λ_=>?_⟩
      ·have:=hm y2
       rw [iZ (j:=i + j) g1,if_pos h2] at this
       rw [show i + (j + 1) = i + j + 1 by omega]
       omega
      ·rcases y with y | y
       ·exact absurd y y2
       ·omega
      ·by_cases y3:j = 0
       ·exact hj0 y3
       ·exact hc (by omega)
     refine ⟨_,rfl,_,_,_,_,rfl,rfl,hT0,bq (j:=0) rfl,rfl,_,rfl,dG (λh3=>?_) (λh3=>?_)⟩
     ·obtain ⟨a1,a2,a3,a4⟩:=go (.inl (V.str.inj h3))
      refine ⟨_,λσ' H' z=>z,@au _ _ _ _ _ _ (aE (i:=3) rM.nd rfl (Or.inl rfl) (aT cN (pv 3) az)) ⟨_,rfl,_,_,rfl,rfl,row.length - (j + 1),by omega,rfl,j + 1,by simp,a1,rfl,a2,a3,a4⟩⟩
     ·refine ⟨_,rfl,rfl,_,rfl,dG (λh4=>?_) (λh4=>?_)⟩
      ·have h4:j = 0:=by have:=V.int.inj h4;omega
       obtain ⟨a1,a2,a3,a4⟩:=go (.inr h4)
       refine ⟨_,λσ' H' z=>z,@au _ _ _ _ _ _ (aE (i:=3) rM.nd rfl (Or.inl rfl) (aT cN (pv 3) az)) ⟨_,rfl,_,_,rfl,rfl,row.length - (j + 1),by omega,rfl,j + 1,by simp,a1,rfl,a2,a3,a4⟩⟩
      ·have h3:¬ R.sort = "many" := λy=>h3 (by rw [y])
       have h4:¬ j = 0:=λy=>h4 (by rw [y];rfl)
       have:=ho h3
       refine ⟨rfl,j,rfl,?_⟩
       rw [if_pos (hc (by omega)),if_neg h3]
       omega
    ·refine ⟨rfl,j,rfl,?_⟩
     by_cases hm2:R.sort = "many"
     ·have:=hm hm2
      rw [iZ (j:=i + j) g1,if_neg h2,hstep] at this
      split
      ·rename_i y;rw [if_pos y] at this;omega
      ·rename_i y;rw [if_neg y] at this;omega
     ·have hj1:=ho hm2
      split
      ·rename_i y
       by_cases y2:j = 0
       ·subst y2
        rw [Nat.add_zero,e1] at g1
        exact absurd (Option.some.inj g1 ▸ y) h2
       ·omega
      ·rename_i y
       by_cases y2:j = 0
       ·exact y2
       ·exact absurd (hc (by omega)) y
   ·have hge:i + j = row.length:=by omega
    have hjp:0 < j:=by omega
    have hcm:=hc hjp
    refine ⟨rfl,j,rfl,?_⟩
    rw [if_pos hcm]
    by_cases hm2:R.sort = "many"
    ·have:=hm hm2
     have hd:row.cps.toList.drop (i + j) = []:=List.drop_eq_nil_of_le (by rw [aU];omega)
     rw [hd,gi,hstep,if_pos hcm] at this
     rw [if_pos hm2]
     omega
    ·have:=ho hm2
     rw [if_neg hm2]
     omega
  rintro σ' H' ⟨e,j,rfl,hj⟩
  rw [e]
  clear e H'
  refine @au _ _ _ _ _ _ (aI (aS aW (bG (aa bJ (aa (pv 3) ai))) (cS gZ (by rfl) T.nU (by decide +kernel) (aa (fC ia (pv 3) az (aF _)) ai)) (λ_ _=>rfl))) ⟨_,rfl,by show 2 <= sizeLine;decide,λl hl=>⟨_,rfl,_,_,rfl,rfl,.inr ⟨_,rfl,l,_,_,_,rfl,rfl,bu.of af,yJ,?_⟩⟩⟩
  have q0:=qd _ (ak.upd (o:=.lst [.cK,.int j]) hl)
  by_cases y:c ∈ z.cps.toList
  ·rw [if_pos y] at q0 hj
   rw [decide_eq_true (show (0:Int) < (j:Int) by split at hj <;> omega)]
   by_cases hm2:R.sort = "many"
   ·rw [if_pos hm2] at q0 hj
    rw [show (1:Int) + ((gi z.cps.toList (row.cps.toList.drop (i + 1)):Nat):Int) = ((j:Nat):Int) by omega] at q0
    exact q0
   ·rw [if_neg hm2] at q0 hj
    have q1:Q (.int ((j:Nat):Int)) (upd H l (.lst [.cK,.int j])):=by rw [hj] at q0 ⊢;exact q0
    exact q1
  ·rw [if_neg y] at q0 hj
   rw [decide_eq_false (show ¬ (0:Int) < (j:Int) by omega)]
   exact q0
theorem ud {xs:List V} (h:xs ≠ []):cO xs none (some (-1:Int)) = xs.dropLast:=by
 have hp:0 < xs.length:=List.length_pos_iff.mpr h
 unfold cO
 have e:HT.sM xs.length xs.length (some (-1:Int)) = xs.length - 1:=by
  show (if (-1:Int) < 0 then ((-1:Int) + (xs.length:Int)).toNat else min (-1:Int).toNat xs.length) = _
  rw [if_pos (by decide)]
  omega
 rw [HT.nJ,e,List.drop_zero,Nat.sub_zero,List.dropLast_eq_take]
structure Wk (ms:List aN):Prop where
 g:dw ms
 sg:∀ m ∈ ms,∀ R ∈ m.rules,KD R
def Jc:Sp:=λvs H Q _=>∃ (lm:Addr) (ms:List aN) (m:aN) (k i:Nat) (row:Str),vs = [.ref lm,.int k,.str row,.int i] /\ D8 H lm ms /\ Wk ms /\ ms[k]? = some m /\ row.length <= 1000 /\ i <= row.length /\
 ∀ H',ak H H' -> (bX m.rules row i = none -> Q .cK H') /\ ∀ R tr,bX m.rules row i = some R -> R ∈ m.rules -> LR H tr R -> Q (.ref tr) H'
theorem AW (T:Txt K mg t):bC P w K mg base dh 2 t.nG t.uu ["_law_modes","_law_top","_law_row","_law_at"] Jc:=by
 refine T.p6.ok AG ?_ ?_
 walk_at "i"
 ·obtain ⟨lm,ms,m,k,i,row,rfl,⟨ts,hlm,hA⟩,W,hm,hrow,hi,q⟩:=h
  obtain ⟨tm,htm,lu,rs,t1,t2,t3⟩:=hA.at hm
  have hmm:=List.mem_of_getElem? hm
  refine @aM _ _ _ _ _ _ _ (λσ' H'=>(∃ x,σ' = [some (.ref lm),some (.int k),some (.str row),some (.int i),x]) /\ ak H H' /\ bX m.rules row i = none) (dZ PassesOwn.never rfl (dX (aS bW (aS aW (pv 0) (pv 1) (λ_ _=>rfl)) az (λ_ _=>rfl))) (b9 (i:=4) AG.nd rfl (Or.inl rfl)) av) ?_ ?_
  ·refine ⟨_,rfl,_,rfl,_,_,_,_,rfl,rfl,bu.of hlm,dU htm,_,_,_,_,rfl,rfl,gh.of t1,bq (j:=2) rfl,lu,rfl,⟨_,bu.of t2⟩,fM (xs:=rs.map V.ref) (λn σ' H'=>(∃ x,σ' = [some (.ref lm),some (.int k),some (.str row),some (.int i),x]) /\ ak H H' /\ firstM m.rules row i = fV row i n (m.rules.drop n)) ⟨⟨_,rfl⟩,ak.refl H,rfl⟩ ?_ ?_ ?_⟩
   ·rintro n σ' H' _ ⟨_,s1,_⟩
    exact bu.of (s1 _ _ t2)
   ·rintro n xv σ' H1 hx ⟨⟨x,rfl⟩,s1,hf⟩
    rw [List.getElem?_map] at hx
    obtain ⟨tr,htr,rfl⟩:=Option.map_eq_some_iff.mp hx
    have hn:n < m.rules.length:=by rw [← t3.1];exact (List.getElem?_eq_some_iff.mp htr).1
    have hR:m.rules[n]? = some m.rules[n]:=List.getElem?_eq_getElem hn
    generalize m.rules[n] = R at hR
    have hRm:=List.mem_of_getElem? hR
    have hLR:=t3.2 n tr R htr hR
    rw [qD hR] at hf
    refine @au _ _ _ _ _ _ (bB (aA gc (aZ (BQ T) (hr.mono (by decide)) rfl T.Ce T.pW.kp (T.pW.binds (by walk_at "3")) .nil aH (aa (pv 4) (aa (pv 2) (aa (pv 3) ai)))) bJ (aF _)) av av) ⟨_,rfl,_,rfl,_,rfl,tr,R,row,i,rfl,hLR.same s1,((W.g.ok m hmm).2 R hRm).1,W.sg m hmm R hRm,hrow,hi,λH2 s2=>⟨rfl,_,rfl,g6 (λh=>?_) (λh=>bg ⟨⟨_,rfl⟩,s1.trans s2,?_⟩)⟩⟩
    ·rw [if_pos (show fq R row i = true from decide_eq_true h)] at hf
     exact @au _ _ _ _ _ _ (aI (pv 4)) ⟨_,rfl,(q H2 (s1.trans s2)).2 R tr (by rw [bX,hf];exact hR) hRm hLR⟩
    ·rw [if_neg (by rw [fq,decide_eq_false (λz=>z h)];decide)] at hf
     exact hf
   ·rintro σ' H' ⟨h1,h2,h3⟩
    rw [List.length_map,t3.1,List.drop_length] at h3
    exact ⟨h1,h2,by rw [bX,h3];rfl⟩
  rintro σ' H' ⟨⟨x,rfl⟩,s1,hn⟩
  exact @au _ _ _ _ _ _ (aI bJ) ((q H' s1).1 hn)
def Fp:Sp:=λvs H Q _=>∃ (lo tr:Addr) (on:List Nat) (R:bx),vs = [.ref tr,.ref lo] /\ H lo = some (.lst (on.map bL)) /\ LR H tr R /\ R.bQ ∈ wO /\ yX R /\ on ≠ [] /\ on.length <= 100000 /\
 ∀ l H',H' l = some (.lst ((cC on R.bQ R.goal).map bL)) -> (l = lo ∨ H l = none) -> ak H H' -> Q (.ref l) H'
theorem Jb (T:Txt K mg t):bC P w K mg base dh 1 t.nj t.tO ["_law_rule","_law_on"] Fp:=by
 refine T.u6.ok Jq ?_ ?_
 walk_at "i"
 ·obtain ⟨lo,tr,on,R,rfl,hlo,⟨z,htr,hzl,hzs⟩,hdd,hgd,hne,hlen,q⟩:=h
  have ht:=gh.of (K:=K) htr
  have hL:=bu.of (K:=K) hlo
  have hne':on.map bL ≠ []:=by simpa using hne
  have hl0:on.length ≠ 0:=λy=>hne (List.eq_nil_of_length_eq_zero y)
  refine @aq _ _ _ _ _ _ _ (bB (aA cA (aS bW (pv 0) az (λ_ _=>rfl)) aG (aF _)) av av) ⟨_,rfl,_,_,_,_,rfl,rfl,ht,bq (j:=3) rfl,rfl,_,rfl,dG (λh=>?_) (λh2=>bg ?_)⟩
  ·have h:=V.str.inj h
   obtain ⟨g,eg⟩:=hgd (.inl h)
   refine @au _ _ _ _ _ _ (aI (aT eu (pv 1) (bG (aa (aS bW (pv 0) az (λ_ _=>rfl)) ai)))) ⟨_,rfl,_,rfl,_,_,_,_,rfl,rfl,ht,bq (j:=4) rfl,by show 1 <= sizeLine;decide,λl1 hl1=>⟨lo,l1,_,_,rfl,rfl,ak.upd hl1 _ _ hlo,af,bY (by simp only [List.length_map,List.length_cons,List.length_nil];omega),λl2 hl2=>q l2 _ ?_ (.inr ((ak.upd hl1).free hl2)) ((ak.upd hl1).to hl2)⟩⟩
   rw [af,cC,if_pos h,eg,List.map_append]
   rfl
  have h2:R.bQ ≠ "push" := λy=>h2 (by rw [y])
  refine @aq _ _ _ _ _ _ _ (bB (aA cA (aS bW (pv 0) az (λ_ _=>rfl)) aG (aF _)) av av) ⟨_,rfl,_,_,_,_,rfl,rfl,ht,bq (j:=3) rfl,rfl,_,rfl,dG (λh=>?_) (λh3=>bg ?_)⟩
  ·have h:=V.str.inj h
   obtain ⟨g,eg⟩:=hgd (.inr h)
   refine @au _ _ _ _ _ _ (aI (aT eu (cy gP (pv 1) dj (cF (ic fJ az))) (bG (aa (aS bW (pv 0) az (λ_ _=>rfl)) ai)))) ⟨_,rfl,_,rfl,_,rfl,lo,_,rfl,hL,λl0 hl0'=>?_⟩
   have s0:ak H (upd H l0 (.lst (cO (on.map bL) none (some (-1:Int))))):=ak.upd hl0'
   have hl2:upd H l0 (.lst (cO (on.map bL) none (some (-1:Int)))) l0 = some (.lst ((on.map bL).dropLast)):=by rw [af,ud hne']
   generalize upd H l0 (.lst (cO (on.map bL) none (some (-1:Int)))) = H0 at s0 hl2
   refine ⟨_,rfl,_,_,_,_,rfl,rfl,gh.of (s0 _ _ htr),bq (j:=4) rfl,by show 1 <= sizeLine;decide,λl1 hl1=>⟨l0,l1,_,_,rfl,rfl,ak.upd hl1 _ _ hl2,af,bY (by simp only [List.length_dropLast,List.length_map,List.length_cons,List.length_nil];omega),λl2 hl2=>q l2 _ ?_ (.inr ((s0.to hl1).free hl2)) (s0.trans ((ak.upd hl1).to hl2))⟩⟩
   rw [af,cC,if_neg h2,if_pos h,eg,List.map_append,List.map_dropLast]
   rfl
  have h3:R.bQ ≠ "into" := λy=>h3 (by rw [y])
  refine @aM _ _ _ _ _ _ _ (λσ' H'=>σ' = [some (.ref tr),some (.ref lo)] /\ H' = H /\ ¬ (R.bQ = "pop" /\ on.length = 1)) (bB (PW.pt (fD (aA cA (aS bW (pv 0) az (λ_ _=>rfl)) aG (aF _)) (eO (aA cA (aQ aV (by rfl) T.bN (by decide +kernel) (aa (pv 1) ai)) az (aF _))))) av av) ?_ ?_
  ·refine ⟨_,rfl,_,_,_,_,rfl,rfl,ht,bq (j:=3) rfl,rfl,_,rfl,dG (λh=>?_) (λh=>bg ⟨rfl,rfl,λy=>h (by rw [y.1])⟩)⟩
   have h:=V.str.inj h
   refine ⟨_,rfl,_,_,rfl,.inl hL,rfl,_,rfl,dG (λh5=>?_) (λh5=>bg ⟨rfl,rfl,λy=>h5 (by rw [List.length_map,y.2];rfl)⟩)⟩
   have h5:=V.int.inj h5
   rw [List.length_map] at h5
   refine @au _ _ _ _ _ _ (aI (bG (aa az ai))) ⟨by show 1 <= sizeLine;decide,λl hl=>q l _ ?_ (.inr hl) (ak.upd hl)⟩
   rw [af,cC,if_neg h2,if_neg h3,if_pos h,if_pos (by omega)]
   rfl
  rintro σ' H' ⟨rfl,e,h5⟩
  rw [e]
  clear e H'
  refine @aq _ _ _ _ _ _ _ (bB (aA cA (aS bW (pv 0) az (λ_ _=>rfl)) aG (aF _)) av av) ⟨_,rfl,_,_,_,_,rfl,rfl,ht,bq (j:=3) rfl,rfl,_,rfl,dG (λh=>?_) (λh6=>bg ?_)⟩
  ·have h:=V.str.inj h
   refine @au _ _ _ _ _ _ (aI (cy gP (pv 1) dj (cF (ic fJ az)))) ⟨_,rfl,_,rfl,_,rfl,lo,_,rfl,hL,λl0 hl0'=>q l0 _ ?_ (.inr hl0') (ak.upd hl0')⟩
   rw [af,ud hne',cC,if_neg h2,if_neg h3,if_pos h,if_neg (λy=>h5 ⟨h,y⟩),List.map_dropLast]
  ·have h6:R.bQ ≠ "pop" := λy=>h6 (by rw [y])
   refine @au _ _ _ _ _ _ (aI (pv 1)) ⟨_,rfl,q lo H ?_ (.inl rfl) (ak.refl H)⟩
   rw [cC,if_neg h2,if_neg h3,if_neg h6]
   exact hlo
def EC:Sp:=λvs H Q _=>∃ (lm lo:Addr) (ms:List aN) (on:List Nat) (row:Str) (n:Nat) (d:Cfg),vs = [.ref lm,.ref lo,.str row] /\ D8 H lm ms /\ Wk ms /\ H lo = some (.lst (on.map bL)) /\ iY ms on /\ row.length <= 1000 /\ on.length <= 40000 /\ n <= 5000 /\ goN ms row n ⟨on,[],[]⟩ = some d /\
 ∀ tp lt lo' lk H',Told H' tp lt lo' lk d -> H lt = none -> H lk = none -> (lo' = lo ∨ H lo' = none) -> ak H H' -> Q (.ref tp) H'
theorem GN (T:Txt K mg t):bC P w K mg base dh 3 t.n6 t.vg ["_law_modes","_law_on","_law_row"] EC:=by
 refine T.vH.ok fN ?_ ?_
 walk_at "i"
 ·obtain ⟨lm,lh,ms,on,row,n,d,rfl,hL,W,hlh,hok,hrow,honl,hn,hgo,q⟩:=h
  refine @aq _ _ _ _ _ _ _ (aE (i:=3) fN.nd rfl (Or.inl rfl) (bG ai)) ⟨by show 0 <= sizeLine;decide,λlt hlt=>?_⟩
  have s1:ak H (upd H lt (.lst [])):=ak.upd hlt
  have ht1:upd H lt (.lst []) lt = some (.lst []):=af
  have nht:lh ≠ lt:=aj hlh hlt
  generalize upd H lt (.lst []) = H1 at s1 ht1
  refine @aq _ _ _ _ _ _ _ (aE (i:=4) fN.nd rfl (Or.inl rfl) (bG ai)) ⟨by show 0 <= sizeLine;decide,λlk hlk=>?_⟩
  have s2:ak H1 (upd H1 lk (.lst [])):=ak.upd hlk
  have hk2:upd H1 lk (.lst []) lk = some (.lst []):=af
  have ht2:=s2 _ _ ht1
  have ntk:lt ≠ lk:=aj ht1 hlk
  have nhk:lh ≠ lk:=aj (s1 _ _ hlh) hlk
  have hlk0:H lk = none:=s1.free hlk
  generalize upd H1 lk (.lst []) = H2 at s2 hk2 ht2
  have s2:=s1.trans s2
  refine @aq _ _ _ _ _ _ _ (aE (i:=5) fN.nd rfl (Or.inl rfl) az) ?_
  refine @aq _ _ _ _ _ _ _ (aE (i:=6) fN.nd rfl (Or.inl rfl) az) ?_
  show At _ _ _ [some (.ref lm),some (.ref lh),some (.str row),some (.ref lt),some (.ref lk),some (.int 0),some (.int 5000),none,none] H2
  have look:∀ {H':Hp} {c:Cfg},iY ms c.on -> ∃ m,ms[bz c.on]? = some m /\ cH ms (bz c.on) = m.rules:=λ{H' c} h=>by
   obtain ⟨m,hm⟩:=h.mode
   exact ⟨m,hm,by rw [cH,hm]⟩
  obtain ⟨m0,hm0,hr0⟩:=look (H':=H) (c:=⟨on,[],[]⟩) hok
  refine @aM _ _ _ _ _ _ _ (λσ' H'=>∃ rv,σ' = [some (.ref lm),some (.ref lh),some (.str row),some (.ref lt),some (.ref lk),some (.int 0),some (.int 5000),some rv,none] /\ ak H2 H' /\ ((bX (cH ms (bz on)) row 0 = none /\ rv = .cK) ∨ ∃ R tr,bX (cH ms (bz on)) row 0 = some R /\ R ∈ m0.rules /\ rv = .ref tr /\ LR H' tr R)) (aE (i:=7) fN.nd rfl (Or.inl rfl) (aZ (AW T) (hr.mono (by decide)) rfl T.BA T.p6.kp (T.p6.binds (by walk_at "4")) .nil aH (aa (pv 0) (aa (aS aW (pv 1) (ic fJ az) (λ_ _=>rfl)) (aa (pv 2) (aa (pv 5) ai)))))) ?_ ?_
  ·refine ⟨_,rfl,_,rfl,_,rfl,_,_,_,_,rfl,rfl,bu.of (s2 _ _ hlh),dD (dR hok.1),_,rfl,_,rfl,lm,ms,m0,bz on,0,row,rfl,hL.same s2,W,hm0,hrow,Nat.zero_le _,λH3 s3=>⟨λe=>⟨_,rfl,s3,.inl ⟨by rw [hr0];exact e,rfl⟩⟩,λR tr e hR hLR=>⟨_,rfl,s3,.inr ⟨R,tr,by rw [hr0];exact e,hR,rfl,hLR.same s3⟩⟩⟩⟩
  rintro σ' H3 ⟨rv0,rfl,s3,hrv0⟩
  have s3':=s2.trans s3
  refine @aM _ _ _ _ _ _ _ (λσ' H'=>∃ lt lo x5 x6 x7 x8,σ' = [some (.ref lm),some (.ref lo),some (.str row),some (.ref lt),some (.ref lk),x5,x6,x7,x8] /\ H' lt = some (.lst (d.aB.map V.str)) /\ H' lo = some (.lst (d.on.map bL)) /\ GM H' lk d.marks /\ H lt = none /\ (lo = lh ∨ H lo = none) /\ ak H H') (g9 PassesOwn.never (PW.pt (fD (aA ia (pv 6) az (aF _)) (eO (PW.pt (g8 (aA gc (pv 7) bJ (aF _)) (gv (aA fF (pv 5) (aQ bf (by rfl) T.bN (by decide +kernel) (aa (pv 2) ai)) (aF _)))))))) av) ?_ ?_
  ·refine ⟨λm σ' H'=>∃ (c:Cfg) (lt lo:Addr) (left:Int) (rv:V) (x8:Option V),σ' = [some (.ref lm),some (.ref lo),some (.str row),some (.ref lt),some (.ref lk),some (.int c.aB.length),some (.int left),some rv,x8] /\ H' lo = some (.lst (c.on.map bL)) /\ H' lt = some (.lst (c.aB.map V.str)) /\ GM H' lk c.marks /\ H lt = none /\ (lo = lh ∨ H lo = none) /\ lo ≠ lt /\ lo ≠ lk /\ lt ≠ lk /\ iY ms c.on /\ c.aB.length <= row.length /\ c.on.length + m <= on.length + n /\ c.marks.length + m <= n /\ (m:Int) <= left /\ goN ms row m c = some d /\ ((bX (cH ms (bz c.on)) row c.aB.length = none /\ rv = .cK) ∨ ∃ R tr m',ms[bz c.on]? = some m' /\ bX (cH ms (bz c.on)) row c.aB.length = some R /\ R ∈ m'.rules /\ rv = .ref tr /\ LR H' tr R) /\ ak H H',
    ⟨n,⟨on,[],[]⟩,lt,lh,5000,rv0,_,rfl,s3' _ _ hlh,s3 _ _ ht2,⟨[],s3 _ _ hk2,bw.nil⟩,hlt,.inl rfl,nht,nhk,ntk,hok,Nat.zero_le _,Nat.le_refl _,by simp,by omega,hgo,?_,s3'⟩,?_⟩
   ·rcases hrv0 with h | ⟨R,tr,h1,h2,h3,h4⟩
    ·exact .inl h
    ·exact .inr ⟨R,tr,m0,hm0,h1,h2,h3,h4⟩
   rintro m σ' H4 ⟨c,lt,lo,left,rv,x8,rfl,ho4,ht4,hk4,hlt0,hlo0,not_,nok,ntk,hok4,htl4,hol4,hml4,hleft,hgo4,hrv,s4⟩
   obtain ⟨md,hmd,hru⟩:=look (H':=H) hok4
   have hmm:=List.mem_of_getElem? hmd
   cases hst:cZ ms row c with
   | none =>
    have hd:d = c:=by
     rw [jZ hst] at hgo4
     exact (Option.some.inj hgo4).symm
    subst hd
    rw [cZ] at hst
    rcases hrv with ⟨hnone,rfl⟩ | ⟨R,tr,m',_,h1,_⟩
    ·rw [hnone] at hst
     have hnl:¬ d.aB.length < row.length:=λz=>by
      have hst:(if d.aB.length < row.length then some _ else none) = none:=hst
      rw [if_pos z] at hst;cases hst
     have fin:∃ lt' lo' x5 x6 x7 x8',[some (V.ref lm),some (V.ref lo),some (V.str row),some (V.ref lt),some (V.ref lk),some (V.int d.aB.length),some (V.int left),some V.cK,x8] = [some (.ref lm),some (.ref lo'),some (.str row),some (.ref lt'),some (.ref lk),x5,x6,x7,x8'] /\ H4 lt' = some (.lst (d.aB.map V.str)) /\ H4 lo' = some (.lst (d.on.map bL)) /\ GM H4 lk d.marks /\ H lt' = none /\ (lo' = lh ∨ H lo' = none) /\ ak H H4:=⟨lt,lo,_,_,_,_,rfl,ht4,ho4,hk4,hlt0,hlo0,s4⟩
     refine ⟨_,rfl,_,_,rfl,rfl,_,rfl,dG (λh=>?_) (λh=>fin)⟩
     refine ⟨_,rfl,rfl,_,rfl,g6 (λh=>absurd rfl h) (λ_=>?_)⟩
     exact ⟨_,rfl,_,rfl,_,rfl,bY (by omega),_,_,rfl,rfl,_,rfl,dG (λh=>absurd h (by omega)) (λh=>fin)⟩
    ·rw [h1] at hst;cases hst
   | some c' =>
    obtain ⟨m',rfl⟩:∃ m',m = m' + 1:=by
     cases m with
     | zero=>rw [goN,hst] at hgo4;cases hgo4
     | succ m'=>exact ⟨m',rfl⟩
    rw [goN,hst] at hgo4
    have hgo5:goN ms row m' c' = some d:=hgo4
    have hpos:(0:Int) < left:=by omega
    refine ⟨_,rfl,_,_,rfl,rfl,_,rfl,dG (λ_=>?_) (λh=>absurd hpos h)⟩
    have hnon:rv = .cK -> c.aB.length < row.length:=λe=>by
     rcases hrv with ⟨hnone,_⟩ | ⟨R,tr,m',_,h1,_,h3,_⟩
     ·rw [cZ,hnone] at hst
      have hst:(if c.aB.length < row.length then some _ else none) = some c':=hst
      by_cases z:c.aB.length < row.length
      ·exact z
      ·rw [if_neg z] at hst;cases hst
     ·rw [e] at h3;cases h3
    refine (λhb=>⟨_,rfl,rfl,_,rfl,g6 (λ_=>hb) (λh=>⟨_,rfl,_,rfl,_,rfl,bY (by omega),_,_,rfl,rfl,_,rfl,dG (λ_=>hb) (λh'=>absurd (by have:=hnon h;omega) h')⟩)⟩) ?_
    refine ⟨_,λσ' H' z=>z,?_⟩
    refine @aq _ _ _ _ _ _ _ (aE (i:=6) fN.nd rfl (Or.inl rfl) (aT fH (pv 6) az)) ⟨_,rfl,_,_,rfl,rfl,?_⟩
    refine @aq _ _ _ _ _ _ _ (aE (i:=8) fN.nd rfl (Or.inl rfl) az) ?_
    show At _ _ _ [some (.ref lm),some (.ref lo),some (.str row),some (.ref lt),some (.ref lk),some (.int c.aB.length),some (.int (left - 1)),some rv,some (.int 1)] H4
    refine @aM _ _ _ _ _ _ _ (λσ' H'=>∃ (lt lo:Addr) (mn:Int),σ' = [some (.ref lm),some (.ref lo),some (.str row),some (.ref lt),some (.ref lk),some (.int c.aB.length),some (.int (left - 1)),some rv,some (.int mn)] /\ (c.aB.length:Int) + mn = c'.aB.length /\ H' lo = some (.lst (c'.on.map bL)) /\ H' lt = some (.lst (c'.aB.map V.str)) /\ GM H' lk c'.marks /\ H lt = none /\ (lo = lh ∨ H lo = none) /\ lo ≠ lt /\ lo ≠ lk /\ lt ≠ lk /\ iY ms c'.on /\ c'.aB.length <= row.length /\ c'.on.length + m' <= on.length + n /\ c'.marks.length + m' <= n /\ ak H H') (bB (aA oz (pv 7) bJ (aF _)) av av) ?_ ?_
    ·rcases hrv with ⟨hnone,rfl⟩ | ⟨R,tr,m2,hm2,h1,h2,rfl,h4⟩
     ·have hlt':=hnon rfl
      have ec:c' = ⟨c.on,c.aB ++ [cQ ms (bz c.on)],c.marks⟩:=by
       rw [cZ,hnone] at hst
       have hst:(if c.aB.length < row.length then some (Cfg.mk c.on (c.aB ++ [cQ ms (bz c.on)]) c.marks) else none) = some c':=hst
       rw [if_pos hlt'] at hst
       exact (Option.some.inj hst).symm
      have ecol:cQ ms (bz c.on) = md.bh:=by rw [cQ,hmd]
      obtain ⟨ts,hlm,hA⟩:=hL
      obtain ⟨tm,htm,lu,rs,t1,t2,t3⟩:=hA.at hmd
      refine ⟨_,rfl,rfl,_,rfl,dG (λ_=>?_) (λh=>absurd rfl h)⟩
      refine @au _ _ _ _ _ _ (bH (e9 F.plainAttrs_list F.slot_list_append F.type_list_append c8 (pv 3) (aa (aS bW (aS aW (pv 0) (aS aW (pv 1) (ic fJ az) (λ_ _=>rfl)) (λ_ _=>rfl)) az (λ_ _=>rfl)) ai))) ⟨_,rfl,.inl ⟨rfl,_,bu.of ht4⟩,_,rfl,_,rfl,_,rfl,_,_,_,_,rfl,rfl,bu.of ho4,dD (dR hok4.1),_,_,_,_,rfl,rfl,bu.of (s4 _ _ hlm),dU htm,_,_,_,_,rfl,rfl,gh.of (s4 _ _ t1),bq (j:=1) rfl,lt,_,_,rfl,rfl,ht4,fG (by rw [List.length_map];omega),lt,lo,1,rfl,?_,?_,?_,?_,hlt0,hlo0,not_,nok,ntk,?_,?_,?_,?_,?_⟩
      ·rw [ec]
       show _ = (((c.aB ++ [cQ ms (bz c.on)]).length:Nat):Int)
       rw [List.length_append,List.length_cons,List.length_nil]
       omega
      ·rw [ec,ao not_];exact ho4
      ·rw [ec,af]
       show _ = some (HO.lst ((c.aB ++ [cQ ms (bz c.on)]).map V.str))
       rw [List.map_append,ecol]
       rfl
      ·rw [ec];exact hk4.jA ht4 (Ne.symm ntk)
      ·rw [ec];exact hok4
      ·rw [ec]
       show (c.aB ++ [cQ ms (bz c.on)]).length <= _
       rw [List.length_append,List.length_cons,List.length_nil]
       omega
      ·rw [ec];show c.on.length + m' <= _;omega
      ·rw [ec];show c.marks.length + m' <= _;omega
      ·intro b o hb
       rw [ao (aj hb hlt0)]
       exact s4 _ _ hb
     ·have ec:c' = jl c R row:=by
       rw [cZ,h1] at hst
       exact (Option.some.inj hst).symm
      have hmm2:=List.mem_of_getElem? hm2
      have hs:=((W.g.ok m2 hmm2).2 R h2).1
      have hfit:fq R row c.aB.length = true:=by
       rw [hru] at h1
       unfold bX at h1
       cases ef:firstM md.rules row c.aB.length with
       | none=>rw [ef] at h1;cases h1
       | some j =>
        rw [ef] at h1
        obtain ⟨_,R',g1,g2,_⟩:=gI ef
        rw [Nat.sub_zero] at g1
        have:R' = R:=Option.some.inj (g1.symm.trans h1)
        rw [← this];exact g2
      have hel:=Dd (R:=R) (row:=row) hs htl4
      have hdl:=pA (on:=c.on) (d:=R.bQ) (g:=R.goal)
      refine ⟨_,rfl,rfl,_,rfl,dG (λh=>by cases h) (λ_=>?_)⟩
      refine @aq _ _ _ _ _ _ _ (aE (i:=8) fN.nd rfl (Or.inl rfl) (aZ (BQ T) (hr.mono (by decide)) rfl T.Ce T.pW.kp (T.pW.binds (by walk_at "3")) .nil aH (aa (pv 7) (aa (pv 2) (aa (pv 5) ai))))) ⟨_,rfl,_,rfl,_,rfl,tr,R,row,c.aB.length,rfl,h4,hs,W.sg m2 hmm2 R h2,hrow,htl4,λH5 s5=>?_⟩
      rw [yH hfit]
      have h5:=h4.same s5
      obtain ⟨z,u1,u2,u3⟩:=id h5
      have ht5:=s5 _ _ ht4
      have ho5:=s5 _ _ ho4
      have hk5:=hk4.same s5
      refine @aq _ _ _ _ _ _ _ (aE (i:=3) fN.nd rfl (Or.inl rfl) (aT eu (pv 3) (aT D6 (bG (aa (aS bW (pv 7) az (λ_ _=>rfl)) ai)) (pv 8)))) ⟨_,rfl,_,rfl,_,_,_,_,rfl,rfl,gh.of u1,bq (j:=2) rfl,by show 1 <= sizeLine;decide,λl1 hl1=>⟨_,rfl,l1,_,_,rfl,rfl,af,by omega,by omega,(by rw [Int.toNat_natCast];exact bY (by simp only [List.length_cons,List.length_nil];omega)),λl2 hl2=>?_⟩⟩
      rw [Int.toNat_natCast,nS]
      have s7:ak H5 (upd (upd H5 l1 (.lst [.str R.bh])) l2 (.lst (List.replicate (d9 R row c.aB.length) (V.str R.bh)))):=(ak.upd hl1).to hl2
      have hl7:upd (upd H5 l1 (.lst [.str R.bh])) l2 (.lst (List.replicate (d9 R row c.aB.length) (V.str R.bh))) l2 = some (.lst (List.replicate (d9 R row c.aB.length) (V.str R.bh))):=af
      generalize upd (upd H5 l1 (.lst [.str R.bh])) l2 (.lst (List.replicate (d9 R row c.aB.length) (V.str R.bh))) = H7 at s7 hl7
      refine ⟨lt,l2,_,_,rfl,rfl,s7 _ _ ht5,hl7,bY (by rw [List.length_map,List.length_replicate];omega),λlt' hlt'=>?_⟩
      have s8:ak H7 (upd H7 lt' (.lst (c.aB.map V.str ++ List.replicate (d9 R row c.aB.length) (V.str R.bh)))):=ak.upd hlt'
      have ht8:upd H7 lt' (.lst (c.aB.map V.str ++ List.replicate (d9 R row c.aB.length) (V.str R.bh))) lt' = some (.lst ((jl c R row).aB.map V.str)):=by
       rw [af]
       show _ = some (HO.lst ((c.aB ++ List.replicate (d9 R row c.aB.length) R.bh).map V.str))
       rw [List.map_append,List.map_replicate]
      generalize upd H7 lt' (.lst (c.aB.map V.str ++ List.replicate (d9 R row c.aB.length) (V.str R.bh))) = H8 at s8 ht8
      have s78:=s7.trans s8
      have ho8:=s78 _ _ ho5
      have hk8:=hk5.same s78
      have h8:=h5.same s78
      have no8:lo ≠ lt':=aj (s7 _ _ ho5) hlt'
      obtain ⟨ps5,hps5,_⟩:=id hk5
      have nk8:lk ≠ lt':=aj (s7 _ _ hps5) hlt'
      have s48:=s4.trans (s5.trans s78)
      have hlt0':H lt' = none:=(s4.trans (s5.trans s7)).free hlt'
      show At _ _ _ [some (.ref lm),some (.ref lo),some (.str row),some (.ref lt'),some (.ref lk),some (.int c.aB.length),some (.int (left - 1)),some (.ref tr),some (bL (d9 R row c.aB.length))] H8
      refine @aM _ _ _ _ _ _ _ (λσ' H'=>σ' = [some (.ref lm),some (.ref lo),some (.str row),some (.ref lt'),some (.ref lk),some (.int c.aB.length),some (.int (left - 1)),some (.ref tr),some (bL (d9 R row c.aB.length))] /\ H' lo = some (.lst (c.on.map bL)) /\ H' lt' = some (.lst ((jl c R row).aB.map V.str)) /\ GM H' lk (jl c R row).marks /\ LR H' tr R /\ ak H H') (bB (aA om (aS bW (pv 7) az (λ_ _=>rfl)) aG (aF _)) av av) ?_ ?_
      ·obtain ⟨z8,u8,u9⟩:=id h8
       refine ⟨_,rfl,_,_,_,_,rfl,rfl,gh.of u8,bq (j:=5) rfl,rfl,_,rfl,g6 (λh=>?_) (λh=>bg ⟨rfl,ho8,ht8,?_,h8,s48⟩)⟩
       ·have h:R.fold ≠ "" := λz=>h (by rw [z])
        obtain ⟨ps,hps,hAp⟩:=hk8
        refine @au _ _ _ _ _ _ (bH (e9 F.plainAttrs_list F.slot_list_append F.type_list_append c8 (pv 4) (aa (cD (aa (pv 5) (aa (aS bW (pv 7) az (λ_ _=>rfl)) ai))) ai))) ⟨_,rfl,.inl ⟨rfl,_,bu.of hps⟩,_,rfl,_,rfl,_,_,_,_,rfl,rfl,gh.of u8,bq (j:=5) rfl,by show 2 <= sizeLine;decide,λtp htp=>?_⟩
        have s9:ak H8 (upd H8 tp (.tup [.int c.aB.length,.str R.fold])):=ak.upd htp
        have hp9:upd H8 tp (.tup [.int c.aB.length,.str R.fold]) tp = some (.tup [.int c.aB.length,.str R.fold]):=af
        generalize upd H8 tp (.tup [.int c.aB.length,.str R.fold]) = H9 at s9 hp9
        have hps9:=s9 _ _ hps
        have hpl:ps.length <= 100000:=by rw [hAp.1];omega
        refine ⟨lk,_,_,rfl,rfl,hps9,fG (by rw [List.length_map];omega),rfl,?_,?_,?_,?_,?_⟩
        ·rw [ao nok];exact s9 _ _ ho8
        ·rw [ao (Ne.symm nk8)];exact s9 _ _ ht8
        ·have em:(jl c R row).marks = c.marks ++ [(c.aB.length,R.fold)]:=if_neg h
         rw [em]
         refine ⟨ps ++ [tp],by rw [af,List.map_append];rfl,bw.snoc (hAp.mono λp m e=>?_) ?_⟩
         ·rw [ao (cB (s9 _ _ e) hps9 (by intro z;cases z))];exact s9 _ _ e
         ·rw [ao (cB hp9 hps9 (by intro z;cases z))];exact hp9
        ·exact ⟨z8,by rw [ao (cB (s9 _ _ u8) hps9 (by intro z;cases z))];exact s9 _ _ u8,u9⟩
        ·intro b o hb
         rw [ao (aj hb hlk0)]
         exact s9 _ _ (s48 _ _ hb)
       ·have h:R.fold = "" := V.str.inj h
        have em:(jl c R row).marks = c.marks:=if_pos h
        rw [em]
        exact hk8
      rintro σ' H9 ⟨rfl,ho9,ht9,hk9,h9,s9⟩
      have hgd:yX R:=W.g.gd hmm2 h2
      refine @au _ _ _ _ _ _ (aE (i:=1) fN.nd rfl (Or.inl rfl) (aZ (Jb T) (hr.mono (by decide)) rfl T.F8 T.u6.kp (T.u6.binds (by walk_at "2")) .nil aH (aa (pv 7) (aa (pv 1) ai)))) ⟨_,rfl,_,rfl,lo,tr,c.on,R,rfl,ho9,h9,W.g.bQ m2 hmm2 R h2,hgd,hok4.1,by omega,λlo' H10 ho10 hor s10=>?_⟩
      obtain ⟨ps9,hps9,_⟩:=id hk9
      have no1:lo' ≠ lt':=by
       rcases hor with z | z
       ·rw [z];exact no8
       ·exact Ne.symm (aj ht9 z)
      have no2:lo' ≠ lk:=by
       rcases hor with z | z
       ·rw [z];exact nok
       ·exact Ne.symm (aj hps9 z)
      have hlo':lo' = lh ∨ H lo' = none:=by
       rcases hor with z | z
       ·rw [z];exact hlo0
       ·exact .inr (s9.free z)
      refine ⟨lt',lo',((d9 R row c.aB.length:Nat):Int),rfl,?_,?_,?_,?_,hlt0',hlo',no1,no2,Ne.symm nk8,?_,?_,?_,?_,s9.trans s10⟩
      ·rw [ec]
       show _ = (((c.aB ++ List.replicate _ _).length:Nat):Int)
       rw [List.length_append,List.length_replicate]
       omega
      ·rw [ec];exact ho10
      ·rw [ec];exact s10 _ _ ht9
      ·rw [ec];exact hk9.same s10
      ·rw [ec];exact hok4.bQ W.g hmm2 h2
      ·rw [ec]
       show (c.aB ++ List.replicate _ _).length <= _
       rw [List.length_append,List.length_replicate]
       exact hel
      ·rw [ec]
       show (cC c.on R.bQ R.goal).length + m' <= _
       omega
      ·rw [ec]
       show (if R.fold = "" then c.marks else c.marks ++ [(c.aB.length,R.fold)]).length + m' <= _
       split
       ·omega
       ·rw [List.length_append,List.length_cons,List.length_nil];omega
    rintro σ' H5 ⟨lt5,lo5,mn,rfl,hmn,ho5,ht5,hk5,hlt5,hlo5,no5,nok5,ntk5,hok5,htl5,hol5,hml5,s5⟩
    refine @aq _ _ _ _ _ _ _ (aE (i:=5) fN.nd rfl (Or.inl rfl) (aT cN (pv 5) (pv 8))) ⟨_,rfl,_,rfl,_,_,rfl,rfl,?_⟩
    show At _ _ _ [some (.ref lm),some (.ref lo5),some (.str row),some (.ref lt5),some (.ref lk),some (.int ((c.aB.length:Int) + mn)),some (.int (left - 1)),some rv,some (.int mn)] H5
    rw [hmn]
    obtain ⟨m5,hm5,hr5⟩:=look (H':=H) hok5
    refine @au _ _ _ _ _ _ (aE (i:=7) fN.nd rfl (Or.inl rfl) (aZ (AW T) (hr.mono (by decide)) rfl T.BA T.p6.kp (T.p6.binds (by walk_at "4")) .nil aH (aa (pv 0) (aa (aS aW (pv 1) (ic fJ az) (λ_ _=>rfl)) (aa (pv 2) (aa (pv 5) ai)))))) ⟨_,rfl,_,rfl,_,rfl,_,_,_,_,rfl,rfl,bu.of ho5,dD (dR hok5.1),_,rfl,_,rfl,lm,ms,m5,bz c'.on,c'.aB.length,row,rfl,hL.same s5,W,hm5,hrow,htl5,λH6 s6=>⟨λe=>?_,λR tr e hR hLR=>?_⟩⟩
    ·exact ⟨m',by omega,c',lt5,lo5,left - 1,.cK,_,rfl,s6 _ _ ho5,s6 _ _ ht5,hk5.same s6,hlt5,hlo5,no5,nok5,ntk5,hok5,htl5,hol5,hml5,by omega,hgo5,.inl ⟨by rw [hr5];exact e,rfl⟩,s5.trans s6⟩
    ·exact ⟨m',by omega,c',lt5,lo5,left - 1,.ref tr,_,rfl,s6 _ _ ho5,s6 _ _ ht5,hk5.same s6,hlt5,hlo5,no5,nok5,ntk5,hok5,htl5,hol5,hml5,by omega,hgo5,.inr ⟨R,tr,m5,hm5,by rw [hr5];exact e,hR,rfl,hLR.same s6⟩,s5.trans s6⟩
  rintro σ' H4 ⟨lt',lo',x5,x6,x7,x8,rfl,ht,ho,hk,f1,f2,s4⟩
  refine @au _ _ _ _ _ _ (aI (cD (aa (pv 3) (aa (pv 1) (aa (pv 4) ai))))) ⟨_,rfl,_,rfl,_,rfl,by show 3 <= sizeLine;decide,λtp htp=>?_⟩
  exact q tp lt' lo' lk _ ⟨af,ak.upd htp _ _ ht,ak.upd htp _ _ ho,hk.same (ak.upd htp)⟩ f1 hlk0 f2 (s4.to htp)
open Classical in
noncomputable def hid (S:Addr -> Prop) (H:Hp):Hp:=λb=>if S b then none else H b
theorem aJ {S:Addr -> Prop} {H:Hp}:ak (hid S H) H:=λb o h=>by
 unfold hid at h
 split at h
 ·cases h
 ·exact h
theorem bD {S:Addr -> Prop} {H:Hp} {b:Addr} {o:HO} (h:H b = some o) (n:¬ S b):hid S H b = some o:=by
 unfold hid
 rw [if_neg n]
 exact h
theorem dz {S:Addr -> Prop} {H:Hp} {b:Addr} {o:HO} (h:hid S H b = some o):¬ S b:=λz=>by
 unfold hid at h
 rw [if_pos z] at h
 cases h
theorem bF {S:Addr -> Prop} {H H':Hp} (s:ak H H'):ak (hid S H) (hid S H'):=λb o h=>bD (s _ _ (aJ _ _ h)) (dz h)
theorem jf {S:Addr -> Prop} {H:Hp} {l:Addr} {o:HO} (hl:S l):hid S (upd H l o) = hid S H:=by
 funext b
 unfold hid
 split
 ·rfl
 ·rename_i h;rw [ao (λz=>h (by rw [z];exact hl))]
theorem nL {S S':Addr -> Prop} {H:Hp} (h:∀ b,S b -> S' b):ak (hid S' H) (hid S H):=λb o e=>bD (aJ _ _ e) (λz=>dz e (h b z))
def Ex (S:Addr -> Prop) (H:Hp):Prop:=∀ b,S b -> ∃ o,H b = some o
theorem Ex.new {S:Addr -> Prop} {H:Hp} (e:Ex S H) {b:Addr} (h:H b = none):¬ S b:=λz=>by
 obtain ⟨o,ho⟩:=e b z
 rw [h] at ho
 cases ho
theorem Ex.same {S:Addr -> Prop} {H H':Hp} (e:Ex S H) (s:ak H H'):Ex S H':=λb z=>let ⟨o,ho⟩:=e b z;⟨o,s _ _ ho⟩
def K8 (t:fE):Sp:=λvs H Q _=>∃ (r:Addr) (S:Addr -> Prop) (R:bx),vs = [.ref r] /\ cR t (hid S H) r R /\ Ex S H /\ ∀ r' H',cR t (hid S H') r' R -> ak H H' -> Q (.ref r') H'
theorem Gj (T:Txt K mg t):bC P w K mg base dh 3 t.nM t.u7 ["rule"] (K8 t):=by
 refine T.uW.ok GY ?_ ?_
 walk_at "i"
 ·obtain ⟨r,S,R,rfl,⟨dr,pa,o1',hp⟩,hz,q⟩:=h
  have o1:=aJ _ _ o1'
  refine @au _ _ _ _ _ _ (aI (dH T.nh (AY T) (hr.mono (by decide)) rfl T.tY (T.wg.binds (by walk_at "6")) .nil aH (aa (aO (pv 0) rfl) (aa (aO (pv 0) rfl) (aa (aO (pv 0) rfl) (aa (aO (pv 0) rfl) (aa (aO (pv 0) rfl) ai))))))) ?_
  refine ⟨_,rfl,_,_,_,_,_,rfl,o1,T.cu,T.cM,rfl,?_⟩
  refine ⟨_,rfl,_,_,_,_,_,rfl,o1,T.cu,T.eE,rfl,?_⟩
  refine ⟨_,rfl,_,_,_,_,_,rfl,o1,T.cu,T.di,rfl,?_⟩
  refine ⟨_,rfl,_,_,_,_,_,rfl,o1,T.cu,T.fc,rfl,?_⟩
  refine ⟨_,rfl,_,_,_,_,_,rfl,o1,T.cu,T.eW,rfl,?_⟩
  refine λx dx' nx ndx ne=>⟨x,dx',pa,R,rfl,af,rfl,?_⟩
  exact q x _ ⟨dx',pa,bD af (hz.new nx),hp.same (bF (eK nx ndx))⟩ (eK nx ndx)
def Kz (t:fE):Sp:=λvs H Q _=>∃ (b l dm:Addr) (S:Addr -> Prop) (m:aN) (rs:List Addr),vs = [.ref b] /\ hid S H b = some (.ins t.bP dm (mf m l)) /\ hid S H l = some (.lst (rs.map V.ref)) /\ bw (cR t (hid S H)) rs m.rules /\ Ex S H /\ m.rules.length <= 200 /\
 ∀ b' l' dm' rs' H',hid S H' b' = some (.ins t.bP dm' (mf m l')) -> hid S H' l' = some (.lst (rs'.map V.ref)) -> bw (cR t (hid S H')) rs' m.rules -> H l' = none -> ak H H' -> Q (.ref b') H'
theorem GZ (T:Txt K mg t):bC P w K mg base dh 4 t.nK t.vE ["mode"] (Kz t):=by
 refine T.tV.ok Je ?_ ?_
 walk_at "i"
 ·obtain ⟨b,l,dm,S,m,rs,rfl,hb',hl',hA,hz,hlen,q⟩:=h
  have hb:=aJ _ _ hb'
  have hl:=aJ _ _ hl'
  refine @au _ _ _ _ _ _ (@aI _ _ _ _ (@dH _ _ _ _ _ _ _ _ _ _ _ _ _ _ _ _ _ T.mV (B5 T) (hr.mono (by decide)) rfl T.wK (T.vj.binds (by walk_at "4")) .nil aH (@aa _ _ _ _ _ (@aO _ _ _ _ _ (pv 0) rfl) (@aa _ _ _ _ _ (@aO _ _ _ _ _ (pv 0) rfl) (@aa _ _ _ _ _ (@iD _ (ay zz) _ ["mode"] _ _ ("rule") _ _ [] _ _ (by walk_at "ck") (@dX _ _ _ _ (@aO _ _ _ _ _ (pv 0) rfl)) (λ_ _ _ _=>by exact (@aZ _ _ _ _ _ _ _ _ _ _ _ _ _ _ _ _ (Gj T) (hr.mono (by decide)) rfl T.Gx T.uW.kp (T.uW.binds (by walk_at "1")) .nil aH (@aa _ _ _ _ _ (pv 0) ai (by left)) (by left) (by left) (by left))) (by left) (by left) (by left) (by left)) ai (by left)) (by left)) (by left)) (by left) (by left) (by left))) ?_
  refine ⟨_,rfl,_,_,_,_,_,rfl,hb,T.d7,T.e7,rfl,?_⟩
  refine ⟨_,rfl,_,_,_,_,_,rfl,hb,T.d7,T.eF,rfl,?_⟩
  refine ⟨_,rfl,_,_,_,_,_,rfl,hb,T.d7,T.cU,rfl,?_⟩
  refine ⟨l,rfl,⟨_,bu.of hl⟩,gp (xs:=rs.map V.ref) (λi ys H2=>∃ rs2:List Addr,ys = rs2.map V.ref /\ bw (cR t (hid S H2)) rs2 (m.rules.take i) /\ ak H H2) ⟨[],rfl,bw.nil,ak.refl H⟩ (fG (by rw [List.length_map,hA.1];omega)) ?_ ?_ ?_⟩
  ·rintro i ys H2 _ ⟨_,_,_,s2⟩
   exact bu.of (s2 _ _ hl)
  ·rintro i xv ys H2 hx hyl ⟨rs2,rfl,hA2,s2⟩
   rw [List.getElem?_map] at hx
   obtain ⟨r,hr0,rfl⟩:=Option.map_eq_some_iff.mp hx
   have hi:=(List.getElem?_eq_some_iff.mp hr0).1
   have hRi:m.rules[i]? = some (m.rules[i]'(by rw [← hA.1];exact hi)):=List.getElem?_eq_getElem _
   have hR:=hA.2 i r _ hr0 hRi
   refine ⟨_,rfl,r,S,_,rfl,hR.same (bF s2),hz.same s2,λr' H3 hr3 s3=>fh (by rw [List.length_map];exact hi) hyl ⟨rs2 ++ [r'],by rw [List.map_append];rfl,?_,s2.trans s3⟩⟩
   rw [take_snoc hRi]
   exact bw.snoc (hA2.mono λ_ _ y=>y.same (bF s3)) hr3
  ·rintro ys H2 hyl ⟨rs2,rfl,hA2,s2⟩ D hD
   rw [List.length_map,hA.1,List.take_length] at hA2
   have s3:ak H (upd H2 D (.lst (rs2.map V.ref))):=s2.to hD
   have hD3:upd H2 D (.lst (rs2.map V.ref)) D = some (.lst (rs2.map V.ref)):=af
   have hA3:bw (cR t (hid S (upd H2 D (.lst (rs2.map V.ref))))) rs2 m.rules:=hA2.mono λ_ _ y=>y.same (bF (ak.upd hD))
   generalize upd H2 D (.lst (rs2.map V.ref)) = H3 at s3 hD3 hA3
   refine λx dx' nx ndx ne=>⟨x,dx',D,m.name,m.bh,_,rfl,af,bE nx ndx _ _ hD3,λl2 H4 e1 e2 e3 e4=>⟨rfl,?_⟩⟩
   have s4:ak H3 H4:=λb o hb=>e4 b o (bE nx ndx _ _ hb) (aj hb nx)
   have hz3:=hz.same s3
   have nxz:¬ S x:=hz3.new nx
   have nlz:¬ S l2:=hz3.new ((bE nx ndx).free e1)
   exact q x l2 dx' rs2 H4 (bD e2 nxz) (bD e3 nlz) (hA3.mono λ_ _ y=>y.same (bF s4)) (s3.free ((bE nx ndx).free e1)) (s3.trans s4)
def GX (t:fE):Sp:=λvs H Q _=>∃ (a:Addr) (S:Addr -> Prop) (ms:List aN),vs = [.ref a] /\ IsRules t (hid S H) a ms /\ Ex S H /\ dw ms /\ ∀ a' H',IsRules t (hid S H') a' ms -> ak H H' -> Q (.ref a') H'
theorem Ga (T:Txt K mg t):bC P w K mg base dh 5 t.pZ t.tW ["rules"] (GX t):=by
 refine T.uw.ok IV ?_ ?_
 walk_at "i"
 ·obtain ⟨a,S,ms,rfl,⟨dx,lm,as,ls,ha',hlm',hM⟩,hz,G,q⟩:=h
  have ha:=aJ _ _ ha'
  have hlm:=aJ _ _ hlm'
  have hlen:=G.len
  refine @au _ _ _ _ _ _ (@aI _ _ _ _ (@dH _ _ _ _ _ _ _ _ _ _ _ _ _ _ _ _ _ T.j8 (B4 T) (hr.mono (by decide)) rfl T.qO (T.t6.binds (by walk_at "2")) .nil aH (@aa _ _ _ _ _ (@iD _ (ay yR) _ ["rules"] _ _ ("mode") _ _ [] _ _ (by walk_at "ck") (@dX _ _ _ _ (@aO _ _ _ _ _ (pv 0) rfl)) (λ_ _ _ _=>by exact (@aZ _ _ _ _ _ _ _ _ _ _ _ _ _ _ _ _ (GZ T) (hr.mono (by decide)) rfl T.Hv T.tV.kp (T.tV.binds (by walk_at "1")) .nil aH (@aa _ _ _ _ _ (pv 0) ai (by left)) (by left) (by left) (by left))) (by left) (by left) (by left) (by left)) ai (by left)) (by left) (by left) (by left))) ?_
  refine ⟨_,rfl,_,_,_,_,_,rfl,ha,T.fS,T.b8,rfl,?_⟩
  refine ⟨lm,rfl,⟨_,bu.of hlm⟩,gp (xs:=as.map V.ref) (λi ys H2=>∃ as2 FG:List Addr,ys = as2.map V.ref /\ cj t (hid S H2) as2 FG (ms.take i) /\ ak H H2) ⟨[],[],rfl,⟨rfl,rfl,List.nodup_nil,λi a l m h=>by simp at h⟩,ak.refl H⟩ (fG (by rw [List.length_map,hM.la];omega)) ?_ ?_ ?_⟩
  ·rintro i ys H2 _ ⟨_,_,_,_,s2⟩
   exact bu.of (s2 _ _ hlm)
  ·rintro i xv ys H2 hx hyl ⟨as2,FG,rfl,hM2,s2⟩
   rw [List.getElem?_map] at hx
   obtain ⟨b,hb,rfl⟩:=Option.map_eq_some_iff.mp hx
   have hi:=(List.getElem?_eq_some_iff.mp hb).1
   have him:i < ms.length:=by rw [← hM.la];exact hi
   have hmi:ms[i]? = some ms[i]:=List.getElem?_eq_getElem him
   obtain ⟨l,hl⟩:∃ l,ls[i]? = some l:=⟨ls[i]'(by rw [hM.ll];exact him),List.getElem?_eq_getElem _⟩
   obtain ⟨dm,rs,o1,o2,o3⟩:=hM.ob i b l _ hb hl hmi
   have sh:=bF (S:=S) s2
   refine ⟨_,rfl,b,l,dm,S,ms[i],rs,rfl,sh _ _ o1,sh _ _ o2,o3.mono λ_ _ y=>y.same sh,hz.same s2,(G.ok _ (List.getElem_mem him)).1,λb' l' dm' rs' H3 e1 e2 e3 e4 s3=>fh (by rw [List.length_map];exact hi) hyl ⟨as2 ++ [b'],FG ++ [l'],by rw [List.map_append];rfl,?_,s2.trans s3⟩⟩
   have hM3:=hM2.same (bF s3)
   rw [take_snoc hmi]
   refine ⟨by rw [List.length_append,List.length_append,hM3.la];rfl,by rw [List.length_append,List.length_append,hM3.ll];rfl,?_,λj a' l'' m' h1 h2 h3=>?_⟩
   ·refine List.nodup_append.mpr ⟨hM3.nd,by simp,λx hx y hy=>?_⟩
    rw [List.mem_singleton.mp hy]
    intro e
    obtain ⟨xs,hxs⟩:=hM2.alive hx
    have hxs:=aJ _ _ hxs
    rw [e,e4] at hxs
    cases hxs
   ·have k1:=hM3.la
    have k2:=hM3.ll
    rcases cL h1 with h1 | ⟨i1,rfl⟩
    ·have:=(List.getElem?_eq_some_iff.mp h1).1
     rcases cL h2 with h2 | ⟨i2,rfl⟩
     ·rcases cL h3 with h3 | ⟨i3,rfl⟩
      ·exact hM3.ob j a' l'' m' h1 h2 h3
      ·omega
     ·omega
    ·rcases cL h2 with h2 | ⟨i2,rfl⟩
     ·have:=(List.getElem?_eq_some_iff.mp h2).1;omega
     ·rcases cL h3 with h3 | ⟨i3,rfl⟩
      ·have:=(List.getElem?_eq_some_iff.mp h3).1;omega
      ·exact ⟨dm',rs',e1,e2,e3⟩
  ·rintro ys H2 hyl ⟨as2,FG,rfl,hM2,s2⟩ D hD
   rw [List.length_map,hM.la,List.take_length] at hM2
   have s3:ak H (upd H2 D (.lst (as2.map V.ref))):=s2.to hD
   have hD3:upd H2 D (.lst (as2.map V.ref)) D = some (.lst (as2.map V.ref)):=af
   have hM3:cj t (hid S (upd H2 D (.lst (as2.map V.ref)))) as2 FG ms:=hM2.same (bF (ak.upd hD))
   generalize upd H2 D (.lst (as2.map V.ref)) = H3 at s3 hD3 hM3
   refine λx dx' nx ndx ne=>⟨x,dx',D,_,rfl,af,bE nx ndx _ _ hD3,λl2 H4 e1 e2 e3 e4=>⟨rfl,?_⟩⟩
   have s4:ak H3 H4:=λb o hb=>e4 b o (bE nx ndx _ _ hb) (aj hb nx)
   have hz3:=hz.same s3
   have nxz:¬ S x:=hz3.new nx
   have nlz:¬ S l2:=hz3.new ((bE nx ndx).free e1)
   exact q x H4 ⟨dx',l2,as2,FG,bD e2 nxz,bD e3 nlz,hM3.same (bF s4)⟩ (s3.trans s4)
def Gy (t:fE):Sp:=λvs H Q _=>∃ (a:Addr) (ms:List aN),vs = [.ref a] /\ IsRules t H a ms /\ dw ms /\ lX ms = none /\ ∀ H',ak H H' -> Q .cK H'
theorem GH (T:Txt K mg t):bC P w K mg base dh 6 t.oH t.uQ ["rules"] (Gy t):=by
 refine T.wD.ok Cu ?_ ?_
 walk_at "i"
 ·obtain ⟨a,ms,rfl,hR,G,hn,q⟩:=h
  refine @aq _ _ _ _ _ _ _ (aE (i:=1) Cu.nd rfl (Or.inl rfl) (aZ (D4 T) (hr.mono (by decide)) rfl T.C8 T.pS.kp (T.pS.binds (by walk_at "1")) .nil aH (aa (pv 0) ai))) ⟨_,rfl,a,ms,rfl,hR,G,λH1 s1=>⟨λ_=>?_,(λring row p l e=>by rw [hn] at e;cases e)⟩⟩
  exact @au _ _ _ _ _ _ (bB (aA gc (pv 1) bJ (aF _)) av av) ⟨_,rfl,rfl,_,rfl,g6 (λh=>absurd rfl h) (λ_=>bg (q H1 s1))⟩
structure bA where
 row:Str
 before:List Nat
 d:Cfg
def gf (row:Str) (lb lt lo lk:Addr):List (Str × V):=[("signs",.str row),("before",.ref lb),("tints",.ref lt),("behind",.ref lo),("folded",.ref lk)]
structure uc (t:fE) (H:Hp) (g dx lb lt lo lk:Addr) (G:bA):Prop where
 ob:H g = some (.ins t.aR dx (gf G.row lb lt lo lk))
 lb:H lb = some (.lst (G.before.map bL))
 lt:H lt = some (.lst (G.d.aB.map V.str))
 lo:H lo = some (.lst (G.d.on.map bL))
 lk:GM H lk G.d.marks
def c9 (t:fE) (H:Hp) (g:Addr) (G:bA):Prop:=∃ dx lb lt lo lk,uc t H g dx lb lt lo lk G
theorem c9.same {H H':Hp} {g:Addr} {G:bA} (h:c9 t H g G) (s:ak H H'):c9 t H' g G :=
 let ⟨dx,lb,lt,lo,lk,e⟩:=h;⟨dx,lb,lt,lo,lk,s _ _ e.ob,s _ _ e.lb,s _ _ e.lt,s _ _ e.lo,e.lk.same s⟩
structure iP (ms:List aN) (G:bA):Prop where
 ok:iY ms G.before
 len:G.before.length <= 20000
 row:G.row.length <= 1000
 go:∃ n,n <= 5000 /\ goN ms G.row n ⟨G.before,[],[]⟩ = some G.d
 ok2:iY ms G.d.on
 len2:G.d.on.length <= 20000
 tl:G.d.aB.length = G.row.length
def Fv (t:fE):Sp:=λvs H Q _=>∃ (x dx a lb:Addr) (S:Addr -> Prop) (ms:List aN) (G:bA),vs = [.ref x,.ref a,.ref lb,.str G.row] /\ H x = some (.ins t.aR dx []) /\ IsRules t H a ms /\ dw ms /\ hid S H lb = some (.lst (G.before.map bL)) /\ Ex S H /\ ¬ S x /\ iP ms G /\
 ∀ lt lo lk H',uc t (hid S H') x dx lb lt lo lk G -> gy H H' x -> Q .cK H'
theorem AZ (T:Txt K mg t):bC P w K mg base dh 4 t.lY t.tL ["self","rules","modes","row"] (Fv t):=by
 refine T.vq.ok Ba ?_ ?_
 walk_at "i"
 ·obtain ⟨x,dx,a,lb,Sh,ms,G,rfl,hx,hR,GM_,hlb',hE,hxS,S,q⟩:=h
  have hlb:=aJ _ _ hlb'
  obtain ⟨n,hn,hgo⟩:=S.go
  have hbl:=S.len
  refine @aq _ _ _ _ _ _ _ (aE (i:=4) Ba.nd rfl (Or.inl rfl) (aZ (HJ T) (hr.mono (by decide)) rfl T.Jl T.vI.kp (T.vI.binds (by walk_at "3")) .nil aH (aa (pv 1) (aa (pv 2) (aa (pv 3) ai))))) ⟨_,rfl,_,rfl,_,rfl,a,lb,ms,G.before,G.row,n,G.d,rfl,hR,GM_,hlb,S.ok,S.row,by omega,by omega,hgo,λtp lt lo lk H1 D GF1 f1 f2 f3 n1 n2 n3 s1=>?_⟩
  have hx1:=s1 _ _ hx
  have nx:∀ {b o},H1 b = some o -> (∀ C dx fs,o ≠ .ins C dx fs) -> b ≠ x:=λ{b o} e h=>cB e hx1 (λz=>h _ _ _ z)
  have x1:tp ≠ x:=nx D.tp (by intro _ _ _ z;cases z)
  have x2:lt ≠ x:=nx D.lt (by intro _ _ _ z;cases z)
  have x3:lo ≠ x:=nx D.lo (by intro _ _ _ z;cases z)
  have x4:lb ≠ x:=nx (s1 _ _ hlb) (by intro _ _ _ z;cases z)
  refine @aq _ _ _ _ _ _ _ (cI (pv 0) (pv 3) rfl) ⟨_,rfl,_,rfl,x,_,dx,[],rfl,hx1,T.bM,T.bU,by decide,?_⟩
  refine @aq _ _ _ _ _ _ _ (cI (pv 0) (pv 2) rfl) ⟨_,rfl,_,rfl,x,_,dx,[("signs",.str G.row)],rfl,af,T.bM,T.dc,by show 1 < 1000;decide,?_⟩
  refine @aq _ _ _ _ _ _ _ (cI (pv 0) (aS bW (pv 4) az (λ_ _=>rfl)) rfl) ⟨_,rfl,_,_,_,_,rfl,rfl,gh.of (by rw [ao x1,ao x1];exact D.tp),bq (j:=0) rfl,_,rfl,x,_,dx,[("signs",.str G.row),("before",.ref lb)],rfl,af,T.bM,T.eL,by show 2 < 1000;decide,?_⟩
  refine @aq _ _ _ _ _ _ _ (cI (pv 0) (aS bW (pv 4) az (λ_ _=>rfl)) rfl) ⟨_,rfl,_,_,_,_,rfl,rfl,gh.of (by rw [ao x1,ao x1,ao x1];exact D.tp),bq (j:=1) rfl,_,rfl,x,_,dx,[("signs",.str G.row),("before",.ref lb),("tints",.ref lt)],rfl,af,T.bM,T.c7,by show 3 < 1000;decide,?_⟩
  refine @au _ _ _ _ _ _ (cI (pv 0) (aS bW (pv 4) az (λ_ _=>rfl)) rfl) ⟨_,rfl,_,_,_,_,rfl,rfl,gh.of (by rw [ao x1,ao x1,ao x1,ao x1];exact D.tp),bq (j:=2) rfl,_,rfl,x,_,dx,[("signs",.str G.row),("before",.ref lb),("tints",.ref lt),("behind",.ref lo)],rfl,af,T.bM,T.dW,by show 4 < 1000;decide,?_⟩
  rw [gk,gk,gk,gk]
  obtain ⟨ps,k1,k2⟩:=D.lk
  have x5:lk ≠ x:=nx k1 (by intro _ _ _ z;cases z)
  obtain ⟨ps',k1',k2',k3'⟩:=GF1
  refine q lt lo lk _ ⟨bD af hxS,?_,?_,?_,ps',?_,⟨k2'.1,λi p m hp hm=>?_⟩⟩ λb o hb nb=>?_
  ·exact bD (by rw [ao x4];exact s1 _ _ hlb) (dz hlb')
  ·exact bD (by rw [ao x2];exact D.lt) (hE.new f1)
  ·exact bD (by rw [ao x3];exact D.lo) (hE.new f2)
  ·exact bD (by rw [ao x5];exact k1') (hE.new f3)
  ·have e:=k2'.2 i p m hp hm
   exact bD (by rw [ao (nx e (by intro _ _ _ z;cases z))];exact e) (hE.new (k3' p (List.mem_of_getElem? hp)))
  ·rw [ao nb];exact s1 _ _ hb
def Chain (ms:List aN):List Nat -> List Str -> List bA -> Prop
 | _,[],[]=>True
 | b,r :: rs,G :: Gs=>G.row = r /\ G.before = b /\ iP ms G /\ Chain ms G.d.on rs Gs
 | _,_,_=>False
theorem Chain.len {ms:List aN}:∀ {b:List Nat} {rs:List Str} {Gs:List bA},Chain ms b rs Gs -> Gs.length = rs.length
 | _,[],[],_=>rfl
 | _,_ :: _,_ :: _,h=>by simp [h.2.2.2.len]
 | _,[],_ :: _,h=>h.elim
 | _,_ :: _,[],h=>h.elim
theorem Chain.rows {ms:List aN}:∀ {b:List Nat} {rs:List Str} {Gs:List bA},Chain ms b rs Gs -> Gs.map (·.row) = rs
 | _,[],[],_=>rfl
 | _,_ :: _,_ :: _,h=>by rw [List.map_cons,h.1,h.2.2.2.rows]
 | _,[],_ :: _,h=>h.elim
 | _,_ :: _,[],h=>h.elim
def fW:List Nat -> List bA -> List Nat
 | b,[]=>b
 | _,G :: Gs=>fW G.d.on Gs
theorem tX {ms:List aN}:∀ {b:List Nat} {rs:List Str} {Gs:List bA} {i:Nat} {r:Str},Chain ms b rs Gs -> rs[i]? = some r -> ∃ G,Gs[i]? = some G /\ G.row = r /\ iP ms G
 | _,[],[],i,r,_,h=>by simp at h
 | _,x :: rs,G :: Gs,0,r,hc,h=>by
  cases h
  exact ⟨G,rfl,hc.1,hc.2.2.1⟩
 | _,x :: rs,G :: Gs,i + 1,r,hc,h=>by
  obtain ⟨G',h1,h2⟩:=tX hc.2.2.2 (i:=i) (r:=r) h
  exact ⟨G',h1,h2⟩
 | _,[],_ :: _,_,_,hc,_=>hc.elim
 | _,_ :: _,[],_,_,hc,_=>hc.elim
theorem pq {ms:List aN} {b:List Nat} {rs:List Str} {Gs:List bA} {r:Str} {i:Nat} (hc:Chain ms b (rs.drop i) (Gs.drop i)) (hr:rs[i]? = some r):∃ G,Gs[i]? = some G /\ G.row = r /\ G.before = b /\ iP ms G /\ Chain ms G.d.on (rs.drop (i + 1)) (Gs.drop (i + 1)):=by
 rw [fP hr] at hc
 cases e:Gs.drop i with
 | nil=>rw [e] at hc;exact hc.elim
 | cons G t =>
  rw [e] at hc
  have hG:Gs[i]? = some G:=by
   have:=congrArg (λl=>l[0]?) e
   simpa [List.getElem?_drop] using this
  have ht:Gs.drop (i + 1) = t:=by rw [← List.drop_drop,e];rfl
  rw [ht]
  exact ⟨G,hG,hc⟩
structure bZ (t:fE) (H:Hp) (x dx a lg:Addr) (gs:List Addr) (ms:List aN) (Gs:List bA):Prop where
 ob:H x = some (.ins t.aC dx [("rules",.ref a),("gone_rows",.ref lg)])
 ru:IsRules t H a ms
 lg:H lg = some (.lst (gs.map V.ref))
 go:bw (c9 t H) gs Gs
theorem bZ.same {H H':Hp} {x dx a lg:Addr} {gs:List Addr} {ms:List aN} {Gs:List bA} (h:bZ t H x dx a lg gs ms Gs) (s:ak H H'):bZ t H' x dx a lg gs ms Gs:=⟨s _ _ h.ob,h.ru.same s,s _ _ h.lg,h.go.mono λ_ _ z=>z.same s⟩
def B0 (t:fE):Sp:=λvs H Q _=>∃ (x dx a lb lr:Addr) (S:Addr -> Prop) (fs:List (Str × V)) (ms:List aN) (b:List Nat) (rs:List Str) (Gs:List bA),vs = [.ref x,.ref lb,.ref lr] /\ H x = some (.ins t.aC dx fs) /\ fs.lookup ("rules" : Str) = some (.ref a) /\ IsRules t H a ms /\ dw ms /\ hid S H lb = some (.lst (b.map bL)) /\ Ex S H /\ H lr = some (.lst (rs.map V.str)) /\ rs.length <= 100000 /\ Chain ms b rs Gs /\
 ∀ lg gs H',H' lg = some (.lst (gs.map V.ref)) -> bw (c9 t (hid S H')) gs Gs -> H lg = none -> ak H H' -> Q (.ref lg) H'
theorem Bk (T:Txt K mg t):bC P w K mg base dh 6 t.mE t.vR ["self","modes","rows"] (B0 t):=by
 refine T.qy.ok oi ?_ ?_
 walk_at "i"
 ·obtain ⟨x,dx,a,lb,lr,S,fs,ms,b,rs,Gs,rfl,hx,hfs,hR,G,hlb,hE,hlr,hrl,hC,q⟩:=h
  have hGl:=hC.len
  refine @aq _ _ _ _ _ _ _ (aE (i:=3) oi.nd rfl (Or.inl rfl) (bG ai)) ⟨by show 0 <= sizeLine;decide,λlg hlg=>?_⟩
  have s1:ak H (upd H lg (.lst [])):=ak.upd hlg
  have hg1:upd H lg (.lst []) lg = some (.lst []):=af
  generalize upd H lg (.lst []) = H1 at s1 hg1
  obtain ⟨S2,hS2⟩:∃ S2:Addr -> Prop,S2 = λc=>S c ∨ c = lg:=⟨_,rfl⟩
  have hSl:S2 lg:=by rw [hS2];exact .inr rfl
  have hE2:∀ {H':Hp} {xs:List V},ak H H' -> H' lg = some (.lst xs) -> Ex S2 H':=λ{H' xs} s' h' c hc=>by
   rw [hS2] at hc
   rcases hc with hc | hc
   ·exact (hE.same s') c hc
   ·rw [hc];exact ⟨_,h'⟩
  refine @aM _ _ _ _ _ _ _ (λσ' H'=>∃ gs,(∃ x1 x4 x5,σ' = [some (.ref x),x1,some (.ref lr),some (.ref lg),x4,x5]) /\ H' lg = some (.lst (gs.map V.ref)) /\ bw (c9 t (hid S H')) gs Gs /\ ak H H') (dZ PassesOwn.never rfl (dX (pv 2)) (b9 (i:=4) oi.nd rfl (Or.inl rfl)) av) ?_ ?_
  ·refine ⟨_,rfl,lr,rfl,⟨_,bu.of (s1 _ _ hlr)⟩,fM (xs:=rs.map V.str) (λi σ' H'=>∃ (gs:List Addr) (lb:Addr) (b:List Nat),(∃ x4 x5,σ' = [some (.ref x),some (.ref lb),some (.ref lr),some (.ref lg),x4,x5]) /\ H' lg = some (.lst (gs.map V.ref)) /\ bw (c9 t (hid S2 H')) gs (Gs.take i) /\ hid S2 H' lb = some (.lst (b.map bL)) /\ Chain ms b (rs.drop i) (Gs.drop i) /\ ak H H') ⟨[],lb,b,⟨_,_,rfl⟩,hg1,bw.nil,bD (s1 _ _ (aJ _ _ hlb)) (by rw [hS2];rintro (z | z);(exact dz hlb z);(exact aj (aJ _ _ hlb) hlg z)),hC,s1⟩ ?_ ?_ ?_⟩
   ·rintro i σ' H' _ ⟨_,_,_,_,_,_,_,_,s2⟩
    exact bu.of (s2 _ _ hlr)
   ·rintro i xv σ' H2 hxv ⟨gs,lb,b,⟨x4,x5,rfl⟩,hg2,hA2,hlb2,hC2,s2⟩
    rw [List.getElem?_map] at hxv
    obtain ⟨r,hri,rfl⟩:=Option.map_eq_some_iff.mp hxv
    obtain ⟨Gi,hGi,e1,e2,hS,hC3⟩:=pq hC2 hri
    subst e1 e2
    have hi:=(List.getElem?_eq_some_iff.mp hri).1
    have hEx:=hE2 s2 hg2
    refine @aq _ _ _ _ _ _ _ (aE (i:=5) oi.nd rfl (Or.inl rfl) (dH T.iC (AZ T) (hr.mono (by decide)) rfl T.mz (T.vq.binds (by walk_at "4")) .nil aH (aa (aO (pv 0) rfl) (aa (pv 1) (aa (pv 4) ai))))) (⟨_,rfl,_,_,_,_,_,rfl,(s2 _ _ hx),T.aK,T.dP,hfs,⟨_,rfl,_,rfl,λg dg ng ndg ne=>⟨g,dg,a,lb,S2,ms,Gi,rfl,af,(hR.same s2).same (bE ng ndg),G,(bF (bE ng ndg)) _ _ hlb2,hEx.same (bE ng ndg),hEx.new ng,hS,λlt lo lk H3 hG3 a3=>⟨rfl,?_⟩⟩⟩⟩)
    have s3:ak H2 H3:=λb o hb=>a3 b o (bE ng ndg _ _ hb) (aj hb ng)
    have hg3:=s3 _ _ hg2
    have hob:=aJ _ _ hG3.ob
    have ngl:g ≠ lg:=cB hob hg3 (by intro z;cases z)
    have hlen:gs.length <= 100000:=by rw [hA2.1,List.length_take];omega
    refine @aq _ _ _ _ _ _ _ (bH (e9 F.plainAttrs_list F.slot_list_append F.type_list_append c8 (pv 3) (aa (pv 5) ai))) ⟨_,rfl,.inl ⟨rfl,_,bu.of hg3⟩,_,rfl,lg,_,_,rfl,rfl,hg3,fG (by rw [List.length_map];omega),?_⟩
    refine @au _ _ _ _ _ _ (aE (i:=1) oi.nd rfl (Or.inl rfl) (aO (pv 5) rfl)) ⟨_,rfl,g,t.aR,dg,_,_,rfl,(by rw [ao ngl];exact hob),T.bM,T.c7,rfl,?_⟩
    refine ⟨gs ++ [g],lo,Gi.d.on,⟨_,_,rfl⟩,by rw [af,List.map_append];rfl,?_,?_,hC3,λb o hb=>?_⟩
    ·rw [take_snoc hGi,jf hSl]
     exact bw.snoc (hA2.mono λ_ _ z=>z.same (bF s3)) ⟨dg,lb,lt,lo,lk,hG3⟩
    ·rw [jf hSl];exact hG3.lo
    ·rw [ao (aj hb hlg)];exact s3 _ _ (s2 _ _ hb)
   ·rintro σ' H2 ⟨gs,lb,b,⟨x4,x5,rfl⟩,hg2,hA2,_,_,s2⟩
    rw [List.length_map,← hGl,List.take_length] at hA2
    exact ⟨gs,⟨_,_,_,rfl⟩,hg2,hA2.mono λ_ _ z=>z.same (nL (λc hc=>by rw [hS2];exact .inl hc)),s2⟩
  rintro σ' H2 ⟨gs,⟨x1,x4,x5,rfl⟩,hg2,hA2,s2⟩
  exact @au _ _ _ _ _ _ (aI (pv 3)) ⟨_,rfl,q lg gs H2 hg2 hA2 hlg s2⟩
def EW (t:fE):Sp:=λvs H Q _=>∃ (x dx a lr:Addr) (S:Addr -> Prop) (ms:List aN) (rs:List Str) (Gs:List bA),vs = [.ref x,.ref a,.ref lr] /\ H x = some (.ins t.aC dx []) /\ ¬ S x /\ Ex S H /\ IsRules t (hid (λc=>S c ∨ c = x) H) a ms /\ dw ms /\ lX ms = none /\ H lr = some (.lst (rs.map V.str)) /\ rs.length <= 100000 /\ Chain ms [0] rs Gs /\
 ∀ a' lg gs H',bZ t (hid S H') x dx a' lg gs ms Gs -> H lg = none -> gy H H' x -> Q .cK H'
theorem Gv (T:Txt K mg t):bC P w K mg base dh 7 t.lE t.sW ["self","rules","rows"] (EW t):=by
 refine T.yQ.ok IZ ?_ ?_
 walk_at "i"
 ·obtain ⟨x,dx,a,lr,S,ms,rs,Gs,rfl,hx,hxS,hE,hR,G,hring,hlr,hrl,hC,q⟩:=h
  obtain ⟨S2,hS2⟩:∃ S2:Addr -> Prop,S2 = λc=>S c ∨ c = x:=⟨_,rfl⟩
  rw [← hS2] at hR
  have hSx:S2 x:=by rw [hS2];exact .inr rfl
  have hE2:Ex S2 H:=λc hc=>by
   rw [hS2] at hc
   rcases hc with hc | hc
   ·exact hE c hc
   ·rw [hc];exact ⟨_,hx⟩
  have hle:∀ c,S c -> S2 c:=λc hc=>by rw [hS2];exact .inl hc
  refine @aq _ _ _ _ _ _ _ (bH (aZ (GH T) (hr.mono (by decide)) rfl T.Ib T.wD.kp (T.wD.binds (by walk_at "1")) .nil aH (aa (pv 1) ai))) ⟨_,rfl,a,ms,rfl,hR.same aJ,G,hring,λH1 s1=>?_⟩
  refine @aq _ _ _ _ _ _ _ (cI (pv 0) (aZ (Ga T) (hr.mono (by decide)) rfl T.GL T.uw.kp (T.uw.binds (by walk_at "1")) .nil aH (aa (pv 1) ai)) rfl) ⟨_,rfl,a,S2,ms,rfl,hR.same (bF s1),hE2.same s1,G,λa' H2 hR2 s2=>?_⟩
  have s2:=s1.trans s2
  have hx2:=s2 _ _ hx
  refine ⟨_,rfl,x,_,dx,[],rfl,hx2,T.aK,T.dP,by decide,?_⟩
  have hx3:upd H2 x (.ins t.aC dx (fk "rules" (.ref a') [])) x = some (.ins t.aC dx [("rules",.ref a')]):=af
  have a3:gy H (upd H2 x (.ins t.aC dx (fk "rules" (.ref a') []))) x:=s2.Fw gy.upd
  have nl:lr ≠ x:=cB (s2 _ _ hlr) hx2 (by intro z;cases z)
  have hlr3:upd H2 x (.ins t.aC dx (fk "rules" (.ref a') [])) lr = some (.lst (rs.map V.str)):=by rw [ao nl];exact s2 _ _ hlr
  have hH3:hid S2 (upd H2 x (.ins t.aC dx (fk "rules" (.ref a') []))) = hid S2 H2:=jf hSx
  have hE3:Ex S (upd H2 x (.ins t.aC dx (fk "rules" (.ref a') []))):=λc hc=>by
   obtain ⟨o,ho⟩:=(hE.same s2) c hc
   exact ⟨o,by rw [ao (λz=>hxS (by rw [← z];exact hc))];exact ho⟩
  rw [← hH3] at hR2
  generalize upd H2 x (.ins t.aC dx (fk "rules" (.ref a') [])) = H3 at hx3 a3 hlr3 hR2 hE3
  refine @au _ _ _ _ _ _ (cI (pv 0) (br (pv 0) T.aK T.FD (Bk T) (hr.mono (by decide)) (T.qy.binds (by walk_at "3")) .nil aH (aa (bG (aa (fm rfl T.i8) ai)) (aa (pv 2) ai))) rfl) ⟨_,rfl,x,dx,_,rfl,hx3,rfl,by show 1 <= sizeLine;decide,λlb hlb=>⟨_,rfl,x,dx,a',lb,lr,S,_,ms,[0],rs,Gs,rfl,ak.upd hlb _ _ hx3,rfl,(hR2.same aJ).same (ak.upd hlb),G,bD af (hE3.new hlb),hE3.same (ak.upd hlb),ak.upd hlb _ _ hlr3,hrl,hC,λlg gs H4 hg4 hA4 f4 s4=>?_⟩⟩
  have s34:ak H3 H4:=(ak.upd hlb).trans s4
  have hx4:=s34 _ _ hx3
  refine ⟨_,rfl,x,_,dx,[("rules",.ref a')],rfl,hx4,T.aK,T.aL,by show 1 < 1000;decide,?_⟩
  have h3n:H3 lg = none:=(ak.upd hlb).free f4
  have nlg:lg ≠ x:=cB hg4 hx4 (by intro z;cases z)
  have hlg0:H lg = none:=by
   cases e:H lg with
   | none=>rfl
   | some o=>have:=a3 _ _ e nlg;rw [h3n] at this;cases this
  have sh:ak (hid S2 H4) (hid S (upd H4 x (.ins t.aC dx (fk "gone_rows" (.ref lg) [("rules",.ref a')])))):=λb o hb=>by
   have hb2:=dz hb
   exact bD (by rw [ao (λz=>hb2 (by rw [z];exact hSx))];exact aJ _ _ hb) (λz=>hb2 (hle b z))
  refine q a' lg gs _ ⟨bD af hxS,(hR2.same (bF s34)).same sh,bD (by rw [ao nlg];exact hg4) (hE3.new h3n),hA4.mono λg Gi hg=>?_⟩ hlg0 ?_
  ·obtain ⟨dg,lb',lt,lo,lk,e⟩:=hg
   have key:∀ {b o},hid S H4 b = some o -> b ≠ x -> hid S (upd H4 x (.ins t.aC dx (fk "gone_rows" (.ref lg) [("rules",.ref a')]))) b = some o:=λ{b o} hb h=>bD (by rw [ao h];exact aJ _ _ hb) (dz hb)
   have nk:∀ {b o},hid S H4 b = some o -> (∀ C d fs,o ≠ .ins C d fs) -> b ≠ x:=λ{b o} hb h=>cB (aJ _ _ hb) hx4 (λz=>h _ _ _ z)
   obtain ⟨ps,k1,k2⟩:=e.lk
   refine ⟨dg,lb',lt,lo,lk,key e.ob (cB (aJ _ _ e.ob) hx4 (by intro z;injection z with _ _ z;cases z)),key e.lb (nk e.lb (by intro _ _ _ z;cases z)),key e.lt (nk e.lt (by intro _ _ _ z;cases z)),key e.lo (nk e.lo (by intro _ _ _ z;cases z)),ps,key k1 (nk k1 (by intro _ _ _ z;cases z)),k2.mono λp m h=>key h (nk h (by intro _ _ _ z;cases z))⟩
  ·intro b o hb nb
   rw [ao nb]
   exact s34 _ _ (a3 _ _ hb nb)
def Ia (t:fE):Sp:=λvs H Q _=>∃ (x dx a lg:Addr) (gs:List Addr) (ms:List aN) (Gs:List bA),vs = [.ref x] /\ bZ t H x dx a lg gs ms Gs /\ Gs.length <= 100000 /\ ∀ l H',H' l = some (.lst ((Gs.map (·.row)).map V.str)) -> H l = none -> ak H H' -> Q (.ref l) H'
theorem Dv (T:Txt K mg t):bC P w K mg base dh 1 t.lG t.wL ["self"] (Ia t):=by
 refine T.rq.ok Io ?_ ?_
 walk_at "i"
 ·obtain ⟨x,dx,a,lg,gs,ms,Gs,rfl,I,hl,q⟩:=h
  refine @au _ _ _ _ _ _ (@aI _ _ _ _ (@iD _ (ay yZ) _ ["self"] _ _ ("gone") _ _ [] _ _ (by walk_at "ck") (@dX _ _ _ _ (@aO _ _ _ _ _ (pv 0) rfl)) (λ_ _ _ _=>by exact (@m8 _ K _ _ _ _ (pv 0) rfl (by left))) (by left) (by left) (by left) (by left))) (⟨_,rfl,_,_,_,_,_,rfl,I.ob,T.aK,T.aL,rfl,⟨lg,rfl,⟨_,bu.of I.lg⟩,gp (xs:=gs.map V.ref) (λi ys H2=>ys = ((Gs.take i).map (·.row)).map V.str /\ H2 = H) ⟨rfl,rfl⟩ (fG (by rw [List.length_map,I.go.1];omega)) ?_ ?_ ?_⟩⟩)
  ·rintro i ys H2 _ ⟨_,rfl⟩
   exact bu.of I.lg
  ·rintro i xv ys H2 hx hyl ⟨rfl,rfl⟩
   rw [List.getElem?_map] at hx
   obtain ⟨g,hg,rfl⟩:=Option.map_eq_some_iff.mp hx
   have hi:=(List.getElem?_eq_some_iff.mp hg).1
   have hGi:Gs[i]? = some (Gs[i]'(by rw [← I.go.1];exact hi)):=List.getElem?_eq_getElem _
   obtain ⟨dg,lb,lt,lo,lk,e⟩:=I.go.2 i g _ hg hGi
   refine ⟨_,rfl,_,_,_,_,_,rfl,e.ob,T.bM,T.bU,rfl,(fh (by rw [List.length_map];exact hi) hyl ⟨?_,rfl⟩)⟩
   rw [take_snoc hGi,List.map_append,List.map_append]
   rfl
  ·rintro ys H2 hyl ⟨rfl,rfl⟩ D hD
   have e5:Gs.take (gs.map V.ref).length = Gs:=by rw [List.length_map,I.go.1,List.take_length]
   rw [e5]
   exact q D _ af hD (ak.upd hD)
def DJ (t:fE):Sp:=λvs H Q _=>∃ (x dx a lg:Addr) (gs:List Addr) (ms:List aN) (Gs:List bA) (i:Nat),vs = [.ref x,.int i] /\ bZ t H x dx a lg gs ms Gs /\ i < Gs.length /\ Q .cK H
theorem DB (T:Txt K mg t):bC P w K mg base dh 1 t.mJ t.wI ["self","row"] (DJ t):=by
 refine T.qZ.ok IG ?_ ?_
 walk_at "i"
 ·obtain ⟨x,dx,a,lg,gs,ms,Gs,i,rfl,I,hi,q⟩:=h
  have hl:=I.go.1
  refine @au _ _ _ _ _ _ (bB (PW.pt (g8 (aA fF (pv 1) az (aF _)) (gv (aA KC (pv 1) (aQ aV (by rfl) T.bN (by decide +kernel) (aa (aO (pv 0) rfl) ai)) (aF _))))) av av) ⟨_,rfl,_,_,rfl,rfl,_,rfl,dG (λh=>absurd h (by omega)) (λ_=>?_)⟩
  exact ⟨_,rfl,⟨_,rfl,_,_,_,_,_,rfl,I.ob,T.aK,T.aL,rfl,⟨_,_,rfl,.inl (bu.of I.lg),_,_,rfl,rfl,_,rfl,dG (λh=>absurd h (by rw [List.length_map];omega)) (λ_=>bg q)⟩⟩⟩
def Aa (t:fE):Sp:=λvs H Q _=>∃ (x dx a lg:Addr) (gs:List Addr) (ms:List aN) (Gs:List bA) (G:bA) (i:Nat),vs = [.ref x,.int i] /\ bZ t H x dx a lg gs ms Gs /\ Gs[i]? = some G /\ ∀ g,c9 t H g G -> Q (.ref g) H
theorem xW (T:Txt K mg t):bC P w K mg base dh 2 t.lF t.uK ["self","row"] (Aa t):=by
 refine T.oq.ok Ig ?_ ?_
 walk_at "i"
 ·obtain ⟨x,dx,a,lg,gs,ms,Gs,G,i,rfl,I,hG,q⟩:=h
  obtain ⟨g,hg,hgo⟩:=I.go.at hG
  refine @aq _ _ _ _ _ _ _ (bH (br (pv 0) T.aK T.FU (DB T) (hr.mono (by decide)) (T.qZ.binds (by walk_at "2")) .nil aH (aa (pv 1) ai))) ⟨_,rfl,x,dx,_,rfl,I.ob,rfl,_,rfl,x,dx,a,lg,gs,ms,Gs,i,rfl,I,(List.getElem?_eq_some_iff.mp hG).1,?_⟩
  exact @au _ _ _ _ _ _ (aI (aS aW (aO (pv 0) rfl) (pv 1) (λ_ _=>rfl))) (⟨_,rfl,_,_,_,_,_,rfl,I.ob,T.aK,T.aL,rfl,⟨_,rfl,_,_,_,_,rfl,rfl,bu.of I.lg,dU hg,q g hgo⟩⟩)
def Cf (t:fE) (f:bA -> List V):Sp:=λvs H Q _=>∃ (x dx a lg:Addr) (gs:List Addr) (ms:List aN) (Gs:List bA) (G:bA) (i:Nat),vs = [.ref x,.int i] /\ bZ t H x dx a lg gs ms Gs /\ Gs[i]? = some G /\ ∀ l H',H' l = some (.lst (f G)) -> H l = none -> ak H H' -> Q (.ref l) H'
theorem Jp (T:Txt K mg t):bC P w K mg base dh 3 t.mj t.sR ["self","row"] (Cf t λG=>G.before.map bL):=by
 refine T.vP.ok Jz ?_ ?_
 walk_at "i"
 ·obtain ⟨x,dx,a,lg,gs,ms,Gs,G,i,rfl,I,hG,q⟩:=h
  refine @au _ _ _ _ _ _ (aI (cS d8 (by rfl) T.gu (by decide +kernel) (aa (aO (br (pv 0) T.aK T.Cj (xW T) (hr.mono (by decide)) (T.oq.binds (by walk_at "2")) .nil aH (aa (pv 1) ai)) rfl) ai))) ⟨_,rfl,x,dx,_,rfl,I.ob,rfl,_,rfl,x,dx,a,lg,gs,ms,Gs,G,i,rfl,I,hG,λg ⟨dg,lb,lt,lo,lk,e⟩=>?_⟩
  exact ⟨g,t.aR,dg,_,_,rfl,e.ob,T.bM,T.dc,rfl,lb,_,rfl,.inl (bu.of e.lb),λl hl=>q l _ af hl (ak.upd hl)⟩
theorem IJ (T:Txt K mg t):bC P w K mg base dh 3 t.l7 t.vY ["self","row"] (Cf t λG=>G.d.aB.map V.str):=by
 refine T.uY.ok JN ?_ ?_
 walk_at "i"
 ·obtain ⟨x,dx,a,lg,gs,ms,Gs,G,i,rfl,I,hG,q⟩:=h
  refine @au _ _ _ _ _ _ (aI (cS d8 (by rfl) T.gu (by decide +kernel) (aa (aO (br (pv 0) T.aK T.Cj (xW T) (hr.mono (by decide)) (T.oq.binds (by walk_at "2")) .nil aH (aa (pv 1) ai)) rfl) ai))) ⟨_,rfl,x,dx,_,rfl,I.ob,rfl,_,rfl,x,dx,a,lg,gs,ms,Gs,G,i,rfl,I,hG,λg ⟨dg,lb,lt,lo,lk,e⟩=>?_⟩
  exact ⟨g,t.aR,dg,_,_,rfl,e.ob,T.bM,T.eL,rfl,lt,_,rfl,.inl (bu.of e.lt),λl hl=>q l _ af hl (ak.upd hl)⟩
def Fq (t:fE):Sp:=λvs H Q _=>∃ (x dx a lg:Addr) (gs:List Addr) (ms:List aN) (Gs:List bA) (G:bA) (i:Nat),vs = [.ref x,.int i] /\ bZ t H x dx a lg gs ms Gs /\ Gs[i]? = some G /\ ∀ l H' ps,H' l = some (.lst (ps.map V.ref)) -> bw (λp m=>H p = some (.tup [bL m.1,.str m.2])) ps G.d.marks -> H l = none -> ak H H' -> Q (.ref l) H'
theorem Gd (T:Txt K mg t):bC P w K mg base dh 3 t.lD t.vQ ["self","row"] (Fq t):=by
 refine T.ug.ok Jo ?_ ?_
 walk_at "i"
 ·obtain ⟨x,dx,a,lg,gs,ms,Gs,G,i,rfl,I,hG,q⟩:=h
  refine @au _ _ _ _ _ _ (aI (cS d8 (by rfl) T.gu (by decide +kernel) (aa (aO (br (pv 0) T.aK T.Cj (xW T) (hr.mono (by decide)) (T.oq.binds (by walk_at "2")) .nil aH (aa (pv 1) ai)) rfl) ai))) ⟨_,rfl,x,dx,_,rfl,I.ob,rfl,_,rfl,x,dx,a,lg,gs,ms,Gs,G,i,rfl,I,hG,λg ⟨dg,lb,lt,lo,lk,e⟩=>?_⟩
  obtain ⟨ps,k1,k2⟩:=e.lk
  exact ⟨g,t.aR,dg,_,_,rfl,e.ob,T.bM,T.dW,rfl,lk,_,rfl,.inl (bu.of k1),λl hl=>q l _ ps af k2 hl (ak.upd hl)⟩
def BJ (H:Hp) (p:Addr) (G:bA):Prop:=∃ lo lt lk,H p = some (.tup [.str G.row,.ref lo,.ref lt,.ref lk]) /\ H lo = some (.lst (G.before.map bL)) /\ H lt = some (.lst (G.d.aB.map V.str)) /\ GM H lk G.d.marks
theorem BJ.same {H H':Hp} {p:Addr} {G:bA} (h:BJ H p G) (s:ak H H'):BJ H' p G:=let ⟨lo,lt,lk,a,b,c,d⟩:=h;⟨lo,lt,lk,s _ _ a,s _ _ b,s _ _ c,d.same s⟩
def KP (H:Hp) (l:Addr) (Gs:List bA):Prop:=∃ ps:List Addr,H l = some (.lst (ps.map V.ref)) /\ bw (BJ H) ps Gs
theorem KP.same {H H':Hp} {l:Addr} {Gs:List bA} (h:KP H l Gs) (s:ak H H'):KP H' l Gs:=let ⟨ps,a,b⟩:=h;⟨ps,s _ _ a,b.mono λ_ _ z=>z.same s⟩
def Et:Sp:=λvs H Q _=>∃ (S:Addr -> Prop) (lm lr:Addr) (ms:List aN) (rs:List Str) (Gs:List bA),vs = [.ref lm,.ref lr] /\ (∀ b,S b -> ∃ xs,H b = some (.lst xs)) /\ D8 H lm ms /\ Wk ms /\ H lr = some (.lst (rs.map V.str)) /\ rs.length <= 1000 /\ Chain ms [0] rs Gs /\ ∀ l H',KP (hid S H') l Gs -> H l = none -> ak H H' -> Q (.ref l) H'
theorem Co (T:Txt K mg t):bC P w K mg base dh 4 t.qc t.vf ["_law_modes","_law_rows"] Et:=by
 refine T.nH.ok kO ?_ ?_
 walk_at "i"
 ·obtain ⟨S,lm,lr,ms,rs,Gs,rfl,hES,hL,W,hlr,hrl,hC,q⟩:=h
  have hGl:=hC.len
  have new:∀ {H':Hp} {b:Addr},ak H H' -> H' b = none -> ¬ S b:=λ{H' b} s e z=>by
   obtain ⟨xs,hx⟩:=hES b z
   rw [s _ _ hx] at e
   cases e
  have tup:∀ {H':Hp} {b:Addr} {xs:List V},ak H H' -> H' b = some (.tup xs) -> ¬ S b:=λ{H' b xs} s e z=>by
   obtain ⟨xs,hx⟩:=hES b z
   rw [s _ _ hx] at e
   cases e
  refine @aq _ _ _ _ _ _ _ (aE (i:=2) kO.nd rfl (Or.inl rfl) (bG (aa az ai))) ⟨by show 1 <= sizeLine;decide,λlo hlo=>?_⟩
  have s1:ak H (upd H lo (.lst [.int 0])):=ak.upd hlo
  have ho1:upd H lo (.lst [.int 0]) lo = some (.lst ([0].map bL)):=af
  have nSo:=new (ak.refl H) hlo
  generalize upd H lo (.lst [.int 0]) = H1 at s1 ho1
  refine @aq _ _ _ _ _ _ _ (aE (i:=3) kO.nd rfl (Or.inl rfl) (bG ai)) ⟨by show 0 <= sizeLine;decide,λlf hlf=>?_⟩
  have s2:ak H1 (upd H1 lf (.lst [])):=ak.upd hlf
  have hf2:upd H1 lf (.lst []) lf = some (.lst []):=af
  have ho2:=s2 _ _ ho1
  have nof:lo ≠ lf:=aj ho1 hlf
  have hlf0:H lf = none:=s1.free hlf
  have nSf:=new (ak.refl H) hlf0
  generalize upd H1 lf (.lst []) = H2 at s2 hf2 ho2
  have s2:=s1.trans s2
  refine @aM _ _ _ _ _ _ _ (λσ' H'=>(∃ x2 x4 x5,σ' = [some (.ref lm),some (.ref lr),x2,some (.ref lf),x4,x5]) /\ KP (hid S H') lf Gs /\ ak H H') (dZ PassesOwn.never rfl (dX (pv 1)) (b9 (i:=4) kO.nd rfl (Or.inl rfl)) av) ?_ ?_
  ·refine ⟨_,rfl,lr,rfl,⟨_,bu.of (s2 _ _ hlr)⟩,fM (xs:=rs.map V.str) (λi σ' H'=>∃ (ps:List Addr) (lo:Addr) (b:List Nat),(∃ x4 x5,σ' = [some (.ref lm),some (.ref lr),some (.ref lo),some (.ref lf),x4,x5]) /\ H' lf = some (.lst (ps.map V.ref)) /\ bw (BJ (hid (λc=>S c ∨ c = lf) H')) ps (Gs.take i) /\ hid (λc=>S c ∨ c = lf) H' lo = some (.lst (b.map bL)) /\ Chain ms b (rs.drop i) (Gs.drop i) /\ ak H H') ⟨[],lo,[0],⟨_,_,rfl⟩,hf2,bw.nil,bD ho2 (λz=>z.elim nSo nof),hC,s2⟩ ?_ ?_ ?_⟩
   ·rintro i σ' H' _ ⟨_,_,_,_,_,_,_,_,s3⟩
    exact bu.of (s3 _ _ hlr)
   ·rintro i xv σ' H3 hxv ⟨ps,lo,b,⟨x4,x5,rfl⟩,hf3,hA3,hlo3,hC3,s3⟩
    rw [List.getElem?_map] at hxv
    obtain ⟨r,hri,rfl⟩:=Option.map_eq_some_iff.mp hxv
    obtain ⟨G,hGi,e1,e2,hS,hC4⟩:=pq hC3 hri
    subst e1 e2
    obtain ⟨n,hn,hgo⟩:=hS.go
    have hbl:=hS.len
    have hlo3':=aJ _ _ hlo3
    have nlo:¬ (S lo ∨ lo = lf):=dz (S:=λc=>S c ∨ c = lf) hlo3
    have hplen:ps.length <= 1000:=by rw [hA3.1,List.length_take];omega
    refine @aq _ _ _ _ _ _ _ (aE (i:=5) kO.nd rfl (Or.inl rfl) (aZ (GN T) (hr.mono (by decide)) rfl T.Jj T.vH.kp (T.vH.binds (by walk_at "3")) .nil aH (aa (pv 0) (aa (pv 2) (aa (pv 4) ai))))) ⟨_,rfl,_,rfl,_,rfl,lm,lo,ms,G.before,G.row,n,G.d,rfl,hL.same s3,W,hlo3',hS.ok,hS.row,by omega,hn,hgo,λtp lt lo' lk H4 D f1 f2 f3 s4=>?_⟩
    have hf4:=s4 _ _ hf3
    have n1:¬ (S lt ∨ lt = lf):=λz=>z.elim (new s3 f1) (Ne.symm (aj hf3 f1))
    have n2:¬ (S lk ∨ lk = lf):=λz=>z.elim (new s3 f2) (Ne.symm (aj hf3 f2))
    have n3:¬ (S lo' ∨ lo' = lf):=by
     rcases f3 with z | z
     ·rw [z];exact nlo
     ·exact λy=>y.elim (new s3 z) (Ne.symm (aj hf3 z))
    refine @aq _ _ _ _ _ _ _ (bH (e9 F.plainAttrs_list F.slot_list_append F.type_list_append c8 (pv 3) (aa (cD (aa (pv 4) (aa (pv 2) (aa (aS bW (pv 5) az (λ_ _=>rfl)) (aa (aS bW (pv 5) az (λ_ _=>rfl)) ai))))) ai))) ⟨_,rfl,.inl ⟨rfl,_,bu.of hf4⟩,_,rfl,_,rfl,_,rfl,_,_,_,_,rfl,rfl,gh.of D.tp,bq (j:=0) rfl,_,rfl,_,_,_,_,rfl,rfl,gh.of D.tp,bq (j:=2) rfl,by show 4 <= sizeLine;decide,λtq htq=>?_⟩
    have s5:ak H4 (upd H4 tq (.tup [.str G.row,.ref lo,.ref lt,.ref lk])):=ak.upd htq
    have htq5:upd H4 tq (.tup [.str G.row,.ref lo,.ref lt,.ref lk]) tq = some (.tup [.str G.row,.ref lo,.ref lt,.ref lk]):=af
    generalize upd H4 tq (.tup [.str G.row,.ref lo,.ref lt,.ref lk]) = H5 at s5 htq5
    have hf5:=s5 _ _ hf4
    have D5:=D.same s5
    have s35:=s4.trans s5
    have tp5:∀ {b:Addr} {xs:List V},H5 b = some (.tup xs) -> ¬ (S b ∨ b = lf):=λ{b xs} e z=>z.elim (tup (s3.trans s35) e) (cB e hf5 (by intro y;cases y))
    have ntp:tp ≠ lf:=λz=>tp5 D5.tp (.inr z)
    refine ⟨lf,_,_,rfl,rfl,hf5,fG (by rw [List.length_map];omega),?_⟩
    refine @au _ _ _ _ _ _ (aE (i:=2) kO.nd rfl (Or.inl rfl) (aS bW (pv 5) az (λ_ _=>rfl))) ⟨_,rfl,_,_,_,_,rfl,rfl,gh.of (by rw [ao ntp];exact D5.tp),bq (j:=1) rfl,?_⟩
    refine ⟨ps ++ [tq],lo',G.d.on,⟨_,_,rfl⟩,by rw [af,List.map_append];rfl,?_,?_,hC4,λb o hb=>?_⟩
    ·rw [take_snoc hGi,jf (.inr rfl)]
     refine bw.snoc (hA3.mono λ_ _ z=>z.same (bF s35)) ⟨lo,lt,lk,bD htq5 (tp5 htq5),bD (s35 _ _ hlo3') nlo,bD D5.lt n1,?_⟩
     obtain ⟨ms',k1,k2⟩:=D5.lk
     exact ⟨ms',bD k1 n2,k2.mono λp m e=>bD e (tp5 e)⟩
    ·rw [jf (.inr rfl)];exact bD D5.lo n3
    ·rw [ao (aj hb hlf0)];exact s35 _ _ (s3 _ _ hb)
   ·rintro σ' H3 ⟨ps,lo,b,⟨x4,x5,rfl⟩,hf3,hA3,_,_,s3⟩
    rw [List.length_map,← hGl,List.take_length] at hA3
    exact ⟨⟨_,_,_,rfl⟩,⟨ps,bD hf3 nSf,hA3.mono λ_ _ z=>z.same (nL λb y=>.inl y)⟩,s3⟩
  rintro σ' H3 ⟨⟨x2,x4,x5,rfl⟩,hK,s3⟩
  exact @au _ _ _ _ _ _ (aI (pv 3)) ⟨_,rfl,q lf H3 hK hlf0 s3⟩
theorem rO {H:Hp} {ps qs:List Addr} {mk:List (Nat × Str)} (a2:bw (λp (m:Nat × Str)=>H p = some (.tup [bL m.1,.str m.2])) ps mk) (b2:bw (λp (m:Nat × Str)=>H p = some (.tup [bL m.1,.str m.2])) qs mk):∀ (j:Nat) (x y:V),(ps.map V.ref)[j]? = some x -> (qs.map V.ref)[j]? = some y -> lA K H 1 x y:=by
 intro j x y hx hy
 rw [List.getElem?_map] at hx hy
 obtain ⟨p,hp,rfl⟩:=Option.map_eq_some_iff.mp hx
 obtain ⟨q,hq,rfl⟩:=Option.map_eq_some_iff.mp hy
 have hj:j < mk.length:=by rw [← a2.1];exact (List.getElem?_eq_some_iff.mp hp).1
 have hm:mk[j]? = some mk[j]:=List.getElem?_eq_getElem hj
 have e1:=a2.2 j p _ hp hm
 have e2:=b2.2 j q _ hq hm
 refine .inr ⟨p,q,_,_,rfl,rfl,.inr ⟨gh.of e1,gh.of e2⟩,rfl,λj' x y hx hy=>?_⟩
 rw [hx] at hy
 cases hy
 cases j' with
 | zero=>cases hx;exact ⟨rfl,.inl rfl⟩
 | succ j' =>
  cases j' with
  | zero=>cases hx;exact ⟨rfl,.inl rfl⟩
  | succ j'=>cases hx
def Fd (t:fE):Sp:=λvs H Q _=>∃ (x dx a lg lq:Addr) (gs:List Addr) (ms:List aN) (Gs:List bA),vs = [.ref x,.ref lq] /\ bZ t H x dx a lg gs ms Gs /\ KP H lq Gs /\ Gs.length <= 1000 /\ ∀ H',ak H H' -> Q (.bl true) H'
theorem Ct (T:Txt K mg t):bC P w K mg base dh 4 t.oM t.uN ["_law_text","_law_kept"] (Fd t):=by
 refine T.pR.ok Cz ?_ ?_
 walk_at "i"
 ·obtain ⟨x,dx,a,lg,lq,gs,ms,Gs,rfl,I,⟨ps,hlq,hK⟩,hl,q⟩:=h
  refine @aM _ _ _ _ _ _ _ (λσ' H'=>(∃ y,σ' = [some (.ref x),some (.ref lq),y]) /\ ak H H') (@bB _ _ _ _ _ _ _ _ (@aA _ _ _ _ _ _ _ _ (mR (Nat.lt_of_succ_lt (mD hr))) (@b7 _ _ _ _ _ _ _ _ _ _ _ _ _ _ _ _ _ (pv 0) T.aK T.FZ (Dv T) (hr.mono (by decide)) (T.rq.binds (by walk_at "1")) .nil aH (by left)) (@iD _ (ay yz) _ ["_law_text","_law_kept","_law_k"] _ _ ("_law_one") _ _ [] _ _ (by walk_at "ck") (@dX _ _ _ _ (pv 1)) (λ_ _ _ _=>by exact (@aS _ _ _ _ _ _ _ (Fi (K:=K) rfl) (pv 0) az (λ_ _=>rfl))) (by left) (by left) (by left) (by left)) (aF _)) av av) ?_ ?_
  ·refine ⟨_,rfl,x,dx,_,rfl,I.ob,rfl,x,dx,a,lg,gs,ms,Gs,rfl,I,by omega,λl H1 hl1 f1 s1=>⟨_,rfl,lq,rfl,⟨_,bu.of (s1 _ _ hlq)⟩,gp (xs:=ps.map V.ref) (λi ys H2=>ys = ((Gs.take i).map (·.row)).map V.str /\ H2 = H1) ⟨rfl,rfl⟩ (fG (by rw [List.length_map,hK.1];omega)) ?_ ?_ ?_⟩⟩
   ·rintro i ys H2 _ ⟨_,rfl⟩
    exact bu.of (s1 _ _ hlq)
   ·rintro i xv ys H2 hx hyl ⟨rfl,rfl⟩
    rw [List.getElem?_map] at hx
    obtain ⟨p,hp,rfl⟩:=Option.map_eq_some_iff.mp hx
    have hi:=(List.getElem?_eq_some_iff.mp hp).1
    have hGi:Gs[i]? = some (Gs[i]'(by rw [← hK.1];exact hi)):=List.getElem?_eq_getElem _
    obtain ⟨lo,lt,lk,e,_⟩:=hK.2 i p _ hp hGi
    refine ⟨_,rfl,_,_,_,_,rfl,rfl,gh.of (s1 _ _ e),bq (j:=0) rfl,fh (by rw [List.length_map];exact hi) hyl ⟨?_,rfl⟩⟩
    rw [take_snoc hGi,List.map_append,List.map_append]
    rfl
   ·rintro ys H2 hyl ⟨rfl,rfl⟩ D hD
    have e5:Gs.take (ps.map V.ref).length = Gs:=by rw [List.length_map,hK.1,List.take_length]
    rw [e5]
    exact ⟨l,D,_,_,rfl,rfl,bu.of (ak.upd hD _ _ hl1),bu.of af,o4 _ _,_,rfl,g6 (λh=>absurd rfl h) (λ_=>bg ⟨⟨_,rfl⟩,s1.to hD⟩)⟩
  rintro σ' H1 ⟨⟨y,rfl⟩,s1⟩
  refine @aM _ _ _ _ _ _ _ (λσ' H'=>(∃ y,σ' = [some (.ref x),some (.ref lq),y]) /\ ak H H') (dZ PassesOwn.never rfl (jd rfl T.jh (aa (aQ aV (by rfl) T.bN (by decide +kernel) (aa (pv 1) ai)) ai)) (b9 (i:=2) Cz.nd rfl (Or.inl rfl)) av) ?_ ?_
  ·refine ⟨_,rfl,_,_,rfl,.inl (bu.of (s1 _ _ hlq)),(ps.length:Int),by rw [List.length_map],by omega,by rw [hK.1];omega,jv (n:=((ps.length:Nat):Int).toNat) (λk σ' H'=>(∃ y,σ' = [some (.ref x),some (.ref lq),y]) /\ ak H H') ⟨⟨_,rfl⟩,s1⟩ ?_ (λσ' H' z=>z)⟩
   rintro k σ' H2 hk ⟨⟨y,rfl⟩,s2⟩
   have hk':k < Gs.length:=by rw [← hK.1];omega
   have hGk:Gs[k]? = some Gs[k]:=List.getElem?_eq_getElem hk'
   generalize Gs[k] = G at hGk
   obtain ⟨p,hp,lo,lt,lk,e1,e2,e3,qs,e4,e5⟩:=hK.at hGk
   have hat:we (ps.map V.ref) ((0:Int) + (k:Int)) = some (.ref p):=by rw [Int.zero_add];exact dU hp
   have I2:=I.same s2
   refine @au _ _ _ _ _ _ (bB (PW.pt (g8 (aA (mR (Nat.lt_of_succ_lt (mD hr))) (br (pv 0) T.aK T.KJ (Jp T) (hr.mono (by decide)) (T.vP.binds (by walk_at "2")) .nil aH (aa (pv 2) ai)) (aS bW (aS aW (pv 1) (pv 2) (λ_ _=>rfl)) az (λ_ _=>rfl)) (aF _)) (g8 (aA (mR (Nat.lt_of_succ_lt (mD hr))) (br (pv 0) T.aK T.LC (IJ T) (hr.mono (by decide)) (T.uY.binds (by walk_at "2")) .nil aH (aa (pv 2) ai)) (aS bW (aS aW (pv 1) (pv 2) (λ_ _=>rfl)) az (λ_ _=>rfl)) (aF _)) (gv (aA (JI 1 (Nat.lt_of_le_of_lt (Nat.add_le_add_left (by decide:2 <= 64) _) hr.units)) (br (pv 0) T.aK T.Lh (Gd T) (hr.mono (by decide)) (T.ug.binds (by walk_at "2")) .nil aH (aa (pv 2) ai)) (aS bW (aS aW (pv 1) (pv 2) (λ_ _=>rfl)) az (λ_ _=>rfl)) (aF _)))))) av av) ⟨_,rfl,x,dx,_,rfl,I2.ob,rfl,_,rfl,x,dx,a,lg,gs,ms,Gs,G,k,(by rw [Int.zero_add];rfl),I2,hGk,λl3 H3 h3 f3 s3=>?_⟩
   have s3':=s2.trans s3
   refine ⟨_,rfl,_,rfl,_,_,_,_,rfl,rfl,bu.of (s3' _ _ hlq),hat,_,_,_,_,rfl,rfl,gh.of (s3' _ _ e1),bq (j:=1) rfl,l3,lo,_,_,rfl,rfl,bu.of h3,bu.of (s3' _ _ e2),ow _ _ _ _,_,rfl,g6 (λh=>absurd rfl h) (λ_=>?_)⟩
   have I3:=I.same s3'
   refine ⟨_,rfl,x,dx,_,rfl,I3.ob,rfl,_,rfl,x,dx,a,lg,gs,ms,Gs,G,k,(by rw [Int.zero_add];rfl),I3,hGk,λl4 H4 h4 f4 s4=>?_⟩
   have s4':=s3'.trans s4
   refine ⟨_,rfl,_,rfl,_,_,_,_,rfl,rfl,bu.of (s4' _ _ hlq),hat,_,_,_,_,rfl,rfl,gh.of (s4' _ _ e1),bq (j:=2) rfl,l4,lt,_,_,rfl,rfl,bu.of h4,bu.of (s4' _ _ e3),o4 _ _,_,rfl,g6 (λh=>absurd rfl h) (λ_=>?_)⟩
   have I4:=I.same s4'
   refine ⟨_,rfl,x,dx,_,rfl,I4.ob,rfl,_,rfl,x,dx,a,lg,gs,ms,Gs,G,k,(by rw [Int.zero_add];rfl),I4,hGk,λl5 H5 ps5 h5 m5 f5 s5=>?_⟩
   have s5':=s4'.trans s5
   refine ⟨_,rfl,_,rfl,_,_,_,_,rfl,rfl,bu.of (s5' _ _ hlq),hat,_,_,_,_,rfl,rfl,gh.of (s5' _ _ e1),bq (j:=3) rfl,l5,lk,_,_,rfl,rfl,.inl ⟨bu.of h5,bu.of (s5' _ _ e4)⟩,(by rw [List.length_map,List.length_map,m5.1,e5.1]),rO (m5.mono λ_ _ z=>s5 _ _ z) (e5.mono λ_ _ z=>s5' _ _ z),_,rfl,rR (bg ⟨⟨_,rfl⟩,s5'⟩)⟩
  rintro σ' H2 ⟨⟨y2,rfl⟩,s2⟩
  exact @au _ _ _ _ _ _ (aI iS) (q H2 s2)
def cY:List Str -> List Str -> Nat
 | x :: xs,y :: ys=>if x = y then cY xs ys + 1 else 0
 | _,_=>0
theorem iQ:∀ (xs ys:List Str),cY xs ys <= xs.length /\ cY xs ys <= ys.length
 | [],ys=>⟨Nat.zero_le _,Nat.zero_le _⟩
 | _ :: _,[]=>⟨Nat.zero_le _,Nat.zero_le _⟩
 | x :: xs,y :: ys=>by
  have h:=iQ xs ys
  rw [cY]
  by_cases e:x = y
  ·rw [if_pos e,List.length_cons,List.length_cons];omega
  ·rw [if_neg e];exact ⟨Nat.zero_le _,Nat.zero_le _⟩
theorem jM:∀ (xs ys:List Str),xs.take (cY xs ys) = ys.take (cY xs ys)
 | [],ys=>by simp [cY]
 | _ :: _,[]=>by simp [cY]
 | x :: xs,y :: ys=>by
  rw [cY]
  by_cases e:x = y
  ·rw [if_pos e,List.take_succ_cons,List.take_succ_cons,jM xs ys,e]
  ·rw [if_neg e];rfl
theorem Dq {xs ys:List Str} {i:Nat} {x y:Str} (h1:xs[i]? = some x) (h2:ys[i]? = some y):cY (xs.drop i) (ys.drop i) = if x = y then cY (xs.drop (i + 1)) (ys.drop (i + 1)) + 1 else 0:=by
 rw [fP h1,fP h2,cY]
theorem Af {xs ys:List Str} {i:Nat} (h:i = xs.length ∨ i = ys.length):cY (xs.drop i) (ys.drop i) = 0:=by
 rcases h with h | h
 ·rw [h,List.drop_length,cY];intros;simp_all
 ·rw [h,List.drop_length]
  cases xs.drop ys.length <;> rfl
def E4:Sp:=λvs H Q _=>∃ (a b:Addr) (xs ys:List Str),vs = [.ref a,.ref b] /\ H a = some (.lst (xs.map V.str)) /\ H b = some (.lst (ys.map V.str)) /\ ∀ H',ak H H' -> Q (.int (cY xs ys:Nat)) H'
theorem CG (T:Txt K mg t):bC P w K mg base dh 1 t.pU t.vX ["some","others"] E4:=by
 refine T.nV.ok pO ?_ ?_
 walk_at "i"
 ·obtain ⟨a,b,xs,ys,rfl,ha,hb,q⟩:=h
  refine @aq _ _ _ _ _ _ _ (aE (i:=2) pO.nd rfl (Or.inl rfl) az) ?_
  refine @aM _ _ _ _ _ _ _ (λσ' H'=>(∃ x3 x4,σ' = [some (.ref a),some (.ref b),some (.int (cY xs ys:Nat)),x3,x4]) /\ ak H H') (dZ PassesOwn.never rfl (HX rfl T.DM (aa (pv 0) (aa (pv 1) ai))) (sI rfl (dQ (b9 (i:=3) pO.nd rfl (Or.inl rfl)) (dQ (b9 (i:=4) pO.nd rfl (Or.inl rfl)) mS))) av) ?_ ?_
  ·refine ⟨_,rfl,_,rfl,a,b,_,_,rfl,bu.of ha,bu.of hb,Dn (xs:=xs.map V.str) (ys:=ys.map V.str) (λi σ' H'=>(∃ x3 x4,σ' = [some (.ref a),some (.ref b),some (.int (i:Nat)),x3,x4]) /\ ak H H' /\ cY xs ys = i + cY (xs.drop i) (ys.drop i)) ⟨⟨_,_,rfl⟩,ak.refl H,by simp⟩ ?_ ?_ ?_⟩
   ·rintro i σ' H' _ _ ⟨_,s1,_⟩
    exact ⟨bu.of (s1 _ _ ha),bu.of (s1 _ _ hb)⟩
   ·rintro i xv yv p σ' H1 hx hy hp ⟨⟨x3,x4,rfl⟩,s1,hn⟩
    rw [List.getElem?_map] at hx hy
    obtain ⟨x,hx1,rfl⟩:=Option.map_eq_some_iff.mp hx
    obtain ⟨y,hy1,rfl⟩:=Option.map_eq_some_iff.mp hy
    rw [Dq hx1 hy1] at hn
    have s2:ak H (upd H1 p (.tup [.str x,.str y])):=s1.trans (ak.upd hp)
    refine ⟨p,[.str x,.str y],rfl,gh.of af,rfl,_,_,rfl,_,_,rfl,rfl,?_⟩
    by_cases e:x = y
    ·rw [if_pos e] at hn
     refine @aq _ _ _ _ _ _ _ (bB (aA om (pv 3) (pv 4) (aF _)) av av) ⟨_,rfl,_,rfl,rfl,_,rfl,Hy (c:=false) (by simp [e]) (bg ?_)⟩
     refine @au _ _ _ _ _ _ (xR (i:=2) pO.nd rfl (Or.inl rfl) az yq) ⟨_,rfl,_,_,rfl,rfl,⟨_,_,rfl⟩,s2,?_⟩
     omega
    ·rw [if_neg e] at hn
     refine @aq _ _ _ _ _ _ _ (bB (aA om (pv 3) (pv 4) (aF _)) av av) ⟨_,rfl,_,rfl,rfl,_,rfl,Hy (c:=true) (by simp [e]) ?_⟩
     refine @au _ _ _ _ _ _ (aI (pv 2)) ⟨_,rfl,?_⟩
     have:=q _ s2
     rw [hn] at this
     exact this
   ·rintro i σ' H1 hi h1 h2 ⟨⟨x3,x4,rfl⟩,s1,hn⟩
    rw [List.length_map,List.length_map] at hi
    rw [Af hi] at hn
    exact ⟨⟨_,_,by rw [hn];rfl⟩,s1⟩
  rintro σ' H1 ⟨⟨x3,x4,rfl⟩,s1⟩
  exact @au _ _ _ _ _ _ (aI (pv 2)) ⟨_,rfl,q _ s1⟩
def Eh:Sp:=λvs H Q _=>∃ (a b:Addr) (xs ys:List Str),vs = [.ref a,.ref b] /\ H a = some (.lst (xs.map V.str)) /\ H b = some (.lst (ys.map V.str)) /\ ∀ H',ak H H' -> Q (.int (cY xs.reverse ys.reverse:Nat)) H'
theorem Gr (T:Txt K mg t):bC P w K mg base dh 2 t.pL t.uv ["some","others"] Eh:=by
 refine T.vt.ok Ih ?_ ?_
 walk_at "i"
 ·obtain ⟨a,b,xs,ys,rfl,ha,hb,q⟩:=h
  refine @au _ _ _ _ _ _ (aI (aZ (CG T) (hr.mono (by decide)) rfl T.Bj T.nV.kp (T.nV.binds (by walk_at "2")) .nil aH (aa (nt rfl rfl T.gu rfl T.iE (aa (pv 0) ai)) (aa (nt rfl rfl T.gu rfl T.iE (aa (pv 1) ai)) ai)))) ⟨_,rfl,a,_,rfl,bu.of ha,λl1 h1=>⟨_,rfl,b,_,rfl,bu.of (ak.upd h1 _ _ hb),λl2 h2=>⟨l1,l2,xs.reverse,ys.reverse,rfl,?_,?_,λH' s'=>q H' (((ak.upd h1).trans (ak.upd h2)).trans s')⟩⟩⟩
  ·rw [List.map_reverse]
   exact ak.upd h2 _ _ af
  ·rw [List.map_reverse]
   exact af
theorem qU {b:List Nat}:∀ {Gs:List bA} {j:Nat} {G:bA},Gs[j]? = some G -> fW b (Gs.take (j + 1)) = G.d.on
 | G' :: Gs,0,G,h=>by cases h;rfl
 | G' :: Gs,j + 1,G,h=>by
  rw [List.take_succ_cons,fW]
  exact qU (Gs:=Gs) (by simpa using h)
def Eu (t:fE):Sp:=λvs H Q _=>∃ (x dx a lg:Addr) (gs:List Addr) (S:Addr -> Prop) (Gs:List bA) (i:Nat),vs = [.ref x,.int i] /\ H x = some (.ins t.aC dx [("rules",.ref a),("gone_rows",.ref lg)]) /\ H lg = some (.lst (gs.map V.ref)) /\ bw (c9 t (hid S H)) gs Gs /\ Ex S H /\ i <= Gs.length /\
 ∀ lb H',hid S H' lb = some (.lst ((fW [0] (Gs.take i)).map bL)) -> ak H H' -> Q (.ref lb) H'
theorem yt (T:Txt K mg t):bC P w K mg base dh 1 t.mG t.vz ["self","row"] (Eu t):=by
 refine T.oK.ok HD ?_ ?_
 walk_at "i"
 ·obtain ⟨x,dx,a,lg,gs,S,Gs,i,rfl,hx,hlg,hA,hE,hi,q⟩:=h
  refine @au _ _ _ _ _ _ (aI (cP (aA ia (pv 1) az (aF _)) (aO (aS aW (aO (pv 0) rfl) (aT fH (pv 1) az) (λ_ _=>rfl)) rfl) (bG (aa (fm rfl T.i8) ai)))) ⟨_,rfl,_,_,rfl,rfl,_,rfl,dG (λh=>?_) (λh=>?_)⟩
  ·obtain ⟨j,rfl⟩:∃ j,i = j + 1:=⟨i - 1,by omega⟩
   obtain ⟨G,hG⟩:∃ G,Gs[j]? = some G:=⟨Gs[j]'(by omega),List.getElem?_eq_getElem _⟩
   obtain ⟨g,hg,dg,lb,lt,lo,lk,e⟩:=hA.at hG
   have ej:((j + 1:Nat):Int) - 1 = (j:Int):=by omega
   refine ⟨_,rfl,_,_,_,_,_,rfl,hx,T.aK,T.aL,rfl,⟨_,rfl,_,_,rfl,rfl,?_⟩⟩
   show Eg _ (.ref lg) (.int (((j + 1:Nat):Int) - 1)) H _
   rw [ej]
   refine ⟨_,_,_,_,rfl,rfl,bu.of hlg,dU hg,g,t.aR,dg,_,_,rfl,aJ _ _ e.ob,T.bM,T.c7,rfl,?_⟩
   refine q lo H ?_ (ak.refl H)
   rw [qU hG]
   exact e.lo
  ·have e0:i = 0:=by omega
   subst e0
   exact ⟨by show 1 <= sizeLine;decide,λlb hlb=>q lb _ (bD af (hE.new hlb)) (ak.upd hlb)⟩
def EG (t:fE):Sp:=λvs H Q _=>∃ (x dx a lg:Addr) (gs:List Addr) (i k:Nat),vs = [.ref x,.int i,.int k] /\ H x = some (.ins t.aC dx [("rules",.ref a),("gone_rows",.ref lg)]) /\ H lg = some (.lst (gs.map V.ref)) /\ i + k <= gs.length /\ Q .cK H
theorem Ge (T:Txt K mg t):bC P w K mg base dh 1 t.mK t.uL ["self","row","many"] (EG t):=by
 refine T.uf.ok Ip ?_ ?_
 walk_at "i"
 ·obtain ⟨x,dx,a,lg,gs,i,k,rfl,hx,hlg,hi,q⟩:=h
  refine @au _ _ _ _ _ _ (bB (PW.pt (g8 (aA fF (pv 1) az (aF _)) (g8 (aA fF (pv 2) az (aF _)) (gv (aA ia (aT cN (pv 1) (pv 2)) (aQ aV (by rfl) T.bN (by decide +kernel) (aa (aO (pv 0) rfl) ai)) (aF _)))))) av av) ⟨_,rfl,_,_,rfl,rfl,_,rfl,dG (λh=>absurd h (by omega)) (λ_=>?_)⟩
  refine ⟨_,rfl,_,_,rfl,rfl,_,rfl,dG (λh=>absurd h (by omega)) (λ_=>?_)⟩
  refine ⟨_,rfl,_,rfl,_,_,rfl,rfl,⟨_,rfl,_,_,_,_,_,rfl,hx,T.aK,T.aL,rfl,⟨_,_,rfl,.inl (bu.of hlg),_,_,rfl,rfl,_,rfl,dG (λh=>absurd h (by rw [List.length_map];omega)) (λ_=>bg q)⟩⟩⟩
structure kZ (ms:List aN) (Gs:List bA) (i k:Nat) (Gs':List bA):Prop where
 len:Gs'.length = Gs.length
 le:i + k <= Gs.length
 pre:∀ j,j < i -> Gs'[j]? = Gs[j]?
 suf:∀ j,i + k <= j -> Gs'[j]? = Gs[j]?
 mid:∀ j,i <= j -> j < i + k -> ∃ G G',Gs[j]? = some G /\ Gs'[j]? = some G' /\ G'.row = G.row /\ G'.before = fW [0] (Gs'.take j) /\ G.before ≠ fW [0] (Gs'.take j) /\ iP ms G'
 stop:∀ G,Gs[i + k]? = some G -> G.before = fW [0] (Gs'.take (i + k))
def iL (Gs Gs':List bA) (n:Nat):List bA:=Gs'.take n ++ Gs.drop n
theorem Jg {Gs Gs':List bA} {n:Nat} (hl:Gs'.length = Gs.length) (h:n <= Gs.length):(iL Gs Gs' n)[n]? = Gs[n]?:=by
 rw [iL,List.getElem?_append_right (by rw [List.length_take];omega),List.length_take,List.getElem?_drop]
 congr 1
 omega
theorem tZ {Gs Gs':List bA} {n:Nat} (hl:Gs'.length = Gs.length) (h:n <= Gs.length):(iL Gs Gs' n).take n = Gs'.take n:=by
 have e:n = (Gs'.take n).length:=by rw [List.length_take];omega
 rw [iL]
 conv=>lhs;arg 1;rw [e]
 rw [List.take_left]
theorem sG {Gs Gs':List bA} {n:Nat} (hl:Gs'.length = Gs.length) (h:n <= Gs.length):(iL Gs Gs' n).length = Gs.length:=by
 rw [iL,List.length_append,List.length_take,List.length_drop];omega
theorem ES {Gs Gs':List bA} {n:Nat} {G':bA} (hl:Gs'.length = Gs.length) (h:n < Gs.length) (hG:Gs'[n]? = some G'):(iL Gs Gs' n).set n G' = iL Gs Gs' (n + 1):=by
 have e:(Gs'.take n).length = n:=by rw [List.length_take];omega
 rw [iL,iL,List.set_append_right _ _ (by rw [e];exact Nat.le_refl _),e,Nat.sub_self,take_snoc hG,List.append_assoc]
 congr 1
 rw [fP (List.getElem?_eq_getElem h)]
 rfl
theorem kZ.first {ms:List aN} {Gs Gs':List bA} {i k:Nat} (h:kZ ms Gs i k Gs'):iL Gs Gs' i = Gs:=by
 apply List.ext_getElem?
 intro j
 rw [iL]
 have:=h.le
 have:=h.len
 by_cases hj:j < i
 ·rw [List.getElem?_append_left (by rw [List.length_take];omega),List.getElem?_take,if_pos hj,h.pre j hj]
 ·rw [List.getElem?_append_right (by rw [List.length_take];omega),List.length_take,List.getElem?_drop]
  congr 1
  omega
theorem kZ.last {ms:List aN} {Gs Gs':List bA} {i k:Nat} (h:kZ ms Gs i k Gs'):iL Gs Gs' (i + k) = Gs':=by
 apply List.ext_getElem?
 intro j
 rw [iL]
 have:=h.le
 have:=h.len
 by_cases hj:j < i + k
 ·rw [List.getElem?_append_left (by rw [List.length_take];omega),List.getElem?_take,if_pos hj]
 ·rw [List.getElem?_append_right (by rw [List.length_take];omega),List.length_take,List.getElem?_drop,h.suf j (by omega)]
  congr 1
  omega
theorem bw.put {α β:Type} {R:α -> β -> Prop} {xs:List α} {ys:List β} {n:Nat} {x:α} {y:β} (h:bw R xs ys) (r:R x y):bw R (xs.set n x) (ys.set n y):=by
 refine ⟨by rw [List.length_set,List.length_set];exact h.1,λi a b ha hb=>?_⟩
 rw [List.getElem?_set] at ha hb
 by_cases e:n = i
 ·rw [if_pos e] at ha hb
  split at ha
  ·split at hb
   ·cases ha;cases hb;exact r
   ·cases hb
  ·cases ha
 ·rw [if_neg e] at ha hb
  exact h.2 i a b ha hb
theorem tF:∀ {xs ys:List Nat},xs.map bL = ys.map bL -> xs = ys
 | [],[],_=>rfl
 | [],_ :: _,h=>by simp at h
 | _ :: _,[],h=>by simp at h
 | x :: xs,y :: ys,h=>by
  rw [List.map_cons,List.map_cons] at h
  injection h with h1 h2
  injection h1 with h1
  rw [tF h2,Int.ofNat_inj.mp h1]
theorem yp (xs ys:List Nat):pX (xs.map bL) (ys.map bL):=ow (λn:Nat=>(n:Int)) (λn:Nat=>(n:Int)) xs ys
def Hi (t:fE):Sp:=λvs H Q _=>∃ (x dx a lg:Addr) (gs:List Addr) (S:Addr -> Prop) (ms:List aN) (Gs Gs':List bA) (i k:Nat),vs = [.ref x,.int i] /\ H x = some (.ins t.aC dx [("rules",.ref a),("gone_rows",.ref lg)]) /\ IsRules t (hid S H) a ms /\ dw ms /\ H lg = some (.lst (gs.map V.ref)) /\ S lg /\ bw (c9 t (hid S H)) gs Gs /\ Ex S H /\ Gs.length <= 100000 /\ kZ ms Gs i k Gs' /\
 ∀ gs' H',H' lg = some (.lst (gs'.map V.ref)) -> bw (c9 t (hid S H')) gs' Gs' -> gy H H' lg -> Q (.int (k:Nat)) H'
theorem JA (T:Txt K mg t):bC P w K mg base dh 6 t.lS t.tH ["self","row"] (Hi t):=by
 refine T.wH.ok wZ ?_ ?_
 walk_at "i"
 ·obtain ⟨x,dx,a,lg,gs,S,ms,Gs,Gs',i,k,rfl,hx,hR,G,hlg,hSl,hA,hE,hlen,O,q⟩:=h
  have hxl:x ≠ lg:=cB hx hlg (by intro z;cases z)
  have hl:=O.len
  have hle:=O.le
  refine @aq _ _ _ _ _ _ _ (aE (i:=2) wZ.nd rfl (Or.inl rfl) (pv 1)) ⟨_,rfl,?_⟩
  refine @aM _ _ _ _ _ _ _ (λσ' H'=>∃ gs',(∃ x2,σ' = [some (.ref x),some (.int i),x2] /\ x2 = some (.int ((i + k:Nat):Int))) /\ H' lg = some (.lst (gs'.map V.ref)) /\ bw (c9 t (hid S H')) gs' Gs' /\ gy H H' lg) (g9 PassesOwn.never (PW.pt (fD (aA fF (pv 2) (aQ aV (by rfl) T.bN (by decide +kernel) (aa (aO (pv 0) rfl) ai)) (aF _)) (eO (aA (mR (Nat.lt_of_succ_lt (mD hr))) (aO (aS aW (aO (pv 0) rfl) (pv 2) (λ_ _=>rfl)) rfl) (br (pv 0) T.aK T.BH (yt T) (hr.mono (by decide)) (T.oK.binds (by walk_at "2")) .nil aH (aa (pv 2) ai)) (aF _))))) av) ?_ ?_
  ·refine ⟨λm σ' H'=>∃ (j:Nat) (gs':List Addr),σ' = [some (.ref x),some (.int i),some (.int ((i + j:Nat):Int))] /\ j <= k /\ m = k - j /\ H' lg = some (.lst (gs'.map V.ref)) /\ bw (c9 t (hid S H')) gs' (iL Gs Gs' (i + j)) /\ gy H H' lg,⟨k,0,gs,rfl,Nat.zero_le _,rfl,hlg,(by rw [Nat.add_zero,O.first];exact hA),gy.refl H lg⟩,?_⟩
   rintro m σ' H1 ⟨j,gs1,rfl,hj,rfl,hlg1,hA1,a1⟩
   have hx1:=a1 _ _ hx hxl
   have s1:ak (hid S H) (hid S H1):=λb o hb=>bD (a1 _ _ (aJ _ _ hb) (λz=>dz hb (by rw [z];exact hSl))) (dz hb)
   have hR1:=hR.same s1
   have hE1:Ex S H1:=λb hb=>by
    by_cases e:b = lg
    ·rw [e];exact ⟨_,hlg1⟩
    ·obtain ⟨o,ho⟩:=hE b hb
     exact ⟨o,a1 _ _ ho e⟩
   have hg1:gs1.length = Gs.length:=by rw [hA1.1,sG hl (by omega)]
   refine ⟨_,rfl,⟨_,rfl,_,_,_,_,_,rfl,hx1,T.aK,T.aL,rfl,⟨_,_,rfl,.inl (bu.of hlg1),_,_,rfl,rfl,_,rfl,dG (λh=>?_) (λh=>?_)⟩⟩⟩
   ·rw [List.length_map] at h
    have hlt:i + j < Gs.length:=by omega
    obtain ⟨G0,hG0⟩:∃ G0,Gs[i + j]? = some G0:=⟨Gs[i + j],List.getElem?_eq_getElem hlt⟩
    have hG1:(iL Gs Gs' (i + j))[i + j]? = some G0:=by rw [Jg hl (by omega)];exact hG0
    obtain ⟨g,hg,dg,lb,lt,lo,lk,e⟩:=hA1.at hG1
    refine ⟨_,rfl,_,_,_,_,_,rfl,hx1,T.aK,T.aL,rfl,⟨_,rfl,_,_,_,_,rfl,rfl,bu.of hlg1,dU hg,g,t.aR,dg,_,_,rfl,aJ _ _ e.ob,T.bM,T.dc,rfl,?_⟩⟩
    refine ⟨_,rfl,x,dx,_,rfl,hx1,rfl,_,rfl,x,dx,a,lg,gs1,S,_,i + j,rfl,hx1,hlg1,hA1,hE1,(by rw [sG hl (by omega)];omega),λlb2 H2 hb2 s2=>?_⟩
    rw [tZ hl (by omega)] at hb2
    refine ⟨lb,lb2,_,_,rfl,rfl,bu.of (s2 _ _ (aJ _ _ e.lb)),bu.of (aJ _ _ hb2),yp _ _,_,rfl,?_⟩
    have hlg2:=s2 _ _ hlg1
    have hx2:=s2 _ _ hx1
    have hA2:bw (c9 t (hid S H2)) gs1 (iL Gs Gs' (i + j)):=hA1.mono λ_ _ z=>z.same (bF s2)
    have hE2:=hE1.same s2
    have a2:gy H H2 lg:=a1.same s2
    refine g6 (λhne=>?_) (λheq=>?_)
    ·have hjk:j < k:=by
      rcases Nat.lt_or_ge j k with z | z
      ·exact z
      ·exfalso
       have ejk:j = k:=by omega
       subst ejk
       exact hne (by rw [O.stop G0 hG0])
     obtain ⟨G1,G',z1,hG',er,eb,_,hSt⟩:=O.mid (i + j) (by omega) (by omega)
     rw [hG0] at z1
     cases z1
     refine ⟨_,λσ' H' z=>z,@aq _ _ _ _ _ _ _ (oO (dH T.iC (AZ T) (hr.mono (by decide)) rfl T.mz (T.vq.binds (by walk_at "4")) .nil aH (aa (aO (pv 0) rfl) (aa (br (pv 0) T.aK T.BH (yt T) (hr.mono (by decide)) (T.oK.binds (by walk_at "2")) .nil aH (aa (pv 2) ai)) (aa (aO (aS aW (aO (pv 0) rfl) (pv 2) (λ_ _=>rfl)) rfl) ai)))) (nZ (aO (pv 0) rfl) (pv 2) set_list)) ?_⟩
     refine ⟨_,rfl,_,_,_,_,_,rfl,hx2,T.aK,T.dP,rfl,?_⟩
     refine ⟨_,rfl,x,dx,_,rfl,hx2,rfl,_,rfl,x,dx,a,lg,gs1,S,_,i + j,rfl,hx2,hlg2,hA2,hE2,(by rw [sG hl (by omega)];omega),λlb3 H3 hb3 s3=>?_⟩
     rw [tZ hl (by omega),← eb] at hb3
     have hlg3:=s3 _ _ hlg2
     have hx3:=s3 _ _ hx2
     have hE3:=hE2.same s3
     have s13:ak H1 H3:=s2.trans s3
     refine ⟨_,rfl,_,_,_,_,_,rfl,hx3,T.aK,T.aL,rfl,⟨_,rfl,_,_,_,_,rfl,rfl,bu.of hlg3,dU hg,g,t.aR,dg,_,_,rfl,s13 _ _ (aJ _ _ e.ob),T.bM,T.bU,rfl,?_⟩⟩
     refine λg' dg' ng ndg ne=>⟨g',dg',a,lb3,S,ms,G',(by rw [er];rfl),af,((hR1.same aJ).same s13).same (bE ng ndg),G,(bF (bE ng ndg)) _ _ hb3,hE3.same (bE ng ndg),hE3.new ng,hSt,λlt4 lo4 lk4 H4 hG4 a4=>⟨rfl,?_⟩⟩
     have s34:ak H3 H4:=λb o hb=>a4 b o (bE ng ndg _ _ hb) (aj hb ng)
     have hlg4:=s34 _ _ hlg3
     have hx4:=s34 _ _ hx3
     have s14:ak H1 H4:=s13.trans s34
     refine ⟨_,rfl,_,_,_,_,_,rfl,hx4,T.aK,T.aL,rfl,⟨_,rfl,lg,_,_,i + j,rfl,rfl,hlg4,?_,?_⟩⟩
     ·have hz:(gs1.map V.ref).length = Gs.length:=by rw [List.length_map];exact hg1
      rw [hz,Ac,if_pos (by omega),if_pos (by omega),Int.toNat_natCast]
     refine @au _ _ _ _ _ _ (xR (i:=2) wZ.nd rfl (Or.inl rfl) az yq) ⟨_,rfl,_,_,rfl,rfl,?_⟩
     refine ⟨k - (j + 1),by omega,j + 1,gs1.set (i + j) g',?_,by omega,rfl,?_,?_,?_⟩
     ·show [some (V.ref x),some (V.int i),some (V.int (((i + j:Nat):Int) + 1))] = _
      rw [show (((i + (j + 1):Nat)):Int) = ((i + j:Nat):Int) + 1 by omega]
     ·rw [af,List.map_set]
     ·rw [jf hSl,show i + (j + 1) = i + j + 1 from rfl,← ES hl hlt hG']
      exact (hA1.mono λ_ _ z=>z.same (bF s14)).put ⟨dg',lb3,lt4,lo4,lk4,hG4⟩
     ·intro b o hb nb
      rw [ao nb]
      exact s14 _ _ (a1 _ _ hb nb)
    ·have ejk:j = k:=by
      rcases Nat.lt_or_ge j k with z | z
      ·exfalso
       obtain ⟨G1,G',z1,hG',er,eb,hnb,hSt⟩:=O.mid (i + j) (by omega) (by omega)
       rw [hG0] at z1
       cases z1
       exact hnb (tF heq)
      ·omega
     subst ejk
     rw [O.last] at hA2
     exact ⟨gs1,⟨_,rfl,rfl⟩,hlg2,hA2,a2⟩
   ·rw [List.length_map] at h
    have ej:j = k:=by
     have:=O.le
     omega
    subst ej
    rw [O.last] at hA1
    exact ⟨gs1,⟨_,rfl,rfl⟩,hlg1,hA1,a1⟩
  rintro σ' H1 ⟨gs1,⟨x2,rfl,rfl⟩,h1,h2,h3⟩
  refine @au _ _ _ _ _ _ (aI (aT fH (pv 2) (pv 1))) ⟨_,rfl,_,rfl,_,_,rfl,rfl,?_⟩
  have:=q gs1 H1 h1 h2 h3
  rw [show (k:Int) = ((i + k:Nat):Int) - (i:Int) by omega] at this
  exact this
theorem yL {xs:List V} {i j:Nat} (hj:j <= xs.length) (h:i <= j):cO xs (some (i:Int)) (some (j:Int)) = (xs.drop i).take (j - i):=by
 rw [cO,HT.mX,HT.mX,Nat.min_eq_left hj,Nat.min_eq_left (Nat.le_trans h hj)]
theorem nN {xs:List V} {i:Nat} (h:i <= xs.length):cO xs (some (i:Int)) none = xs.drop i:=by
 rw [cO,HT.mX,HT.nJ,Nat.min_eq_left h,List.take_of_length_le (by rw [List.length_drop];exact Nat.le_refl _)]
theorem LX {a n m x s:Nat} (h:n + m + n <= s):min a n + m + (n - x) <= s:=by omega
theorem GD {xs:List V} {j:Nat} (hj:j <= xs.length):cO xs none (some (j:Int)) = xs.take j:=by
 rw [cO,HT.mX,HT.nJ,Nat.min_eq_left hj];rfl
theorem apart {H:Hp} {x b:Addr} {o:HO} {C dx:Addr} {fs:List (Str × V)} (hx:H x = some (.ins C dx fs)) (hb:H b = some o) (h:∀ C' d' fs',o = .ins C' d' fs' -> fs'.length ≠ fs.length):hid (λc=>c = x) H b = some o:=by
 refine bD hb λz=>?_
 rw [z,hx] at hb
 cases hb
 exact h _ _ _ rfl rfl
theorem Dk (s z:Str):(jk s z).length <= 1:=by
 rw [jk]
 by_cases b:bare s
 ·rw [if_pos b];exact Nat.zero_le _
 ·rw [if_neg b]
  by_cases e:s = "word"
  ·rw [if_pos e];exact Nat.le_refl _
  ·rw [if_neg e];exact Nat.le_refl _
theorem IsRules.apart {H:Hp} {x a dx a' lg:Addr} {ms:List aN} (h:IsRules t H a ms) (hx:H x = some (.ins t.aC dx [("rules",.ref a'),("gone_rows",.ref lg)])):IsRules t (hid (λc=>c = x) H) a ms:=by
 obtain ⟨d1,lm,as,ls,h1,h2,h3⟩:=h
 refine ⟨d1,lm,as,ls,K35.apart hx h1 (λ_ _ _ z=>by cases z;simp),K35.apart hx h2 (λ_ _ _ z=>by cases z),h3.la,h3.ll,h3.nd,λi a l m e1 e2 e3=>?_⟩
 obtain ⟨d2,rs,k1,k2,k3⟩:=h3.ob i a l m e1 e2 e3
 refine ⟨d2,rs,K35.apart hx k1 (λ_ _ _ z=>by cases z;simp [mf]),K35.apart hx k2 (λ_ _ _ z=>by cases z),k3.mono λr R hr=>?_⟩
 obtain ⟨d3,p,r1,d4,r2⟩:=hr
 refine ⟨d3,p,K35.apart hx r1 (λ_ _ _ z=>by cases z;simp [rf]),d4,K35.apart hx r2 (λ_ _ _ z=>?_)⟩
 injection z with _ _ z
 rw [← z]
 have:=Dk R.sort R.signs
 intro z
 have z:(jk R.sort R.signs).length = 2:=z
 omega
theorem c9.apart {H:Hp} {x g dx a' lg:Addr} {G:bA} (h:c9 t H g G) (hx:H x = some (.ins t.aC dx [("rules",.ref a'),("gone_rows",.ref lg)])):c9 t (hid (λc=>c = x) H) g G:=by
 obtain ⟨dg,lb,lt,lo,lk,e⟩:=h
 obtain ⟨ps,k1,k2⟩:=e.lk
 exact ⟨dg,lb,lt,lo,lk,K35.apart hx e.ob (λ_ _ _ z=>by cases z;simp [gf]),K35.apart hx e.lb (λ_ _ _ z=>by cases z),K35.apart hx e.lt (λ_ _ _ z=>by cases z),K35.apart hx e.lo (λ_ _ _ z=>by cases z),ps,K35.apart hx k1 (λ_ _ _ z=>by cases z),k2.mono λp m h=>K35.apart hx h (λ_ _ _ z=>by cases z)⟩
structure gF (ms:List aN) (Gs:List bA) (i k:Nat) (fs:List Str) (ah bk:Nat) (Gm:List bA) (c:Nat) (Gs':List bA):Prop where
 le:i + k <= Gs.length
 eah:ah = cY (((Gs.map (·.row)).drop i).take k) fs
 ebk:bk = cY ((((Gs.map (·.row)).drop i).take k).drop ah).reverse (fs.drop ah).reverse
 mid:Chain ms (fW [0] (Gs.take (i + ah))) ((fs.drop ah).take (fs.length - bk - ah)) Gm
 on:kZ ms (Gs.take (i + ah) ++ Gm ++ Gs.drop (i + k - bk)) (i + ah + Gm.length) c Gs'
theorem gF.small {ms:List aN} {Gs:List bA} {i k:Nat} {fs:List Str} {ah bk:Nat} {Gm:List bA} {c:Nat} {Gs':List bA} (h:gF ms Gs i k fs ah bk Gm c Gs'):ah <= k /\ ah <= fs.length /\ ah + bk <= k /\ ah + bk <= fs.length /\ Gm.length = fs.length - bk - ah:=by
 have h1:=iQ (((Gs.map (·.row)).drop i).take k) fs
 have h2:=iQ ((((Gs.map (·.row)).drop i).take k).drop ah).reverse (fs.drop ah).reverse
 have h3:=h.mid.len
 have h4:=h.le
 rw [← h.eah,List.length_take,List.length_drop,List.length_map] at h1
 rw [← h.ebk,List.length_reverse,List.length_reverse,List.length_drop,List.length_drop,List.length_take,List.length_drop,List.length_map] at h2
 rw [List.length_take,List.length_drop] at h3
 omega
theorem bw.take {α β:Type} {R:α -> β -> Prop} {xs:List α} {ys:List β} (h:bw R xs ys) (n:Nat):bw R (xs.take n) (ys.take n):=by
 refine ⟨by rw [List.length_take,List.length_take,h.1],λi a b ha hb=>?_⟩
 rw [List.getElem?_take] at ha hb
 by_cases e:i < n
 ·rw [if_pos e] at ha hb;exact h.2 i a b ha hb
 ·rw [if_neg e] at ha;cases ha
theorem bw.drop {α β:Type} {R:α -> β -> Prop} {xs:List α} {ys:List β} (h:bw R xs ys) (n:Nat):bw R (xs.drop n) (ys.drop n):=by
 refine ⟨by rw [List.length_drop,List.length_drop,h.1],λi a b ha hb=>?_⟩
 rw [List.getElem?_drop] at ha hb
 exact h.2 _ a b ha hb
theorem bw.append {α β:Type} {R:α -> β -> Prop} {xs xs':List α} {ys ys':List β} (h:bw R xs ys) (h':bw R xs' ys'):bw R (xs ++ xs') (ys ++ ys'):=by
 refine ⟨by rw [List.length_append,List.length_append,h.1,h'.1],λi a b ha hb=>?_⟩
 have e:=h.1
 by_cases hi:i < xs.length
 ·rw [List.getElem?_append_left hi] at ha
  rw [List.getElem?_append_left (by omega)] at hb
  exact h.2 i a b ha hb
 ·rw [List.getElem?_append_right (by omega)] at ha
  rw [List.getElem?_append_right (by omega),← e] at hb
  exact h'.2 _ a b ha hb
theorem yu {S S':Addr -> Prop} {H:Hp}:ak (hid S' (hid S H)) (hid (λc=>S c ∨ S' c) H):=λb o h=>by
 have h1:=dz h
 have h2:=aJ _ _ h
 exact bD (aJ _ _ h2) (λz=>z.elim (dz h2) h1)
def C9 (t:fE):Sp:=λvs H Q _=>∃ (S:Addr -> Prop) (x dx a lg lr:Addr) (gs:List Addr) (ms:List aN) (Gs:List bA) (i k:Nat) (fs:List Str) (ah bk:Nat) (Gm:List bA) (c:Nat) (Gs':List bA),vs = [.ref x,.int i,.int k,.ref lr] /\ Ex S H /\ bZ t (hid S H) x dx a lg gs ms Gs /\ dw ms /\ H lr = some (.lst (fs.map V.str)) /\ Gs.length <= 50000 /\ fs.length <= 50000 /\ (k = Gs.length -> fs ≠ []) /\ gF ms Gs i k fs ah bk Gm c Gs' /\
 ∀ lg' gs' H',bZ t (hid S H') x dx a lg' gs' ms Gs' -> H lg' = none -> gy H H' x -> Q (.int ((Gm.length + c:Nat):Int)) H'
theorem xZ (T:Txt K mg t):bC P w K mg base dh 8 t.mL t.sS ["self","row","many","rows"] (C9 t):=by
 refine T.pK.ok kJ ?_ ?_
 walk_at "i"
 ·obtain ⟨S,x,dx,a,lg,lr,gs,ms,Gs,i,k,fs,ah,bk,Gm,c,Gs',rfl,hES,IS,GM_,hlr,hl1,hl2,hne,C,q⟩:=h
  have I:=IS.same aJ
  have hxS:¬ S x:=dz IS.ob
  obtain ⟨b1,b2,b3,b4,b5⟩:=C.small
  have hle:=C.le
  have hgl:=I.go.1
  refine @aq _ _ _ _ _ _ _ (bH (br (pv 0) T.aK T.Ku (Ge T) (hr.mono (by decide)) (T.uf.binds (by walk_at "3")) .nil aH (aa (pv 1) (aa (pv 2) ai)))) ⟨_,rfl,x,dx,_,rfl,I.ob,rfl,_,rfl,_,rfl,x,dx,a,lg,gs,i,k,rfl,I.ob,I.lg,(by omega),?_⟩
  refine @aM _ _ _ _ _ _ _ (λσ' H'=>H' = H /\ σ' = [some (.ref x),some (.int i),some (.int k),some (.ref lr),none,none,none,none,none]) (bB (PW.pt (fD (aA cA (pv 2) (aQ aV (by rfl) T.bN (by decide +kernel) (aa (aO (pv 0) rfl) ai)) (aF _)) (eO (jI (ie (pv 3) (λ_=>rfl)))))) av av) ?_ ?_
  ·refine ⟨_,rfl,⟨_,rfl,_,_,_,_,_,rfl,I.ob,T.aK,T.aL,rfl,⟨_,_,rfl,.inl (bu.of I.lg),rfl,_,rfl,dG (λh=>?_) (λh=>bg ⟨rfl,rfl⟩)⟩⟩⟩
   have hk:k = Gs.length:=by
    injection h with h
    rw [List.length_map] at h
    omega
   have hf:=hne hk
   refine ⟨_,rfl,true,.inl ⟨_,bu.of hlr,?_⟩,Hy (c:=false) rfl (bg ⟨rfl,rfl⟩)⟩
   cases fs with
   | nil=>exact absurd rfl hf
   | cons _ _=>rfl
  rintro σ' H' ⟨eH,eσ⟩
  rw [eH,eσ]
  clear eH eσ σ' H'
  refine @aq _ _ _ _ _ _ _ (aE (i:=4) kJ.nd rfl (Or.inl rfl) (cy gP (b7 (pv 0) T.aK T.FZ (Dv T) (hr.mono (by decide)) (T.rq.binds (by walk_at "1")) .nil aH) (cF (pv 1)) (cF (aT cN (pv 1) (pv 2))))) ⟨_,rfl,x,dx,_,rfl,I.ob,rfl,x,dx,a,lg,gs,ms,Gs,rfl,I,(by omega),λl1 H1 h1 f1 s1=>?_⟩
  obtain ⟨tk,htk⟩:∃ tk,tk = ((Gs.map (·.row)).drop i).take k:=⟨_,rfl⟩
  have ea:ah = cY tk fs:=by rw [htk];exact C.eah
  have eb:bk = cY (tk.drop ah).reverse (fs.drop ah).reverse:=by rw [htk];exact C.ebk
  have htl:tk.length = k:=by rw [htk,List.length_take,List.length_drop,List.length_map];omega
  refine ⟨_,rfl,_,rfl,_,rfl,_,rfl,_,_,rfl,rfl,_,rfl,l1,_,rfl,bu.of h1,λl2 f2=>?_⟩
  have e2:cO ((Gs.map (·.row)).map V.str) (some (i:Int)) (some ((i:Int) + (k:Int))) = tk.map V.str:=by
   rw [← Int.natCast_add,yL (by rw [List.length_map,List.length_map];omega) (by omega),htk,List.map_take,List.map_drop]
   congr 1
   omega
  have h2:upd H1 l2 (.lst (cO ((Gs.map (·.row)).map V.str) (some (i:Int)) (some ((i:Int) + (k:Int))))) l2 = some (.lst (tk.map V.str)):=by rw [af,e2]
  have s2:ak H (upd H1 l2 (.lst (cO ((Gs.map (·.row)).map V.str) (some (i:Int)) (some ((i:Int) + (k:Int)))))):=s1.trans (ak.upd f2)
  generalize upd H1 l2 (.lst (cO ((Gs.map (·.row)).map V.str) (some (i:Int)) (some ((i:Int) + (k:Int))))) = H2 at h2 s2
  refine @aq _ _ _ _ _ _ _ (aE (i:=5) kJ.nd rfl (Or.inl rfl) (aZ (CG T) (hr.mono (by decide)) rfl T.Bj T.nV.kp (T.nV.binds (by walk_at "2")) .nil aH (aa (pv 4) (aa (pv 3) ai)))) ⟨_,rfl,_,rfl,l2,lr,tk,fs,rfl,h2,s2 _ _ hlr,λH3 s3'=>?_⟩
  rw [← ea]
  have s3:=s2.trans s3'
  refine @aq _ _ _ _ _ _ _ (aE (i:=6) kJ.nd rfl (Or.inl rfl) (aZ (Gr T) (hr.mono (by decide)) rfl T.Ii T.vt.kp (T.vt.binds (by walk_at "2")) .nil aH (aa (cy gP (pv 4) (cF (pv 5)) dj) (aa (cy gP (pv 3) (cF (pv 5)) dj) ai)))) ⟨_,rfl,_,rfl,_,rfl,l2,_,rfl,bu.of (s3' _ _ h2),λl4 f4=>⟨_,rfl,_,rfl,_,rfl,lr,_,rfl,bu.of (ak.upd f4 _ _ (s3 _ _ hlr)),λl5 f5=>⟨l4,l5,tk.drop ah,fs.drop ah,rfl,?_,?_,λH6 s6=>?_⟩⟩⟩
  ·rw [ak.upd f5 _ _ af,nN (by rw [List.length_map];omega),List.map_drop]
  ·rw [af,nN (by rw [List.length_map];omega),List.map_drop]
  rw [← eb]
  have s6:ak H H6:=((s3.trans (ak.upd f4)).trans (ak.upd f5)).trans s6
  refine @aM _ _ _ _ _ _ _ (λσ' H'=>H' = H6 /\ σ' = [some (.ref x),some (.int i),some (.int k),some (.ref lr),some (.ref l2),some (.int ah),some (.int bk),some (.int ((i + ah:Nat):Int)),none]) (aE (i:=7) kJ.nd rfl (Or.inl rfl) (aT cN (pv 1) (pv 5))) ⟨_,rfl,_,rfl,_,_,rfl,rfl,rfl,rfl⟩ ?_
  rintro σ' H' ⟨eH,eσ⟩
  rw [eH,eσ]
  clear eH eσ σ' H'
  have hx6:=s6 _ _ I.ob
  have hlg6:=s6 _ _ I.lg
  have hlr6:=s6 _ _ hlr
  have hx6S:=(bF (S:=S) s6) _ _ IS.ob
  have hR6:IsRules t (hid (λc=>S c ∨ c = x) H6) a ms:=((IS.ru.same (bF s6)).apart hx6S).same yu
  have hA6:bw (c9 t (hid (λc=>S c ∨ c = x) H6)) gs Gs:=IS.go.mono λ_ _ z=>((z.same (bF s6)).apart hx6S).same yu
  have hE6:Ex (λc=>S c ∨ c = x) H6:=λb hb=>by
   rcases hb with hb | hb
   ·exact (hES.same s6) b hb
   ·rw [hb];exact ⟨_,hx6⟩
  refine @aq _ _ _ _ _ _ _ (aE (i:=8) kJ.nd rfl (Or.inl rfl) (br (pv 0) T.aK T.FD (Bk T) (hr.mono (by decide)) (T.qy.binds (by walk_at "3")) .nil aH (aa (br (pv 0) T.aK T.BH (yt T) (hr.mono (by decide)) (T.oK.binds (by walk_at "2")) .nil aH (aa (pv 7) ai)) (aa (cy gP (pv 3) (cF (pv 5)) (cF (aT fH (aQ aV (by rfl) T.bN (by decide +kernel) (aa (pv 3) ai)) (pv 6)))) ai)))) ⟨_,rfl,x,dx,_,rfl,hx6,rfl,_,rfl,x,dx,_,rfl,hx6,rfl,_,rfl,x,dx,a,lg,gs,λc=>S c ∨ c = x,Gs,i + ah,rfl,hx6,hlg6,hA6,hE6,(by omega),λlb H7 hb7 s7=>?_⟩
  refine ⟨_,rfl,_,rfl,_,rfl,_,rfl,_,_,rfl,.inl (bu.of (s7 _ _ hlr6)),_,rfl,_,_,rfl,rfl,_,rfl,lr,_,rfl,bu.of (s7 _ _ hlr6),λl8 f8=>?_⟩
  have e8:cO (fs.map V.str) (some (ah:Int)) (some (((fs.map V.str).length:Int) - (bk:Int))) = ((fs.drop ah).take (fs.length - bk - ah)).map V.str:=by
   rw [List.length_map,show ((fs.length:Int) - (bk:Int)) = ((fs.length - bk:Nat):Int) by omega,yL (by rw [List.length_map];omega) (by omega),List.map_take,List.map_drop]
  have h8:upd H7 l8 (.lst (cO (fs.map V.str) (some (ah:Int)) (some (((fs.map V.str).length:Int) - (bk:Int))))) l8 = some (.lst (((fs.drop ah).take (fs.length - bk - ah)).map V.str)):=by rw [af,e8]
  have s8:ak H6 (upd H7 l8 (.lst (cO (fs.map V.str) (some (ah:Int)) (some (((fs.map V.str).length:Int) - (bk:Int)))))):=s7.trans (ak.upd f8)
  have hb8:=(bF (S:=λc=>S c ∨ c = x) (ak.upd (o:=.lst (cO (fs.map V.str) (some (ah:Int)) (some (((fs.map V.str).length:Int) - (bk:Int))))) f8)) _ _ hb7
  generalize upd H7 l8 (.lst (cO (fs.map V.str) (some (ah:Int)) (some (((fs.map V.str).length:Int) - (bk:Int))))) = H8 at h8 s8 hb8
  refine ⟨x,dx,a,lb,l8,λc=>S c ∨ c = x,_,ms,_,_,Gm,rfl,s8 _ _ hx6,rfl,(hR6.same aJ).same s8,GM_,hb8,hE6.same s8,h8,(by rw [List.length_take,List.length_drop];omega),C.mid,λlm gm H9 hm9 hA9 f9 s9=>?_⟩
  have s9:ak H6 H9:=s8.trans s9
  have hx9:=s9 _ _ hx6
  have hlg9:=s9 _ _ hlg6
  have hgm:gm.length = Gm.length:=hA9.1
  refine @aq _ _ _ _ _ _ _ (cI (pv 0) (aT eu (aT eu (cy gP (aO (pv 0) rfl) dj (cF (pv 7))) (pv 8)) (cy gP (aO (pv 0) rfl) (cF (aT fH (aT cN (pv 1) (pv 2)) (pv 6))) dj)) rfl) (⟨_,rfl,_,_,_,_,_,rfl,hx9,T.aK,T.aL,rfl,⟨_,rfl,_,rfl,lg,_,rfl,bu.of hlg9,λp1 g1=>?_⟩⟩)
  have z1:(gs.map V.ref).length = Gs.length:=by rw [List.length_map];exact hgl
  have z2:(gm.map V.ref).length = Gm.length:=by rw [List.length_map];exact hgm
  have c1:cO (gs.map V.ref) none (some ((i + ah:Nat):Int)) = (gs.take (i + ah)).map V.ref:=by
   rw [GD (by rw [z1];omega),List.map_take]
  have c2:cO (gs.map V.ref) (some ((i:Int) + (k:Int) - (bk:Int))) none = (gs.drop (i + k - bk)).map V.ref:=by
   rw [show ((i:Int) + (k:Int) - (bk:Int)) = ((i + k - bk:Nat):Int) by omega,nN (by rw [z1];omega),List.map_drop]
  have sz:=sizeLine_eq
  refine ⟨_,rfl,p1,lm,_,_,rfl,rfl,af,ak.upd g1 _ _ hm9,(by rw [c1,z2,List.length_map,List.length_take];omega),λp2 g2=>?_⟩
  refine ⟨_,rfl,_,_,_,_,_,rfl,(ak.upd g2 _ _ (ak.upd g1 _ _ hx9)),T.aK,T.aL,rfl,?_⟩
  refine ⟨_,rfl,_,rfl,_,_,rfl,rfl,_,rfl,_,_,rfl,rfl,_,rfl,lg,_,rfl,bu.of (ak.upd g2 _ _ (ak.upd g1 _ _ hlg9)),λp3 g3=>?_⟩
  refine ⟨p2,p3,_,_,rfl,rfl,ak.upd g3 _ _ af,af,?_,λlg' g4=>?_⟩
  ·rw [List.length_append,c1,c2,z2,List.length_map,List.length_map,List.length_take,List.length_drop];exact LX (by omega)
  have e10:cO (gs.map V.ref) none (some ((i + ah:Nat):Int)) ++ gm.map V.ref ++ cO (gs.map V.ref) (some ((i:Int) + (k:Int) - (bk:Int))) none = (gs.take (i + ah) ++ gm ++ gs.drop (i + k - bk)).map V.ref:=by
   rw [c1,c2,List.map_append,List.map_append]
  have s10:ak H9 (upd (upd (upd H9 p1 (.lst (cO (gs.map V.ref) none (some ((i + ah:Nat):Int))))) p2 (.lst (cO (gs.map V.ref) none (some ((i + ah:Nat):Int)) ++ gm.map V.ref))) p3 (.lst (cO (gs.map V.ref) (some ((i:Int) + (k:Int) - (bk:Int))) none))):=((ak.upd g1).trans (ak.upd g2)).trans (ak.upd g3)
  revert g4
  show upd (upd (upd H9 p1 (.lst (cO (gs.map V.ref) none (some ((i + ah:Nat):Int))))) p2 (.lst (cO (gs.map V.ref) none (some ((i + ah:Nat):Int)) ++ gm.map V.ref))) p3 (.lst (cO (gs.map V.ref) (some ((i:Int) + (k:Int) - (bk:Int))) none)) lg' = none -> _
  generalize upd (upd (upd H9 p1 (.lst (cO (gs.map V.ref) none (some ((i + ah:Nat):Int))))) p2 (.lst (cO (gs.map V.ref) none (some ((i + ah:Nat):Int)) ++ gm.map V.ref))) p3 (.lst (cO (gs.map V.ref) (some ((i:Int) + (k:Int) - (bk:Int))) none)) = HA at s10
  intro g4
  have hx10:=s10 _ _ hx9
  refine ⟨_,rfl,x,_,dx,_,rfl,ak.upd g4 _ _ hx10,T.aK,T.aL,(by show 2 < 1000;decide),?_⟩
  have hxl:x ≠ lg':=aj hx10 g4
  have hxB:upd (upd HA lg' (.lst (cO (gs.map V.ref) none (some ((i + ah:Nat):Int)) ++ gm.map V.ref ++ cO (gs.map V.ref) (some ((i:Int) + (k:Int) - (bk:Int))) none))) x (.ins t.aC dx (fk "gone_rows" (.ref lg') [("rules",.ref a),("gone_rows",.ref lg)])) x = some (.ins t.aC dx [("rules",.ref a),("gone_rows",.ref lg')]):=af
  have hlB:upd (upd HA lg' (.lst (cO (gs.map V.ref) none (some ((i + ah:Nat):Int)) ++ gm.map V.ref ++ cO (gs.map V.ref) (some ((i:Int) + (k:Int) - (bk:Int))) none))) x (.ins t.aC dx (fk "gone_rows" (.ref lg') [("rules",.ref a),("gone_rows",.ref lg)])) lg' = some (.lst ((gs.take (i + ah) ++ gm ++ gs.drop (i + k - bk)).map V.ref)):=by
   rw [ao (Ne.symm hxl),af,e10]
  have kB:∀ b o,HA b = some o -> b ≠ x -> upd (upd HA lg' (.lst (cO (gs.map V.ref) none (some ((i + ah:Nat):Int)) ++ gm.map V.ref ++ cO (gs.map V.ref) (some ((i:Int) + (k:Int) - (bk:Int))) none))) x (.ins t.aC dx (fk "gone_rows" (.ref lg') [("rules",.ref a),("gone_rows",.ref lg)])) b = some o:=λb o hb nb=>by
   rw [ao nb,ao (aj hb g4)];exact hb
  show At _ _ _ _ (upd (upd HA lg' (.lst (cO (gs.map V.ref) none (some ((i + ah:Nat):Int)) ++ gm.map V.ref ++ cO (gs.map V.ref) (some ((i:Int) + (k:Int) - (bk:Int))) none))) x (.ins t.aC dx (fk "gone_rows" (.ref lg') [("rules",.ref a),("gone_rows",.ref lg)])))
  generalize upd (upd HA lg' (.lst (cO (gs.map V.ref) none (some ((i + ah:Nat):Int)) ++ gm.map V.ref ++ cO (gs.map V.ref) (some ((i:Int) + (k:Int) - (bk:Int))) none))) x (.ins t.aC dx (fk "gone_rows" (.ref lg') [("rules",.ref a),("gone_rows",.ref lg)])) = HB at hxB hlB kB
  have s9A:ak H9 HA:=s10
  have hmA:=s9A _ _ hm9
  have nmx:lm ≠ x:=cB hm9 hx9 (by intro z;cases z)
  have hmB:=kB _ _ hmA nmx
  have sB:ak (hid (λc=>S c ∨ c = x) H9) (hid (λc=>(S c ∨ c = x) ∨ c = lg') HB):=λb o hb=>by
   have nb:=dz (S:=λc=>S c ∨ c = x) hb
   have hbA:=s9A _ _ (aJ _ _ hb)
   refine bD (kB b o hbA (λz=>nb (.inr z))) λz=>?_
   rcases z with z | z
   ·exact nb z
   ·exact aj hbA g4 z
  have hE:Ex (λc=>(S c ∨ c = x) ∨ c = lg') HB:=λb hb=>by
   rcases hb with (z | z) | z
   ·obtain ⟨o,ho⟩:=(((hES.same s6).same s9).same s9A) b z
    exact ⟨o,kB b o ho (λy=>hxS (by rw [← y];exact z))⟩
   ·rw [z];exact ⟨_,hxB⟩
   ·rw [z];exact ⟨_,hlB⟩
  have hR9:IsRules t (hid (λc=>S c ∨ c = x) H9) a ms:=hR6.same (bF s9)
  have hG9:bw (c9 t (hid (λc=>S c ∨ c = x) H9)) gs Gs:=hA6.mono λ_ _ z=>z.same (bF s9)
  have hGG:bw (c9 t (hid (λc=>(S c ∨ c = x) ∨ c = lg') HB)) (gs.take (i + ah) ++ gm ++ gs.drop (i + k - bk)) (Gs.take (i + ah) ++ Gm ++ Gs.drop (i + k - bk)) :=
   (((hG9.take (i + ah)).append hA9).append (hG9.drop (i + k - bk))).mono λ_ _ z=>z.same sB
  refine @au _ _ _ _ _ _ (aI (aT cN (aQ aV (by rfl) T.bN (by decide +kernel) (aa (pv 8) ai)) (br (pv 0) T.aK T.Ko (JA T) (hr.mono (by decide)) (T.wH.binds (by walk_at "2")) .nil aH (aa (aT cN (pv 7) (aQ aV (by rfl) T.bN (by decide +kernel) (aa (pv 8) ai))) ai)))) ⟨_,rfl,_,_,rfl,.inl (bu.of hmB),?_⟩
  refine ⟨_,rfl,x,dx,_,rfl,hxB,rfl,_,rfl,_,rfl,_,_,rfl,.inl (bu.of hmB),_,_,rfl,rfl,x,dx,a,lg',_,λc=>(S c ∨ c = x) ∨ c = lg',ms,_,Gs',i + ah + Gm.length,c,?_,hxB,hR9.same sB,GM_,hlB,.inr rfl,hGG,hE,?_,C.on,λgs2 HC h1 h2 a2=>?_⟩
  ·rw [z2];rfl
  ·rw [List.length_append,List.length_append,List.length_take,List.length_drop];omega
  refine ⟨_,_,rfl,rfl,?_⟩
  have hxC:=a2 _ _ hxB hxl
  have hlS:¬ S lg':=(((hES.same s6).same s9).same s9A).new g4
  have:=q lg' gs2 HC ⟨bD hxC hxS,(hR9.same sB).same (λb o hb=>bD (a2 _ _ (aJ _ _ hb) (λz=>dz hb (.inr z))) (λz=>dz hb (.inl (.inl z)))),bD h1 hlS,h2.mono λ_ _ z=>z.same (nL λc hc=>.inl (.inl hc))⟩ ?_ ?_
  ·rw [Int.natCast_add,← z2] at this
   exact this
  ·exact ((s6.trans s9).trans s9A).free g4
  ·intro b o hb nb
   have hbA:=((s6.trans s9).trans s9A) _ _ hb
   exact a2 _ _ (kB _ _ hbA nb) (aj hbA g4)
theorem iP.one {ms:List aN} {G G':bA} (h:iP ms G) (h':iP ms G') (e1:G.row = G'.row) (e2:G.before = G'.before):G = G':=by
 obtain ⟨n,_,g⟩:=h.go
 obtain ⟨m,_,g'⟩:=h'.go
 rw [← e1,← e2] at g'
 have x:=iR (Nat.le_max_left n m) g
 have y:=iR (Nat.le_max_right n m) g'
 rw [x] at y
 injection y with y
 cases G
 cases G'
 simp_all
theorem Chain.one {ms:List aN}:∀ {b:List Nat} {rs:List Str} {Gs Gs':List bA},Chain ms b rs Gs -> Chain ms b rs Gs' -> Gs = Gs'
 | _,[],[],[],_,_=>rfl
 | b,r :: rs,G :: Gs,G' :: Gs',h,h'=>by
  have e:=h.2.2.1.one h'.2.2.1 (h.1.trans h'.1.symm) (h.2.1.trans h'.2.1.symm)
  subst e
  rw [Chain.one h.2.2.2 h'.2.2.2]
 | _,[],[],_ :: _,_,h=>h.elim
 | _,[],_ :: _,_,h,_=>h.elim
 | _,_ :: _,[],_,h,_=>h.elim
 | _,_ :: _,_ :: _,[],_,h=>h.elim
theorem Chain.split {ms:List aN}:∀ {b:List Nat} {rs:List Str} {Gs:List bA} (n:Nat),Chain ms b rs Gs -> Chain ms b (rs.take n) (Gs.take n) /\ Chain ms (fW b (Gs.take n)) (rs.drop n) (Gs.drop n)
 | _,rs,Gs,0,h=>⟨by rw [List.take_zero,List.take_zero];trivial,h⟩
 | _,[],[],n + 1,h=>⟨trivial,trivial⟩
 | b,r :: rs,G :: Gs,n + 1,h=>by
  obtain ⟨h1,h2,h3,h4⟩:=h
  obtain ⟨k1,k2⟩:=Chain.split n h4
  exact ⟨⟨h1,h2,h3,k1⟩,k2⟩
 | _,[],_ :: _,_ + 1,h=>h.elim
 | _,_ :: _,[],_ + 1,h=>h.elim
theorem Chain.at {ms:List aN} {b:List Nat} {rs:List Str} {Gs:List bA} {j:Nat} {G:bA} (h:Chain ms b rs Gs) (hG:Gs[j]? = some G):rs[j]? = some G.row /\ G.before = fW b (Gs.take j) /\ iP ms G:=by
 have k:=(h.split j).2
 rw [fP hG] at k
 cases e:rs.drop j with
 | nil=>rw [e] at k;exact k.elim
 | cons r t =>
  rw [e] at k
  refine ⟨?_,k.2.1,k.2.2.1⟩
  have:=congrArg (λl=>l[0]?) e
  simp only [List.getElem?_drop,Nat.add_zero,List.getElem?_cons_zero] at this
  rw [this,k.1]
def eU:List bA -> List bA -> Nat
 | A :: As,B :: Bs=>if A.before = B.before then 0 else eU As Bs + 1
 | _,_=>0
theorem yy:∀ (As Bs:List bA),eU As Bs <= As.length /\ eU As Bs <= Bs.length
 | [],_=>⟨Nat.zero_le _,Nat.zero_le _⟩
 | _ :: _,[]=>⟨Nat.zero_le _,Nat.zero_le _⟩
 | A :: As,B :: Bs=>by
  have h:=yy As Bs
  rw [eU]
  by_cases e:A.before = B.before
  ·rw [if_pos e];exact ⟨Nat.zero_le _,Nat.zero_le _⟩
  ·rw [if_neg e,List.length_cons,List.length_cons];omega
theorem yN:∀ {As Bs:List bA} {j:Nat} {A B:bA},j < eU As Bs -> As[j]? = some A -> Bs[j]? = some B -> A.before ≠ B.before
 | A :: As,B :: Bs,0,A',B',h,h1,h2=>by
  cases h1;cases h2
  rw [eU] at h
  intro e
  rw [if_pos e] at h
  exact Nat.lt_irrefl _ h
 | A :: As,B :: Bs,j + 1,A',B',h,h1,h2=>by
  rw [eU] at h
  by_cases e:A.before = B.before
  ·rw [if_pos e] at h;exact absurd h (Nat.not_lt_zero _)
  ·rw [if_neg e] at h
   exact yN (As:=As) (Bs:=Bs) (j:=j) (by omega) (by simpa using h1) (by simpa using h2)
 | [],_,j,_,_,h,_,_=>by rw [eU] at h;exact absurd h (Nat.not_lt_zero _);intros;simp_all
 | _ :: _,[],j,_,_,h,_,_=>by rw [eU] at h;exact absurd h (Nat.not_lt_zero _);intros;simp_all
theorem rL:∀ {As Bs:List bA} {A B:bA},As[eU As Bs]? = some A -> Bs[eU As Bs]? = some B -> A.before = B.before
 | A :: As,B :: Bs,A',B',h1,h2=>by
  rw [eU] at h1 h2
  by_cases e:A.before = B.before
  ·rw [if_pos e] at h1 h2
   cases h1;cases h2
   exact e
  ·rw [if_neg e] at h1 h2
   exact rL (As:=As) (Bs:=Bs) (by simpa using h1) (by simpa using h2)
 | [],_,_,_,h1,_=>by simp at h1
 | _ :: _,[],_,_,_,h2=>by simp at h2
theorem z0 {ms:List aN} {b b':List Nat} {rs:List Str} {As Bs:List bA} (hA:Chain ms b rs As) (hB:Chain ms b' rs Bs):As.drop (eU As Bs) = Bs.drop (eU As Bs):=by
 have l1:=hA.len
 have l2:=hB.len
 by_cases hc:eU As Bs < As.length
 ·obtain ⟨A,eA⟩:∃ A,As[eU As Bs]? = some A:=⟨_,List.getElem?_eq_getElem hc⟩
  obtain ⟨B,eB⟩:∃ B,Bs[eU As Bs]? = some B:=⟨_,List.getElem?_eq_getElem (by omega)⟩
  have e:=rL eA eB
  rw [(hA.at eA).2.1,(hB.at eB).2.1] at e
  have k1:=(hA.split (eU As Bs)).2
  have k2:=(hB.split (eU As Bs)).2
  rw [e] at k1
  exact k1.one k2
 ·rw [List.drop_eq_nil_of_le (by omega),List.drop_eq_nil_of_le (by omega)]
theorem L1 {i f k b g g':Nat} (h:i + k <= g) (e:g' = i + f + (g - (i + k))) (hf:b <= f) (hk:b <= k):g' - (i + f - b) = g - (i + k - b):=by omega
theorem MD {i f k b g g':Nat} (h:i + k <= g) (e:g' = i + f + (g - (i + k))) (hf:b <= f) (hk:b <= k):g' = i + f - b + (g - (i + k - b)):=by omega
theorem ar2 {a b k:Nat} (h:a + b <= k):a + (k - a - b) = k - b:=by omega
theorem ar3 {i k b:Nat}:i + k - b - i = k - b:=by omega
theorem ar4 {i a b f:Nat} (h:a + b <= f):i + a + (f - b - a) = i + f - b:=by omega
theorem ar5 {i a b f n:Nat} (h:a + b <= f) (h2:i + f <= n):min (f - b - a) (n - (i + a)) = f - b - a:=by omega
theorem yo {ms:List aN} {Gs Gs':List bA} {rs fs:List Str} {i k:Nat} (hC:Chain ms [0] rs Gs) (hle:i + k <= rs.length) (hC':Chain ms [0] (rs.take i ++ fs ++ rs.drop (i + k)) Gs') :
  ∃ ah bk Gm c,gF ms Gs i k fs ah bk Gm c Gs' /\ ah = cY ((rs.drop i).take k) fs /\ bk = cY (((rs.drop i).take k).drop ah).reverse (fs.drop ah).reverse /\ Gm.length = fs.length - bk - ah /\ c = eU (Gs'.drop (i + fs.length - bk)) (Gs.drop (i + k - bk)) /\ ah + bk <= k /\ ah + bk <= fs.length:=by
 have hr:=hC.rows
 have hl:=hC.len
 have hl':=hC'.len
 obtain ⟨tk,htk⟩:∃ tk,tk = (rs.drop i).take k:=⟨_,rfl⟩
 have htl:tk.length = k:=by rw [htk,List.length_take,List.length_drop];omega
 obtain ⟨ah,ea⟩:∃ ah,ah = cY tk fs:=⟨_,rfl⟩
 obtain ⟨bk,eb⟩:∃ bk,bk = cY (tk.drop ah).reverse (fs.drop ah).reverse:=⟨_,rfl⟩
 have a1:=iQ tk fs
 have a2:=iQ (tk.drop ah).reverse (fs.drop ah).reverse
 rw [← ea] at a1
 rw [← eb,List.length_reverse,List.length_reverse,List.length_drop,List.length_drop] at a2
 have hF:ah + bk <= fs.length:=by omega
 have hK:ah + bk <= k:=by omega
 have hiK:i + ah <= rs.length:=Nat.le_trans (Nat.add_le_add_left (Nat.le_trans (Nat.le_add_right _ _) hK) i) hle
 have t1:tk.take ah = fs.take ah:=by rw [ea];exact jM tk fs
 have t2:(tk.drop ah).reverse.take bk = (fs.drop ah).reverse.take bk:=by rw [eb];exact jM _ _
 have t3:tk.drop (k - bk) = fs.drop (fs.length - bk):=by
  have:=congrArg List.reverse t2
  rw [List.reverse_take,List.reverse_take,List.reverse_reverse,List.reverse_reverse,List.length_reverse,List.length_reverse,List.length_drop,List.length_drop,List.drop_drop,List.drop_drop,htl] at this
  rw [show ah + (k - ah - bk) = k - bk from ar2 hK,show ah + (fs.length - ah - bk) = fs.length - bk from ar2 hF] at this
  exact this
 have hdk:(rs.drop i).drop k = rs.drop (i + k):=List.drop_drop
 have hri:rs.drop i = tk ++ rs.drop (i + k):=by rw [htk,← hdk,List.take_append_drop]
 have hrs:rs = rs.take i ++ (tk ++ rs.drop (i + k)):=by rw [← hri,List.take_append_drop]
 have hil:(rs.take i).length = i:=by rw [List.length_take];omega
 have e1:(rs.take i ++ fs ++ rs.drop (i + k)).take (i + ah) = rs.take (i + ah):=by
  conv=>rhs;rw [hrs]
  rw [List.append_assoc]
  conv=>lhs;rw [List.take_append,hil,List.take_of_length_le (by rw [hil];omega),show i + ah - i = ah by omega,List.take_append_of_le_length a1.2]
  conv=>rhs;rw [List.take_append,hil,List.take_of_length_le (by rw [hil];omega),show i + ah - i = ah by omega,List.take_append_of_le_length (by omega)]
  rw [t1]
 have e2:(rs.take i ++ fs ++ rs.drop (i + k)).drop (i + fs.length - bk) = rs.drop (i + k - bk):=by
  conv=>rhs;rw [hrs]
  rw [List.append_assoc]
  conv=>lhs;rw [List.drop_append,hil,List.drop_of_length_le (by rw [hil];omega),show i + fs.length - bk - i = fs.length - bk from ar3,List.drop_append_of_le_length (by omega)]
  conv=>rhs;rw [List.drop_append,hil,List.drop_of_length_le (by rw [hil];omega),show i + k - bk - i = k - bk from ar3,List.drop_append_of_le_length (by rw [htl];exact Nat.sub_le _ _)]
  rw [t3]
 have e3:((rs.take i ++ fs ++ rs.drop (i + k)).drop (i + ah)).take (fs.length - bk - ah) = (fs.drop ah).take (fs.length - bk - ah):=by
  rw [List.append_assoc,List.drop_append,hil,List.drop_of_length_le (by rw [hil];exact Nat.le_add_right _ _),show i + ah - i = ah from Nat.add_sub_cancel_left ..,List.drop_append_of_le_length a1.2,List.nil_append,List.take_append_of_le_length (by rw [List.length_drop];omega)]
 obtain ⟨p1,p2⟩:=hC.split (i + ah)
 obtain ⟨p1',p2'⟩:=hC'.split (i + ah)
 rw [e1] at p1'
 have eG:=p1.one p1'
 obtain ⟨m1,_⟩:=p2'.split (fs.length - bk - ah)
 rw [e3,← eG] at m1
 obtain ⟨_,q1⟩:=hC.split (i + k - bk)
 obtain ⟨_,q1'⟩:=hC'.split (i + fs.length - bk)
 rw [e2] at q1'
 have hlr:(rs.take i ++ fs ++ rs.drop (i + k)).length = i + fs.length + (rs.length - (i + k)):=by rw [List.length_append,List.length_append,hil,List.length_drop]
 rw [hlr] at hl'
 have lm:((Gs'.drop (i + ah)).take (fs.length - bk - ah)).length = fs.length - bk - ah:=by rw [List.length_take,List.length_drop];exact ar5 hF (by rw [hl'];exact Nat.le_add_right _ _)
 have en:i + ah + (fs.length - bk - ah) = i + fs.length - bk:=ar4 hF
 have lt:(Gs.take (i + ah)).length = i + ah:=by rw [List.length_take];exact Nat.min_eq_left (by rw [hl];exact hiK)
 have lG1:(Gs.take (i + ah) ++ (Gs'.drop (i + ah)).take (fs.length - bk - ah)).length = i + fs.length - bk:=by rw [List.length_append,lm,lt];exact en
 have eG1:Gs.take (i + ah) ++ (Gs'.drop (i + ah)).take (fs.length - bk - ah) = Gs'.take (i + fs.length - bk):=by
  rw [eG,← en]
  exact List.take_add.symm
 have dl:=yy (Gs'.drop (i + fs.length - bk)) (Gs.drop (i + k - bk))
 rw [List.length_drop,List.length_drop] at dl
 have dd:=z0 q1' q1
 refine ⟨ah,bk,(Gs'.drop (i + ah)).take (fs.length - bk - ah),_,⟨by rw [hl];exact hle,by rw [hr,← htk];exact ea,by rw [hr,← htk];exact eb,m1,?_⟩,by rw [← htk];exact ea,by rw [← htk];exact eb,lm,rfl,hK,hF⟩
 rw [lm,en,eG1]
 have hle2:i + k <= Gs.length:=by rw [hl];exact hle
 have hl2:Gs'.length = i + fs.length + (Gs.length - (i + k)):=by rw [hl];exact hl'
 have hF2:bk <= fs.length:=Nat.le_trans (Nat.le_add_left _ _) hF
 have hK2:bk <= k:=Nat.le_trans (Nat.le_add_left _ _) hK
 have hGl:=MD hle2 hl2 hF2 hK2
 have hGd:=L1 hle2 hl2 hF2 hK2
 have lT:(Gs'.take (i + fs.length - bk)).length = i + fs.length - bk:=by rw [List.length_take];exact Nat.min_eq_left (by rw [hGl];exact Nat.le_add_right _ _)
 refine ⟨?_,?_,λj hj=>?_,λj hj=>?_,λj h1 h2=>?_,λG hG=>?_⟩
 ·rw [List.length_append,lT,List.length_drop];first | exact hGl | exact hGl.symm | omega
 ·rw [List.length_append,lT,List.length_drop];first | exact hGl | exact hGl.symm | omega
 ·rw [List.getElem?_append_left (by omega),List.getElem?_take,if_pos hj]
 ·rw [List.getElem?_append_right (by omega),lT]
  have:=congrArg (λl=>l[j - (i + fs.length - bk) - eU (Gs'.drop (i + fs.length - bk)) (Gs.drop (i + k - bk))]?) dd
  simp only [List.getElem?_drop] at this
  rw [List.getElem?_drop]
  rw [show i + fs.length - bk + (eU (Gs'.drop (i + fs.length - bk)) (Gs.drop (i + k - bk)) + (j - (i + fs.length - bk) - eU (Gs'.drop (i + fs.length - bk)) (Gs.drop (i + k - bk)))) = j by omega] at this
  rw [this]
  congr 1
  omega
 ·obtain ⟨d,rfl⟩:∃ d,j = i + fs.length - bk + d:=⟨j - (i + fs.length - bk),by omega⟩
  obtain ⟨A,hA⟩:∃ A,Gs'[i + fs.length - bk + d]? = some A:=⟨_,List.getElem?_eq_getElem (by omega)⟩
  obtain ⟨B,hB⟩:∃ B,Gs[i + k - bk + d]? = some B:=⟨_,List.getElem?_eq_getElem (by omega)⟩
  have hA2:(Gs'.drop (i + fs.length - bk))[d]? = some A:=by rw [List.getElem?_drop];exact hA
  have hB2:(Gs.drop (i + k - bk))[d]? = some B:=by rw [List.getElem?_drop];exact hB
  obtain ⟨x1,x2,x3⟩:=hC'.at hA
  obtain ⟨y1,_,_⟩:=q1.at hB2
  obtain ⟨w1,_,_⟩:=q1'.at hA2
  refine ⟨B,A,?_,hA,?_,x2,?_,x3⟩
  ·rw [List.getElem?_append_right (by rw [lT];exact Nat.le_add_right _ _),lT,Nat.add_sub_cancel_left];exact hB2
  ·rw [y1] at w1
   injection w1 with w1
   exact w1.symm
  ·rw [← x2]
   exact λz=>yN (by omega) hA2 hB2 z.symm
 ·rw [List.getElem?_append_right (by omega),lT,Nat.add_sub_cancel_left] at hG
  have hz:=(List.getElem?_eq_some_iff.mp hG).1
  rw [List.length_drop] at hz
  obtain ⟨A,hA⟩:∃ A,(Gs'.drop (i + fs.length - bk))[eU (Gs'.drop (i + fs.length - bk)) (Gs.drop (i + k - bk))]? = some A:=⟨_,List.getElem?_eq_getElem (by rw [List.length_drop,hGd];exact hz)⟩
  have e:=rL hA hG
  rw [List.getElem?_drop] at hA
  rw [← e]
  exact (hC'.at hA).2.1
theorem uo (x:Str) (n:Nat):(PySem.Txt.slice x none (some (n:Int))).cps.toList = x.cps.toList.take n:=by
 by_cases h:n <= x.length
 ·have:=eq_of_beq (PyProof.Rows.slice_closes_toL (x:=x) (j:=(n:Int)) (by omega) (by omega))
  rw [this]
  simp
 ·have e:PySem.Txt.slice x none (some (n:Int)) = PySem.Txt.slice x none (some (x.length:Int)):=by
   have e2:PySem.Builtin.Str.strSliceIndices none (some (n:Int)) 1 x.length = PySem.Builtin.Str.strSliceIndices none (some (x.length:Int)) 1 x.length:=by
    have h0:¬ ((n:Int) < 0):=by omega
    have h1:¬ ((x.length:Int) < 0):=by omega
    have h2:(1:Int) > 0:=by decide
    have h3:(x.length:Int) <= (n:Int):=by omega
    simp only [PySem.Builtin.Str.strSliceIndices,h0,h1,h2,if_false,if_true,Int.min_eq_right h3,Int.min_self]
   unfold PySem.Txt.slice
   rw [e2]
  have:=eq_of_beq (PyProof.Rows.slice_closes_toL (x:=x) (j:=(x.length:Int)) (by omega) (by omega))
  rw [List.take_of_length_le (l:=x.cps.toList) (i:=n) (by rw [aU];omega),e,this]
  show ((x.cps.toList.drop (0:Int).toNat).take ((x.length:Int) - 0).toNat) = _
  exact List.take_of_length_le (by show x.cps.toList.length <= _;rw [aU];omega)
def bR (x:Str) (j:Nat) (z:Str):Str:=PySem.Txt.slice x none (some (j:Int)) ++ z ++ PySem.Txt.slice x (some (j:Int)) none
def ly (x:Str) (j:Nat) (y:Str) (k:Nat):Str:=PySem.Txt.slice x none (some (j:Int)) ++ PySem.Txt.slice y (some (k:Int)) none
def wW (t:fE):Sp:=λvs H Q _=>∃ (x dx a lg:Addr) (gs:List Addr) (ms:List aN) (Gs:List bA) (G:bA) (i j:Nat),vs = [.ref x,.int i,.int j] /\ bZ t H x dx a lg gs ms Gs /\ Gs[i]? = some G /\ j <= G.row.length /\ G.row.length <= 1000 /\ Q .cK H
theorem xA (T:Txt K mg t):bC P w K mg base dh 2 t.lZ t.uq ["self","row","at"] (wW t):=by
 refine T.oV.ok JU ?_ ?_
 walk_at "i"
 ·obtain ⟨x,dx,a,lg,gs,ms,Gs,G,i,j,rfl,I,hG,hj,hl,q⟩:=h
  have hi:=(List.getElem?_eq_some_iff.mp hG).1
  have sz:=sizeLine_eq
  obtain ⟨g,hg,dg,lb,lt,lo,lk,e⟩:=I.go.at hG
  refine @aq _ _ _ _ _ _ _ (bH (br (pv 0) T.aK T.FU (DB T) (hr.mono (by decide)) (T.qZ.binds (by walk_at "2")) .nil aH (aa (pv 1) ai))) ⟨_,rfl,x,dx,_,rfl,I.ob,rfl,_,rfl,x,dx,a,lg,gs,ms,Gs,i,rfl,I,hi,?_⟩
  refine @au _ _ _ _ _ _ (bB (PW.pt (g8 (aA fF (pv 2) az (aF _)) (gv (aA ia (pv 2) (aQ bf (by rfl) T.bN (by decide +kernel) (aa (aO (aS aW (aO (pv 0) rfl) (pv 1) (λ_ _=>rfl)) rfl) ai)) (aF _))))) av av) ⟨_,rfl,_,_,rfl,rfl,_,rfl,dG (λh=>absurd h (by omega)) (λ_=>?_)⟩
  exact ⟨_,rfl,⟨_,rfl,_,_,_,_,_,rfl,I.ob,T.aK,T.aL,rfl,⟨_,rfl,_,_,_,_,rfl,rfl,bu.of I.lg,dU hg,g,t.aR,dg,_,_,rfl,e.ob,T.bM,T.bU,rfl,_,rfl,bY (by omega),_,_,rfl,rfl,_,rfl,dG (λh=>absurd h (by omega)) (λ_=>bg q)⟩⟩⟩
def vW (t:fE):Sp:=λvs H Q _=>∃ (x dx a lg:Addr) (gs:List Addr) (ms:List aN) (Gs:List bA) (G G2:bA) (i j i2 j2:Nat),vs = [.ref x,.int i,.int j,.int i2,.int j2] /\ bZ t H x dx a lg gs ms Gs /\ Gs[i]? = some G /\ j <= G.row.length /\ G.row.length <= 1000 /\ Gs[i2]? = some G2 /\ j2 <= G2.row.length /\ G2.row.length <= 1000 /\ HT.gC [(i:Int),j] [(i2:Int),j2] = false /\ ∀ H',ak H H' -> Q .cK H'
theorem HV (T:Txt K mg t):bC P w K mg base dh 3 t.lW t.vZ ["self","row","at","row2","at2"] (vW t):=by
 refine T.wk.ok Ja ?_ ?_
 walk_at "i"
 ·obtain ⟨x,dx,a,lg,gs,ms,Gs,G,G2,i,j,i2,j2,rfl,I,hG,hj,hl,hG2,hj2,hl2,hx,q⟩:=h
  refine @aq _ _ _ _ _ _ _ (bH (br (pv 0) T.aK T.Bh (xA T) (hr.mono (by decide)) (T.oV.binds (by walk_at "3")) .nil aH (aa (pv 1) (aa (pv 2) ai)))) ⟨_,rfl,x,dx,_,rfl,I.ob,rfl,_,rfl,_,rfl,x,dx,a,lg,gs,ms,Gs,G,i,j,rfl,I,hG,hj,hl,?_⟩
  refine @aq _ _ _ _ _ _ _ (bH (br (pv 0) T.aK T.Bh (xA T) (hr.mono (by decide)) (T.oV.binds (by walk_at "3")) .nil aH (aa (pv 3) (aa (pv 4) ai)))) ⟨_,rfl,x,dx,_,rfl,I.ob,rfl,_,rfl,_,rfl,x,dx,a,lg,gs,ms,Gs,G2,i2,j2,rfl,I,hG2,hj2,hl2,?_⟩
  refine @au _ _ _ _ _ _ (bB (aA (Ft (Nat.lt_of_succ_lt (mD hr))) (cD (aa (pv 1) (aa (pv 2) ai))) (cD (aa (pv 3) (aa (pv 4) ai))) (aF _)) av av) ⟨_,rfl,_,rfl,by show 2 <= sizeLine;decide,λt1 e1=>⟨_,rfl,_,rfl,by show 2 <= sizeLine;decide,λt2 e2=>⟨t1,t2,[(i:Int),j],[(i2:Int),j2],rfl,rfl,gh.of (ak.upd e2 _ _ af),gh.of af,_,rfl,?_⟩⟩⟩
  rw [hx]
  exact rR (bg (q _ ((ak.upd e1).trans (ak.upd e2))))
def Ln (t:fE):Sp:=λvs H Q _=>∃ (S:Addr -> Prop) (x dx a lg:Addr) (gs:List Addr) (ms:List aN) (Gs:List bA) (G:bA) (i j:Nat) (z:Str) (fs:List Str) (ah bk:Nat) (Gm:List bA) (c:Nat) (Gs':List bA),vs = [.ref x,.int i,.int j,.str z] /\ Ex S H /\ bZ t (hid S H) x dx a lg gs ms Gs /\ dw ms /\ Gs[i]? = some G /\ j <= G.row.length /\ G.row.length <= 1000 /\ z.length <= 1000 /\ PySem.Txt.split (bR G.row j z) (Str.ofString "\n") = fs /\ Gs.length <= 50000 /\ fs.length <= 50000 /\ fs ≠ [] /\ gF ms Gs i 1 fs ah bk Gm c Gs' /\
 ∀ lg' gs' H',bZ t (hid S H') x dx a lg' gs' ms Gs' -> H lg' = none -> gy H H' x -> Q (.int ((Gm.length + c:Nat):Int)) H'
theorem HP (T:Txt K mg t):bC P w K mg base dh 9 t.lN t.vB ["self","row","at","text"] (Ln t):=by
 refine T.tw.ok DQ ?_ ?_
 walk_at "i"
 ·obtain ⟨S,x,dx,a,lg,gs,ms,Gs,G,i,j,z,fs,ah,bk,Gm,c,Gs',rfl,hES,IS,GM_,hG,hj,hl,hz,hfs,hl1,hl2,hne,C,q⟩:=h
  have I:=IS.same aJ
  have sz:=sizeLine_eq
  obtain ⟨g,hg,dg,lb,lt,lo,lk,e⟩:=I.go.at hG
  have b1:=PySem.Txt.slice_le G.row none (some (j:Int))
  have b2:=PySem.Txt.slice_le G.row (some (j:Int)) none
  refine @aq _ _ _ _ _ _ _ (bH (br (pv 0) T.aK T.Bh (xA T) (hr.mono (by decide)) (T.oV.binds (by walk_at "3")) .nil aH (aa (pv 1) (aa (pv 2) ai)))) ⟨_,rfl,x,dx,_,rfl,I.ob,rfl,_,rfl,_,rfl,x,dx,a,lg,gs,ms,Gs,G,i,j,rfl,I,hG,hj,hl,?_⟩
  refine @aq _ _ _ _ _ _ _ (aE (i:=4) DQ.nd rfl (Or.inl rfl) (aO (aS aW (aO (pv 0) rfl) (pv 1) (λ_ _=>rfl)) rfl)) (⟨_,rfl,_,_,_,_,_,rfl,I.ob,T.aK,T.aL,rfl,⟨_,rfl,_,_,_,_,rfl,rfl,bu.of I.lg,dU hg,g,t.aR,dg,_,_,rfl,e.ob,T.bM,T.bU,rfl,?_⟩⟩)
  have l1:(PySem.Txt.slice G.row none (some (j:Int)) ++ z).length <= 2000:=by rw [PySem.strLen_append];omega
  have l2:(bR G.row j z).length <= 3000:=by unfold bR;rw [PySem.strLen_append];omega
  refine @au _ _ _ _ _ _ (aI (br (pv 0) T.aK T.CF (xZ T) (hr.mono (by decide)) (T.pK.binds (by walk_at "4")) .nil aH (aa (pv 1) (aa az (aa (e9 F.plainAttrs_str F.slot_str_split F.type_str_split kF (aT eV (aT eV (cy gR (pv 4) dj (cF (pv 2))) (pv 3)) (cy gR (pv 4) (cF (pv 2)) dj)) (aa aG ai)) ai))))) ⟨_,rfl,x,dx,_,rfl,I.ob,rfl,_,rfl,_,rfl,_,rfl,_,rfl,_,rfl,(by omega),_,rfl,_,_,rfl,rfl,(by omega),_,rfl,_,rfl,_,rfl,_,rfl,(by omega),_,_,rfl,rfl,(by omega),rfl,bR G.row j z,Str.ofString "\n",rfl,rfl,rfl,(by omega),λp fp=>?_⟩
  rw [hfs]
  have s1:ak H (upd H p (.lst (fs.map V.str))):=ak.upd fp
  exact ⟨S,x,dx,a,lg,p,gs,ms,Gs,i,1,fs,ah,bk,Gm,c,Gs',rfl,hES.same s1,IS.same (bF s1),GM_,af,hl1,hl2,(λ_=>hne),C,λlg' gs' H' I' f' a'=>q lg' gs' H' I' (s1.free f') (λb o hb nb=>a' b o (s1 _ _ hb) nb)⟩
def Ke (t:fE):Sp:=λvs H Q _=>∃ (S:Addr -> Prop) (x dx a lg:Addr) (gs:List Addr) (ms:List aN) (Gs:List bA) (G G2:bA) (i j i2 j2:Nat) (ah bk:Nat) (Gm:List bA) (c:Nat) (Gs':List bA),vs = [.ref x,.int i,.int j,.int i2,.int j2] /\ Ex S H /\ bZ t (hid S H) x dx a lg gs ms Gs /\ dw ms /\ Gs[i]? = some G /\ j <= G.row.length /\ G.row.length <= 1000 /\ Gs[i2]? = some G2 /\ j2 <= G2.row.length /\ G2.row.length <= 1000 /\ HT.gC [(i:Int),j] [(i2:Int),j2] = false /\ i <= i2 /\ Gs.length <= 50000 /\ gF ms Gs i (i2 - i + 1) [ly G.row j G2.row j2] ah bk Gm c Gs' /\
 ∀ lg' gs' H',bZ t (hid S H') x dx a lg' gs' ms Gs' -> H lg' = none -> gy H H' x -> Q (.int ((Gm.length + c:Nat):Int)) H'
theorem JG (T:Txt K mg t):bC P w K mg base dh 9 t.lK t.vo ["self","row","at","row2","at2"] (Ke t):=by
 refine T.vd.ok B6 ?_ ?_
 walk_at "i"
 ·obtain ⟨S,x,dx,a,lg,gs,ms,Gs,G,G2,i,j,i2,j2,ah,bk,Gm,c,Gs',rfl,hES,IS,GM_,hG,hj,hl,hG2,hj2,hl2,hx,hii,hl1,C,q⟩:=h
  have I:=IS.same aJ
  have sz:=sizeLine_eq
  refine @aq _ _ _ _ _ _ _ (bH (br (pv 0) T.aK T.LD (HV T) (hr.mono (by decide)) (T.wk.binds (by walk_at "5")) .nil aH (aa (pv 1) (aa (pv 2) (aa (pv 3) (aa (pv 4) ai)))))) ⟨_,rfl,x,dx,_,rfl,I.ob,rfl,_,rfl,_,rfl,_,rfl,_,rfl,x,dx,a,lg,gs,ms,Gs,G,G2,i,j,i2,j2,rfl,I,hG,hj,hl,hG2,hj2,hl2,hx,λH1 s1=>?_⟩
  have I1:=I.same s1
  obtain ⟨g,hg,dg,lb,lt,lo,lk,e⟩:=I1.go.at hG
  obtain ⟨g2,hg2,dg2,lb2,lt2,lo2,lk2,e2⟩:=I1.go.at hG2
  have b1:=PySem.Txt.slice_le G.row none (some (j:Int))
  have b2:=PySem.Txt.slice_le G2.row (some (j2:Int)) none
  refine @aq _ _ _ _ _ _ _ (aE (i:=5) B6.nd rfl (Or.inl rfl) (aT eV (cy gR (aO (aS aW (aO (pv 0) rfl) (pv 1) (λ_ _=>rfl)) rfl) dj (cF (pv 2))) (cy gR (aO (aS aW (aO (pv 0) rfl) (pv 3) (λ_ _=>rfl)) rfl) (cF (pv 4)) dj))) (⟨_,rfl,_,_,_,_,_,rfl,I1.ob,T.aK,T.aL,rfl,⟨_,rfl,_,_,_,_,rfl,rfl,bu.of I1.lg,dU hg,g,t.aR,dg,_,_,rfl,e.ob,T.bM,T.bU,rfl,_,rfl,_,rfl,_,rfl,(by omega),⟨_,rfl,_,_,_,_,_,rfl,I1.ob,T.aK,T.aL,rfl,⟨_,rfl,_,_,_,_,rfl,rfl,bu.of I1.lg,dU hg2,g2,t.aR,dg2,_,_,rfl,e2.ob,T.bM,T.bU,rfl,_,rfl,_,rfl,_,rfl,(by omega),_,_,rfl,rfl,(by omega),?_⟩⟩⟩⟩)
  show At _ _ _ [some (.ref x),some (.int i),some (.int j),some (.int i2),some (.int j2),some (.str (ly G.row j G2.row j2))] H1
  refine @au _ _ _ _ _ _ (aI (br (pv 0) T.aK T.CF (xZ T) (hr.mono (by decide)) (T.pK.binds (by walk_at "4")) .nil aH (aa (pv 1) (aa (aT cN (aT fH (pv 3) (pv 1)) az) (aa (bG (aa (pv 5) ai)) ai))))) ⟨_,rfl,x,dx,_,rfl,I1.ob,rfl,_,rfl,_,rfl,_,rfl,_,_,rfl,rfl,_,_,rfl,rfl,_,rfl,by show 1 <= sizeLine;decide,λp fp=>?_⟩
  have s2:ak H (upd H1 p (.lst [.str (ly G.row j G2.row j2)])):=s1.trans (ak.upd fp)
  have ek:((i2:Int) - (i:Int) + 1) = ((i2 - i + 1:Nat):Int):=by omega
  refine ⟨S,x,dx,a,lg,p,gs,ms,Gs,i,i2 - i + 1,[ly G.row j G2.row j2],ah,bk,Gm,c,Gs',?_,hES.same s2,IS.same (bF s2),GM_,af,hl1,(show 1 <= 50000 by decide),(λ_=>by simp),C,λlg' gs' H' I' f' a'=>q lg' gs' H' I' (s2.free f') (λb o hb nb=>a' b o (s2 _ _ hb) nb)⟩
  rw [← ek];rfl
abbrev q0:bx:=⟨"word","(","red","push",some 1,"open"⟩
abbrev q1:bx:=⟨"word","[","red","push",some 3,""⟩
abbrev q2:bx:=⟨"word","#","blue","push",some 2,""⟩
abbrev q3:bx:=⟨"word",")","red","pop",none,"close"⟩
abbrev q4:bx:=⟨"end","","","pop",none,""⟩
abbrev nms:List aN:=[⟨"code","plain",[q0,q1,q2]⟩,⟨"remark","green",[q0,q1,q3]⟩,⟨"line","blue",[q4]⟩,⟨"other","gray",[q0,q1,q3]⟩]
def jB (on:List Nat):List Nat:=if on.length = 1 then [0] else on.dropLast
def nx (on:List Nat) (c:Nat):List Nat:=if bz on = 2 then on else if c = 40 then on ++ [1] else if c = 91 then on ++ [3] else if bz on = 0 then (if c = 35 then on ++ [2] else on) else if c = 41 then jB on else on
def fin (on:List Nat) (L:List Nat):List Nat:=if bz (L.foldl nx on) = 2 then jB (L.foldl nx on) else L.foldl nx on
theorem mF {row:Str} {i:Nat}:∀ (rs:List bx) (k:Nat),(fV row i k rs).bind (λn=>if k <= n then rs[n - k]? else none) = rs.find? (λR=>fq R row i)
 | [],k=>rfl
 | R :: r,k=>by
  rw [fV,List.find?_cons]
  cases hf:fq R row i with
  | true=>simp
  | false =>
   simp only [Bool.false_eq_true,if_false]
   rw [← mF r (k + 1)]
   cases e:fV row i (k + 1) r with
   | none=>rfl
   | some n =>
    have hn:=(gI e).1
    show (if k <= n then (R :: r)[n - k]? else none) = (if k + 1 <= n then r[n - (k + 1)]? else none)
    rw [if_pos (by omega),if_pos hn,show n - k = (n - (k + 1)) + 1 by omega,List.getElem?_cons_succ]
theorem jD (rs:List bx) (row:Str) (i:Nat):bX rs row i = rs.find? (λR=>fq R row i):=by
 rw [← mF rs 0,bX,firstM]
 cases fV row i 0 rs with
 | none=>rfl
 | some n=>rfl
theorem KU {z row:Str} {i k:Nat} (hk:z.cps.toList = [k]):fj "word" z row i = if row.cps.toList[i]? = some k then .int 1 else .cK:=by
 have hl:z.length = 1:=by rw [← aU,hk];rfl
 unfold fj
 rw [if_neg (by decide),if_pos rfl,hk,hl]
 cases e:row.cps.toList[i]? with
 | none =>
  have:=List.getElem?_eq_none_iff.mp e
  rw [List.drop_of_length_le this,if_neg (by simp),if_neg (by simp)]
 | some c =>
  rw [fP e]
  by_cases h:c = k
  ·rw [h,if_pos (show List.take 1 (k :: List.drop (i + 1) row.cps.toList) = [k] from rfl),if_pos rfl];rfl
  ·rw [if_neg (show ¬ List.take 1 (c :: List.drop (i + 1) row.cps.toList) = [k] from λz=>h (List.head_eq_of_cons_eq (show c :: [] = k :: [] from z))),if_neg (λz=>h (Option.some.inj z))]
theorem zQ {R:bx} {row:Str} {i k:Nat} (hs:R.sort = "word") (hk:R.signs.cps.toList = [k]):fq R row i = decide (row.cps.toList[i]? = some k):=by
 unfold fq
 rw [hs,KU hk]
 by_cases h:row.cps.toList[i]? = some k
 ·rw [if_pos h,decide_eq_true h];exact decide_eq_true (by intro z;cases z)
 ·rw [if_neg h,decide_eq_false h];exact decide_eq_false (λz=>z rfl)
theorem Mj {R:bx} {row:Str} {i k:Nat} (hs:R.sort = "word") (hk:R.signs.cps.toList = [k]) (h:row.cps.toList[i]? = some k):d9 R row i = 1:=by
 unfold d9
 rw [hs,KU hk,if_pos h]
 rfl
theorem k0:(q0.signs).cps.toList = [40]:=by decide +kernel
theorem k1:(q1.signs).cps.toList = [91]:=by decide +kernel
theorem k2:(q2.signs).cps.toList = [35]:=by decide +kernel
theorem k3:(q3.signs).cps.toList = [41]:=by decide +kernel
theorem Mn {row:Str} {i:Nat}:fq q4 row i = decide (i = row.length):=by
 unfold fq
 show decide (fj "end" "" row i ≠ .cK) = _
 unfold fj
 rw [if_pos rfl]
 by_cases h:i = row.length
 ·rw [if_pos h,decide_eq_true h];exact decide_eq_true (by intro z;cases z)
 ·rw [if_neg h,decide_eq_false h];exact decide_eq_false (λz=>z rfl)
theorem yW {row:Str} {i:Nat}:bX [q0,q1,q2] row i = if row.cps.toList[i]? = some 40 then some q0 else if row.cps.toList[i]? = some 91 then some q1 else if row.cps.toList[i]? = some 35 then some q2 else none:=by
 rw [jD,List.find?_cons,List.find?_cons,List.find?_cons,List.find?_nil,zQ rfl k0,zQ rfl k1,zQ rfl k2]
 by_cases h0:row.cps.toList[i]? = some 40
 ·rw [if_pos h0,decide_eq_true h0]
 ·rw [if_neg h0,decide_eq_false h0]
  by_cases h1:row.cps.toList[i]? = some 91
  ·rw [if_pos h1,decide_eq_true h1]
  ·rw [if_neg h1,decide_eq_false h1]
   by_cases h2:row.cps.toList[i]? = some 35
   ·rw [if_pos h2,decide_eq_true h2]
   ·rw [if_neg h2,decide_eq_false h2]
theorem mT {row:Str} {i:Nat}:bX [q0,q1,q3] row i = if row.cps.toList[i]? = some 40 then some q0 else if row.cps.toList[i]? = some 91 then some q1 else if row.cps.toList[i]? = some 41 then some q3 else none:=by
 rw [jD,List.find?_cons,List.find?_cons,List.find?_cons,List.find?_nil,zQ rfl k0,zQ rfl k1,zQ rfl k3]
 by_cases h0:row.cps.toList[i]? = some 40
 ·rw [if_pos h0,decide_eq_true h0]
 ·rw [if_neg h0,decide_eq_false h0]
  by_cases h1:row.cps.toList[i]? = some 91
  ·rw [if_pos h1,decide_eq_true h1]
  ·rw [if_neg h1,decide_eq_false h1]
   by_cases h2:row.cps.toList[i]? = some 41
   ·rw [if_pos h2,decide_eq_true h2]
   ·rw [if_neg h2,decide_eq_false h2]
theorem FY {row:Str} {i:Nat}:bX [q4] row i = if i = row.length then some q4 else none:=by
 rw [jD,List.find?_cons,List.find?_nil,Mn]
 by_cases h:i = row.length
 ·rw [if_pos h,decide_eq_true h]
 ·rw [if_neg h,decide_eq_false h]
theorem four {n:Nat} (h:n < 4):n = 0 ∨ n = 1 ∨ n = 2 ∨ n = 3:=by omega
theorem Ed {row:Str} {c:Cfg} {R:bx} (h:bX (cH nms (bz c.on)) row c.aB.length = some R) (e:d9 R row c.aB.length = 1):∃ c',cZ nms row c = some c' /\ c'.on = cC c.on R.bQ R.goal /\ c'.aB.length = c.aB.length + 1:=by
 refine ⟨jl c R row,?_,rfl,?_⟩
 ·unfold cZ;rw [h]
 ·show (c.aB ++ List.replicate (d9 R row c.aB.length) R.bh).length = _
  rw [e,List.length_append];rfl
theorem EO {row:Str} {c:Cfg} (h:bX (cH nms (bz c.on)) row c.aB.length = none) (hl:c.aB.length < row.length):∃ c',cZ nms row c = some c' /\ c'.on = c.on /\ c'.aB.length = c.aB.length + 1:=by
 refine ⟨⟨c.on,c.aB ++ [cQ nms (bz c.on)],c.marks⟩,?_,rfl,?_⟩
 ·unfold cZ;rw [h];exact if_pos hl
 ·show (c.aB ++ [_]).length = _
  rw [List.length_append];rfl
theorem kR {on:List Nat}:cC on "pop" none = jB on:=by
 unfold cC jB
 rw [if_neg (by decide),if_neg (by decide),if_pos rfl]
theorem Ay {row:Str} {c:Cfg} {x:Nat} (hx:row.cps.toList[c.aB.length]? = some x) (hon:bz c.on < 4):∃ c',cZ nms row c = some c' /\ c'.on = nx c.on x /\ c'.aB.length = c.aB.length + 1:=by
 have hl:c.aB.length < row.length:=by rw [← aU];exact (List.getElem?_eq_some_iff.mp hx).1
 have tr:∀ R k,bX (cH nms (bz c.on)) row c.aB.length = some R -> R.sort = "word" -> R.signs.cps.toList = [k] -> x = k -> nx c.on x = cC c.on R.bQ R.goal -> ∃ c',cZ nms row c = some c' /\ c'.on = nx c.on x /\ c'.aB.length = c.aB.length + 1:=λR k h1 h2 h3 h4 h5=>by
  rw [h5]
  exact Ed h1 (Mj h2 h3 (by rw [hx,h4]))
 have no:bX (cH nms (bz c.on)) row c.aB.length = none -> nx c.on x = c.on -> ∃ c',cZ nms row c = some c' /\ c'.on = nx c.on x /\ c'.aB.length = c.aB.length + 1:=λh1 h2=>by
  rw [h2]
  exact EO h1 hl
 rcases four hon with e | e | e | e
 ·have er:bX (cH nms (bz c.on)) row c.aB.length = if some x = some 40 then some q0 else if some x = some 91 then some q1 else if some x = some 35 then some q2 else none:=by
   rw [e];show bX [q0,q1,q2] row _ = _;rw [yW,hx]
  have en:nx c.on x = if x = 40 then c.on ++ [1] else if x = 91 then c.on ++ [3] else if x = 35 then c.on ++ [2] else c.on:=by
   unfold nx;rw [e,if_neg (by decide),if_pos rfl]
  by_cases h0:x = 40
  ·exact tr q0 40 (by rw [er,h0];rfl) rfl k0 h0 (by rw [en,if_pos h0];rfl)
  by_cases h1:x = 91
  ·exact tr q1 91 (by rw [er,h1];rfl) rfl k1 h1 (by rw [en,h1];rfl)
  by_cases h2:x = 35
  ·exact tr q2 35 (by rw [er,h2];rfl) rfl k2 h2 (by rw [en,h2];rfl)
  ·exact no (by rw [er,if_neg (λz=>h0 (Option.some.inj z)),if_neg (λz=>h1 (Option.some.inj z)),if_neg (λz=>h2 (Option.some.inj z))]) (by rw [en,if_neg h0,if_neg h1,if_neg h2])
 ·have er:bX (cH nms (bz c.on)) row c.aB.length = if some x = some 40 then some q0 else if some x = some 91 then some q1 else if some x = some 41 then some q3 else none:=by
   rw [e];show bX [q0,q1,q3] row _ = _;rw [mT,hx]
  have en:nx c.on x = if x = 40 then c.on ++ [1] else if x = 91 then c.on ++ [3] else if x = 41 then jB c.on else c.on:=by
   unfold nx;rw [e,if_neg (by decide)];rfl
  by_cases h0:x = 40
  ·exact tr q0 40 (by rw [er,h0];rfl) rfl k0 h0 (by rw [en,if_pos h0];rfl)
  by_cases h1:x = 91
  ·exact tr q1 91 (by rw [er,h1];rfl) rfl k1 h1 (by rw [en,h1];rfl)
  by_cases h2:x = 41
  ·exact tr q3 41 (by rw [er,h2];rfl) rfl k3 h2 (by rw [en,h2];exact kR.symm)
  ·exact no (by rw [er,if_neg (λz=>h0 (Option.some.inj z)),if_neg (λz=>h1 (Option.some.inj z)),if_neg (λz=>h2 (Option.some.inj z))]) (by rw [en,if_neg h0,if_neg h1,if_neg h2])
 ·refine no ?_ (by unfold nx;rw [if_pos e])
  rw [e];show bX [q4] row _ = _;rw [FY,if_neg (Nat.ne_of_lt hl)]
 ·have er:bX (cH nms (bz c.on)) row c.aB.length = if some x = some 40 then some q0 else if some x = some 91 then some q1 else if some x = some 41 then some q3 else none:=by
   rw [e];show bX [q0,q1,q3] row _ = _;rw [mT,hx]
  have en:nx c.on x = if x = 40 then c.on ++ [1] else if x = 91 then c.on ++ [3] else if x = 41 then jB c.on else c.on:=by
   unfold nx;rw [e,if_neg (by decide)];rfl
  by_cases h0:x = 40
  ·exact tr q0 40 (by rw [er,h0];rfl) rfl k0 h0 (by rw [en,if_pos h0];rfl)
  by_cases h1:x = 91
  ·exact tr q1 91 (by rw [er,h1];rfl) rfl k1 h1 (by rw [en,h1];rfl)
  by_cases h2:x = 41
  ·exact tr q3 41 (by rw [er,h2];rfl) rfl k3 h2 (by rw [en,h2];exact kR.symm)
  ·exact no (by rw [er,if_neg (λz=>h0 (Option.some.inj z)),if_neg (λz=>h1 (Option.some.inj z)),if_neg (λz=>h2 (Option.some.inj z))]) (by rw [en,if_neg h0,if_neg h1,if_neg h2])
theorem rm {row:Str} {c:Cfg} (h:c.aB.length = row.length) (hon:bz c.on < 4) (h2:bz c.on ≠ 2):cZ nms row c = none:=by
 have hn:row.cps.toList[c.aB.length]? = none:=List.getElem?_eq_none_iff.mpr (by rw [aU];omega)
 have er:bX (cH nms (bz c.on)) row c.aB.length = none:=by
  rcases four hon with e | e | e | e
  ·rw [e];show bX [q0,q1,q2] row _ = _;rw [yW,hn];rfl
  ·rw [e];show bX [q0,q1,q3] row _ = _;rw [mT,hn];rfl
  ·exact absurd e h2
  ·rw [e];show bX [q0,q1,q3] row _ = _;rw [mT,hn];rfl
 unfold cZ
 rw [er]
 exact if_neg (by omega)
theorem zO {row:Str} {c:Cfg} (h:c.aB.length = row.length) (h2:bz c.on = 2):∃ c',cZ nms row c = some c' /\ c'.on = jB c.on /\ c'.aB.length = row.length:=by
 have er:bX (cH nms (bz c.on)) row c.aB.length = some q4:=by
  rw [h2];show bX [q4] row _ = _;rw [FY,if_pos h]
 have ee:d9 q4 row c.aB.length = 0:=by
  unfold d9
  show (match fj "end" "" row c.aB.length with | .int n=>n.toNat | _=>0) = 0
  unfold fj
  rw [if_pos rfl,if_pos h]
  rfl
 refine ⟨jl c q4 row,?_,kR,?_⟩
 ·unfold cZ;rw [er]
 ·show (c.aB ++ List.replicate (d9 q4 row c.aB.length) q4.bh).length = _
  rw [ee,List.length_append,h];rfl
structure kI (on:List Nat):Prop where
 ne:on ≠ []
 lt:∀ x ∈ on,x < 4
 n2:∀ x ∈ on.dropLast,x ≠ 2
theorem kI.top {on:List Nat} (h:kI on):bz on < 4:=h.lt _ (nc h.ne)
theorem kI.push {on:List Nat} (h:kI on) (h2:bz on ≠ 2) {k:Nat} (hk:k < 4):kI (on ++ [k]):=by
 refine ⟨by simp,λx hx=>?_,λx hx=>?_⟩
 ·rcases List.mem_append.mp hx with z | z
  ·exact h.lt x z
  ·rw [List.mem_singleton.mp z];exact hk
 ·rw [List.dropLast_concat] at hx
  rw [← List.dropLast_concat_getLast h.ne] at hx
  rcases List.mem_append.mp hx with z | z
  ·exact h.n2 x z
  ·rw [List.mem_singleton.mp z]
   intro e
   apply h2
   have:=dR h.ne
   rw [List.getLast?_eq_some_getLast h.ne,e] at this
   exact (Option.some.inj this).symm
theorem kI.pop {on:List Nat} (h:kI on):kI (jB on) /\ bz (jB on) ≠ 2:=by
 unfold jB
 by_cases e:on.length = 1
 ·rw [if_pos e]
  exact ⟨⟨by simp,(by intro x hx;rw [List.mem_singleton.mp hx];decide),(by intro x hx;cases hx)⟩,by decide⟩
 ·rw [if_neg e]
  have hne:on.dropLast ≠ []:=by
   intro z
   have:=congrArg List.length z
   rw [List.length_dropLast] at this
   have h1:=List.length_pos_iff.mpr h.ne
   simp at this
   omega
  exact ⟨⟨hne,λx hx=>h.lt x (List.dropLast_subset _ hx),λx hx=>h.n2 x (List.dropLast_subset _ hx)⟩,h.n2 _ (nc hne)⟩
theorem kI.nx {on:List Nat} (h:kI on) (c:Nat):kI (nx on c):=by
 unfold K35.nx
 by_cases h2:bz on = 2
 ·rw [if_pos h2];exact h
 rw [if_neg h2]
 by_cases h0:c = 40
 ·rw [if_pos h0];exact h.push h2 (by decide)
 rw [if_neg h0]
 by_cases h1:c = 91
 ·rw [if_pos h1];exact h.push h2 (by decide)
 rw [if_neg h1]
 by_cases h3:bz on = 0
 ·rw [if_pos h3]
  by_cases h4:c = 35
  ·rw [if_pos h4];exact h.push h2 (by decide)
  ·rw [if_neg h4];exact h
 ·rw [if_neg h3]
  by_cases h4:c = 41
  ·rw [if_pos h4];exact h.pop.1
  ·rw [if_neg h4];exact h
theorem kI.fold:∀ {L:List Nat} {on:List Nat},kI on -> kI (L.foldl K35.nx on)
 | [],_,h=>h
 | c :: L,_,h=>kI.fold (L:=L) (h.nx c)
theorem kI.fin {on L:List Nat} (h:kI on):kI (fin on L) /\ bz (fin on L) ≠ 2:=by
 unfold K35.fin
 by_cases e:bz (L.foldl K35.nx on) = 2
 ·rw [if_pos e];exact (h.fold (L:=L)).pop
 ·rw [if_neg e];exact ⟨h.fold,e⟩
theorem ua {on:List Nat}:(jB on).length <= on.length:=by
 unfold jB
 by_cases e:on.length = 1
 ·rw [if_pos e,e];exact Nat.le_refl _
 ·rw [if_neg e,List.length_dropLast];omega
theorem JV {on:List Nat} {c:Nat}:(nx on c).length <= on.length + 1:=by
 have:=ua (on:=on)
 unfold nx
 repeat' split
 all_goals first | (rw [List.length_append];exact Nat.le_refl _) | omega
theorem uG:∀ {L on:List Nat},(L.foldl nx on).length <= on.length + L.length
 | [],_=>Nat.le_refl _
 | c :: L,on=>by
  have h1:=uG (L:=L) (on:=nx on c)
  have h2:=JV (on:=on) (c:=c)
  rw [List.foldl_cons,List.length_cons]
  omega
theorem yD {L on:List Nat}:(fin on L).length <= on.length + L.length:=by
 have h1:=uG (L:=L) (on:=on)
 have h2:=ua (on:=L.foldl nx on)
 unfold fin
 split <;> omega
theorem xD {row:Str}:∀ (n:Nat) (c:Cfg),c.aB.length + n = row.length -> kI c.on -> ∃ d,goN nms row (n + 1) c = some d /\ d.on = fin c.on (row.cps.toList.drop c.aB.length) /\ d.aB.length = row.length
 | 0,c,h,ho=>by
  have hd:row.cps.toList.drop c.aB.length = []:=List.drop_of_length_le (by rw [aU];omega)
  rw [hd]
  by_cases e:bz c.on = 2
  ·obtain ⟨c',h1,h2,h3⟩:=zO (row:=row) (c:=c) (by omega) e
   have hp:=ho.pop
   refine ⟨c',vn h1 (jZ (rm h3 (by rw [h2];exact hp.1.top) (by rw [h2];exact hp.2))),?_,h3⟩
   rw [h2];unfold fin;exact (if_pos e).symm
  ·refine ⟨c,jZ (rm (by omega) ho.top e),?_,by omega⟩
   unfold fin;exact (if_neg e).symm
 | n + 1,c,h,ho=>by
  obtain ⟨x,hx⟩:∃ x,row.cps.toList[c.aB.length]? = some x:=⟨_,List.getElem?_eq_getElem (by rw [aU];omega)⟩
  obtain ⟨c',h1,h2,h3⟩:=Ay hx ho.top
  obtain ⟨d,g1,g2,g3⟩:=xD (row:=row) n c' (by omega) (by rw [h2];exact ho.nx x)
  refine ⟨d,vn h1 g1,?_,g3⟩
  rw [g2,h2,h3,fP hx]
  rfl
theorem kI.on {on:List Nat} (h:kI on):iY nms on:=⟨h.ne,h.lt⟩
theorem Ec {b:List Nat} {row:Str} (hb:kI b) (hl:b.length <= 15000) (hr:row.length <= 100):∃ G:bA,G.row = row /\ G.before = b /\ iP nms G /\ G.d.on = fin b row.cps.toList:=by
 obtain ⟨d,g1,g2,g3⟩:=xD (row:=row) row.length ⟨b,[],[]⟩ (by simp) hb
 have g2:d.on = fin b row.cps.toList:=g2
 have hf:=yD (L:=row.cps.toList) (on:=b)
 rw [aU] at hf
 exact ⟨⟨row,b,d⟩,rfl,rfl,⟨hb.on,by show b.length <= _;omega,by show row.length <= _;omega,⟨_,by omega,g1⟩,by show iY nms d.on;rw [g2];exact hb.fin.1.on,by show d.on.length <= _;rw [g2];omega,g3⟩,g2⟩
theorem yY {G:bA} (h:iP nms G) (hb:kI G.before):G.d.on = fin G.before G.row.cps.toList:=by
 obtain ⟨d,g1,g2,g3⟩:=xD (row:=G.row) G.row.length ⟨G.before,[],[]⟩ (by simp) hb
 obtain ⟨m,_,g'⟩:=h.go
 have x:=iR (Nat.le_max_left (G.row.length + 1) m) g1
 have y:=iR (Nat.le_max_right (G.row.length + 1) m) g'
 rw [x] at y
 rw [← Option.some.inj y]
 exact g2
theorem iz:∀ (rs:List Str) (b:List Nat),kI b -> (∀ r ∈ rs,r.length <= 100) -> b.length + 100 * rs.length <= 15000 -> ∃ Gs,Chain nms b rs Gs
 | [],_,_,_,_=>⟨[],trivial⟩
 | r :: rs,b,hb,h,hl=>by
  rw [List.length_cons] at hl
  obtain ⟨G,e1,e2,S,e3⟩:=Ec (row:=r) hb (by omega) (h r (by simp))
  have hf:=yD (L:=r.cps.toList) (on:=b)
  rw [aU] at hf
  have h1:=h r (by simp)
  obtain ⟨Gs,hC⟩:=iz rs (fin b r.cps.toList) hb.fin.1 (λx hx=>h x (List.mem_cons_of_mem _ hx)) (by omega)
  exact ⟨G :: Gs,e1,e2,S,by rw [e3];exact hC⟩
def jb (b:List Nat) (rs:List Str):List Nat:=rs.foldl (λs r=>fin s r.cps.toList) b
theorem jV:∀ {rs:List Str} {b:List Nat} {Gs:List bA},Chain nms b rs Gs -> kI b -> fW b Gs = jb b rs /\ kI (jb b rs)
 | [],b,[],_,hb=>⟨rfl,hb⟩
 | r :: rs,b,G :: Gs,h,hb=>by
  obtain ⟨h1,h2,h3,h4⟩:=h
  have e:=yY h3 (by rw [h2];exact hb)
  rw [h1,h2] at e
  rw [e] at h4
  have:=jV (rs:=rs) h4 hb.fin.1
  show fW G.d.on Gs = jb (fin b r.cps.toList) rs /\ _
  rw [e]
  exact this
 | [],_,_ :: _,h,_=>h.elim
 | _ :: _,_,[],h,_=>h.elim
def gD (r:Str):Prop:=∀ c ∈ r.cps.toList,c = 97 ∨ c = 98
theorem fold_plain:∀ {L on:List Nat},(∀ c ∈ L,c = 97 ∨ c = 98) -> L.foldl nx on = on
 | [],_,_=>rfl
 | c :: L,on,h=>by
  rw [List.foldl_cons,show nx on c = on by
   unfold nx
   rcases h c (by simp) with rfl | rfl <;> simp]
  exact fold_plain λx hx=>h x (List.mem_cons_of_mem _ hx)
theorem gX {L on:List Nat} (h:∀ c ∈ L,c = 97 ∨ c = 98) (h2:bz on ≠ 2):fin on L = on:=by
 unfold fin
 rw [fold_plain h,if_neg h2]
theorem i9:∀ {rs:List Str} {b:List Nat},(∀ r ∈ rs,gD r) -> bz b ≠ 2 -> jb b rs = b
 | [],_,_,_=>rfl
 | r :: rs,b,h,h2=>by
  show jb (fin b r.cps.toList) rs = b
  rw [gX (h r (by simp)) h2]
  exact i9 (λx hx=>h x (List.mem_cons_of_mem _ hx)) h2
theorem iG:∀ {rs:List Str} {b:List Nat} {Gs:List bA},Chain nms b rs Gs -> kI b -> bz b ≠ 2 -> (∀ r ∈ rs,gD r) -> ∀ G ∈ Gs,G.before = b
 | [],_,[],_,_,_,_=>λ_ hG=>by cases hG
 | r :: rs,b,G :: Gs,h,hb,h2,hp=>λX hX=>by
  obtain ⟨h1,h3,h4,h5⟩:=h
  have e:=yY h4 (by rw [h3];exact hb)
  rw [h1,h3,gX (hp r (by simp)) h2] at e
  rw [e] at h5
  rcases List.mem_cons.mp hX with z | z
  ·rw [z];exact h3
  ·exact iG h5 hb h2 (λx hx=>hp x (List.mem_cons_of_mem _ hx)) X z
 | [],_,_ :: _,h,_,_,_=>h.elim
 | _ :: _,_,[],h,_,_,_=>h.elim
theorem wu:∀ {As Bs:List bA} {X Y:List Nat},X ≠ Y -> (∀ G ∈ As,G.before = X) -> (∀ G ∈ Bs,G.before = Y) -> As.length = Bs.length -> eU As Bs = As.length
 | [],[],_,_,_,_,_,_=>rfl
 | A :: As,B :: Bs,X,Y,h,ha,hb,hl=>by
  rw [eU,if_neg (by rw [ha A (by simp),hb B (by simp)];exact h),List.length_cons,wu h (λG hG=>ha G (List.mem_cons_of_mem _ hG)) (λG hG=>hb G (List.mem_cons_of_mem _ hG)) (by simpa using hl)]
 | [],_ :: _,_,_,_,_,_,hl=>by cases hl
 | _ :: _,[],_,_,_,_,_,hl=>by cases hl
theorem Fe:∀ {As Bs:List bA} {X:List Nat},(∀ G ∈ As,G.before = X) -> (∀ G ∈ Bs,G.before = X) -> eU As Bs = 0
 | A :: As,B :: Bs,X,ha,hb=>by
  rw [eU,if_pos (by rw [ha A (by simp),hb B (by simp)])]
 | [],_,_,_,_=>by unfold eU;rfl
 | _ :: _,[],_,_,_=>by unfold eU;rfl
theorem Kd:kI [0]:=⟨by simp,by decide,by decide⟩
theorem r8 (b:List Nat) (xs ys:List Str):jb b (xs ++ ys) = jb (jb b xs) ys:=List.foldl_append
theorem xY {rs:List Str} {i:Nat} {old new:Str} {Gs Gs':List bA} (hC:Chain nms [0] rs Gs) (ho:rs[i]? = some old) (hC':Chain nms [0] (rs.set i new) Gs') (hne:old ≠ new) (hp:∀ r ∈ rs.drop (i + 1),gD r) :
  ∃ G ah bk Gm c,Gs[i]? = some G /\ G.row = old /\ gF nms Gs i 1 [new] ah bk Gm c Gs' /\ Gm.length + c = if fin (jb [0] (rs.take i)) old.cps.toList = fin (jb [0] (rs.take i)) new.cps.toList then 1 else rs.length - i:=by
 have hi:=(List.getElem?_eq_some_iff.mp ho).1
 have hset:rs.set i new = rs.take i ++ [new] ++ rs.drop (i + 1):=by
  rw [List.set_eq_take_append_cons_drop,if_pos hi,List.append_assoc];rfl
 rw [hset] at hC'
 obtain ⟨ah,bk,Gm,c,CH,ea,eb,eGm,ec,b1,b2⟩:=yo hC (i:=i) (k:=1) (by omega) hC'
 have ht:(rs.drop i).take 1 = [old]:=by rw [fP ho];rfl
 have s0:cY [old] [new] = 0:=by rw [cY,if_neg hne]
 have ea0:ah = 0:=by rw [ea,ht,s0]
 have eb0:bk = 0:=by rw [eb,ht,ea0];exact s0
 clear ea eb
 subst ea0 eb0
 obtain ⟨G,hG,hGr,_⟩:=tX hC ho
 refine ⟨G,0,0,Gm,c,hG,hGr,CH,?_⟩
 have eGm:Gm.length = 1:=eGm
 rw [eGm]
 have ec:c = eU (Gs'.drop (i + 1)) (Gs.drop (i + 1)):=ec
 have k1:=hC.split (i + 1)
 have k2:=hC'.split (i + 1)
 have hil:(rs.take i).length = i:=by rw [List.length_take];omega
 have e1:rs.take (i + 1) = rs.take i ++ [old]:=by rw [List.take_add_one,ho];rfl
 have e2:(rs.take i ++ [new] ++ rs.drop (i + 1)).take (i + 1) = rs.take i ++ [new]:=by
  rw [List.take_append_of_le_length (by rw [List.length_append,hil];exact Nat.le_refl _),List.take_of_length_le (by rw [List.length_append,hil];exact Nat.le_refl _)]
 have e3:(rs.take i ++ [new] ++ rs.drop (i + 1)).drop (i + 1) = rs.drop (i + 1):=by
  rw [List.drop_append_of_le_length (by rw [List.length_append,hil];exact Nat.le_refl _),List.drop_of_length_le (by rw [List.length_append,hil];exact Nat.le_refl _),List.nil_append]
 rw [e1] at k1
 rw [e2,e3] at k2
 have l1:=jV k1.1 Kd
 have l2:=jV k2.1 Kd
 have f1:jb [0] (rs.take i ++ [old]) = fin (jb [0] (rs.take i)) old.cps.toList:=r8 _ _ _
 have f2:jb [0] (rs.take i ++ [new]) = fin (jb [0] (rs.take i)) new.cps.toList:=r8 _ _ _
 have hb:kI (jb [0] (rs.take i)):=by
  have:=(hC.split i).1
  exact (jV this Kd).2
 have p1:=iG k1.2 (by rw [l1.1];exact l1.2) (by rw [l1.1,f1];exact hb.fin.2) hp
 have p2:=iG k2.2 (by rw [l2.1];exact l2.2) (by rw [l2.1,f2];exact hb.fin.2) hp
 rw [l1.1,f1] at p1
 rw [l2.1,f2] at p2
 have n1:=hC.len
 have n2:=hC'.len
 have n3:(rs.take i ++ [new] ++ rs.drop (i + 1)).length = rs.length:=by rw [← hset,List.length_set]
 rw [n3] at n2
 by_cases e:fin (jb [0] (rs.take i)) old.cps.toList = fin (jb [0] (rs.take i)) new.cps.toList
 ·rw [if_pos e,ec,Fe p2 (by rw [← e];exact p1)]
 ·rw [if_neg e,ec,wu (λz=>e z.symm) p2 p1 (by rw [List.length_drop,List.length_drop,n1,n2]),List.length_drop,n2]
  omega
theorem ja {x z:Str} {j:Nat} (h:j <= x.length):(bR x j z).cps.toList = x.cps.toList.take j ++ z.cps.toList ++ x.cps.toList.drop j:=by
 unfold bR
 rw [f7,f7,uo,jz _ _ h]
theorem E1 {x y:Str} {j k:Nat} (h:k <= y.length):(ly x j y k).cps.toList = x.cps.toList.take j ++ y.cps.toList.drop k:=by
 unfold ly
 rw [f7,uo,jz _ _ h]
structure Turn (rs:List Str) (i:Nat) (old new:Str) (due:Nat):Prop where
 at_:rs[i]? = some old
 ne:old ≠ new
 pl:∀ r ∈ rs.drop (i + 1),gD r
 sh:∀ r ∈ rs,r.length <= 40
 LN:new.length <= 40
 nl:10 ∉ new.cps.toList
 nlo:10 ∉ old.cps.toList
 len:rs.length <= 60
 due:due = if fin (jb [0] (rs.take i)) old.cps.toList = fin (jb [0] (rs.take i)) new.cps.toList then 1 else rs.length - i
theorem CI {rs:List Str} {i:Nat} {old new:Str} (h:rs[i]? = some old):(rs.set i new).set i old = rs:=by
 rw [List.set_set]
 obtain ⟨hi,e⟩:=List.getElem?_eq_some_iff.mp h
 rw [← e]
 exact List.set_getElem_self hi
theorem gS {rs:List Str} {i:Nat} {new:Str}:(rs.set i new).take i = rs.take i:=List.take_set_of_le (Nat.le_refl _)
theorem gU {rs:List Str} {i j:Nat} {new:Str} (h:i < j):(rs.set i new).drop j = rs.drop j:=List.drop_set_of_lt h
theorem Turn.back {rs:List Str} {i:Nat} {old new:Str} {due:Nat} (h:Turn rs i old new due):Turn (rs.set i new) i new old due:=by
 have hi:=(List.getElem?_eq_some_iff.mp h.at_).1
 refine ⟨List.getElem?_set_self hi,h.ne.symm,?_,λr hr=>?_,h.sh _ (List.mem_of_getElem? h.at_),h.nlo,h.nl,by rw [List.length_set];exact h.len,?_⟩
 ·rw [gU (Nat.lt_succ_self i)];exact h.pl
 ·rcases List.mem_or_eq_of_mem_set hr with z | z
  ·exact h.sh r z
  ·rw [z];exact h.LN
 ·rw [gS,List.length_set,h.due]
  by_cases e:fin (jb [0] (rs.take i)) old.cps.toList = fin (jb [0] (rs.take i)) new.cps.toList
  ·rw [if_pos e,if_pos e.symm]
  ·rw [if_neg e,if_neg (λz=>e z.symm)]
theorem Turn.run {rs:List Str} {i:Nat} {old new:Str} {due:Nat} (h:Turn rs i old new due) {Gs:List bA} (hC:Chain nms [0] rs Gs):∃ Gs' G ah bk Gm c,Chain nms [0] (rs.set i new) Gs' /\ Gs[i]? = some G /\ G.row = old /\ gF nms Gs i 1 [new] ah bk Gm c Gs' /\ Gm.length + c = due:=by
 have hl:=h.len
 obtain ⟨Gs',hC'⟩:=iz (rs.set i new) [0] Kd (λr hr=>by
  rcases List.mem_or_eq_of_mem_set hr with z | z
  ·have:=h.sh r z;omega
  ·rw [z];have:=h.LN;omega) (by rw [List.length_set];show 1 + _ <= _;omega)
 obtain ⟨G,ah,bk,Gm,c,k1,k2,k3,k4⟩:=xY hC h.at_ hC' h.ne h.pl
 exact ⟨Gs',G,ah,bk,Gm,c,hC',k1,k2,k3,by rw [k4,← h.due]⟩
structure Ca where
 put:Bool
 i:Nat
 pl:Nat
 z:Str
 due:Nat
def J5 (D:Ca) (old:Str):Str:=if D.put = true then bR old D.pl D.z else ly old D.pl old (D.pl + D.z.length)
structure iM (rs:List Str) (D:Ca) (old:Str) (rs':List Str):Prop where
 tn:Turn rs D.i old (J5 D old) D.due
 eq:rs' = rs.set D.i (J5 D old)
 h1:D.put = true -> D.pl <= old.length
 h2:D.put = false -> D.pl + D.z.length <= old.length
 hz:D.z.length <= 40
theorem iM.back {rs rs':List Str} {i pl due:Nat} {z old:Str} (h:iM rs ⟨true,i,pl,z,due⟩ old rs'):iM rs' ⟨false,i,pl,z,due⟩ (bR old pl z) rs:=by
 have hp:pl <= old.length:=h.h1 rfl
 have hl:(bR old pl z).length = old.length + z.length:=by
  rw [← aU,ja hp,List.length_append,List.length_append,List.length_take,List.length_drop,aU,aU];omega
 have e:ly (bR old pl z) pl (bR old pl z) (pl + z.length) = old:=by
  apply m9
  have ht:(old.cps.toList.take pl).length = pl:=by rw [List.length_take,aU];omega
  have ht2:(old.cps.toList.take pl ++ z.cps.toList).length = pl + z.length:=by rw [List.length_append,ht,aU]
  rw [E1 (by omega),ja hp]
  rw [List.append_assoc,List.take_append_of_le_length (by omega),List.take_of_length_le (Nat.le_of_eq ht),← List.append_assoc,List.drop_append_of_le_length (by omega),List.drop_of_length_le (Nat.le_of_eq ht2),List.nil_append,List.take_append_drop]
 have tn:Turn rs i old (bR old pl z) due:=h.tn
 have eq:rs' = rs.set i (bR old pl z):=h.eq
 refine ⟨?_,?_,(λz=>by cases z),(λ_=>by show pl + z.length <= (bR old pl z).length;omega),h.hz⟩
 ·show Turn rs' i (bR old pl z) (ly (bR old pl z) pl (bR old pl z) (pl + z.length)) due
  rw [e,eq]
  exact tn.back
 ·show rs = rs'.set i (ly (bR old pl z) pl (bR old pl z) (pl + z.length))
  rw [e,eq,CI tn.at_]
structure Base (rs:List Str):Prop where
 pl:∀ r ∈ rs,gD r
 sh:∀ r ∈ rs,r.length <= 4
 len:rs.length <= 60
theorem gD.no {r:Str} (h:gD r) {k:Nat} (h1:k ≠ 97) (h2:k ≠ 98):k ∉ r.cps.toList:=λz=>(h k z).elim h1 h2
theorem zl {on:List Nat} {k:Nat}:bz (on ++ [k]) = k:=by unfold bz;rw [List.getLastD_eq_getLast?,List.getLast?_concat];rfl
theorem jH:∀ {d:Nat} {on:List Nat},bz on ≠ 2 -> (List.replicate d 40).foldl nx on = on ++ List.replicate d 1
 | 0,on,_=>by simp
 | d + 1,on,h=>by
  have e:nx on 40 = on ++ [1]:=by unfold nx;rw [if_neg h,if_pos rfl]
  rw [List.replicate_succ,List.foldl_cons,e,jH (by rw [zl];decide),List.replicate_succ,List.append_assoc]
  rfl
theorem J4:bz [0] ≠ 2:=by decide
abbrev qe (d:Nat):List Nat:=[0] ++ List.replicate d 1
theorem uI (d:Nat):qe (d + 1) = qe d ++ [1]:=by unfold qe;rw [List.replicate_succ',List.append_assoc]
theorem yP {d:Nat} (h:1 <= d):bz (qe d) = 1:=by
 obtain ⟨e,rfl⟩:∃ e,d = e + 1:=⟨d - 1,by omega⟩
 rw [uI,zl]
theorem EZ {d:Nat} (h:1 <= d):jB (qe d) = qe (d - 1):=by
 obtain ⟨e,rfl⟩:∃ e,d = e + 1:=⟨d - 1,by omega⟩
 rw [uI]
 unfold jB
 rw [if_neg (by simp),List.dropLast_concat]
 rfl
theorem A4 {d e:Nat} (h:d ≠ e):qe d ≠ qe e:=λz=>by
 have:=congrArg List.length z
 simp at this
 exact h this
theorem kY (d:Nat):bz (qe d) ≠ 2:=by
 by_cases h:1 <= d
 ·rw [yP h];decide
 ·have:d = 0:=by omega
  subst this;decide
theorem k9 {d:Nat} {P:List Nat} (hP:∀ c ∈ P,c = 97 ∨ c = 98):fin [0] (List.replicate d 40 ++ P) = qe d:=by
 unfold fin
 rw [List.foldl_append,jH J4,fold_plain hP,if_neg (kY d)]
theorem oN {A B:List Nat} {d:Nat} (h:1 <= d) (hA:∀ c ∈ A,c = 97 ∨ c = 98) (hB:∀ c ∈ B,c = 97 ∨ c = 98):(A ++ [41] ++ B).foldl nx (qe d) = qe (d - 1):=by
 have e:nx (qe d) 41 = qe (d - 1):=by
  unfold nx
  rw [if_neg (kY d),if_neg (by decide),if_neg (by decide),if_neg (by rw [yP h];decide),if_pos rfl,EZ h]
 rw [List.foldl_append,List.foldl_append,fold_plain hA,List.foldl_cons,e,List.foldl_nil,fold_plain hB]
theorem zY {A B:List Nat} {d:Nat} (h:1 <= d) (hA:∀ c ∈ A,c = 97 ∨ c = 98) (hB:∀ c ∈ B,c = 97 ∨ c = 98):fin (qe d) (A ++ [41] ++ B) = qe (d - 1):=by
 unfold fin
 rw [oN h hA hB,if_neg (kY _)]
theorem j9 {α:Type} {l:List α} {n:Nat} {x:α} (h:x ∈ l.take n):x ∈ l:=List.mem_of_mem_take h
theorem Base.take {rs:List Str} (B:Base rs) (i:Nat):jb [0] (rs.take i) = [0]:=i9 (λr hr=>B.pl r (j9 hr)) J4
theorem Base.drop {rs:List Str} (B:Base rs) (i:Nat):∀ r ∈ rs.drop i,gD r:=λr hr=>B.pl r (List.mem_of_mem_drop hr)
theorem KH {rs:List Str} (B:Base rs) {f:Nat} {q:Str} (hq:q.length <= 40):∀ r ∈ rs.set f q,r.length <= 40:=λr hr=>by
 rcases List.mem_or_eq_of_mem_set hr with z | z
 ·have:=B.sh r z;omega
 ·rw [z];exact hq
theorem xK {x y:Str} (h:x.cps.toList.length ≠ y.cps.toList.length):x ≠ y:=λz=>h (by rw [z])
theorem Kl {rs:List Str} (B:Base rs) {f d:Nat} {p Z:Str} (hf:rs[f]? = some p) (hd:1 <= d) (hd2:d <= 12) (hZ:Z.cps.toList = List.replicate d 40):iM rs ⟨true,f,0,Z,rs.length - f⟩ p (rs.set f (bR p 0 Z)):=by
 have hp:=B.pl p (List.mem_of_getElem? hf)
 have hl:=B.sh p (List.mem_of_getElem? hf)
 have hZl:Z.length = d:=by rw [← aU,hZ,List.length_replicate]
 have ec:(bR p 0 Z).cps.toList = List.replicate d 40 ++ p.cps.toList:=by rw [ja (Nat.zero_le _),hZ];rfl
 have el:(bR p 0 Z).length = d + p.length:=by rw [← aU,ec,List.length_append,List.length_replicate,aU]
 refine ⟨⟨hf,?_,B.drop _,(λr hr=>by have:=B.sh r hr;omega),(by show (bR p 0 Z).length <= 40;omega),?_,hp.no (by decide) (by decide),B.len,?_⟩,rfl,(λ_=>Nat.zero_le _),(λz=>by cases z),by show Z.length <= 40;omega⟩
 ·exact xK (by show p.cps.toList.length ≠ (bR p 0 Z).cps.toList.length;rw [aU,aU,el];omega)
 ·show 10 ∉ (bR p 0 Z).cps.toList
  rw [ec]
  intro z
  rcases List.mem_append.mp z with z | z
  ·have:=(List.mem_replicate.mp z).2;omega
  ·exact hp.no (by decide) (by decide) z
 ·show rs.length - f = if fin (jb [0] (rs.take f)) p.cps.toList = fin (jb [0] (rs.take f)) (bR p 0 Z).cps.toList then 1 else rs.length - f
  rw [B.take,ec,k9 hp,gX hp J4,if_neg]
  exact A4 (d:=0) (by omega)
theorem Ld {rs:List Str} (B:Base rs) {f s d pl:Nat} {p p2 Z C:Str} (hf:rs[f]? = some p) (hs:rs[s]? = some p2) (hfs:f <= s) (hd:1 <= d) (hd2:d <= 12) (hZ:Z.cps.toList = List.replicate d 40) (hC:C.cps.toList = [41]) (hpl:pl <= p2.length) :
  ∃ old,iM (rs.set f (bR p 0 Z)) ⟨true,s,pl + (if f = s then d else 0),C,rs.length - s⟩ old ((rs.set f (bR p 0 Z)).set s (bR old (pl + (if f = s then d else 0)) C)):=by
 have hp:=B.pl p (List.mem_of_getElem? hf)
 have hl:=B.sh p (List.mem_of_getElem? hf)
 have hp2:=B.pl p2 (List.mem_of_getElem? hs)
 have hl2:=B.sh p2 (List.mem_of_getElem? hs)
 have hfl:=(List.getElem?_eq_some_iff.mp hf).1
 have hCl:C.length = 1:=by rw [← aU,hC];rfl
 have ec:(bR p 0 Z).cps.toList = List.replicate d 40 ++ p.cps.toList:=by rw [ja (Nat.zero_le _),hZ];rfl
 have el:(bR p 0 Z).length = d + p.length:=by rw [← aU,ec,List.length_append,List.length_replicate,aU]
 have nq:10 ∉ (bR p 0 Z).cps.toList:=by
  rw [ec]
  intro z
  rcases List.mem_append.mp z with z | z
  ·have:=(List.mem_replicate.mp z).2;omega
  ·exact hp.no (by decide) (by decide) z
 have key:∀ old w,(rs.set f (bR p 0 Z))[s]? = some old -> w <= old.length -> old.length <= 16 -> 10 ∉ old.cps.toList -> fin (jb [0] ((rs.set f (bR p 0 Z)).take s)) old.cps.toList = qe d -> fin (jb [0] ((rs.set f (bR p 0 Z)).take s)) (old.cps.toList.take w ++ [41] ++ old.cps.toList.drop w) = qe (d - 1) -> iM (rs.set f (bR p 0 Z)) ⟨true,s,w,C,rs.length - s⟩ old ((rs.set f (bR p 0 Z)).set s (bR old w C)):=by
  intro old w h1 h2 h3 h4 h5 h6
  have en:(bR old w C).cps.toList = old.cps.toList.take w ++ [41] ++ old.cps.toList.drop w:=by rw [ja h2,hC]
  have eln:(bR old w C).length = old.length + 1:=by
   rw [← aU,en,List.length_append,List.length_append,List.length_take,List.length_drop,aU]
   show min w old.length + 1 + (old.length - w) = _
   omega
  refine ⟨⟨h1,?_,?_,KH B (by omega),(by show (bR old w C).length <= 40;omega),?_,h4,by rw [List.length_set];exact B.len,?_⟩,rfl,(λ_=>h2),(λz=>by cases z),by show C.length <= 40;omega⟩
  ·exact xK (by show old.cps.toList.length ≠ (bR old w C).cps.toList.length;rw [aU,aU,eln];omega)
  ·show ∀ r ∈ (rs.set f (bR p 0 Z)).drop (s + 1),gD r
   rw [gU (by omega)]
   exact B.drop _
  ·show 10 ∉ (bR old w C).cps.toList
   rw [en]
   intro z
   rcases List.mem_append.mp z with z | z
   ·rcases List.mem_append.mp z with z | z
    ·exact h4 (List.mem_of_mem_take z)
    ·have:=List.mem_singleton.mp z;omega
   ·exact h4 (List.mem_of_mem_drop z)
  ·show rs.length - s = if fin (jb [0] ((rs.set f (bR p 0 Z)).take s)) old.cps.toList = fin (jb [0] ((rs.set f (bR p 0 Z)).take s)) (bR old w C).cps.toList then 1 else (rs.set f (bR p 0 Z)).length - s
   rw [en,h5,h6,if_neg (A4 (by omega)),List.length_set]
 by_cases e:f = s
 ·subst e
  rw [hf] at hs
  have hs:=Option.some.inj hs
  subst hs
  rw [if_pos rfl]
  have eb:jb [0] ((rs.set f (bR p 0 Z)).take f) = [0]:=by rw [gS,B.take]
  refine ⟨bR p 0 Z,key _ _ (List.getElem?_set_self hfl) (by omega) (by omega) nq ?_ ?_⟩
  ·rw [eb,ec,k9 hp]
  ·rw [eb,ec]
   have hr:(List.replicate d 40).length = d:=List.length_replicate
   rw [show pl + d = (List.replicate d 40).length + pl by rw [hr];omega,List.take_length_add_append,List.drop_length_add_append,List.append_assoc,List.append_assoc]
   unfold fin
   rw [List.foldl_append,jH J4,← List.append_assoc]
   show (if bz ((p.cps.toList.take pl ++ [41] ++ p.cps.toList.drop pl).foldl nx (qe d)) = 2 then jB ((p.cps.toList.take pl ++ [41] ++ p.cps.toList.drop pl).foldl nx (qe d)) else (p.cps.toList.take pl ++ [41] ++ p.cps.toList.drop pl).foldl nx (qe d)) = _
   rw [oN hd (λc hc=>hp c (List.mem_of_mem_take hc)) (λc hc=>hp c (List.mem_of_mem_drop hc)),if_neg (kY _)]
 ·rw [if_neg e]
  have hlt:f < s:=by omega
  have eb:jb [0] ((rs.set f (bR p 0 Z)).take s) = qe d:=by
   rw [List.take_set,List.set_eq_take_append_cons_drop,if_pos (by rw [List.length_take];omega),r8]
   have h1:jb [0] ((rs.take s).take f) = [0]:=i9 (λr hr=>B.pl r (j9 (j9 hr))) J4
   rw [h1]
   show jb (fin [0] (bR p 0 Z).cps.toList) ((rs.take s).drop (f + 1)) = _
   rw [ec,k9 hp]
   exact i9 (λr hr=>B.pl r (j9 (List.mem_of_mem_drop hr))) (kY d)
  refine ⟨p2,key _ _ (by rw [List.getElem?_set_ne e];exact hs) (by omega) (by omega) (hp2.no (by decide) (by decide)) ?_ ?_⟩
  ·rw [eb,gX hp2 (kY d)]
  ·rw [eb]
   exact zY hd (λc hc=>hp2 c (List.mem_of_mem_take hc)) (λc hc=>hp2 c (List.mem_of_mem_drop hc))
theorem Lu {rs:List Str} (B:Base rs) {f:Nat} {p Z:Str} (hf:rs[f]? = some p) (hZ:Z.cps.toList = [35]):iM rs ⟨true,f,0,Z,1⟩ p (rs.set f (bR p 0 Z)):=by
 have hp:=B.pl p (List.mem_of_getElem? hf)
 have hl:=B.sh p (List.mem_of_getElem? hf)
 have hZl:Z.length = 1:=by rw [← aU,hZ];rfl
 have ec:(bR p 0 Z).cps.toList = 35 :: p.cps.toList:=by rw [ja (Nat.zero_le _),hZ];rfl
 have el:(bR p 0 Z).length = 1 + p.length:=by rw [← aU,ec,List.length_cons,aU];omega
 refine ⟨⟨hf,?_,B.drop _,(λr hr=>by have:=B.sh r hr;omega),(by show (bR p 0 Z).length <= 40;omega),?_,hp.no (by decide) (by decide),B.len,?_⟩,rfl,(λ_=>Nat.zero_le _),(λz=>by cases z),by show Z.length <= 40;omega⟩
 ·exact xK (by show p.cps.toList.length ≠ (bR p 0 Z).cps.toList.length;rw [aU,aU,el];omega)
 ·show 10 ∉ (bR p 0 Z).cps.toList
  rw [ec]
  intro z
  rcases List.mem_cons.mp z with z | z
  ·omega
  ·exact hp.no (by decide) (by decide) z
 ·show 1 = if fin (jb [0] (rs.take f)) p.cps.toList = fin (jb [0] (rs.take f)) (bR p 0 Z).cps.toList then 1 else rs.length - f
  rw [B.take,ec,gX hp J4,if_pos]
  unfold fin
  rw [List.foldl_cons,show nx [0] 35 = [0,2] by decide,fold_plain hp]
  decide
theorem zy {rs:List Str} (B:Base rs) {f:Nat} {p u v:Str} {U W:List Nat} (hf:rs[f]? = some p) (hu:u.cps.toList.foldl nx [0] = U) (hv:v.cps.toList.foldl nx [0] = W) (h1:bz U ≠ 2) (h2:bz W ≠ 2) (hne:U ≠ W) (lu:u.length <= 2) (lv:v.length <= 2) (nu:10 ∉ u.cps.toList) (nv:10 ∉ v.cps.toList):Turn (rs.set f (u ++ p)) f (u ++ p) (v ++ p) (rs.length - f):=by
 have hp:=B.pl p (List.mem_of_getElem? hf)
 have hl:=B.sh p (List.mem_of_getElem? hf)
 have hfl:=(List.getElem?_eq_some_iff.mp hf).1
 have fu:fin [0] (u ++ p).cps.toList = U:=by unfold fin;rw [f7,List.foldl_append,fold_plain hp,hu,if_neg h1]
 have fv:fin [0] (v ++ p).cps.toList = W:=by unfold fin;rw [f7,List.foldl_append,fold_plain hp,hv,if_neg h2]
 have nl:∀ w:Str,10 ∉ w.cps.toList -> 10 ∉ (w ++ p).cps.toList:=λw hw=>by
  rw [f7]
  intro z
  rcases List.mem_append.mp z with z | z
  ·exact hw z
  ·exact hp.no (by decide) (by decide) z
 refine ⟨List.getElem?_set_self hfl,(λz=>hne (by rw [← fu,← fv,z])),?_,KH B (by rw [PySem.strLen_append];omega),by rw [PySem.strLen_append];omega,nl v nv,nl u nu,by rw [List.length_set];exact B.len,?_⟩
 ·rw [gU (Nat.lt_succ_self f)];exact B.drop _
 ·rw [gS,B.take,fu,fv,if_neg hne,List.length_set]
def JF (s z:Str):Bool:=decide (s ∈ sorts) && (if bare s then decide (z = "") else decide (1 <= z.length /\ z.length <= 200 /\ 95 ∉ z.cps.toList /\ 10 ∉ z.cps.toList))
def Er (n:Nat) (R:bx):Bool:=JF R.sort R.signs && (if fY R.sort = true then isName R.bh else decide (R.bh = "")) && decide (R.bQ ∈ wO) && (match R.goal with
 | some g=>decide (kh R.bQ /\ g < n)
 | none=>decide (¬ kh R.bQ)) && decide (R.fold = "" ∨ R.fold = "open" ∨ R.fold = "close")
theorem zF {s z:Str} (h:JF s z = true):m7 s z:=by
 unfold JF at h
 rw [Bool.and_eq_true] at h
 obtain ⟨h1,h2⟩:=h
 refine ⟨of_decide_eq_true h1,λhb=>?_,λhb=>?_⟩
 ·rw [if_pos hb] at h2;exact of_decide_eq_true h2
 ·rw [if_neg hb] at h2;exact of_decide_eq_true h2
theorem qW {names:List Str} {R:bx} (h:Er names.length R = true):g7 names R:=by
 unfold Er at h
 rw [Bool.and_eq_true,Bool.and_eq_true,Bool.and_eq_true,Bool.and_eq_true] at h
 obtain ⟨⟨⟨⟨h1,h2⟩,h3⟩,h4⟩,h5⟩:=h
 refine ⟨zF h1,λhb=>?_,λhb=>?_,of_decide_eq_true h3,λhg=>?_,λhg=>?_,of_decide_eq_true h5⟩
 ·rw [if_pos hb] at h2;exact h2
 ·rw [hb] at h2;exact of_decide_eq_true h2
 ·cases e:R.goal with
  | some g=>rw [e] at h4;exact ⟨g,rfl,(of_decide_eq_true h4).2⟩
  | none=>rw [e] at h4;exact absurd hg (of_decide_eq_true h4)
 ·cases e:R.goal with
  | some g=>rw [e] at h4;exact absurd (of_decide_eq_true h4).1 hg
  | none=>rfl
def E5 (its:List Item) (i:Nat):Bool:=match its[i]? with
 | some (.mode n c)=>isName n && isName c && decide ((namesOf (its.take i)).length < 12) && decide (n ∉ namesOf (its.take i))
 | some (.rule R)=>Er (namesOf its).length R && (match (foldI (its.take i)).getLast? with
  | some m=>decide (m.rules.length < 12)
  | none=>false)
 | none=>true
theorem zT {its:List Item} (h0:its ≠ []) (h:(List.range its.length).all (E5 its) = true):dY its:=by
 have at_:∀ i it,its[i]? = some it -> E5 its i = true:=λi it e=>List.all_eq_true.mp h i (List.mem_range.mpr (List.getElem?_eq_some_iff.mp e).1)
 refine ⟨h0,λi n c e=>?_,λi R e=>?_⟩
 ·have:=at_ i _ e
  unfold E5 at this
  rw [e] at this
  dsimp only at this
  rw [Bool.and_eq_true,Bool.and_eq_true,Bool.and_eq_true] at this
  exact ⟨this.1.1.1,this.1.1.2,of_decide_eq_true this.1.2,of_decide_eq_true this.2⟩
 ·have:=at_ i _ e
  unfold E5 at this
  rw [e] at this
  dsimp only at this
  rw [Bool.and_eq_true] at this
  refine ⟨qW this.1,?_⟩
  cases z:(foldI (its.take i)).getLast? with
  | none=>rw [z] at this;cases this.2
  | some m =>
   rw [z] at this
   obtain ⟨ms,e2⟩:=List.getLast?_eq_some_iff.mp z
   exact ⟨ms,m,e2,of_decide_eq_true this.2⟩
def Ly (ms:List aN):Bool:=decide (0 < ms.length) && decide (ms.length <= 200) && ms.all λm=>decide (m.rules.length <= 200) && m.rules.all λR=>Er ms.length R
theorem Ar {ms:List aN} (h:Ly ms = true):dw ms:=by
 unfold Ly at h
 rw [Bool.and_eq_true,Bool.and_eq_true] at h
 obtain ⟨⟨h1,h2⟩,h3⟩:=h
 have ru:∀ m ∈ ms,m.rules.length <= 200 /\ ∀ R ∈ m.rules,g7 (ms.map (·.name)) R:=λm hm=>by
  have:=List.all_eq_true.mp h3 m hm
  rw [Bool.and_eq_true] at this
  exact ⟨of_decide_eq_true this.1,λR hR=>qW (by rw [List.length_map];exact List.all_eq_true.mp this.2 R hR)⟩
 refine ⟨of_decide_eq_true h1,of_decide_eq_true h2,λm hm=>⟨(ru m hm).1,λR hR=>?_⟩,λm hm R hR=>((ru m hm).2 R hR).bQ,λm hm R hR hg=>?_⟩
 ·have g:=((ru m hm).2 R hR).pat
  refine ⟨g.sort,?_⟩
  by_cases hb:bare R.sort
  ·rw [g.MH hb];decide +kernel
  ·exact (g.sg hb).2.1
 ·obtain ⟨g,e,h⟩:=((ru m hm).2 R hR).goal hg
  exact ⟨g,e,by rw [List.length_map] at h;exact h⟩
abbrev Am:List Item:=[.mode "code" "plain",.rule q0,.rule q1,.rule q2,.mode "remark" "green",.rule q0,.rule q1,.rule q3,.mode "line" "blue",.rule q4,.mode "other" "gray",.rule q0,.rule q1,.rule q3]
theorem An:dY Am:=zT (by simp) (by decide +kernel)
theorem zU:foldI Am = nms:=rfl
theorem qS:rowsOf Am = (["mode code plain","word '( red push remark open","word '[ red push other","word '# blue push line","mode remark green","word '( red push remark open","word '[ red push other","word ') red pop close","mode line blue","end pop","mode other gray","word '( red push remark open","word '[ red push other","word ') red pop close"]:List Str):=by decide +kernel
theorem ig:dw nms:=Ar (by decide +kernel)
theorem uJ:lX nms = none:=by decide +kernel
theorem A5:Wk nms:=by
 refine ⟨ig,λm hm R hR hb=>?_⟩
 have:∀ m ∈ nms,∀ R ∈ m.rules,bare R.sort ∨ 1 <= R.signs.length:=by decide +kernel
 exact (this m hm R hR).elim (λz=>absurd z hb) (λz=>z)
theorem bw.ff {α β:Type} {R:α -> β -> Prop} {a:α} {b:β} {as:List α} {bs:List β} (h:R a b) (t:bw R as bs):bw R (a :: as) (b :: bs):=by
 refine ⟨by rw [List.length_cons,List.length_cons,t.1],λi x y hx hy=>?_⟩
 cases i with
 | zero=>cases hx;cases hy;exact h
 | succ i=>exact t.2 i x y hx hy
def BP:Sp:=λvs H Q _=>vs = [] /\ ∀ lm H',D8 H' lm nms -> ak H H' -> Q (.ref lm) H'
theorem GW (T:Txt K mg t):bC P w K mg base dh 1 t.o9 t.v9 [] BP:=by
 refine T.vJ.ok oF (λvs H Q E h=>?_) (λcdv A outer s H vs Q E hr h=>mY ?_)
 ·obtain ⟨rfl,_⟩:=h
  rfl
 ·obtain ⟨rfl,q⟩:=h
  have mk:∀ {H':Hp} {p:Addr} {R:bx},R.signs.length <= 200 -> H' p = some (.tup (KS R R.signs)) -> LR H' p R:=λh1 h2=>⟨_,h2,h1,λ_=>rfl⟩
  refine @aM _ _ _ _ _ _ _ (λσ' H'=>∃ p0 p1 l0,σ' = [some (.ref l0),none,none,none] /\ LR H' p0 q0 /\ LR H' p1 q1 /\ H' l0 = some (.lst [.ref p0,.ref p1]) /\ ak H H') (@aE _ _ 0 _ _ _ _ oF.nd rfl (Or.inl rfl) (@bG _ _ _ _ (@aa _ _ _ _ _ (@cD _ _ _ _ _ (@aa _ _ _ _ _ aG (@aa _ _ _ _ _ aG (@aa _ _ _ _ _ aG (@aa _ _ _ _ _ aG (@aa _ _ _ _ _ az (@aa _ _ _ _ _ aG ai (by left)) (by left)) (by left)) (by left)) (by left)) (by left))) (@aa _ _ _ _ _ (@cD _ _ _ _ _ (@aa _ _ _ _ _ aG (@aa _ _ _ _ _ aG (@aa _ _ _ _ _ aG (@aa _ _ _ _ _ aG (@aa _ _ _ _ _ az (@aa _ _ _ _ _ aG ai (by left)) (by left)) (by left)) (by left)) (by left)) (by left))) ai (by left)) (by left))) (by left) (by left)) ⟨by show 6 <= sizeLine;decide,λp0 g0=>⟨by show 6 <= sizeLine;decide,λp1 g1=>⟨by show 2 <= sizeLine;decide,λl0 g2=>⟨p0,p1,l0,rfl,mk (by decide +kernel) (ak.upd g2 _ _ (ak.upd g1 _ _ af)),mk (by decide +kernel) (ak.upd g2 _ _ af),af,((ak.upd g0).to g1).to g2⟩⟩⟩⟩ ?_
  rintro σ' H1 ⟨p0,p1,l0,rfl,r0,r1,h0,s1⟩
  refine @aM _ _ _ _ _ _ _ (λσ' H'=>∃ p2 l2,σ' = [some (.ref l0),some (.ref l2),none,none] /\ LR H' p2 q2 /\ H' l2 = some (.lst [.ref p0,.ref p1,.ref p2]) /\ ak H1 H') (@aE _ _ 1 _ _ _ _ oF.nd rfl (Or.inl rfl) (@aT _ _ _ _ _ _ _ _ eu (pv 0) (@bG _ _ _ _ (@aa _ _ _ _ _ (@cD _ _ _ _ _ (@aa _ _ _ _ _ aG (@aa _ _ _ _ _ aG (@aa _ _ _ _ _ aG (@aa _ _ _ _ _ aG (@aa _ _ _ _ _ az (@aa _ _ _ _ _ aG ai (by left)) (by left)) (by left)) (by left)) (by left)) (by left))) ai (by left)))) (by left) (by left)) ⟨_,rfl,by show 6 <= sizeLine;decide,λp2 g3=>⟨by show 1 <= sizeLine;decide,λl1 g4=>⟨l0,l1,_,_,rfl,rfl,ak.upd g4 _ _ (ak.upd g3 _ _ h0),af,by show 3 <= sizeLine;decide,λl2 g5=>⟨p2,l2,rfl,mk (by decide +kernel) (ak.upd g5 _ _ (ak.upd g4 _ _ af)),af,((ak.upd g3).to g4).to g5⟩⟩⟩⟩ ?_
  rintro σ' H2 ⟨p2,l2,rfl,r2,h2,s2⟩
  refine @aM _ _ _ _ _ _ _ (λσ' H'=>∃ p3 l4,σ' = [some (.ref l0),some (.ref l2),some (.ref l4),none] /\ LR H' p3 q3 /\ H' l4 = some (.lst [.ref p0,.ref p1,.ref p3]) /\ ak H2 H') (@aE _ _ 2 _ _ _ _ oF.nd rfl (Or.inl rfl) (@aT _ _ _ _ _ _ _ _ eu (pv 0) (@bG _ _ _ _ (@aa _ _ _ _ _ (@cD _ _ _ _ _ (@aa _ _ _ _ _ aG (@aa _ _ _ _ _ aG (@aa _ _ _ _ _ aG (@aa _ _ _ _ _ aG (@aa _ _ _ _ _ bJ (@aa _ _ _ _ _ aG ai (by left)) (by left)) (by left)) (by left)) (by left)) (by left))) ai (by left)))) (by left) (by left)) ⟨_,rfl,by show 6 <= sizeLine;decide,λp2 g3=>⟨by show 1 <= sizeLine;decide,λl1 g4=>⟨l0,l1,_,_,rfl,rfl,ak.upd g4 _ _ (ak.upd g3 _ _ (s2 _ _ h0)),af,by show 3 <= sizeLine;decide,λl2 g5=>⟨p2,l2,rfl,mk (by decide +kernel) (ak.upd g5 _ _ (ak.upd g4 _ _ af)),af,((ak.upd g3).to g4).to g5⟩⟩⟩⟩ ?_
  rintro σ' H3 ⟨p3,l4,rfl,r3,h4,s3⟩
  refine @aM _ _ _ _ _ _ _ (λσ' H'=>∃ p4 l5,σ' = [some (.ref l0),some (.ref l2),some (.ref l4),some (.ref l5)] /\ LR H' p4 q4 /\ H' l5 = some (.lst [.ref p4]) /\ ak H3 H') (@aE _ _ 3 _ _ _ _ oF.nd rfl (Or.inl rfl) (@bG _ _ _ _ (@aa _ _ _ _ _ (@cD _ _ _ _ _ (@aa _ _ _ _ _ aG (@aa _ _ _ _ _ aG (@aa _ _ _ _ _ aG (@aa _ _ _ _ _ aG (@aa _ _ _ _ _ bJ (@aa _ _ _ _ _ aG ai (by left)) (by left)) (by left)) (by left)) (by left)) (by left))) ai (by left))) (by left) (by left)) ⟨by show 6 <= sizeLine;decide,λp4 g3=>⟨by show 1 <= sizeLine;decide,λl1 g4=>⟨p4,l1,rfl,mk (by decide +kernel) (ak.upd g4 _ _ af),af,(ak.upd g3).to g4⟩⟩⟩ ?_
  rintro σ' H4 ⟨p4,l5,rfl,r4,h5,s4⟩
  have s34:=s3.trans s4
  have s24:=s2.trans s34
  refine @au _ _ _ _ _ _ (@aI _ _ _ _ (@bG _ _ _ _ (@aa _ _ _ _ _ (@cD _ _ _ _ _ (@aa _ _ _ _ _ aG (@aa _ _ _ _ _ aG (@aa _ _ _ _ _ (pv 1) ai (by left)) (by left)) (by left))) (@aa _ _ _ _ _ (@cD _ _ _ _ _ (@aa _ _ _ _ _ aG (@aa _ _ _ _ _ aG (@aa _ _ _ _ _ (pv 2) ai (by left)) (by left)) (by left))) (@aa _ _ _ _ _ (@cD _ _ _ _ _ (@aa _ _ _ _ _ aG (@aa _ _ _ _ _ aG (@aa _ _ _ _ _ (pv 3) ai (by left)) (by left)) (by left))) (@aa _ _ _ _ _ (@cD _ _ _ _ _ (@aa _ _ _ _ _ aG (@aa _ _ _ _ _ aG (@aa _ _ _ _ _ (pv 2) ai (by left)) (by left)) (by left))) ai (by left)) (by left)) (by left)) (by left)))) ⟨_,rfl,by show 3 <= sizeLine;decide,λt0 g0=>⟨_,rfl,by show 3 <= sizeLine;decide,λt1 g1=>⟨_,rfl,by show 3 <= sizeLine;decide,λt2 g2=>⟨_,rfl,by show 3 <= sizeLine;decide,λt3 g3=>⟨by show 4 <= sizeLine;decide,λlm gm=>?_⟩⟩⟩⟩⟩
  have e0:∀ {H':Hp} {tm lr n c rs},H' tm = some (.tup [.str n,.str c,.ref lr]) -> H' lr = some (.lst (rs.map V.ref)) -> ∀ Rs,bw (LR H') rs Rs -> vc H' tm ⟨n,c,Rs⟩:=λh1 h2 Rs h3=>⟨_,_,h1,h2,h3⟩
  have sA:=((((ak.upd (o:=.tup [.str "code",.str "plain",.ref l2]) g0).to (o:=.tup [.str "remark",.str "green",.ref l4]) g1).to (o:=.tup [.str "line",.str "blue",.ref l5]) g2).to (o:=.tup [.str "other",.str "gray",.ref l4]) g3).to (o:=.lst [.ref t0,.ref t1,.ref t2,.ref t3]) gm
  have R0:=(r0.same s24).same sA
  have R1:=(r1.same s24).same sA
  have R2:=(r2.same s34).same sA
  have R3:=(r3.same s4).same sA
  have R4:=r4.same sA
  have L2:=sA _ _ (s34 _ _ h2)
  have L4:=sA _ _ (s4 _ _ h4)
  have L5:=sA _ _ h5
  refine q lm _ ⟨[t0,t1,t2,t3],af,?_⟩ ((s1.trans s24).trans sA)
  refine bw.ff (e0 (rs:=[p0,p1,p2]) (ak.upd gm _ _ (ak.upd g3 _ _ (ak.upd g2 _ _ (ak.upd g1 _ _ af)))) L2 _ (bw.ff R0 (bw.ff R1 (bw.ff R2 bw.nil)))) ?_
  refine bw.ff (e0 (rs:=[p0,p1,p3]) (ak.upd gm _ _ (ak.upd g3 _ _ (ak.upd g2 _ _ af))) L4 _ (bw.ff R0 (bw.ff R1 (bw.ff R3 bw.nil)))) ?_
  refine bw.ff (e0 (rs:=[p4]) (ak.upd gm _ _ (ak.upd g3 _ _ af)) L5 _ (bw.ff R4 bw.nil)) ?_
  exact bw.ff (e0 (rs:=[p0,p1,p3]) (ak.upd gm _ _ af) L4 _ (bw.ff R0 (bw.ff R1 (bw.ff R3 bw.nil)))) bw.nil
abbrev nb0:List Str:=["word '( red push remark open","word '[ red push other"]
abbrev nb1:List Str:=["word '( red push remark open","word '[ red push other","word ') red pop close"]
abbrev nb2:List Str:=["mode code plain","word '( red push remark open","word '[ red push other","word '# blue push line","mode remark green","word '( red push remark open","word '[ red push other","word ') red pop close"]
def sd:Sp:=λvs H Q _=>vs = [] /\ ∀ H',ak H H' -> Q (.str (Str.join ⟨#[10]⟩ (rowsOf Am))) H'
theorem Gh (T:Txt K mg t):bC P w K mg base dh 1 t.nQ t.sU [] sd:=by
 refine T.vK.ok rP (λvs H Q E h=>?_) (λcdv A outer s H vs Q E hr h=>mY ?_)
 ·obtain ⟨rfl,_⟩:=h
  rfl
 ·obtain ⟨rfl,q⟩:=h
  refine @aM _ _ _ _ _ _ _ (λσ' H'=>∃ l0,σ' = [some (.ref l0),none,none] /\ H' l0 = some (.lst (nb0.map V.str)) /\ ak H H') (@aE _ _ 0 _ _ _ _ rP.nd rfl (Or.inl rfl) (@bG _ _ _ _ (@aa _ _ _ _ _ aG (@aa _ _ _ _ _ aG ai (by left)) (by left))) (by left) (by left)) ⟨by show 2 <= sizeLine;decide,λl0 g0=>⟨l0,rfl,af,ak.upd g0⟩⟩ ?_
  rintro σ' H1 ⟨l0,rfl,h0,s1⟩
  refine @aM _ _ _ _ _ _ _ (λσ' H'=>∃ l2,σ' = [some (.ref l0),some (.ref l2),none] /\ H' l2 = some (.lst (nb1.map V.str)) /\ ak H1 H') (@aE _ _ 1 _ _ _ _ rP.nd rfl (Or.inl rfl) (@aT _ _ _ _ _ _ _ _ eu (pv 0) (@bG _ _ _ _ (@aa _ _ _ _ _ aG ai (by left)))) (by left) (by left)) ⟨_,rfl,by show 1 <= sizeLine;decide,λl1 g1=>⟨l0,l1,_,_,rfl,rfl,ak.upd g1 _ _ h0,af,by show 3 <= sizeLine;decide,λl2 g2=>⟨l2,rfl,af,(ak.upd g1).to g2⟩⟩⟩ ?_
  rintro σ' H2 ⟨l2,rfl,h2,s2⟩
  have h0':=s2 _ _ h0
  refine @aM _ _ _ _ _ _ _ (λσ' H'=>∃ l3,σ' = [some (.ref l0),some (.ref l2),some (.ref l3)] /\ H' l3 = some (.lst (nb2.map V.str)) /\ ak H2 H') (@aE _ _ 2 _ _ _ _ rP.nd rfl (Or.inl rfl) (@aT _ _ _ _ _ _ _ _ eu (@aT _ _ _ _ _ _ _ _ eu (@aT _ _ _ _ _ _ _ _ eu (@bG _ _ _ _ (@aa _ _ _ _ _ aG ai (by left))) (pv 0)) (@bG _ _ _ _ (@aa _ _ _ _ _ aG (@aa _ _ _ _ _ aG ai (by left)) (by left)))) (pv 1)) (by left) (by left)) ⟨by show 1 <= sizeLine;decide,λm0 e0=>⟨_,rfl,m0,l0,_,_,rfl,rfl,af,ak.upd e0 _ _ h0',by show 3 <= sizeLine;decide,λm1 e1=>⟨by show 2 <= sizeLine;decide,λm2 e2=>⟨m1,m2,_,_,rfl,rfl,ak.upd e2 _ _ af,af,by show 5 <= sizeLine;decide,λm3 e3=>⟨_,rfl,m3,l2,_,_,rfl,rfl,af,ak.upd e3 _ _ (ak.upd e2 _ _ (ak.upd e1 _ _ (ak.upd e0 _ _ h2))),by show 8 <= sizeLine;decide,λm4 e4=>⟨m4,rfl,af,((((ak.upd e0).to e1).to e2).to e3).to e4⟩⟩⟩⟩⟩⟩ ?_
  rintro σ' H3 ⟨l3,rfl,h3,s3⟩
  refine @au _ _ _ _ _ _ (@aI _ _ _ _ (@e9 _ _ _ _ _ _ _ _ _ _ _ _ F.plainAttrs_str F.slot_str_join F.type_str_join EL aG (@aa _ _ _ _ _ (@aT _ _ _ _ _ _ _ _ eu (@aT _ _ _ _ _ _ _ _ eu (pv 2) (@bG _ _ _ _ (@rY _ _ ["mode line blue","end pop","mode other gray"] rfl))) (pv 1)) ai (by left)) (by left) (by left) (by left) (by left) (by left))) ⟨rfl,_,rfl,by show 3 <= sizeLine;decide,λn0 f0=>⟨l3,n0,_,_,rfl,rfl,ak.upd f0 _ _ h3,af,by show 11 <= sizeLine;decide,λn1 f1=>⟨_,rfl,n1,l2,_,_,rfl,rfl,af,ak.upd f1 _ _ (ak.upd f0 _ _ (s3 _ _ h2)),by show 14 <= sizeLine;decide,λn2 f2=>⟨_,n2,rowsOf Am,rfl,rfl,bu.of (by rw [af,qS];rfl),?_,?_⟩⟩⟩⟩
  ·rw [show (Str.ofString "\n").length = 1 by decide +kernel,qS]
   exact bY (by decide +kernel)
  ·rw [join_eq]
   exact q _ ((((s1.trans s2).trans s3).to f0).to f1 |>.to f2)
theorem rH {n j:Nat} (h:j < n):Ac n (j:Int) = some j:=by
 rw [Ac,if_pos (by omega),if_pos (by omega),Int.toNat_natCast]
theorem jw {rs:List Str} {i:Nat} {r:Str} (h:rs[i]? = some r):we (rs.map V.str) (i:Int) = some (.str r):=bq (by rw [List.getElem?_map,h];rfl)
theorem nC {S:Addr -> Prop} {G H:Hp} (s:ak G H) (h:∀ b o,G b = some o -> ¬ S b):ak G (hid S H):=λb o e=>bD (s _ _ e) (h b o e)
theorem jY {S:Addr -> Prop} {H:Hp} {b:Addr} {o:HO} (h:S b):ak (hid S H) (hid S (upd H b o)):=λc u e=>bD (by rw [ao (λz=>dz e (by rw [z];exact h))];exact aJ _ _ e) (dz e)
theorem rD {H H':Hp} {x lr:Addr} (a:gy H H' x):ak (hid (λc=>c = x ∨ c = lr) H) (hid (λc=>c = x ∨ c = lr) H'):=λb o e=>bD (a b o (aJ _ _ e) (λz=>dz (S:=λc=>c = x ∨ c = lr) e (.inl z))) (dz e)
theorem zM {x:Str} (h:10 ∉ x.cps.toList):PySem.Txt.split x (Str.ofString "\n") = [x]:=by
 have e:Str.ofString "\n" = ⟨#[10]⟩:=by decide +kernel
 have:=jE (c:=10) (ps:=[x]) (by simp) (λp hp=>by rw [List.mem_singleton.mp hp];exact h)
 rw [e]
 exact this
structure St (t:fE) (H:Hp) (x dx lm lr:Addr) (rs:List Str) (Gs:List bA):Prop where
 lm:D8 (hid (λc=>c = x ∨ c = lr) H) lm nms
 tn:∃ a lg gs,bZ t (hid (λc=>c = lr) H) x dx a lg gs nms Gs
 lr:H lr = some (.lst (rs.map V.str))
 hC:Chain nms [0] rs Gs
theorem St.same {H H':Hp} {x dx lm lr:Addr} {rs:List Str} {Gs:List bA} (h:St t H x dx lm lr rs Gs) (s:ak H H'):St t H' x dx lm lr rs Gs:=⟨h.lm.same (bF s),let ⟨a,lg,gs,I⟩:=h.tn;⟨a,lg,gs,I.same (bF s)⟩,s _ _ h.lr,h.hC⟩
def DV (D:Ca):List V:=[.str (if D.put = true then "put" else "cut"),.int D.i,.int D.pl,.str D.z,.int D.due]
theorem n8 {rs:List Str} {i:Nat} {r:Str}:(rs.map V.str).set i (.str r) = (rs.set i r).map V.str:=List.map_set.symm
def yS (K:PySem.W.Frag):Sp:=λvs H Q _=>∃ (a:Addr) (ns:List Int),vs = [.ref a] /\ bu K H a (ns.map V.int) /\ ns.length <= 63 /\ ∀ H',Q (.bl true) H'
structure Plan (rs:List Str) (n f:Nat) (p:Str) (ds:List Ca) (ro:Nat -> List Str):Prop where
 B:Base rs
 len:rs.length = n
 at_:rs[f]? = some p
 r0:ro 0 = rs
 rl:ro ds.length = rs
 MG:∀ j D,ds[j]? = some D -> ∃ old,iM (ro j) D old (ro (j + 1))
theorem plan {rs:List Str} {n f s th d pl:Nat} {p p2 p3 Z:Str} (B:Base rs) (len:rs.length = n) (hf:rs[f]? = some p) (hs:rs[s]? = some p2) (ht:rs[th]? = some p3) (hfs:f <= s) (hd:1 <= d) (hd2:d <= 12) (hZ:Z.cps.toList = List.replicate d 40) (hpl:pl <= p2.length) :
  ∃ ro,Plan rs n f p [⟨true,f,0,Z,n - f⟩,⟨true,s,pl + (if f = s then d else 0),")",n - s⟩,⟨false,s,pl + (if f = s then d else 0),")",n - s⟩,⟨false,f,0,Z,n - f⟩,⟨true,th,0,"#",1⟩,⟨false,th,0,"#",1⟩] ro:=by
 have d1:=Kl B hf hd hd2 hZ
 obtain ⟨old,d2⟩:=Ld B hf hs hfs hd hd2 hZ (C:=")") (by decide +kernel) hpl
 have d5:=Lu B ht (Z:="#") (by decide +kernel)
 rw [len] at d1 d2
 refine ⟨λj=>match j with
  | 0=>rs
  | 1=>rs.set f (bR p 0 Z)
  | 2=>(rs.set f (bR p 0 Z)).set s (bR old (pl + (if f = s then d else 0)) ")")
  | 3=>rs.set f (bR p 0 Z)
  | 4=>rs
  | 5=>rs.set th (bR p3 0 "#")
  | _=>rs,B,len,hf,rfl,rfl,λj D hD=>?_⟩
 rcases j with _ | _ | _ | _ | _ | _ | j
 ·cases hD;exact ⟨p,d1⟩
 ·cases hD;exact ⟨old,d2⟩
 ·cases hD;exact ⟨_,d2.back⟩
 ·cases hD;exact ⟨_,d1.back⟩
 ·cases hD;exact ⟨p3,d5⟩
 ·cases hD;exact ⟨_,d5.back⟩
 ·simp at hD
abbrev IL:List Str:=["((","[(","((",""]
def ji (j:Nat):Str:=match j with
 | 0=>""
 | 1=>"(("
 | 2=>"[("
 | 3=>"(("
 | _=>""
theorem Ek {j:Nat} {z:Str} (h:IL[j]? = some z):z = ji (j + 1):=by
 rcases j with _ | _ | _ | _ | j
 ·cases h;rfl
 ·cases h;rfl
 ·cases h;rfl
 ·cases h;rfl
 ·simp at h
theorem De {rs:List Str} (B:Base rs) {f:Nat} {p:Str} (hf:rs[f]? = some p) {j:Nat} (hj:j < 4):Turn (rs.set f (ji j ++ p)) f (ji j ++ p) (ji (j + 1) ++ p) (rs.length - f):=by
 have k0:(Str.ofString "").cps.toList.foldl nx [0] = [0]:=by decide +kernel
 have k1:(Str.ofString "((").cps.toList.foldl nx [0] = [0,1,1]:=by decide +kernel
 have k2:(Str.ofString "[(").cps.toList.foldl nx [0] = [0,3,1]:=by decide +kernel
 rcases j with _ | _ | _ | _ | j
 ·exact zy B hf k0 k1 (by decide) (by decide) (by decide) (by decide +kernel) (by decide +kernel) (by decide +kernel) (by decide +kernel)
 ·exact zy B hf k1 k2 (by decide) (by decide) (by decide) (by decide +kernel) (by decide +kernel) (by decide +kernel) (by decide +kernel)
 ·exact zy B hf k2 k1 (by decide) (by decide) (by decide) (by decide +kernel) (by decide +kernel) (by decide +kernel) (by decide +kernel)
 ·exact zy B hf k1 k0 (by decide) (by decide) (by decide) (by decide +kernel) (by decide +kernel) (by decide +kernel) (by decide +kernel)
 ·omega
theorem L7 {rs:List Str} {f:Nat} {p:Str} (hf:rs[f]? = some p):rs.set f (ji 0 ++ p) = rs:=by
 show rs.set f (Str.empty ++ p) = rs
 rw [PySem.W.KT.empty_app]
 obtain ⟨hi,e⟩:=List.getElem?_eq_some_iff.mp hf
 rw [← e]
 exact List.set_getElem_self hi
theorem E8 {d:Nat} (h:d < 13) {c:Nat} (hc:c = 97 ∨ c = 98):gD (PySem.Txt.mul ⟨#[c]⟩ (d:Int)) /\ (PySem.Txt.mul ⟨#[c]⟩ (d:Int)).length = d:=by
 have e:=zh d h c (by rcases hc with rfl | rfl <;> simp)
 refine ⟨λx hx=>?_,by rw [← aU,e,List.length_replicate]⟩
 rw [e] at hx
 rw [(List.mem_replicate.mp hx).2]
 exact hc
theorem Kr {d:Int} (h0:0 <= d) (h1:d < 2):∃ c,(c = 97 ∨ c = 98) /\ we (Str.ofString "ab").cps.toList d = some c:=by
 obtain ⟨k,rfl⟩:∃ k:Nat,d = k:=⟨d.toNat,by omega⟩
 have e:(Str.ofString "ab").cps.toList = [97,98]:=by decide +kernel
 rw [e]
 rcases k with _ | _ | k
 ·exact ⟨97,.inl rfl,rfl⟩
 ·exact ⟨98,.inr rfl,rfl⟩
 ·omega
theorem IU {f:Addr} {fd:FuncData} (F:bI K "law" "law" zb f fd) (T:Txt K mg t):bC P w K mg base dh 10 f fd ["_law_script"] (yS K):=by
 refine F.ok cE ?_ ?_
 walk_at "i"
 ·obtain ⟨a,ns,rfl,hS,hl,q⟩:=h
  have sz:=sizeLine_eq
  refine @aM _ _ _ _ _ _ _ (λσ' H'=>∃ lm,D8 H' lm nms /\ ak H H' /\ σ' = [some (.ref a),some (.ref lm),none,none,none,none,none,none,none,none,none,none,none,none,none,none,none,none,none,none]) (aE (i:=1) cE.nd rfl (Or.inl rfl) (pM (GW T) (hr.mono (by decide)) rfl T.IA T.vJ.kp (T.vJ.binds (by walk_at "0")) .nil aH)) ⟨rfl,λlm H' h1 h2=>⟨lm,h1,h2,rfl⟩⟩ ?_
  rintro σ' H0 ⟨lm,hL0,s0,rfl⟩
  refine @aM _ _ _ _ _ _ _ (λσ' H'=>∃ r,D8 H' lm nms /\ IsRules t H' r nms /\ ak H H' /\ σ' = [some (.ref a),some (.ref lm),some (.ref r),none,none,none,none,none,none,none,none,none,none,none,none,none,none,none,none,none]) (aE (i:=2) cE.nd rfl (Or.inl rfl) (aZ (JT T) (hr.mono (by decide)) rfl T.Hl T.uT.kp (T.uT.binds (by walk_at "1")) .nil aH (aa (pM (Gh T) (hr.mono (by decide)) rfl T.I9 T.vK.kp (T.vK.binds (by walk_at "0")) .nil aH) ai))) ⟨rfl,λH1 s1=>⟨Am,rfl,An,by decide,λr H2 hR s2=>⟨r,(hL0.same s1).same s2,by rw [zU] at hR;exact hR,(s0.trans s1).trans s2,rfl⟩⟩⟩ ?_
  rintro σ' H1 ⟨r,hL1,hR1,s1,rfl⟩
  refine @aM _ _ _ _ _ _ _ (λσ' H'=>ak H1 H' /\ σ' = [some (.ref a),some (.ref lm),some (.ref r),none,none,none,none,none,none,none,none,none,none,none,none,none,none,none,none,none]) (bB (aA gc (aZ (D4 T) (hr.mono (by decide)) rfl T.C8 T.pS.kp (T.pS.binds (by walk_at "1")) .nil aH (aa (pv 2) ai)) bJ (aF _)) av av) ⟨_,rfl,r,nms,rfl,hR1,ig,λH2 s2=>⟨λ_=>⟨rfl,_,rfl,g6 (λh=>absurd rfl h) (λ_=>bg ⟨s2,rfl⟩)⟩,(λring row p l e=>by rw [uJ] at e;cases e)⟩⟩ ?_
  rintro σ' H2 ⟨s2,rfl⟩
  have hL2:=hL1.same s2
  have hR2:=hR1.same s2
  have hS2:=hS.same (s1.trans s2)
  clear hL0 hL1 hR1 s0 s1 s2 hS
  refine @aM _ _ _ _ _ _ _ (λσ' H'=>∃ n:Nat,10 <= n /\ n <= 60 /\ ak H2 H' /\ σ' = [some (.ref a),some (.ref lm),some (.ref r),some (.int n),none,none,none,none,none,none,none,none,none,none,none,none,none,none,none,none]) (aE (i:=3) cE.nd rfl (Or.inl rfl) (aT cN az (aZ (iX T) (hr.mono (by decide)) rfl T.i0 T.fB.kp (T.fB.binds (by walk_at "3")) .nil aH (aa (pv 0) (aa az (aa az ai)))))) ⟨_,rfl,a,ns,_,_,rfl,hS2,(by decide),(by decide),(by decide),hl,λd H3 h0 h1 s3=>⟨_,_,rfl,rfl,(10 + d).toNat,by omega,by omega,s3,by rw [show ((10 + d).toNat:Int) = 10 + d by omega];rfl⟩⟩ ?_
  rintro σ' H3 ⟨n,n1,n2,s3,rfl⟩
  have hS3:=hS2.same s3
  refine @aM _ _ _ _ _ _ _ (λσ' H'=>∃ (rs:List Str) (lr:Addr),Base rs /\ rs.length = n /\ H' lr = some (.lst (rs.map V.str)) /\ H3 lr = none /\ ak H3 H' /\ σ' = [some (.ref a),some (.ref lm),some (.ref r),some (.int n),some (.ref lr),none,none,none,none,none,none,none,none,none,none,none,none,none,none,none]) (@EA _ 4 _ (ay zb) _ ["_law_script","_law_modes","_law_rules","_law_many","_law_rows","_law_text","_law_first_here","_law_second","_law_place","_law_third","_law_deep","_law_deeds","_law_way","_law_row","_law_at","_law_signs","_law_due","_law_count","_law_plain","_law_begun"] _ _ ("_law_k") _ _ _ _ [("_law_script",0)] _ _ cE.nd rfl (Or.inl rfl) (by walk_at "ck") (@jd _ _ _ _ _ _ rfl T.jh (@aa _ _ _ _ _ (pv 3) ai (by left)) (by left)) (λ_ _ _ _=>by exact (@aT _ _ _ _ _ _ _ _ su (@aS _ _ _ _ _ _ _ k8 aG (@aZ _ _ _ _ _ _ _ _ _ _ _ _ _ _ _ _ (iX T) (hr.mono (by decide)) rfl T.i0 T.fB.kp (T.fB.binds (by walk_at "3")) .nil aH (@aa _ _ _ _ _ (pv 0) (@aa _ _ _ _ _ (@aT _ _ _ _ _ _ _ _ cN az (pv 1)) (@aa _ _ _ _ _ az ai (by left)) (by left)) (by left)) (by left) (by left) (by left)) (λ_ _=>rfl)) (@aZ _ _ _ _ _ _ _ _ _ _ _ _ _ _ _ _ (iX T) (hr.mono (by decide)) rfl T.i0 T.fB.kp (T.fB.binds (by walk_at "3")) .nil aH (@aa _ _ _ _ _ (pv 0) (@aa _ _ _ _ _ (@aT _ _ _ _ _ _ _ _ cN az (pv 1)) (@aa _ _ _ _ _ az ai (by left)) (by left)) (by left)) (by left) (by left) (by left)))) (by left) (by left) (by left) (by left) (by left) (by left)) ?_ ?_
  ·refine ⟨_,rfl,n,rfl,by omega,by omega,yk (n:=n) (λj ys H6=>∃ rs:List Str,ys = rs.map V.str /\ (∀ x ∈ rs,gD x /\ x.length <= 4) /\ ak H3 H6) ⟨[],rfl,(λx hx=>by cases hx),ak.refl _⟩ (fG (by omega)) ?_ ?_⟩
   ·rintro j ys H6 hj hyl ⟨rs,rfl,hrs,s6⟩
    refine ⟨_,rfl,_,rfl,_,_,rfl,rfl,a,ns,_,_,rfl,hS3.same s6,(by omega),(by omega),(by decide),hl,λd H7 h0 h1 s7=>?_⟩
    obtain ⟨c,hc,e⟩:=Kr h0 h1
    refine ⟨_,_,c,rfl,rfl,by decide,e,_,rfl,_,rfl,_,_,rfl,rfl,a,ns,_,_,rfl,(hS3.same s6).same s7,(by omega),(by omega),(by decide),hl,λd2 H8 h2 h3 s8=>?_⟩
    obtain ⟨k,rfl⟩:∃ k:Nat,d2 = k:=⟨d2.toNat,by omega⟩
    obtain ⟨z1,z2⟩:=E8 (d:=k) (by omega) hc
    refine ⟨_,_,rfl,rfl,CB (by omega),fh hj hyl ⟨rs ++ [PySem.Txt.mul ⟨#[c]⟩ (k:Int)],by rw [List.map_append];rfl,λx hx=>?_,(s6.trans s7).trans s8⟩⟩
    rcases List.mem_append.mp hx with hx | hx
    ·exact hrs x hx
    ·rw [List.mem_singleton.mp hx];exact ⟨z1,by omega⟩
   ·rintro ys H6 hyl ⟨rs,rfl,hrs,s6⟩ D hD
    rw [List.length_map] at hyl
    exact ⟨rs,D,⟨λx hx=>(hrs x hx).1,λx hx=>(hrs x hx).2,by omega⟩,hyl,af,s6.free hD,s6.to hD,rfl⟩
  rintro σ' H4 ⟨rs,lr,B,hrn,hlr,flr,s4,rfl⟩
  obtain ⟨Gs,hC⟩:=iz rs [0] Kd (λx hx=>by have:=B.sh x hx;omega) (by show 1 + _ <= _;omega)
  have hGl:=hC.len
  have hlr2:H2 lr = none:=s3.free flr
  have s24:=s3.trans s4
  refine @aM _ _ _ _ _ _ _ (λσ' H'=>∃ x dx,St t H' x dx lm lr rs Gs /\ ak H2 (hid (λc=>c = x ∨ c = lr) H') /\ σ' = [some (.ref a),some (.ref lm),some (.ref r),some (.int n),some (.ref lr),some (.ref x),none,none,none,none,none,none,none,none,none,none,none,none,none,none]) (aE (i:=5) cE.nd rfl (Or.inl rfl) (dH T.kW (Gv T) (hr.mono (by decide)) rfl T.xU (T.yQ.binds (by walk_at "3")) .nil aH (aa (pv 2) (aa (pv 4) ai)))) ?_ ?_
  ·refine ⟨_,rfl,_,rfl,λx dx nx ndx ne=>⟨x,dx,r,lr,λc=>c = lr,nms,rs,Gs,rfl,af,(λz=>?_),(λb hb=>?_),?_,ig,uJ,bE nx ndx _ _ hlr,by omega,hC,λa1 lg gs H6 I6 f6 a6=>⟨rfl,x,dx,?_,?_,rfl⟩⟩⟩
   ·exact aj hlr nx z.symm
   ·have hb:b = lr:=hb
    rw [hb];exact ⟨_,bE nx ndx _ _ hlr⟩
   ·exact hR2.same (nC (s24.trans (bE nx ndx)) λb o e z=>z.elim (λz=>aj e hlr2 z) (λz=>aj (s24 _ _ e) nx z))
   ·have sX:ak H2 (hid (λc=>c = x ∨ c = lr) H6):=nC (λb o hb=>a6 b o (bE nx ndx _ _ (s24 _ _ hb)) (aj (s24 _ _ hb) nx)) λb o e z=>z.elim (λz=>aj (s24 _ _ e) nx z) (λz=>aj e hlr2 z)
    exact ⟨hL2.same sX,⟨a1,lg,gs,I6⟩,a6 _ _ (bE nx ndx _ _ hlr) (aj hlr nx),hC⟩
   ·exact nC (λb o hb=>a6 b o (bE nx ndx _ _ (s24 _ _ hb)) (aj (s24 _ _ hb) nx)) λb o e z=>z.elim (λz=>aj (s24 _ _ e) nx z) (λz=>aj e hlr2 z)
  rintro σ' H5 ⟨x,dx,S5,sX5,rfl⟩
  have hS5:bu K H5 a (ns.map V.int):=(hS2.same sX5).same aJ
  clear s3 s4 s24 hR2 hL2 hS3 hlr flr
  refine @aM _ _ _ _ _ _ _ (λσ' H'=>∃ f:Nat,f < n /\ ak H5 H' /\ σ' = [some (.ref a),some (.ref lm),some (.ref r),some (.int n),some (.ref lr),some (.ref x),some (.int f),none,none,none,none,none,none,none,none,none,none,none,none,none]) (aE (i:=6) cE.nd rfl (Or.inl rfl) (aZ (iX T) (hr.mono (by decide)) rfl T.i0 T.fB.kp (T.fB.binds (by walk_at "3")) .nil aH (aa (pv 0) (aa az (aa (pv 3) ai))))) ⟨_,rfl,_,rfl,a,ns,_,_,rfl,hS5,(by decide),(by decide),(by omega),hl,λd H' h0 h1 s'=>⟨d.toNat,by omega,s',by rw [show (d.toNat:Int) = d by omega];rfl⟩⟩ ?_
  rintro σ' H6 ⟨f,hf,s6,rfl⟩
  refine @aM _ _ _ _ _ _ _ (λσ' H'=>∃ s:Nat,f <= s /\ s < n /\ ak H5 H' /\ σ' = [some (.ref a),some (.ref lm),some (.ref r),some (.int n),some (.ref lr),some (.ref x),some (.int f),some (.int s),none,none,none,none,none,none,none,none,none,none,none,none]) (aE (i:=7) cE.nd rfl (Or.inl rfl) (aT cN (pv 6) (aZ (iX T) (hr.mono (by decide)) rfl T.i0 T.fB.kp (T.fB.binds (by walk_at "3")) .nil aH (aa (pv 0) (aa az (aa (aT fH (pv 3) (pv 6)) ai)))))) ⟨_,rfl,_,rfl,_,rfl,_,rfl,_,_,rfl,rfl,a,ns,_,_,rfl,hS5.same s6,(by decide),(by decide),(by omega),hl,λd H' h0 h1 s'=>⟨_,_,rfl,rfl,f + d.toNat,by omega,by omega,s6.trans s',by rw [show ((f + d.toNat:Nat):Int) = (f:Int) + d by omega];rfl⟩⟩ ?_
  rintro σ' H7 ⟨s,hfs,hsn,s7,rfl⟩
  obtain ⟨p,hp⟩:∃ p,rs[f]? = some p:=⟨rs[f],List.getElem?_eq_getElem (by omega)⟩
  obtain ⟨p2,hp2⟩:∃ p,rs[s]? = some p:=⟨rs[s],List.getElem?_eq_getElem (by omega)⟩
  have l2:=B.sh p2 (List.mem_of_getElem? hp2)
  refine @aM _ _ _ _ _ _ _ (λσ' H'=>∃ pl:Nat,pl <= p2.length /\ ak H5 H' /\ σ' = [some (.ref a),some (.ref lm),some (.ref r),some (.int n),some (.ref lr),some (.ref x),some (.int f),some (.int s),some (.int pl),none,none,none,none,none,none,none,none,none,none,none]) (aE (i:=8) cE.nd rfl (Or.inl rfl) (aZ (iX T) (hr.mono (by decide)) rfl T.i0 T.fB.kp (T.fB.binds (by walk_at "3")) .nil aH (aa (pv 0) (aa az (aa (aT cN (aQ bf (by rfl) T.bN (by decide +kernel) (aa (aS aW (pv 4) (pv 7) (λ_ _=>rfl)) ai)) az) ai))))) ⟨_,rfl,_,rfl,_,rfl,_,_,_,_,rfl,rfl,bu.of (S5.same s7).lr,jw hp2,_,rfl,bY (by omega),_,_,rfl,rfl,a,ns,_,_,rfl,hS5.same s7,(by decide),(by decide),(by omega),hl,λd H' h0 h1 s'=>⟨d.toNat,by omega,s7.trans s',by rw [show (d.toNat:Int) = d by omega];rfl⟩⟩ ?_
  rintro σ' H8 ⟨pl,hpl,s8,rfl⟩
  refine @aM _ _ _ _ _ _ _ (λσ' H'=>∃ th:Nat,th < n /\ ak H5 H' /\ σ' = [some (.ref a),some (.ref lm),some (.ref r),some (.int n),some (.ref lr),some (.ref x),some (.int f),some (.int s),some (.int pl),some (.int th),none,none,none,none,none,none,none,none,none,none]) (aE (i:=9) cE.nd rfl (Or.inl rfl) (aZ (iX T) (hr.mono (by decide)) rfl T.i0 T.fB.kp (T.fB.binds (by walk_at "3")) .nil aH (aa (pv 0) (aa az (aa (pv 3) ai))))) ⟨_,rfl,_,rfl,a,ns,_,_,rfl,hS5.same s8,(by decide),(by decide),(by omega),hl,λd H' h0 h1 s'=>⟨d.toNat,by omega,s8.trans s',by rw [show (d.toNat:Int) = d by omega];rfl⟩⟩ ?_
  rintro σ' H9 ⟨th,hth,s9,rfl⟩
  obtain ⟨p3,hp3⟩:∃ p,rs[th]? = some p:=⟨rs[th],List.getElem?_eq_getElem (by omega)⟩
  refine @aM _ _ _ _ _ _ _ (λσ' H'=>∃ d:Nat,1 <= d /\ d <= 12 /\ ak H5 H' /\ σ' = [some (.ref a),some (.ref lm),some (.ref r),some (.int n),some (.ref lr),some (.ref x),some (.int f),some (.int s),some (.int pl),some (.int th),some (.int d),none,none,none,none,none,none,none,none,none]) (aE (i:=10) cE.nd rfl (Or.inl rfl) (aT cN az (aZ (iX T) (hr.mono (by decide)) rfl T.i0 T.fB.kp (T.fB.binds (by walk_at "3")) .nil aH (aa (pv 0) (aa az (aa az ai)))))) ⟨_,rfl,a,ns,_,_,rfl,hS5.same s9,(by decide),(by decide),(by decide),hl,λd H' h0 h1 s'=>⟨_,_,rfl,rfl,1 + d.toNat,by omega,by omega,s9.trans s',by rw [show ((1 + d.toNat:Nat):Int) = 1 + d by omega];rfl⟩⟩ ?_
  rintro σ' H10 ⟨d,hd,hd2,s10,rfl⟩
  refine @aM _ _ _ _ _ _ _ (λσ' H'=>H10 = H' /\ σ' = [some (.ref a),some (.ref lm),some (.ref r),some (.int n),some (.ref lr),some (.ref x),some (.int f),some (.int s),some (.int (pl + (if f = s then d else 0):Nat)),some (.int th),some (.int d),none,none,none,none,none,none,none,none,none]) (aE (i:=8) cE.nd rfl (Or.inl rfl) (aT cN (pv 8) (aT oj (pv 10) (cS gZ (by rfl) T.nU (by decide +kernel) (aa (fC cA (pv 6) (pv 7) (aF _)) ai))))) ⟨_,rfl,_,rfl,_,rfl,_,rfl,rfl,.inr ⟨_,rfl,_,_,rfl,rfl,.inl ⟨by omega,by omega⟩,_,_,rfl,rfl,rfl,?_⟩⟩ ?_
  ·have e:((pl:Int) + (d:Int) * (if decide (V.int (f:Int) = V.int (s:Int)) = true then 1 else 0)) = ((pl + (if f = s then d else 0):Nat):Int):=by
    by_cases z:f = s
    ·rw [if_pos z,decide_eq_true (by rw [z]),if_pos rfl];omega
    ·rw [if_neg z,decide_eq_false (λy=>z (by have:=V.int.inj y;omega)),if_neg (by decide)];omega
   rw [← e];rfl
  rintro σ' H10' ⟨rfl,rfl⟩
  obtain ⟨Z,eZ⟩:∃ Z,Z = PySem.Txt.mul (Str.ofString "(") (d:Int):=⟨_,rfl⟩
  have hZ:Z.cps.toList = List.replicate d 40:=by
   rw [eZ,show Str.ofString "(" = ⟨#[40]⟩ by decide +kernel]
   exact zh d (by omega) 40 (by simp)
  have mo:MulOk (Str.ofString "(") (d:Int):=by
   rw [show Str.ofString "(" = ⟨#[40]⟩ by decide +kernel]
   exact CB (by omega)
  obtain ⟨ro,PL⟩:=plan B hrn hp hp2 hp3 hfs hd hd2 hZ hpl
  obtain ⟨pw,epw⟩:∃ pw,pw = pl + (if f = s then d else 0):=⟨_,rfl⟩
  rw [← epw] at PL ⊢
  have en1:((n:Int) - (f:Int)) = ((n - f:Nat):Int):=by omega
  have en2:((n:Int) - (s:Int)) = ((n - s:Nat):Int):=by omega
  have t1:[V.str "put",.int f,.int 0,.str (PySem.Txt.mul (Str.ofString "(") (d:Int)),.int ((n:Int) - (f:Int))] = DV ⟨true,f,0,Z,n - f⟩:=by rw [en1,← eZ];rfl
  have t2:[V.str "put",.int s,.int pw,.str ")",.int ((n:Int) - (s:Int))] = DV ⟨true,s,pw,")",n - s⟩:=by rw [en2];rfl
  have t3:[V.str "cut",.int s,.int pw,.str ")",.int ((n:Int) - (s:Int))] = DV ⟨false,s,pw,")",n - s⟩:=by rw [en2];rfl
  have t4:[V.str "cut",.int f,.int 0,.str (PySem.Txt.mul (Str.ofString "(") (d:Int)),.int ((n:Int) - (f:Int))] = DV ⟨false,f,0,Z,n - f⟩:=by rw [en1,← eZ];rfl
  refine @aM _ _ _ _ _ _ _ (λσ' H'=>∃ ld a1 a2,H' ld = some (.lst [.ref a1,.ref a2]) /\ H' a1 = some (.tup (DV ⟨true,f,0,Z,n - f⟩)) /\ H' a2 = some (.tup (DV ⟨true,s,pw,")",n - s⟩)) /\ ak H10 H' /\ σ' = [some (.ref a),some (.ref lm),some (.ref r),some (.int n),some (.ref lr),some (.ref x),some (.int f),some (.int s),some (.int pw),some (.int th),some (.int d),some (.ref ld),none,none,none,none,none,none,none,none]) (aE (i:=11) cE.nd rfl (Or.inl rfl) (bG (aa (cD (aa aG (aa (pv 6) (aa az (aa (aT su aG (pv 10)) (aa (aT fH (pv 3) (pv 6)) ai)))))) (aa (cD (aa aG (aa (pv 7) (aa (pv 8) (aa aG (aa (aT fH (pv 3) (pv 7)) ai)))))) ai)))) ⟨_,rfl,_,rfl,_,_,rfl,rfl,mo,_,rfl,_,rfl,_,_,rfl,rfl,by show 5 <= sizeLine;decide,λa1 g1=>⟨_,rfl,_,rfl,_,rfl,_,rfl,_,_,rfl,rfl,by show 5 <= sizeLine;decide,λa2 g2=>⟨by show 2 <= sizeLine;decide,λld g3=>⟨ld,a1,a2,af,by rw [← t1];exact ak.upd g3 _ _ (ak.upd g2 _ _ af),by rw [← t2];exact ak.upd g3 _ _ af,((ak.upd g1).to g2).to g3,rfl⟩⟩⟩⟩ ?_
  rintro σ' H11 ⟨ld,a1,a2,h11,b1,b2,s11,rfl⟩
  refine @aM _ _ _ _ _ _ _ (λσ' H'=>∃ ld' a3 a4,H' ld' = some (.lst [.ref a1,.ref a2,.ref a3,.ref a4]) /\ H' a3 = some (.tup (DV ⟨false,s,pw,")",n - s⟩)) /\ H' a4 = some (.tup (DV ⟨false,f,0,Z,n - f⟩)) /\ ak H11 H' /\ σ' = [some (.ref a),some (.ref lm),some (.ref r),some (.int n),some (.ref lr),some (.ref x),some (.int f),some (.int s),some (.int pw),some (.int th),some (.int d),some (.ref ld'),none,none,none,none,none,none,none,none]) (aE (i:=11) cE.nd rfl (Or.inl rfl) (aT eu (pv 11) (bG (aa (cD (aa aG (aa (pv 7) (aa (pv 8) (aa aG (aa (aT fH (pv 3) (pv 7)) ai)))))) (aa (cD (aa aG (aa (pv 6) (aa az (aa (aT su aG (pv 10)) (aa (aT fH (pv 3) (pv 6)) ai)))))) ai))))) ⟨_,rfl,_,rfl,_,rfl,_,rfl,_,rfl,_,_,rfl,rfl,by show 5 <= sizeLine;decide,λa3 g1=>⟨_,rfl,_,rfl,_,_,rfl,rfl,mo,_,rfl,_,rfl,_,_,rfl,rfl,by show 5 <= sizeLine;decide,λa4 g2=>⟨by show 2 <= sizeLine;decide,λl2 g3=>⟨ld,l2,_,_,rfl,rfl,ak.upd g3 _ _ (ak.upd g2 _ _ (ak.upd g1 _ _ h11)),af,by show 4 <= sizeLine;decide,λl3 g4=>⟨l3,a3,a4,af,by rw [← t3];exact ak.upd g4 _ _ (ak.upd g3 _ _ (ak.upd g2 _ _ af)),by rw [← t4];exact ak.upd g4 _ _ (ak.upd g3 _ _ af),(((ak.upd g1).to g2).to g3).to g4,rfl⟩⟩⟩⟩⟩ ?_
  rintro σ' H12 ⟨ld',a3,a4,h12,b3,b4,s12,rfl⟩
  refine @aM _ _ _ _ _ _ _ (λσ' H'=>∃ ld a5 a6,H' ld = some (.lst [.ref a1,.ref a2,.ref a3,.ref a4,.ref a5,.ref a6]) /\ H12 ld = none /\ H' a5 = some (.tup (DV ⟨true,th,0,"#",1⟩)) /\ H' a6 = some (.tup (DV ⟨false,th,0,"#",1⟩)) /\ ak H12 H' /\ σ' = [some (.ref a),some (.ref lm),some (.ref r),some (.int n),some (.ref lr),some (.ref x),some (.int f),some (.int s),some (.int pw),some (.int th),some (.int d),some (.ref ld),none,none,none,none,none,none,none,none]) (aE (i:=11) cE.nd rfl (Or.inl rfl) (aT eu (pv 11) (bG (aa (cD (aa aG (aa (pv 9) (aa az (aa aG (aa az ai)))))) (aa (cD (aa aG (aa (pv 9) (aa az (aa aG (aa az ai)))))) ai))))) ⟨_,rfl,_,rfl,by show 5 <= sizeLine;decide,λa5 g1=>⟨_,rfl,by show 5 <= sizeLine;decide,λa6 g2=>⟨by show 2 <= sizeLine;decide,λl2 g3=>⟨ld',l2,_,_,rfl,rfl,ak.upd g3 _ _ (ak.upd g2 _ _ (ak.upd g1 _ _ h12)),af,by show 6 <= sizeLine;decide,λl3 g4=>⟨l3,a5,a6,af,(((ak.upd g1).to g2).to g3).free g4,ak.upd g4 _ _ (ak.upd g3 _ _ (ak.upd g2 _ _ af)),ak.upd g4 _ _ (ak.upd g3 _ _ af),(((ak.upd g1).to g2).to g3).to g4,rfl⟩⟩⟩⟩⟩ ?_
  rintro σ' H13 ⟨ld,a5,a6,h13,f13,b5,b6,s13,rfl⟩
  obtain ⟨ds,eds⟩:∃ ds:List Ca,ds = [⟨true,f,0,Z,n - f⟩,⟨true,s,pw,")",n - s⟩,⟨false,s,pw,")",n - s⟩,⟨false,f,0,Z,n - f⟩,⟨true,th,0,"#",1⟩,⟨false,th,0,"#",1⟩]:=⟨_,rfl⟩
  obtain ⟨ts,ets⟩:∃ ts:List Addr,ts = [a1,a2,a3,a4,a5,a6]:=⟨_,rfl⟩
  have s513:ak H5 H13:=((s10.trans s11).trans s12).trans s13
  have S13:=S5.same s513
  have hxl:∀ {b:Addr} {vs:List V},H13 b = some (.tup vs) -> hid (λc=>c = x ∨ c = lr) H13 b = some (.tup vs):=λ{b vs} e=>bD e (λz=>by
   rcases z with z | z
   ·obtain ⟨a1,lg,gs,I⟩:=S13.tn
    rw [z,(I.same aJ).ob] at e
    cases e
   ·rw [z,S13.lr] at e
    cases e)
  have hA:bw (λp D=>hid (λc=>c = x ∨ c = lr) H13 p = some (.tup (DV D))) ts ds:=by
   rw [ets,eds]
   exact bw.ff (hxl ((s12.trans s13) _ _ b1)) (bw.ff (hxl ((s12.trans s13) _ _ b2)) (bw.ff (hxl (s13 _ _ b3)) (bw.ff (hxl (s13 _ _ b4)) (bw.ff (hxl b5) (bw.ff (hxl b6) bw.nil)))))
  have hld:hid (λc=>c = x ∨ c = lr) H13 ld = some (.lst (ts.map V.ref)):=by
   refine bD (by rw [h13,ets];rfl) λz=>?_
   rcases z with z | z
   ·obtain ⟨a1,lg,gs,I⟩:=(S5.same ((s10.trans s11).trans s12)).tn
    exact aj (I.same aJ).ob f13 z.symm
   ·exact aj (S5.same ((s10.trans s11).trans s12)).lr f13 z.symm
  rw [← eds] at PL
  clear t1 t2 t3 t4 b1 b2 b3 b4 b5 b6 h11 h12 h13 f13 s11 s12 s13 s6 s7 s8 s9 s10 ets eds hxl S5 sX5 hS5 hS2
  refine @aM _ _ _ _ _ _ _ (λσ' H'=>∃ Gs',(∃ y0 y1 y2 y3 y4 y5,σ' = [some (.ref a),some (.ref lm),some (.ref r),some (.int n),some (.ref lr),some (.ref x),some (.int f),some (.int s),some (.int pw),some (.int th),some (.int d),some (.ref ld),y0,y1,y2,y3,y4,y5,none,none]) /\ St t H' x dx lm lr rs Gs') (dZ PassesOwn.never rfl (dX (pv 11)) (sI rfl (dQ (b9 (i:=12) cE.nd rfl (Or.inl rfl)) (dQ (b9 (i:=13) cE.nd rfl (Or.inl rfl)) (dQ (b9 (i:=14) cE.nd rfl (Or.inl rfl)) (dQ (b9 (i:=15) cE.nd rfl (Or.inl rfl)) (dQ (b9 (i:=16) cE.nd rfl (Or.inl rfl)) mS)))))) av) ?_ ?_
  ·refine ⟨_,rfl,ld,rfl,⟨_,bu.of (aJ _ _ hld)⟩,fM (xs:=ts.map V.ref) (λj σ' H'=>∃ Gs',(∃ y0 y1 y2 y3 y4 y5,σ' = [some (.ref a),some (.ref lm),some (.ref r),some (.int n),some (.ref lr),some (.ref x),some (.int f),some (.int s),some (.int pw),some (.int th),some (.int d),some (.ref ld),y0,y1,y2,y3,y4,y5,none,none]) /\ St t H' x dx lm lr (ro j) Gs' /\ ak (hid (λc=>c = x ∨ c = lr) H13) (hid (λc=>c = x ∨ c = lr) H')) ⟨Gs,⟨_,_,_,_,_,_,rfl⟩,by rw [PL.r0];exact S13,ak.refl _⟩ ?_ ?_ ?_⟩
   ·rintro j σ' H' _ ⟨_,_,_,s'⟩
    exact bu.of (aJ _ _ (s' _ _ hld))
   ·rintro j v σ' H0 hv ⟨Gs1,⟨y0,y1,y2,y3,y4,y5,rfl⟩,S0,sH⟩
    rw [List.getElem?_map] at hv
    obtain ⟨tp,htp,rfl⟩:=Option.map_eq_some_iff.mp hv
    obtain ⟨D,hD⟩:∃ D,ds[j]? = some D:=⟨ds[j]'(by rw [← hA.1];exact (List.getElem?_eq_some_iff.mp htp).1),List.getElem?_eq_getElem _⟩
    have htv:=aJ _ _ (sH _ _ (hA.2 j tp D htp hD))
    obtain ⟨old,DA⟩:=PL.MG j D hD
    obtain ⟨Gs',G,ah,bk,Gm,c,hC',hG,hGr,CH,ec⟩:=DA.tn.run S0.hC
    obtain ⟨a1,lg,gs,I⟩:=S0.tn
    have hlen:=DA.tn.len
    have hGl1:=S0.hC.len
    have hol:=DA.tn.sh old (List.mem_of_getElem? DA.tn.at_)
    have hnl:=DA.tn.LN
    have hi:=(List.getElem?_eq_some_iff.mp DA.tn.at_).1
    have hxr:lr ≠ x:=cB S0.lr (I.same aJ).ob (by intro y;cases y)
    have fin_:∀ H1 lg' gs',bZ t (hid (λc=>c = lr) H1) x dx a1 lg' gs' nms Gs' -> gy H0 H1 x -> St t (upd H1 lr (.lst ((ro (j + 1)).map V.str))) x dx lm lr (ro (j + 1)) Gs' /\ ak (hid (λc=>c = x ∨ c = lr) H13) (hid (λc=>c = x ∨ c = lr) (upd H1 lr (.lst ((ro (j + 1)).map V.str)))):=λH1 lg' gs' I1 ad=>by
     have sx:=(rD (lr:=lr) ad).trans (jY (S:=λc=>c = x ∨ c = lr) (H:=H1) (b:=lr) (o:=.lst ((ro (j + 1)).map V.str)) (.inr rfl))
     exact ⟨⟨S0.lm.same sx,⟨a1,lg',gs',I1.same (jY (S:=λc=>c = lr) rfl)⟩,af,by rw [DA.eq];exact hC'⟩,sH.trans sx⟩
    refine ⟨tp,DV D,rfl,gh.of htv,rfl,_,_,rfl,_,_,rfl,_,_,rfl,_,_,rfl,_,_,rfl,rfl,?_⟩
    show At _ _ _ [some (.ref a),some (.ref lm),some (.ref r),some (.int n),some (.ref lr),some (.ref x),some (.int f),some (.int s),some (.int pw),some (.int th),some (.int d),some (.ref ld),some (.str (if D.put = true then "put" else "cut")),some (.int D.i),some (.int D.pl),some (.str D.z),some (.int D.due),y5,none,none] H0
    refine @aM _ _ _ _ _ _ _ (λσ' H'=>St t H' x dx lm lr (ro (j + 1)) Gs' /\ ak (hid (λc=>c = x ∨ c = lr) H13) (hid (λc=>c = x ∨ c = lr) H') /\ σ' = [some (.ref a),some (.ref lm),some (.ref r),some (.int n),some (.ref lr),some (.ref x),some (.int f),some (.int s),some (.int pw),some (.int th),some (.int d),some (.ref ld),some (.str (if D.put = true then "put" else "cut")),some (.int D.i),some (.int D.pl),some (.str D.z),some (.int D.due),some (.int D.due),none,none]) (bB (aA cA (pv 12) aG (aF _)) av av) ?_ ?_
    ·have EX:Ex (λc=>c = lr) H0:=λb hb=>by
      have hb:b = lr:=hb
      rw [hb];exact ⟨_,S0.lr⟩
     have b1:=PySem.Txt.slice_le old none (some (D.pl:Int))
     have b2:=PySem.Txt.slice_le old (some (D.pl:Int)) none
     have hz:=DA.hz
     have hGrl:G.row.length <= 1000:=by rw [hGr];omega
     refine ⟨_,rfl,rfl,_,rfl,dG (λh=>?_) (λh=>?_)⟩
     ·have hput:D.put = true:=by
       cases e:D.put with
       | true=>rfl
       | false=>rw [e] at h;exact absurd (V.str.inj h) (by decide +kernel)
      have dd:J5 D old = bR old D.pl D.z:=by unfold J5;rw [if_pos hput]
      have h1:=DA.h1 hput
      have hnl10:=DA.tn.nl
      rw [dd] at CH hnl10 hnl
      refine @aq _ _ _ _ _ _ _ (aE (i:=17) cE.nd rfl (Or.inl rfl) (br (pv 5) T.aK T.Lv (HP T) (hr.mono (by decide)) (T.tw.binds (by walk_at "4")) .nil aH (aa (pv 13) (aa (pv 14) (aa (pv 15) ai))))) ⟨_,rfl,x,dx,_,rfl,(I.same aJ).ob,rfl,_,rfl,_,rfl,_,rfl,λc=>c = lr,x,dx,a1,lg,gs,nms,Gs1,G,D.i,D.pl,D.z,[bR old D.pl D.z],ah,bk,Gm,c,Gs',rfl,EX,I,ig,hG,by rw [hGr];exact h1,hGrl,by omega,by rw [hGr];exact zM hnl10,by omega,(show 1 <= 50000 by decide),by simp,CH,λlg' gs' H1 I1 f1 ad=>?_⟩
      rw [ec]
      have hl1:=ad _ _ S0.lr hxr
      have g1:(PySem.Txt.slice old none (some (D.pl:Int)) ++ D.z).length <= 200:=by rw [PySem.strLen_append];omega
      refine @au _ _ _ _ _ _ (oO (aT eV (aT eV (cy gR (aS aW (pv 4) (pv 13) (λ_ _=>rfl)) dj (cF (pv 14))) (pv 15)) (cy gR (aS aW (pv 4) (pv 13) (λ_ _=>rfl)) (cF (pv 14)) dj)) (nZ (pv 4) (pv 13) set_list)) ⟨_,rfl,_,rfl,_,_,_,_,rfl,rfl,bu.of hl1,jw DA.tn.at_,_,rfl,_,rfl,_,rfl,(by omega),_,rfl,_,_,rfl,rfl,(by omega),_,rfl,_,rfl,_,_,_,_,rfl,rfl,bu.of hl1,jw DA.tn.at_,_,rfl,_,rfl,_,rfl,(by omega),_,_,rfl,rfl,(by omega),_,rfl,_,rfl,lr,_,_,D.i,rfl,rfl,hl1,rH (by rw [List.length_map];exact hi),?_⟩
      rw [n8]
      have:=fin_ H1 lg' gs' I1 ad
      rw [DA.eq,dd] at this
      rw [DA.eq,dd]
      exact ⟨this.1,this.2,rfl⟩
     ·have hput:D.put = false:=by
       cases e:D.put with
       | false=>rfl
       | true=>rw [e] at h;exact absurd rfl h
      have dd:J5 D old = ly old D.pl old (D.pl + D.z.length):=by unfold J5;rw [if_neg (by rw [hput];decide)]
      have h2:=DA.h2 hput
      have b3:=PySem.Txt.slice_le old (some ((D.pl:Int) + (D.z.length:Int))) none
      rw [dd] at CH hnl
      refine @aq _ _ _ _ _ _ _ (aE (i:=17) cE.nd rfl (Or.inl rfl) (br (pv 5) T.aK T.Ll (JG T) (hr.mono (by decide)) (T.vd.binds (by walk_at "5")) .nil aH (aa (pv 13) (aa (pv 14) (aa (pv 13) (aa (aT cN (pv 14) (aQ bf (by rfl) T.bN (by decide +kernel) (aa (pv 15) ai))) ai)))))) ⟨_,rfl,x,dx,_,rfl,(I.same aJ).ob,rfl,_,rfl,_,rfl,_,rfl,_,rfl,_,rfl,_,rfl,bY (by omega),_,_,rfl,rfl,λc=>c = lr,x,dx,a1,lg,gs,nms,Gs1,G,G,D.i,D.pl,D.i,D.pl + D.z.length,ah,bk,Gm,c,Gs',?_,EX,I,ig,hG,by rw [hGr];omega,hGrl,hG,by rw [hGr];exact h2,hGrl,?_,Nat.le_refl _,by omega,?_,λlg' gs' H1 I1 f1 ad=>?_⟩
      ·rw [Int.natCast_add];rfl
      ·rw [HT.jJ,if_pos rfl,HT.jJ]
       by_cases e:((D.pl:Int)) = ((D.pl + D.z.length:Nat):Int)
       ·rw [if_pos e];rfl
       ·rw [if_neg e];exact decide_eq_false (by omega)
      ·rw [hGr,Nat.sub_self];exact CH
      rw [ec]
      have hl1:=ad _ _ S0.lr hxr
      refine @au _ _ _ _ _ _ (oO (aT eV (cy gR (aS aW (pv 4) (pv 13) (λ_ _=>rfl)) dj (cF (pv 14))) (cy gR (aS aW (pv 4) (pv 13) (λ_ _=>rfl)) (cF (aT cN (pv 14) (aQ bf (by rfl) T.bN (by decide +kernel) (aa (pv 15) ai)))) dj)) (nZ (pv 4) (pv 13) set_list)) ⟨_,rfl,_,rfl,_,_,_,_,rfl,rfl,bu.of hl1,jw DA.tn.at_,_,rfl,_,rfl,_,rfl,(by omega),_,rfl,_,rfl,_,_,_,_,rfl,rfl,bu.of hl1,jw DA.tn.at_,_,rfl,_,rfl,_,rfl,bY (by omega),_,_,rfl,rfl,_,rfl,_,rfl,(by omega),_,_,rfl,rfl,(by omega),_,rfl,_,rfl,lr,_,_,D.i,rfl,rfl,hl1,rH (by rw [List.length_map];exact hi),?_⟩
      rw [n8]
      have:=fin_ H1 lg' gs' I1 ad
      rw [DA.eq,dd] at this
      rw [DA.eq,dd]
      have e2:PySem.Txt.slice old none (some (D.pl:Int)) ++ PySem.Txt.slice old (some ((D.pl:Int) + (D.z.length:Int))) none = ly old D.pl old (D.pl + D.z.length):=by unfold ly;rw [Int.natCast_add]
      rw [e2]
      exact ⟨this.1,this.2,rfl⟩
    rintro σ' H1 ⟨S1,sH1,rfl⟩
    obtain ⟨a1,lg,gs,I1⟩:=S1.tn
    have hC1:=S1.hC
    have hl1:(ro (j + 1)).length <= 60:=by rw [DA.eq,List.length_set];exact hlen
    have hGl2:=hC1.len
    refine @au _ _ _ _ _ _ (bB (PW.pt (g8 (aA om (pv 17) (pv 16) (aF _)) (gv (jI (iI (aZ (Ct T) (hr.mono (by decide)) rfl T.AS T.pR.kp (T.pR.binds (by walk_at "2")) .nil aH (aa (pv 5) (aa (aZ (Co T) (hr.mono (by decide)) rfl T.A1 T.nH.kp (T.nH.binds (by walk_at "2")) .nil aH (aa (pv 1) (aa (pv 4) ai))) ai)))))))) av av) ⟨_,rfl,_,rfl,rfl,_,rfl,g6 (λh=>absurd rfl h) (λ_=>?_)⟩
    refine ⟨_,rfl,_,rfl,_,rfl,λ_=>False,lm,lr,nms,ro (j + 1),Gs',rfl,(λ_ z=>z.elim),S1.lm.same aJ,A5,S1.lr,by omega,hC1,λlq H2 hK f2 s2=>?_⟩
    exact ⟨x,dx,a1,lg,lq,gs,nms,Gs',rfl,(I1.same aJ).same s2,hK.same aJ,by omega,λH3 s3=>⟨true,rfl,rR (bg ⟨Gs',⟨_,_,_,_,_,_,rfl⟩,S1.same (s2.trans s3),sH1.trans (bF (s2.trans s3))⟩)⟩⟩
   ·rintro σ' H' ⟨Gs',hσ,S',_⟩
    rw [List.length_map,hA.1,PL.rl] at S'
    exact ⟨Gs',hσ,S'⟩
  rintro σ' H14 ⟨Gs14,⟨y0,y1,y2,y3,y4,y5,rfl⟩,S14⟩
  refine @aq _ _ _ _ _ _ _ (aE (i:=18) cE.nd rfl (Or.inl rfl) (aS aW (pv 4) (pv 6) (λ_ _=>rfl))) ⟨_,rfl,_,rfl,_,_,_,_,rfl,rfl,bu.of S14.lr,jw hp,?_⟩
  refine @aM _ _ _ _ _ _ _ (λ_ _=>True) (@dZ _ _ _ _ _ _ _ _ PassesOwn.never rfl (@dX _ _ _ _ (@bG _ _ _ _ (@rY _ _ ["((","[(","((",""] rfl))) (@b9 _ _ 19 _ cE.nd rfl (Or.inl rfl) (by left)) av (by left)) ?_ ?_
  ·refine ⟨by show 4 <= sizeLine;decide,λlb gb=>⟨lb,rfl,⟨_,bu.of af⟩,fM (xs:=IL.map V.str) (λj σ' H'=>∃ Gs',(∃ y6,σ' = [some (.ref a),some (.ref lm),some (.ref r),some (.int n),some (.ref lr),some (.ref x),some (.int f),some (.int s),some (.int pw),some (.int th),some (.int d),some (.ref ld),y0,y1,y2,y3,y4,y5,some (.str p),y6]) /\ St t H' x dx lm lr (rs.set f (ji j ++ p)) Gs' /\ hid (λc=>c = x ∨ c = lr) H' lb = some (.lst (IL.map V.str))) ⟨Gs14,⟨_,rfl⟩,by rw [L7 hp];exact S14.same (ak.upd gb),?_⟩ ?_ ?_ ?_⟩⟩
   ·refine bD af λz=>?_
    rcases z with z | z
    ·obtain ⟨a1,lg,gs,I⟩:=S14.tn
     exact aj (I.same aJ).ob gb z.symm
    ·exact aj S14.lr gb z.symm
   ·rintro j σ' H' _ ⟨_,_,_,hb⟩
    exact bu.of (aJ _ _ hb)
   ·rintro j v σ' H0 hv ⟨Gs1,⟨y6,rfl⟩,S0,hb⟩
    rw [List.getElem?_map] at hv
    obtain ⟨z,hz,rfl⟩:=Option.map_eq_some_iff.mp hv
    have hj:j < 4:=(List.getElem?_eq_some_iff.mp hz).1
    have hz:=Ek hz
    have TN:=De B hp hj
    obtain ⟨Gs',G,ah,bk,Gm,c,hC',hG,hGr,CH,ec⟩:=TN.run S0.hC
    rw [List.set_set] at hC'
    obtain ⟨a1,lg,gs,I⟩:=S0.tn
    have hGl1:=S0.hC.len
    rw [List.length_set] at hGl1
    have hxr:lr ≠ x:=cB S0.lr (I.same aJ).ob (by intro y;cases y)
    have hpl:=B.sh p (List.mem_of_getElem? hp)
    have hzl:z.length <= 40:=by
     have:=TN.LN
     rw [hz]
     rw [PySem.strLen_append] at this
     omega
    show At _ _ _ [some (.ref a),some (.ref lm),some (.ref r),some (.int n),some (.ref lr),some (.ref x),some (.int f),some (.int s),some (.int pw),some (.int th),some (.int d),some (.ref ld),y0,y1,y2,y3,y4,y5,some (.str p),some (.str z)] H0
    refine @aq _ _ _ _ _ _ _ (oO (aT eV (pv 19) (pv 18)) (nZ (pv 4) (pv 6) set_list)) ⟨_,rfl,_,rfl,_,_,rfl,rfl,(by omega),_,rfl,_,rfl,lr,_,_,f,rfl,rfl,S0.lr,rH (by rw [List.length_map,List.length_set];omega),?_⟩
    rw [n8,List.set_set,hz]
    have hset:((rs.set f (ji (j + 1) ++ p)))[f]? = some (ji (j + 1) ++ p):=List.getElem?_set_self (by omega)
    have hlr1:upd H0 lr (.lst ((rs.set f (ji (j + 1) ++ p)).map V.str)) lr = some (.lst ((rs.set f (ji (j + 1) ++ p)).map V.str)):=af
    have sL:ak (hid (λc=>c = lr) H0) (hid (λc=>c = lr) (upd H0 lr (.lst ((rs.set f (ji (j + 1) ++ p)).map V.str)))):=jY (S:=λc=>c = lr) rfl
    have sX:ak (hid (λc=>c = x ∨ c = lr) H0) (hid (λc=>c = x ∨ c = lr) (upd H0 lr (.lst ((rs.set f (ji (j + 1) ++ p)).map V.str)))):=jY (S:=λc=>c = x ∨ c = lr) (.inr rfl)
    generalize upd H0 lr (.lst ((rs.set f (ji (j + 1) ++ p)).map V.str)) = H1 at hlr1 sL sX
    have I1:=I.same sL
    refine @au _ _ _ _ _ _ (bB (PW.pt (g8 (aA om (br (pv 5) T.aK T.CF (xZ T) (hr.mono (by decide)) (T.pK.binds (by walk_at "4")) .nil aH (aa (pv 6) (aa az (aa (bG (aa (aS aW (pv 4) (pv 6) (λ_ _=>rfl)) ai)) ai)))) (aT fH (pv 3) (pv 6)) (aF _)) (gv (jI (iI (aZ (Ct T) (hr.mono (by decide)) rfl T.AS T.pR.kp (T.pR.binds (by walk_at "2")) .nil aH (aa (pv 5) (aa (aZ (Co T) (hr.mono (by decide)) rfl T.A1 T.nH.kp (T.nH.binds (by walk_at "2")) .nil aH (aa (pv 1) (aa (pv 4) ai))) ai)))))))) av av) ⟨_,rfl,x,dx,_,rfl,(I1.same aJ).ob,rfl,_,rfl,_,rfl,_,rfl,_,_,_,_,rfl,rfl,bu.of hlr1,jw hset,by show 1 <= sizeLine;decide,λl1 g1=>?_⟩
    have s1:ak H1 (upd H1 l1 (.lst [.str (ji (j + 1) ++ p)])):=ak.upd g1
    refine ⟨λc=>c = lr,x,dx,a1,lg,l1,gs,nms,Gs1,f,1,[ji (j + 1) ++ p],ah,bk,Gm,c,Gs',rfl,(λb hb=>?_),I1.same (bF s1),ig,af,by omega,(show 1 <= 50000 by decide),(λ_=>by simp),CH,λlg' gs' H3 I3 f3 ad=>?_⟩
    ·have hb:b = lr:=hb
     rw [hb];exact ⟨_,s1 _ _ hlr1⟩
    rw [ec]
    have S3:St t H3 x dx lm lr (rs.set f (ji (j + 1) ++ p)) Gs':=⟨((S0.lm.same sX).same (bF s1)).same (rD ad),⟨a1,lg',gs',I3⟩,ad _ _ (s1 _ _ hlr1) hxr,hC'⟩
    have hb3:=(rD (lr:=lr) ad) _ _ ((bF s1) _ _ (sX _ _ hb))
    have hGl3:=hC'.len
    rw [List.length_set] at hGl3
    refine ⟨_,rfl,_,rfl,_,_,rfl,rfl,rfl,_,rfl,g6 (λh=>absurd ?_ h) (λ_=>?_)⟩
    ·rw [hrn];congr 1;omega
    refine ⟨_,rfl,_,rfl,_,rfl,λ_=>False,lm,lr,nms,_,Gs',rfl,(λ_ z=>z.elim),S3.lm.same aJ,A5,S3.lr,by rw [List.length_set];omega,hC',λlq H4 hK f4 s4=>?_⟩
    exact ⟨x,dx,a1,lg',lq,gs',nms,Gs',rfl,(I3.same aJ).same s4,hK.same aJ,by omega,λH5 s5=>⟨true,rfl,rR (bg ⟨Gs',⟨_,rfl⟩,S3.same (s4.trans s5),(bF (s4.trans s5)) _ _ hb3⟩)⟩⟩
   ·intros;trivial
  rintro σ' H15 _
  exact @au _ _ _ _ _ _ (aI iS) (q H15)
end
theorem all_mk {l:W.OpenLaw} {w:World} {K:W.Frag} {h:Heap} {mg:Str -> Option Value} {fa gK jc mW i7 gr bT cJ aX bS cT bK cX cz bP cG aR aC aY qG iu l6 kC kG mC kr ko lR kE ki lV ku jT rW sq kc j0 lC mh lJ lY lE lG mj l7 lD mL lN lK mE lS mG lF mJ lZ lW mK wA tu sQ uC uy vS vp tK pT pZ nK nM nR nY oH pe oA nP pG oW pU pL pY p9 n9 n5 nO nT oU pH nG nj n6 qc oM o9 nQ f_law dJ gG iH gJ:Addr} {zo pF tE qx qY uD rA qp vv qA qt tN qw qB zK Ak rB rg vN wM t7 tL sW wL sR vY vQ sS vB vo vR tH vz uK wI uq vZ uL Cm Bd CD D7 CC Cs BZ CQ uz tW vE u7 v7 tQ uQ vC wG tD wQ vh vX uv tM tG uR vV wo wJ vU v5 uu tO vg vf uN v9 sU d_law:FuncData} {u_LETTERS u_LONGEST_NAME u_START u_SIGNS u_MOST_MODES u_MOST_RULES u0_PATTERNS u1_PATTERNS u2_PATTERNS u3_PATTERNS u4_PATTERNS u5_PATTERNS u6_PATTERNS u0_DEEDS u1_DEEDS u2_DEEDS u3_DEEDS u0_GOING u1_GOING u0_FOLDS u1_FOLDS:Tok} {od_PATTERNS od_DEEDS od_GOING od_FOLDS:Option Addr} {n_PATTERNS n_DEEDS n_GOING n_FOLDS:Nat} {sl_PATTERNS sl_DEEDS sl_GOING sl_FOLDS:Array (Option Value)} (X:K.In h) (G:h.Ns mainGlobals mg) (hfa:mg "law" = some (.ref fa))
  (a_TintError:W.nsIn K mainGlobals "TintError" = some (some (.ref gK)))
  (a_NoRules:W.nsIn K mainGlobals "NoRules" = some (some (.ref jc)))
  (a_Rings:W.nsIn K mainGlobals "Rings" = some (some (.ref mW)))
  (a_NoPlace:W.nsIn K mainGlobals "NoPlace" = some (some (.ref i7)))
  (a_Pattern:W.nsIn K mainGlobals "Pattern" = some (some (.ref gr)))
  (a_Word:W.nsIn K mainGlobals "Word" = some (some (.ref bT)))
  (a_One:W.nsIn K mainGlobals "One" = some (some (.ref cJ)))
  (a_Without:W.nsIn K mainGlobals "Without" = some (some (.ref aX)))
  (a_Many:W.nsIn K mainGlobals "Many" = some (some (.ref bS)))
  (a_Any:W.nsIn K mainGlobals "Any" = some (some (.ref cT)))
  (a_Still:W.nsIn K mainGlobals "Still" = some (some (.ref bK)))
  (a_End:W.nsIn K mainGlobals "End" = some (some (.ref cX)))
  (a_Rule:W.nsIn K mainGlobals "Rule" = some (some (.ref cz)))
  (a_Mode:W.nsIn K mainGlobals "Mode" = some (some (.ref bP)))
  (a_Rules:W.nsIn K mainGlobals "Rules" = some (some (.ref cG)))
  (a_GoneRow:W.nsIn K mainGlobals "GoneRow" = some (some (.ref aR)))
  (a_Tinted:W.nsIn K mainGlobals "Tinted" = some (some (.ref aC)))
  (a_Cursor:W.nsIn K mainGlobals "Cursor" = some (some (.ref aY)))
  (a_q20:W.findIn K (.ref gr) "eaten" = some (some (.ref qG)))
  (i_q20:W.isFn K (.ref qG) = true)
  (FP:bI K "eaten" "Pattern.eaten" BX qG zo)
  (a_q21:W.findIn K (.ref gr) "eats" = some (some (.ref iu)))
  (i_q21:W.isFn K (.ref iu) = true)
  (qb:bI K "eats" "Pattern.eats" Bv iu pF)
  (a_q46:W.findIn K (.ref bT) "__init__" = some (some (.ref l6)))
  (i_q46:W.isFn K (.ref l6) = true)
  (yM:bI K "__init__" "Word.__init__" DP l6 tE)
  (a_q47:W.findIn K (.ref bT) "eaten" = some (some (.ref kC)))
  (i_q47:W.isFn K (.ref kC) = true)
  (uZ:bI K "eaten" "Word.eaten" D0 kC qx)
  (a_q48:W.findIn K (.ref bT) "eats" = some (some (.ref kG)))
  (i_q48:W.isFn K (.ref kG) = true)
  (ue:bI K "eats" "Word.eats" AQ kG qY)
  (a_q17:W.findIn K (.ref cJ) "__init__" = some (some (.ref mC)))
  (i_q17:W.isFn K (.ref mC) = true)
  (yK:bI K "__init__" "One.__init__" CU mC uD)
  (a_q18:W.findIn K (.ref cJ) "eaten" = some (some (.ref kr)))
  (i_q18:W.isFn K (.ref kr) = true)
  (vF:bI K "eaten" "One.eaten" A0 kr rA)
  (a_q19:W.findIn K (.ref cJ) "eats" = some (some (.ref ko)))
  (i_q19:W.isFn K (.ref ko) = true)
  (uS:bI K "eats" "One.eats" AO ko qp)
  (a_q43:W.findIn K (.ref aX) "__init__" = some (some (.ref lR)))
  (i_q43:W.isFn K (.ref lR) = true)
  (za:bI K "__init__" "Without.__init__" Cn lR vv)
  (a_q44:W.findIn K (.ref aX) "eaten" = some (some (.ref kE)))
  (i_q44:W.isFn K (.ref kE) = true)
  (vO:bI K "eaten" "Without.eaten" Dm kE qA)
  (a_q45:W.findIn K (.ref aX) "eats" = some (some (.ref ki)))
  (i_q45:W.isFn K (.ref ki) = true)
  (uO:bI K "eats" "Without.eats" DF ki qt)
  (a_q12:W.findIn K (.ref bS) "__init__" = some (some (.ref lV)))
  (i_q12:W.isFn K (.ref lV) = true)
  (yF:bI K "__init__" "Many.__init__" AJ lV tN)
  (a_q13:W.findIn K (.ref bS) "eaten" = some (some (.ref ku)))
  (i_q13:W.isFn K (.ref ku) = true)
  (tP:bI K "eaten" "Many.eaten" CY ku qw)
  (a_q14:W.findIn K (.ref bS) "eats" = some (some (.ref jT)))
  (i_q14:W.isFn K (.ref jT) = true)
  (vm:bI K "eats" "Many.eats" Cr jT qB)
  (a_q0:W.findIn K (.ref cT) "eaten" = some (some (.ref rW)))
  (i_q0:W.isFn K (.ref rW) = true)
  (BC:bI K "eaten" "Any.eaten" IK rW zK)
  (a_q1:W.findIn K (.ref cT) "eats" = some (some (.ref sq)))
  (i_q1:W.isFn K (.ref sq) = true)
  (A8:bI K "eats" "Any.eats" Hu sq Ak)
  (a_q25:W.findIn K (.ref bK) "eaten" = some (some (.ref kc)))
  (i_q25:W.isFn K (.ref kc) = true)
  (uF:bI K "eaten" "Still.eaten" Cd kc rB)
  (a_q10:W.findIn K (.ref cX) "eaten" = some (some (.ref j0)))
  (i_q10:W.isFn K (.ref j0) = true)
  (uP:bI K "eaten" "End.eaten" Dr j0 rg)
  (a_q23:W.findIn K (.ref cz) "__init__" = some (some (.ref lC)))
  (i_q23:W.isFn K (.ref lC) = true)
  (wg:bI K "__init__" "Rule.__init__" B9 lC vN)
  (a_q15:W.findIn K (.ref bP) "__init__" = some (some (.ref mh)))
  (i_q15:W.isFn K (.ref mh) = true)
  (vj:bI K "__init__" "Mode.__init__" AH mh wM)
  (a_q24:W.findIn K (.ref cG) "__init__" = some (some (.ref lJ)))
  (i_q24:W.isFn K (.ref lJ) = true)
  (t6:bI K "__init__" "Rules.__init__" AA lJ t7)
  (a_q11:W.findIn K (.ref aR) "__init__" = some (some (.ref lY)))
  (i_q11:W.isFn K (.ref lY) = true)
  (vq:bI K "__init__" "GoneRow.__init__" A2 lY tL)
  (a_q26:W.findIn K (.ref aC) "__init__" = some (some (.ref lE)))
  (i_q26:W.isFn K (.ref lE) = true)
  (yQ:bI K "__init__" "Tinted.__init__" BV lE sW)
  (a_q42:W.findIn K (.ref aC) "rows" = some (some (.ref lG)))
  (i_q42:W.isFn K (.ref lG) = true)
  (rq:bI K "rows" "Tinted.rows" yZ lG wL)
  (a_q31:W.findIn K (.ref aC) "begin" = some (some (.ref mj)))
  (i_q31:W.isFn K (.ref mj) = true)
  (vP:bI K "begin" "Tinted.begin" Cp mj sR)
  (a_q33:W.findIn K (.ref aC) "colours" = some (some (.ref l7)))
  (i_q33:W.isFn K (.ref l7) = true)
  (uY:bI K "colours" "Tinted.colours" Dh l7 vY)
  (a_q38:W.findIn K (.ref aC) "marks" = some (some (.ref lD)))
  (i_q38:W.isFn K (.ref lD) = true)
  (ug:bI K "marks" "Tinted.marks" Bt lD vQ)
  (a_q32:W.findIn K (.ref aC) "change" = some (some (.ref mL)))
  (i_q32:W.isFn K (.ref mL) = true)
  (pK:bI K "change" "Tinted.change" CA mL sS)
  (a_q41:W.findIn K (.ref aC) "put" = some (some (.ref lN)))
  (i_q41:W.isFn K (.ref lN) = true)
  (tw:bI K "put" "Tinted.put" C0 lN vB)
  (a_q34:W.findIn K (.ref aC) "cut" = some (some (.ref lK)))
  (i_q34:W.isFn K (.ref lK) = true)
  (vd:bI K "cut" "Tinted.cut" BG lK vo)
  (a_q36:W.findIn K (.ref aC) "go_over" = some (some (.ref mE)))
  (i_q36:W.isFn K (.ref mE) = true)
  (qy:bI K "go_over" "Tinted.go_over" Dj mE vR)
  (a_q35:W.findIn K (.ref aC) "go_on" = some (some (.ref lS)))
  (i_q35:W.isFn K (.ref lS) = true)
  (wH:bI K "go_on" "Tinted.go_on" AE lS tH)
  (a_q39:W.findIn K (.ref aC) "modes_ahead" = some (some (.ref mG)))
  (i_q39:W.isFn K (.ref mG) = true)
  (oK:bI K "modes_ahead" "Tinted.modes_ahead" Bx mG vz)
  (a_q37:W.findIn K (.ref aC) "gone_row" = some (some (.ref lF)))
  (i_q37:W.isFn K (.ref lF) = true)
  (oq:bI K "gone_row" "Tinted.gone_row" CS lF uK)
  (a_q29:W.findIn K (.ref aC) "ask_row" = some (some (.ref mJ)))
  (i_q29:W.isFn K (.ref mJ) = true)
  (qZ:bI K "ask_row" "Tinted.ask_row" DH mJ wI)
  (a_q27:W.findIn K (.ref aC) "ask_place" = some (some (.ref lZ)))
  (i_q27:W.isFn K (.ref lZ) = true)
  (oV:bI K "ask_place" "Tinted.ask_place" Dc lZ uq)
  (a_q28:W.findIn K (.ref aC) "ask_places" = some (some (.ref lW)))
  (i_q28:W.isFn K (.ref lW) = true)
  (wk:bI K "ask_places" "Tinted.ask_places" CL lW vZ)
  (a_q30:W.findIn K (.ref aC) "ask_taken" = some (some (.ref mK)))
  (i_q30:W.isFn K (.ref mK) = true)
  (uf:bI K "ask_taken" "Tinted.ask_taken" AM mK uL)
  (a_q2:W.findIn K (.ref aY) "__init__" = some (some (.ref wA)))
  (i_q2:W.isFn K (.ref wA) = true)
  (Em:bI K "__init__" "Cursor.__init__" JC wA Cm)
  (a_q4:W.findIn K (.ref aY) "more" = some (some (.ref tu)))
  (i_q4:W.isFn K (.ref tu) = true)
  (uh:bI K "more" "Cursor.more" Iq tu Bd)
  (a_q5:W.findIn K (.ref aY) "peek" = some (some (.ref sQ)))
  (i_q5:W.isFn K (.ref sQ) = true)
  (oB:bI K "peek" "Cursor.peek" GS sQ CD)
  (a_q3:W.findIn K (.ref aY) "ask" = some (some (.ref uC)))
  (i_q3:W.isFn K (.ref uC) = true)
  (qh:bI K "ask" "Cursor.ask" IW uC D7)
  (a_q6:W.findIn K (.ref aY) "take" = some (some (.ref uy)))
  (i_q6:W.isFn K (.ref uy) = true)
  (xG:bI K "take" "Cursor.take" HN uy CC)
  (a_q7:W.findIn K (.ref aY) "take_choice" = some (some (.ref vS)))
  (i_q7:W.isFn K (.ref vS) = true)
  (sY:bI K "take_choice" "Cursor.take_choice" Ik vS Cs)
  (a_q8:W.findIn K (.ref aY) "take_name" = some (some (.ref vp)))
  (i_q8:W.isFn K (.ref vp) = true)
  (wC:bI K "take_name" "Cursor.take_name" JH vp BZ)
  (a_q9:W.findIn K (.ref aY) "take_signs" = some (some (.ref tK)))
  (i_q9:W.isFn K (.ref tK) = true)
  (Di:bI K "take_signs" "Cursor.take_signs" Hh tK CQ)
  (a_q67:W.nsIn K mainGlobals "is_name" = some (some (.ref pT)))
  (v8:bI K "is_name" "is_name" zx pT uz)
  (a_q62:W.nsIn K mainGlobals "copied_rules" = some (some (.ref pZ)))
  (uw:bI K "copied_rules" "copied_rules" yR pZ tW)
  (a_q60:W.nsIn K mainGlobals "copied_mode" = some (some (.ref nK)))
  (tV:bI K "copied_mode" "copied_mode" zz nK vE)
  (a_q61:W.nsIn K mainGlobals "copied_rule" = some (some (.ref nM)))
  (uW:bI K "copied_rule" "copied_rule" CO nM u7)
  (a_q64:W.nsIn K mainGlobals "first_rule" = some (some (.ref nR)))
  (pV:bI K "first_rule" "first_rule" Bm nR v7)
  (a_q63:W.nsIn K mainGlobals "do_deed" = some (some (.ref nY)))
  (oG:bI K "do_deed" "do_deed" Ds nY tQ)
  (a_q59:W.nsIn K mainGlobals "ask_rings" = some (some (.ref oH)))
  (wD:bI K "ask_rings" "ask_rings" Bb oH uQ)
  (a_q75:W.nsIn K mainGlobals "ring_of" = some (some (.ref pe)))
  (pS:bI K "ring_of" "ring_of" zg pe vC)
  (a_q78:W.nsIn K mainGlobals "short_rows" = some (some (.ref oA)))
  (uE:bI K "short_rows" "short_rows" D3 oA wG)
  (a_q74:W.nsIn K mainGlobals "ring_from" = some (some (.ref nP)))
  (pN:bI K "ring_from" "ring_from" BY nP tD)
  (a_q66:W.nsIn K mainGlobals "idle_rule" = some (some (.ref pG)))
  (pB:bI K "idle_rule" "idle_rule" Dg pG wQ)
  (a_q65:W.nsIn K mainGlobals "gone_over" = some (some (.ref oW)))
  (vI:bI K "gone_over" "gone_over" DC oW vh)
  (a_q76:W.nsIn K mainGlobals "same_ahead" = some (some (.ref pU)))
  (nV:bI K "same_ahead" "same_ahead" DT pU vX)
  (a_q77:W.nsIn K mainGlobals "same_back" = some (some (.ref pL)))
  (vt:bI K "same_back" "same_back" Be pL uv)
  (a_q73:W.nsIn K mainGlobals "read_rules" = some (some (.ref pY)))
  (uT:bI K "read_rules" "read_rules" Cv pY tM)
  (a_q68:W.nsIn K mainGlobals "mode_numbers" = some (some (.ref p9)))
  (uV:bI K "mode_numbers" "mode_numbers" AD p9 tG)
  (a_q70:W.nsIn K mainGlobals "read_mode" = some (some (.ref n9)))
  (sO:bI K "read_mode" "read_mode" zw n9 uR)
  (a_q72:W.nsIn K mainGlobals "read_rule" = some (some (.ref n5)))
  (vG:bI K "read_rule" "read_rule" CZ n5 vV)
  (a_q71:W.nsIn K mainGlobals "read_pattern" = some (some (.ref nO)))
  (t8:bI K "read_pattern" "read_pattern" CN nO wo)
  (a_q69:W.nsIn K mainGlobals "read_goal" = some (some (.ref nT)))
  (uA:bI K "read_goal" "read_goal" Bq nT wJ)
  (a_q50:W.nsIn K mainGlobals "_law_draw" = some (some (.ref oU)))
  (fB:bI K "_law_draw" "_law_draw" BI oU vU)
  (a_q51:W.nsIn K mainGlobals "_law_eaten" = some (some (.ref pH)))
  (pW:bI K "_law_eaten" "_law_eaten" DR pH v5)
  (a_q52:W.nsIn K mainGlobals "_law_first" = some (some (.ref nG)))
  (p6:bI K "_law_first" "_law_first" DN nG uu)
  (a_q49:W.nsIn K mainGlobals "_law_deed" = some (some (.ref nj)))
  (u6:bI K "_law_deed" "_law_deed" BB nj tO)
  (a_q53:W.nsIn K mainGlobals "_law_gone" = some (some (.ref n6)))
  (vH:bI K "_law_gone" "_law_gone" Cb n6 vg)
  (a_q57:W.nsIn K mainGlobals "_law_whole" = some (some (.ref qc)))
  (nH:bI K "_law_whole" "_law_whole" Dp qc vf)
  (a_q56:W.nsIn K mainGlobals "_law_shows" = some (some (.ref oM)))
  (pR:bI K "_law_shows" "_law_shows" yz oM uN)
  (a_q54:W.nsIn K mainGlobals "_law_nested" = some (some (.ref o9)))
  (vJ:bI K "_law_nested" "_law_nested" BE o9 v9)
  (a_q55:W.nsIn K mainGlobals "_law_nested_text" = some (some (.ref nQ)))
  (vK:bI K "_law_nested_text" "_law_nested_text" A9 nQ sU)
  (a_law:W.nsIn K mainGlobals "law" = some (some (.ref f_law)))
  (F_law:bI K "law" "law" zb f_law d_law)
  (pg_Word:W.plainGet K bT Str.empty = true)
  (hd_Word:W.hasDictIn K bT = true)
  (po_Word:W.plainOver K bT = true)
  (sa_Word:W.findIn K (.ref bT) "__setattr__" = some (some (.builtin "object.__setattr__")))
  (rG:W.makesIn K bT = true)
  (kc_Word:W.keepIn K (.ref bT) = true)
  (ez:W.findIn K (.ref bT) "wanted" = some none)
  (pg_One:W.plainGet K cJ Str.empty = true)
  (hd_One:W.hasDictIn K cJ = true)
  (po_One:W.plainOver K cJ = true)
  (sa_One:W.findIn K (.ref cJ) "__setattr__" = some (some (.builtin "object.__setattr__")))
  (xT:W.makesIn K cJ = true)
  (kc_One:W.keepIn K (.ref cJ) = true)
  (gH:W.findIn K (.ref cJ) "signs" = some none)
  (pg_Without:W.plainGet K aX Str.empty = true)
  (hd_Without:W.hasDictIn K aX = true)
  (po_Without:W.plainOver K aX = true)
  (sa_Without:W.findIn K (.ref aX) "__setattr__" = some (some (.builtin "object.__setattr__")))
  (jL:W.makesIn K aX = true)
  (kc_Without:W.keepIn K (.ref aX) = true)
  (eN:W.findIn K (.ref aX) "signs" = some none)
  (pg_Many:W.plainGet K bS Str.empty = true)
  (hd_Many:W.hasDictIn K bS = true)
  (po_Many:W.plainOver K bS = true)
  (sa_Many:W.findIn K (.ref bS) "__setattr__" = some (some (.builtin "object.__setattr__")))
  (rV:W.makesIn K bS = true)
  (kc_Many:W.keepIn K (.ref bS) = true)
  (gg:W.findIn K (.ref bS) "signs" = some none)
  (pg_Any:W.plainGet K cT Str.empty = true)
  (hd_Any:W.hasDictIn K cT = true)
  (po_Any:W.plainOver K cT = true)
  (sa_Any:W.findIn K (.ref cT) "__setattr__" = some (some (.builtin "object.__setattr__")))
  (xF:W.makesIn K cT = true)
  (kc_Any:W.keepIn K (.ref cT) = true)
  (oi_Any:W.findIn K (.ref cT) "__init__" = some (some (.builtin "object.__init__")))
  (pg_Still:W.plainGet K bK Str.empty = true)
  (hd_Still:W.hasDictIn K bK = true)
  (po_Still:W.plainOver K bK = true)
  (sa_Still:W.findIn K (.ref bK) "__setattr__" = some (some (.builtin "object.__setattr__")))
  (oS:W.makesIn K bK = true)
  (kc_Still:W.keepIn K (.ref bK) = true)
  (oi_Still:W.findIn K (.ref bK) "__init__" = some (some (.builtin "object.__init__")))
  (h_Still_eats:W.findIn K (.ref bK) "eats" = some (some (.ref iu)))
  (pg_End:W.plainGet K cX Str.empty = true)
  (hd_End:W.hasDictIn K cX = true)
  (po_End:W.plainOver K cX = true)
  (sa_End:W.findIn K (.ref cX) "__setattr__" = some (some (.builtin "object.__setattr__")))
  (xH:W.makesIn K cX = true)
  (kc_End:W.keepIn K (.ref cX) = true)
  (oi_End:W.findIn K (.ref cX) "__init__" = some (some (.builtin "object.__init__")))
  (h_End_eats:W.findIn K (.ref cX) "eats" = some (some (.ref iu)))
  (pg_Rule:W.plainGet K cz Str.empty = true)
  (hd_Rule:W.hasDictIn K cz = true)
  (po_Rule:W.plainOver K cz = true)
  (sa_Rule:W.findIn K (.ref cz) "__setattr__" = some (some (.builtin "object.__setattr__")))
  (nh:W.makesIn K cz = true)
  (kc_Rule:W.keepIn K (.ref cz) = true)
  (cM:W.findIn K (.ref cz) "pattern" = some none)
  (eE:W.findIn K (.ref cz) "colour" = some none)
  (di:W.findIn K (.ref cz) "deed" = some none)
  (fc:W.findIn K (.ref cz) "goal" = some none)
  (eW:W.findIn K (.ref cz) "fold" = some none)
  (pg_Mode:W.plainGet K bP Str.empty = true)
  (hd_Mode:W.hasDictIn K bP = true)
  (po_Mode:W.plainOver K bP = true)
  (sa_Mode:W.findIn K (.ref bP) "__setattr__" = some (some (.builtin "object.__setattr__")))
  (mV:W.makesIn K bP = true)
  (kc_Mode:W.keepIn K (.ref bP) = true)
  (e7:W.findIn K (.ref bP) "name" = some none)
  (eF:W.findIn K (.ref bP) "colour" = some none)
  (cU:W.findIn K (.ref bP) "rules" = some none)
  (pg_Rules:W.plainGet K cG Str.empty = true)
  (hd_Rules:W.hasDictIn K cG = true)
  (po_Rules:W.plainOver K cG = true)
  (sa_Rules:W.findIn K (.ref cG) "__setattr__" = some (some (.builtin "object.__setattr__")))
  (j8:W.makesIn K cG = true)
  (kc_Rules:W.keepIn K (.ref cG) = true)
  (b8:W.findIn K (.ref cG) "modes" = some none)
  (pg_Cursor:W.plainGet K aY Str.empty = true)
  (hd_Cursor:W.hasDictIn K aY = true)
  (po_Cursor:W.plainOver K aY = true)
  (sa_Cursor:W.findIn K (.ref aY) "__setattr__" = some (some (.builtin "object.__setattr__")))
  (k7:W.makesIn K aY = true)
  (kc_Cursor:W.keepIn K (.ref aY) = true)
  (gj:W.findIn K (.ref aY) "row" = some none)
  (dN:W.findIn K (.ref aY) "words" = some none)
  (dI:W.findIn K (.ref aY) "at" = some none)
  (pg_GoneRow:W.plainGet K aR Str.empty = true)
  (hd_GoneRow:W.hasDictIn K aR = true)
  (po_GoneRow:W.plainOver K aR = true)
  (sa_GoneRow:W.findIn K (.ref aR) "__setattr__" = some (some (.builtin "object.__setattr__")))
  (iC:W.makesIn K aR = true)
  (kc_GoneRow:W.keepIn K (.ref aR) = true)
  (bU:W.findIn K (.ref aR) "signs" = some none)
  (dc:W.findIn K (.ref aR) "before" = some none)
  (eL:W.findIn K (.ref aR) "tints" = some none)
  (c7:W.findIn K (.ref aR) "behind" = some none)
  (dW:W.findIn K (.ref aR) "folded" = some none)
  (pg_Tinted:W.plainGet K aC Str.empty = true)
  (hd_Tinted:W.hasDictIn K aC = true)
  (po_Tinted:W.plainOver K aC = true)
  (sa_Tinted:W.findIn K (.ref aC) "__setattr__" = some (some (.builtin "object.__setattr__")))
  (kW:W.makesIn K aC = true)
  (kc_Tinted:W.keepIn K (.ref aC) = true)
  (dP:W.findIn K (.ref aC) "rules" = some none)
  (aL:W.findIn K (.ref aC) "gone_rows" = some none)
  (cg:W.specialIn K (.builtin "object.__class__") "__get__" = some (some (.builtin "getset_descriptor.__get__")))
  (ct:W.takesIn K (.builtin "object.__class__") = some true)
  (rS:W.findIn K (.ref bT) "__class__" = some (some (.builtin "object.__class__")))
  (se:W.mroIn K bT (.type "object") = some true)
  (xP:W.findIn K (.ref cJ) "__class__" = some (some (.builtin "object.__class__")))
  (yb:W.mroIn K cJ (.type "object") = some true)
  (jO:W.findIn K (.ref aX) "__class__" = some (some (.builtin "object.__class__")))
  (jG:W.mroIn K aX (.type "object") = some true)
  (rZ:W.findIn K (.ref bS) "__class__" = some (some (.builtin "object.__class__")))
  (sD:W.mroIn K bS (.type "object") = some true)
  (ym:W.findIn K (.ref cT) "__class__" = some (some (.builtin "object.__class__")))
  (ye:W.mroIn K cT (.type "object") = some true)
  (pP:W.findIn K (.ref bK) "__class__" = some (some (.builtin "object.__class__")))
  (nB:W.mroIn K bK (.type "object") = some true)
  (xh:W.findIn K (.ref cX) "__class__" = some (some (.builtin "object.__class__")))
  (wV:W.mroIn K cX (.type "object") = some true)
  (jn:W.kitOne K (.ref bT) (.ref bT) = some true)
  (lB:W.kitOne K (.ref cJ) (.ref cJ) = some true)
  (fZ:W.kitOne K (.ref aX) (.ref aX) = some true)
  (jo:W.kitOne K (.ref bS) (.ref bS) = some true)
  (mH:W.kitOne K (.ref cT) (.ref cT) = some true)
  (iK:W.kitOne K (.ref bK) (.ref bK) = some true)
  (mw:W.kitOne K (.ref cX) (.ref cX) = some true)
  (v_LETTERS:W.nsIn K mainGlobals "LETTERS" = some (some (.str "abcdefghijklmnopqrstuvwxyz" u_LETTERS)))
  (v_LONGEST_NAME:W.nsIn K mainGlobals "LONGEST_NAME" = some (some (.int 8 u_LONGEST_NAME)))
  (v_START:W.nsIn K mainGlobals "START" = some (some (.int 0 u_START)))
  (v_SIGNS:W.nsIn K mainGlobals "SIGNS" = some (some (.str " !\"#$&'()*+,-./0123456789:;<=>?@ABCDEFGHIJKLMNOPQRSTUVWXYZ[\\]^_`abcdefghijklmnopqrstuvwxyz{|}~" u_SIGNS)))
  (v_MOST_MODES:W.nsIn K mainGlobals "MOST_MODES" = some (some (.int 12 u_MOST_MODES)))
  (v_MOST_RULES:W.nsIn K mainGlobals "MOST_RULES" = some (some (.int 12 u_MOST_RULES)))
  (v_PATTERNS:W.nsIn K mainGlobals "PATTERNS" = some (some (.ref dJ)))
  (o_PATTERNS:K.lookup dJ = some ⟨.type "tuple",od_PATTERNS,.seq #[.str "word" u0_PATTERNS,.str "one" u1_PATTERNS,.str "none" u2_PATTERNS,.str "many" u3_PATTERNS,.str "any" u4_PATTERNS,.str "still" u5_PATTERNS,.str "end" u6_PATTERNS] n_PATTERNS,sl_PATTERNS⟩)
  (v_DEEDS:W.nsIn K mainGlobals "DEEDS" = some (some (.ref gG)))
  (o_DEEDS:K.lookup gG = some ⟨.type "tuple",od_DEEDS,.seq #[.str "stay" u0_DEEDS,.str "push" u1_DEEDS,.str "pop" u2_DEEDS,.str "into" u3_DEEDS] n_DEEDS,sl_DEEDS⟩)
  (v_GOING:W.nsIn K mainGlobals "GOING" = some (some (.ref iH)))
  (o_GOING:K.lookup iH = some ⟨.type "tuple",od_GOING,.seq #[.str "push" u0_GOING,.str "into" u1_GOING] n_GOING,sl_GOING⟩)
  (v_FOLDS:W.nsIn K mainGlobals "FOLDS" = some (some (.ref gJ)))
  (o_FOLDS:K.lookup gJ = some ⟨.type "tuple",od_FOLDS,.seq #[.str "open" u0_FOLDS,.str "close" u1_FOLDS] n_FOLDS,sl_FOLDS⟩)
  (BS:W.nsIn K mainGlobals "all" = some none)
  (gM:W.nsIn K mainGlobals "enumerate" = some none)
  (nU:W.nsIn K mainGlobals "int" = some none)
  (bN:W.nsIn K mainGlobals "len" = some none)
  (gu:W.nsIn K mainGlobals "list" = some none)
  (jh:W.nsIn K mainGlobals "range" = some none)
  (iE:W.nsIn K mainGlobals "reversed" = some none)
  (yT:W.nsIn K mainGlobals "tuple" = some none)
  (DM:W.nsIn K mainGlobals "zip" = some none)
  : ∃ fd:FuncData,(∀ (s:Shared) (v:Value),BindsTo s fd ⟨[v],[]⟩ [("_law_script",v)]) /\ ∀ base:Heap,K.In base -> base.Ns mainGlobals mg -> bC l.prog w K mg base dh 10 fa fd ["_law_script"] (yS K):=by
 have e:=hfa.symm.trans (W.mg_of X G a_law)
 cases e
 let t:fE:=⟨gK,jc,mW,i7,gr,bT,cJ,aX,bS,cT,bK,cX,cz,bP,cG,aR,aC,aY,qG,zo,iu,pF,l6,tE,kC,qx,kG,qY,mC,uD,kr,rA,ko,qp,lR,vv,kE,qA,ki,qt,lV,tN,ku,qw,jT,qB,rW,zK,sq,Ak,kc,rB,j0,rg,pT,uz,lC,vN,mh,wM,lJ,t7,pZ,tW,nK,vE,nM,u7,nR,v7,nY,tQ,oH,uQ,pe,vC,oA,wG,nP,tD,pG,wQ,oW,vh,lY,tL,lE,sW,lG,wL,mj,sR,l7,vY,lD,vQ,mL,sS,lN,vB,lK,vo,mE,vR,lS,tH,mG,vz,lF,uK,mJ,wI,lZ,uq,lW,vZ,mK,uL,pU,vX,pL,uv,wA,Cm,tu,Bd,sQ,CD,uC,D7,uy,CC,vS,Cs,vp,BZ,tK,CQ,pY,tM,p9,tG,n9,uR,n5,vV,nO,wo,nT,wJ,oU,vU,pH,v5,nG,uu,nj,tO,n6,vg,qc,vf,oM,uN,o9,v9,nQ,sU,dJ,gG,iH,gJ⟩
 have T:Txt K mg t:=⟨W.mg_of X G a_TintError,W.mg_of X G a_NoRules,W.mg_of X G a_Rings,W.mg_of X G a_NoPlace,W.mg_of X G a_Pattern,W.mg_of X G a_Word,W.mg_of X G a_One,W.mg_of X G a_Without,W.mg_of X G a_Many,W.mg_of X G a_Any,W.mg_of X G a_Still,W.mg_of X G a_End,W.mg_of X G a_Rule,W.mg_of X G a_Mode,W.mg_of X G a_Rules,W.mg_of X G a_GoneRow,W.mg_of X G a_Tinted,W.mg_of X G a_Cursor,FP,qb,yM,uZ,ue,yK,vF,uS,za,vO,uO,yF,tP,vm,BC,A8,uF,uP,wg,vj,t6,vq,yQ,rq,vP,uY,ug,pK,tw,vd,qy,wH,oK,oq,qZ,oV,wk,uf,Em,uh,oB,qh,xG,sY,wC,Di,v8,W.mg_of X G a_q67,uw,W.mg_of X G a_q62,tV,W.mg_of X G a_q60,uW,W.mg_of X G a_q61,pV,W.mg_of X G a_q64,oG,W.mg_of X G a_q63,wD,W.mg_of X G a_q59,pS,W.mg_of X G a_q75,uE,W.mg_of X G a_q78,pN,W.mg_of X G a_q74,pB,W.mg_of X G a_q66,vI,W.mg_of X G a_q65,nV,W.mg_of X G a_q76,vt,W.mg_of X G a_q77,uT,W.mg_of X G a_q73,uV,W.mg_of X G a_q68,sO,W.mg_of X G a_q70,vG,W.mg_of X G a_q72,t8,W.mg_of X G a_q71,uA,W.mg_of X G a_q69,fB,W.mg_of X G a_q50,pW,W.mg_of X G a_q51,p6,W.mg_of X G a_q52,u6,W.mg_of X G a_q49,vH,W.mg_of X G a_q53,nH,W.mg_of X G a_q57,pR,W.mg_of X G a_q56,vJ,W.mg_of X G a_q54,vK,W.mg_of X G a_q55,⟨pg_Word,hd_Word,po_Word,sa_Word⟩,⟨rG,a_q46,i_q46,kc_Word⟩,ez,⟨a_q47,i_q47,uZ.kp⟩,⟨a_q48,i_q48,ue.kp⟩,⟨pg_One,hd_One,po_One,sa_One⟩,⟨xT,a_q17,i_q17,kc_One⟩,gH,⟨a_q18,i_q18,vF.kp⟩,⟨a_q19,i_q19,uS.kp⟩,⟨pg_Without,hd_Without,po_Without,sa_Without⟩,⟨jL,a_q43,i_q43,kc_Without⟩,eN,⟨a_q44,i_q44,vO.kp⟩,⟨a_q45,i_q45,uO.kp⟩,⟨pg_Many,hd_Many,po_Many,sa_Many⟩,⟨rV,a_q12,i_q12,kc_Many⟩,gg,⟨a_q13,i_q13,tP.kp⟩,⟨a_q14,i_q14,vm.kp⟩,⟨pg_Any,hd_Any,po_Any,sa_Any⟩,⟨xF,oi_Any,kc_Any⟩,⟨a_q0,i_q0,BC.kp⟩,⟨a_q1,i_q1,A8.kp⟩,⟨pg_Still,hd_Still,po_Still,sa_Still⟩,⟨oS,oi_Still,kc_Still⟩,⟨a_q25,i_q25,uF.kp⟩,⟨h_Still_eats,i_q21,qb.kp⟩,⟨pg_End,hd_End,po_End,sa_End⟩,⟨xH,oi_End,kc_End⟩,⟨a_q10,i_q10,uP.kp⟩,⟨h_End_eats,i_q21,qb.kp⟩,⟨pg_Rule,hd_Rule,po_Rule,sa_Rule⟩,⟨nh,a_q23,i_q23,kc_Rule⟩,cM,eE,di,fc,eW,⟨pg_Mode,hd_Mode,po_Mode,sa_Mode⟩,⟨mV,a_q15,i_q15,kc_Mode⟩,e7,eF,cU,⟨pg_Rules,hd_Rules,po_Rules,sa_Rules⟩,⟨j8,a_q24,i_q24,kc_Rules⟩,b8,⟨pg_Cursor,hd_Cursor,po_Cursor,sa_Cursor⟩,⟨k7,a_q2,i_q2,kc_Cursor⟩,gj,dN,dI,⟨a_q4,i_q4,uh.kp⟩,⟨a_q5,i_q5,oB.kp⟩,⟨a_q3,i_q3,qh.kp⟩,⟨a_q6,i_q6,xG.kp⟩,⟨a_q7,i_q7,sY.kp⟩,⟨a_q8,i_q8,wC.kp⟩,⟨a_q9,i_q9,Di.kp⟩,⟨pg_GoneRow,hd_GoneRow,po_GoneRow,sa_GoneRow⟩,⟨iC,a_q11,i_q11,kc_GoneRow⟩,bU,dc,eL,c7,dW,⟨pg_Tinted,hd_Tinted,po_Tinted,sa_Tinted⟩,⟨kW,a_q26,i_q26,kc_Tinted⟩,dP,aL,⟨a_q42,i_q42,rq.kp⟩,⟨a_q31,i_q31,vP.kp⟩,⟨a_q33,i_q33,uY.kp⟩,⟨a_q38,i_q38,ug.kp⟩,⟨a_q32,i_q32,pK.kp⟩,⟨a_q41,i_q41,tw.kp⟩,⟨a_q34,i_q34,vd.kp⟩,⟨a_q36,i_q36,qy.kp⟩,⟨a_q35,i_q35,wH.kp⟩,⟨a_q39,i_q39,oK.kp⟩,⟨a_q37,i_q37,oq.kp⟩,⟨a_q29,i_q29,qZ.kp⟩,⟨a_q27,i_q27,oV.kp⟩,⟨a_q28,i_q28,wk.kp⟩,⟨a_q30,i_q30,uf.kp⟩,cg,ct,rS,se,xP,yb,jO,jG,rZ,sD,ym,ye,pP,nB,xh,wV,jn,lB,fZ,jo,mH,iK,mw,⟨_,W.mg_of X G v_LETTERS,⟨_,rfl⟩⟩,⟨_,W.mg_of X G v_LONGEST_NAME,⟨_,rfl⟩⟩,⟨_,W.mg_of X G v_START,⟨_,rfl⟩⟩,⟨_,W.mg_of X G v_SIGNS,⟨_,rfl⟩⟩,⟨_,W.mg_of X G v_MOST_MODES,⟨_,rfl⟩⟩,⟨_,W.mg_of X G v_MOST_RULES,⟨_,rfl⟩⟩,W.mg_of X G v_PATTERNS,λH=>.inr ⟨_,_,_,o_PATTERNS,rfl,rfl,by show 7 <= sizeLine;decide,.cons ⟨_,rfl⟩ (.cons ⟨_,rfl⟩ (.cons ⟨_,rfl⟩ (.cons ⟨_,rfl⟩ (.cons ⟨_,rfl⟩ (.cons ⟨_,rfl⟩ (.cons ⟨_,rfl⟩ (.nil)))))))⟩,W.mg_of X G v_DEEDS,λH=>.inr ⟨_,_,_,o_DEEDS,rfl,rfl,by show 4 <= sizeLine;decide,.cons ⟨_,rfl⟩ (.cons ⟨_,rfl⟩ (.cons ⟨_,rfl⟩ (.cons ⟨_,rfl⟩ (.nil))))⟩,W.mg_of X G v_GOING,λH=>.inr ⟨_,_,_,o_GOING,rfl,rfl,by show 2 <= sizeLine;decide,.cons ⟨_,rfl⟩ (.cons ⟨_,rfl⟩ (.nil))⟩,W.mg_of X G v_FOLDS,λH=>.inr ⟨_,_,_,o_FOLDS,rfl,rfl,by show 2 <= sizeLine;decide,.cons ⟨_,rfl⟩ (.cons ⟨_,rfl⟩ (.nil))⟩,W.mg_none_of X G BS,W.mg_none_of X G gM,W.mg_none_of X G nU,W.mg_none_of X G bN,W.mg_none_of X G gu,W.mg_none_of X G jh,W.mg_none_of X G iE,W.mg_none_of X G yT,W.mg_none_of X G DM⟩
 exact ⟨d_law,(by obtain ⟨_,_,_,_,_,_,_,_,_,e,_⟩:=F_law.ex;rw [e];exact λs v=>.of_eq rfl),λbase _ _=>IU F_law T⟩
theorem walk {l:W.OpenLaw} {q:Program} {loose:List Str} {XP:(Str -> Option Value) -> Heap -> Prop} {YP:World -> Heap -> Prop} {d:DefRec} {K:Params -> W.Frag} (hn:l.most = some 63) (hdf:d.params.defaults = [])
  (hY:∀ (w:World) (h:Heap),YP w h -> (K w.params).In h)
  (F:∀ (w:World) (mg:Str -> Option Value) (fa:Addr) (h:Heap),(K w.params).In h -> h.Ns mainGlobals mg -> mg d.name = some (.ref fa) ->
   ∃ fd:FuncData,(∀ (s:Shared) (u:Value),BindsTo s fd ⟨[u],[]⟩ [("_law_script",u)]) /\ ∀ base:Heap,(K w.params).In base -> base.Ns mainGlobals mg -> bC l.prog w (K w.params) mg base dh 10 fa fd ["_law_script"] (yS (K w.params))) :
  W.WalkO q loose XP YP l.row.toRowW d [] (λf vs=>PySem.call f vs) :=
 L2.EV (n:=63) (k:=10) (x:="_law_script") (CX:=λ_=>dh) (sp:=λw=>yS (K w.params)) hn (by decide) hdf ⟨rfl,by decide,by decide⟩ hY F (λ_ _ a ns hl _ hS=>⟨a,ns,rfl,hS,hl,λ_=>rfl⟩) λ_ _ _ _ _ z=>z
end K35
open PySem PySem.W PyProof.Rows
set_option maxRecDepth 100000 in
set_option maxHeartbeats 0 in
theorem PySem.Challenge.cw_tintrow_k35_whole_down_to_the_end_holds : PySem.Challenge.rw_tintrow_k35_whole_down_to_the_end.Holds := by
 w_on;o_law;k_head;(case hw=>w_witness2)
 k_fill
 refine K35.walk (l:=PySem.Challenge.rw_tintrow_k35_whole_down_to_the_end) rfl rfl (λw h Y=>PySem.W.kIn_of Y) ?F
 case F =>
  intro w mg fa h KX G hmg
  apply K35.all_mk KX G hmg
  all_goals first | (show PySem.W.kitOne _ _ _ = _;kit_is) | k_is | (apply L2.IC <;> k_is) | k_exc | kernel_rfl
