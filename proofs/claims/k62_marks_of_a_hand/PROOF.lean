import PyProof.Rows.All
import Wide.All
import OpenK.AllK
import Wide.FinOn
import PyProof.EqAt
import PyProof.EqKinds
import PyProof.TupleCall
import PyProof.ListStr
import PyProof.EnumFor
import PyProof.EnumMake
import PyProof.EnumStmt
import PyProof.StrLawsTight
import PyProof.StrLawsReplace
import PyProof.StrCalls6
import PyProof.ToksMono
import PyProof.StationsW
import PyProof.RulesTry
import PyProof.ExcInit
import PyProof.ExcClass3
import OpenK.KOwn
import PyProof.ExcBaseAll.ValueError
import PyProof.RulesAs
import PyProof.NsDelKeeps
import KE.KIsAll
import PyProof.ExcArgsOwn
import PyProof.InstStoreFacts
import PyProof.ZipIter
import KE.KRevIter
import KE.KIntText
import PyProof.FString
import PyProof.CompMap
import KE.KListMore
import PyProof.ListRange
import KE.KDictOf
import PyProof.AttrMissHeap
import KE.KSortTup
import KE.KDictSum
import KE.KSortAsk
import KE.KEqDict
import PySem.Challenge.RW_tintrow_k62_marks_of_a_hand
set_option Elab.async false
set_option linter.all false
set_option maxRecDepth 100000
namespace L2
theorem Y0(_:True:=by first|exact .inl rfl|exact .inr rfl|assumption):True:=⟨⟩
theorem Y1(_:True:=by decide):True:=⟨⟩
theorem Y2(_:True:=by intro _;rfl):True:=⟨⟩
theorem Y3(_:True:=by rfl):True:=⟨⟩
theorem Y4(_:True:=by exact Or.inl rfl):True:=⟨⟩
open PySem PySem.Spec PyProof.Rows
abbrev Key:=Sum Int Str
def tG:Key->Value->Bool
 |.inl k,v=>Value.isInt k v
 |.inr x,v=>Value.isStrOf x v
def Um(w:World):Key->Int
 |.inl k=>hashInt k
 |.inr x=>hashStr w x
theorem c6:∀{k:Key} {v:Value},tG k v=true->(∃i t,k=Sum.inl i/\v=Value.int i t)∨(∃x t,k=Sum.inr x/\v=Value.str x t)
 |.inl i,v,h=>by
  obtain⟨t,e⟩:=Value.isInt_shape (k:=i) (v:=v) h
  exact .inl ⟨i,t,rfl,e⟩
 |.inr x,v,h=>by
  obtain⟨t,e⟩:=Value.isStrOf_shape (x:=x) (v:=v) h
  exact .inr ⟨x,t,rfl,e⟩
theorem Ac(i:Int)(t:Tok):tG (.inl i) (.int i t)=true:=by simp[tG,Value.isInt]
theorem Aq(x:Str)(t:Tok):tG (.inr x) (.str x t)=true:=by simp[tG,Value.isStrOf]
theorem NI(a b:Int):decide ((Sum.inl a:Key)=Sum.inl b)=(a == b):=by
 by_cases e:a=b
 ·subst e;simp
 ·have h:¬ (Sum.inl a:Key)=Sum.inl b:=λq=>e (Sum.inl.inj q)
  rw[decide_eq_false h]
  exact(beq_eq_false_iff_ne.mpr e).symm
theorem P0(a b:Str):decide ((Sum.inr a:Key)=Sum.inr b)=decide (a=b):=by
 by_cases e:a=b
 ·subst e;simp
 ·have h:¬ (Sum.inr a:Key)=Sum.inr b:=λq=>e (Sum.inr.inj q)
  rw[decide_eq_false h,decide_eq_false e]
theorem O5(a:Int)(b:Str):decide ((Sum.inl a:Key)=Sum.inr b)=false:=decide_eq_false (λq=>nomatch q)
theorem NO(a:Str)(b:Int):decide ((Sum.inr a:Key)=Sum.inl b)=false:=decide_eq_false (λq=>nomatch q)
def b7(prog:Program)(w:World):PySem.KeyKind prog w Key where
 is:=tG
 hash:=Um w
 inj:=λv a b ha hb=>by
  rcases c6 ha with ⟨i,t,rfl,rfl⟩|⟨x,t,rfl,rfl⟩
  ·rcases c6 hb with ⟨j,u,rfl,e⟩|⟨y,u,rfl,e⟩
   ·injection e with e1 _;rw[e1]
   ·exact nomatch e
  ·rcases c6 hb with ⟨j,u,rfl,e⟩|⟨y,u,rfl,e⟩
   ·exact nomatch e
   ·injection e with e1 _;rw[e1]
 byValue:=λk v h=>by
  rcases c6 h with ⟨i,t,rfl,rfl⟩|⟨x,t,rfl,rfl⟩ <;> rfl
 pyHash:=λhv h=>by
  rcases c6 hv with ⟨i,t,rfl,rfl⟩|⟨x,t,rfl,rfl⟩
  ·exact wpAny_pyHash_int h
  ·exact wpAny_pyHash_str h
 eqBool:=λhu hv h=>by
  rcases c6 hu with ⟨i,t,rfl,rfl⟩|⟨x,t,rfl,rfl⟩
  ·rcases c6 hv with ⟨j,u,rfl,rfl⟩|⟨y,u,rfl,rfl⟩
   ·rw[NI] at h;exact wpAny_eqBool_int h
   ·rw[O5] at h;exact SeqAt.EqAt.int_str i t y u _ _ _ _ h
  ·rcases c6 hv with ⟨j,u,rfl,rfl⟩|⟨y,u,rfl,rfl⟩
   ·rw[NO] at h;exact SeqAt.EqAt.str_int x t j u _ _ _ _ h
   ·rw[P0] at h;exact wpAny_eqBool_str h
 «strs»:=λk x t v h=>by
  rcases c6 h with ⟨i,u,rfl,e⟩|⟨y,u,rfl,e⟩
  ·exact nomatch e
  ·injection e with e1 _
   subst e1
   cases v <;> rfl
theorem v9(prog:Program)(w:World)(i:Int)(t:Tok):(b7 prog w).is (.inl i) (.int i t)=true:=Ac i t
theorem wC(prog:Program)(w:World)(x:Str)(t:Tok):(b7 prog w).is (.inr x) (.str x t)=true:=Aq x t
inductive V where
 |cW | bl (b:Bool) | int (i:Int) | str (x:Str) | byt (b:Array UInt8) | wJ (b:UInt64) | ref (a:Addr) | ty (n:String)
 deriving DecidableEq
def RelV:V->Value->Prop
 |.cW,u=>u=Value.none
 |.bl b,u=>u=Value.bool b
 |.int i,u=>∃t,u=Value.int i t
 |.str x,u=>∃t,u=Value.str x t
 |.byt b,u=>∃t,u=Value.bytes b t
 |.wJ b,u=>∃t,u=Value.float b t
 |.ref a,u=>u=Value.ref a
 |.ty n,u=>u=Value.type n
abbrev Vals:List V->List Value->Prop:=Paired RelV
theorem Vals.length{xs:List V}{us:List Value}(r:Vals xs us):xs.length=us.length:=Paired.length r
theorem Vals.get:∀{xs:List V} {us:List Value} {i:Nat} {x:V},Vals xs us->xs[i]?=some x->∃u,us[i]?=some u/\RelV x u
 |_,_,_,_,.nil,e=>by simp at e
 |_,_,0,_,.cons r _,e=>by simp at e;subst e;exact⟨_,rfl,r⟩
 |_,_,i+1,x,.cons _ t,e=>by
  obtain⟨u,h1,h2⟩:=Vals.get (i:=i) (x:=x) t (by simpa using e)
  exact⟨u,by simpa using h1,h2⟩
theorem Vals.set{x:V}{u:Value}(r:RelV x u):∀{xs:List V} {us:List Value} (i:Nat),Vals xs us->Vals (xs.set i x) (us.set i u)
 |_,_,_,.nil=>.nil
 |_,_,0,.cons _ t=>.cons r t
 |_,_,i+1,.cons q t=>.cons q (Vals.set r i t)
theorem Vals.append:∀{xs ys:List V} {us ws:List Value},Vals xs us->Vals ys ws->Vals (xs++ys) (us++ws)
 |_,_,_,_,.nil,s=>s
 |_,_,_,_,.cons r t,s=>.cons r (Vals.append t s)
theorem Vals.take:∀{xs:List V} {us:List Value} (n:Nat),Vals xs us->Vals (xs.take n) (us.take n)
 |_,_,0,_=>.nil
 |_,_,_+1,.nil=>.nil
 |_,_,n+1,.cons r t=>.cons r (Vals.take n t)
theorem Vals.drop:∀{xs:List V} {us:List Value} (n:Nat),Vals xs us->Vals (xs.drop n) (us.drop n)
 |_,_,0,r=>r
 |_,_,_+1,.nil=>.nil
 |_,_,n+1,.cons _ t=>Vals.drop n t
def jm:Option V->Option Value->Prop
 |some v,some u=>RelV v u
 |none,none=>True
 |_,_=>False
def KV{κ:Type}:List (κ×V)->List (κ×Value)->Prop:=Paired λ(p:κ×V) (q:κ×Value)=>p.1=q.1/\RelV p.2 q.2
def kV:Key->V
 |.inl i=>.int i
 |.inr x=>.str x
inductive HO where
  |lst (xs:List V)
  |tup (xs:List V)
  |dK (kvs:List (Key×V)) | dT (kvs:List (List Key×V))
  |set (S:Int->Bool) (n:Nat)
  |ins (C dx:Addr) (fs:List (Str×V))
  |own (x:Addr)
  |xd (fs:List (Str×V))
  |met (f x:Addr)
  |S6 (lo hi:Int)
  |jy (o:Obj) (u:HO)
  |JK (ps:Array Value)
  |ext (φ:Heap->Prop)
abbrev Hp:=Addr->Option HO
def upd(H:Hp)(a:Addr)(o:HO):Hp:=λb=>if b=a then some o else H b
theorem af{H:Hp}{a:Addr}{o:HO}:upd H a o a=some o:=by unfold upd;rw[if_pos rfl]
theorem ak{H:Hp}{a b:Addr}{o:HO}(h:b≠a):upd H a o b=H b:=by unfold upd;rw[if_neg h]
theorem eE{H:Hp}{a:Addr}{o u:HO}:upd (upd H a o) a u=upd H a u:=by
 funext b;unfold upd;split <;> rfl
theorem bL{H:Hp}{a b:Addr}{o u:HO}(h:H a=some o)(h':H b=some u)(d:o≠u):a≠b:=by
 intro e;subst e;rw[h] at h';exact d (Option.some.inj h')
theorem au{H:Hp}{a b:Addr}{o:HO}(h:H a=some o)(h':H b=none):a≠b:=by
 intro e;subst e;rw[h] at h';cases h'
section
variable (P:Program)(w:World)
def cL(H:Hp)(h:Heap)(a:Addr):HO->Prop
 |.lst xs=>xs.length<=sizeLine/\∃(its:List Value) (n:Nat),Vals xs its/\h.get? a=some { cls:=.type "list",data:=.seq its.toArray n }
 |.tup xs=>xs.length<=sizeLine/\∃its:List Value,Vals xs its/\IsTup h a its.toArray
 |.dK kvs=>kvs.length<=sizeLine/\(a == sysModules)=false/\∃vs,KV kvs vs/\h.DictOf (b7 P w) a vs
 |.dT kvs=>kvs.length<=sizeLine/\(a == sysModules)=false/\∃xs:List (List Key×Addr×Value),
   Paired (λ(p:List Key×V) (q:List Key×Addr×Value)=>p.1=q.1/\H q.2.1=some (.tup (p.1.map kV))/\RelV p.2 q.2.2) kvs xs/\
   ∃o es ep,h.get? a=some o/\o.ExactDict/\o.data=.dict es ep/\es.toList=xs.map (entryOfKey (tupleKind (b7 P w)))/\(xs.map (·.1)).Nodup
 |.set S n=>h.SetOf (intKind P w) a S n
 |.ins C dx fs=>H dx=some (.own a)/\fs.length<=1000/\dx≠a/\h.get? a=some (PySem.W.instObj C dx)/\
   ∃mA,h.Ns1 dx mA/\(∀f,jm (fs.lookup f) (mA f))/\PySem.Within mA (fs.map (·.1))
 |.own _=>∃o,h.get? a=some o
 |.xd fs=>∃mA,h.Ns1 a mA/\∀f,jm (fs.lookup f) (mA f)
 |.S6 lo hi=>∃t u v,h.get? a=some { cls:=.type "range",data:=.fields #[.int lo t,.int hi u,.int 1 v] }
 |.jy o u=>h.get? a=some o/\cL H h a u
 |.JK ps=>h.get? a=some { cls:=.none,data:=.fields ps }
 |.met f x=>h.get? a=some (PySem.W.methodObj (.ref f) (.ref x))
 |.ext φ=>φ h/\(∃o,h.get? a=some o)/\∀h1 h2:Heap,φ h1->(∀o,h1.get? a=some o->h2.get? a=some o)->φ h2
def k6(H:Hp)(h:Heap):Prop:=∀a o,H a=some o->cL P w H h a o
end
section
variable {P:Program}{w:World}{H H':Hp}{h h':Heap}{a:Addr}{o:HO}
theorem cL.lt(x:cL P w H h a o):a<h.objs.size:=by
 cases o with
 |lst xs=>obtain⟨_,_,_,_,e⟩:=x;exact Heap.lt_size e
 |tup xs=>obtain⟨_,_,_,p⟩:=x;exact p.lt
 |dK kvs=>obtain⟨_,_,_,_,o,_,_,e,_⟩:=x;exact Heap.lt_size e
 |dT kvs=>obtain⟨_,_,_,_,o,_,_,e,_⟩:=x;exact Heap.lt_size e
 |set S n=>obtain⟨o,_,_,_,e,_⟩:=x;exact Heap.lt_size e
 |ins C dx fs=>obtain⟨_,_,_,e,_⟩:=x;exact Heap.lt_size e
 |own y=>obtain⟨_,e⟩:=x;exact Heap.lt_size e
 |xd fs=>obtain⟨_,⟨_,_,_,e,_⟩,_⟩:=x;exact Heap.lt_size e
 |S6 lo hi=>obtain⟨_,_,_,e⟩:=x;exact Heap.lt_size e
 |jy ob u=>obtain⟨e,_⟩:=x;exact Heap.lt_size e
 |JK ps=>exact Heap.lt_size (show h.get? a=some _ from x)
 |met f y=>exact Heap.lt_size (show h.get? a=some _ from x)
 |ext φ=>obtain⟨_,⟨_,e⟩,_⟩:=x;exact Heap.lt_size e
theorem Paired.MZ{α β:Type}{F G:α->β->Prop}:∀{l₁:List α} {l₂:List β},Paired F l₁ l₂->(∀a b,F a b->G a b)->Paired G l₁ l₂
 |_,_,.nil,_=>.nil
 |_,_,.cons r t,f=>.cons (f _ _ r) (Paired.MZ t f)
theorem cL.stay(x:cL P w H h a o)(k:∀b u,(b=a∨H b=some (.own a))->h.get? b=some u->h'.get? b=some u)
  (ho:∀b,H b=some (.own a)->H' b=some (.own a)) (ht:∀b xs,H b=some (.tup xs)->H' b=some (.tup xs)):cL P w H' h' a o:=by
 induction o with
 |lst xs=>obtain⟨z,its,n,r,e⟩:=x;exact⟨z,its,n,r,k _ _ (.inl rfl) e⟩
 |tup xs=>obtain⟨z,its,r,ob,e,c⟩:=x;exact⟨z,its,r,ob,k _ _ (.inl rfl) e,c⟩
 |dK kvs=>obtain⟨z,y,vs,r,ob,es,ep,e,c⟩:=x;exact⟨z,y,vs,r,ob,es,ep,k _ _ (.inl rfl) e,c⟩
 |dT kvs=>
  obtain⟨z,y,xs,r,ob,es,ep,e,c⟩:=x
  exact⟨z,y,xs,Paired.MZ r λp q z=>⟨z.1,ht _ _ z.2.1,z.2.2⟩,ob,es,ep,k _ _ (.inl rfl) e,c⟩
 |set S n=>obtain⟨ob,es,ep,t,e,c⟩:=x;exact⟨ob,es,ep,t,k _ _ (.inl rfl) e,c⟩
 |ins C dx fs=>
  obtain⟨d,z,ne,e,mA,⟨od,es,ep,e2,c⟩,r⟩:=x
  exact⟨ho _ d,z,ne,k _ _ (.inl rfl) e,mA,⟨od,es,ep,k _ _ (.inr d) e2,c⟩,r⟩
 |own y=>obtain⟨ob,e⟩:=x;exact⟨ob,k _ _ (.inl rfl) e⟩
 |xd fs=>obtain⟨mA,⟨od,es,ep,e,c⟩,r⟩:=x;exact⟨mA,⟨od,es,ep,k _ _ (.inl rfl) e,c⟩,r⟩
 |S6 lo hi=>obtain⟨t,u,v,e⟩:=x;exact⟨t,u,v,k _ _ (.inl rfl) e⟩
 |jy ob u ih=>obtain⟨e,q⟩:=x;exact⟨k _ _ (.inl rfl) e,ih q⟩
 |JK ps=>
  have e:h.get? a=some { cls:=.none,data:=.fields ps }:=x
  show h'.get? a=some { cls:=.none,data:=.fields ps }
  exact k a _ (.inl rfl) e
 |met f y=>
  have e:h.get? a=some (PySem.W.methodObj (.ref f) (.ref y)):=x
  show h'.get? a=some (PySem.W.methodObj (.ref f) (.ref y))
  exact k a _ (.inl rfl) e
 |ext φ=>obtain⟨p,⟨o,e⟩,st⟩:=x;exact⟨st _ _ p λo q=>k _ _ (.inl rfl) q,⟨o,k _ _ (.inl rfl) e⟩,st⟩
theorem k6.lt(x:k6 P w H h)(e:H a=some o):a<h.objs.size:=(x a o e).lt
theorem k6.fresh(x:k6 P w H h)(e:h.objs.size<=a):H a=none:=by
 cases q:H a with
 |none=>rfl
 |some u=>exact absurd (Nat.lt_of_lt_of_le (x.lt q) e) (Nat.lt_irrefl _)
theorem k6.kept(x:k6 P w H h)(k:∀b u,h.get? b=some u->h'.get? b=some u):k6 P w H h':=λa o e=>
 (x a o e).stay (λb u _ q=>k b u q) (λ_ q=>q) λ_ _ q=>q
theorem k6.laid(x:k6 P w H h)(k:∀b u,h.get? b=some u->h'.get? b=some u)(hp:h.objs.size<=a)(new:cL P w (upd H a o) h' a o):k6 P w (upd H a o) h':=λb u e=>by
 have hn:=x.fresh hp
 by_cases hb:b=a
 ·subst hb;rw[af] at e;cases e;exact new
 ·rw[ak hb] at e
  exact(x b u e).stay (λc v _ q=>k c v q) (λc q=>by rw[ak (au q hn)];exact q) λc xs q=>by rw[ak (au q hn)];exact q
end
def Rd(H:Hp)(a:Addr)(u:HO):Prop:=H a=some u∨∃o,H a=some (.jy o u)
theorem Rd.ok{P:Program}{w:World}{H:Hp}{h:Heap}{a:Addr}{u:HO}(r:Rd H a u)(x:k6 P w H h):cL P w H h a u:=by
 rcases r with r|⟨o,r⟩
 ·exact x a u r
 ·obtain⟨_,q⟩:=x a _ r
  exact q
def QI:Option HO->Prop
 |some (.lst _)=>True
 |some (.dK _)=>True
 |some (.dT _)=>True
 |some (.set _ _)=>True
 |some (.ins _ _ _)=>True
 |some (.ext _)=>True
 |_=>False
section
variable {P:Program}{w:World}{H:Hp}{h h':Heap}{x e:Addr}{o':HO}
theorem k6.write(ok:k6 P w H h)(mu:QI (H x))(he:e=x∨H e=some (.own x))(k:∀b u,b≠e->h.get? b=some u->h'.get? b=some u)(heo:∃u,h'.get? e=some u)
  (new:cL P w (upd H x o') h' x o'):k6 P w (upd H x o') h':=λb u q=>by
 have nown:∀c y,H c=some (.own y)->c≠x:=λc y r z=>by subst z;rw[r] at mu;exact mu
 have ntup:∀c xs,H c=some (.tup xs)->c≠x:=λc xs r z=>by subst z;rw[r] at mu;exact mu
 by_cases hb:b=x
 ·subst hb;rw[af] at q;cases q;exact new
 ·rw[ak hb] at q
  by_cases hbe:b=e
  ·have q':H b=some (.own x):=by
    rcases he with z|z
    ·exact absurd (hbe.trans z) hb
    ·rw[hbe];exact z
   rw[q] at q';cases q'
   obtain⟨v,hv⟩:=heo
   exact⟨v,by rw[hbe];exact hv⟩
  ·refine(ok b u q).stay (λc v hc r=>k c v ?_ r) (λc r=>by rw[ak (nown c b r)];exact r) λc xs r=>by rw[ak (ntup c xs r)];exact r
   rcases hc with rfl|hc
   ·exact hbe
   ·rintro rfl
    rcases he with z|z
    ·exact nown c b hc z
    ·rw[hc] at z;cases z;exact hb rfl
end
structure Un(fs ex:List Addr)(H H':Hp)(h h':Heap):Prop where
 keep:∀b o,h.get? b=some o->H b=none->b∉fs->b∉ex->h'.get? b=some o
 slot:∀b o,h.get? b=some o->H b=none->b∈fs->b∉ex->∃sl,h'.get? b=some { o with slots:=sl }
 free:∀b o,h.get? b=some o->H b=none->b∉ex->H' b=none
 there:∀b o,h.get? b=some o->b∉ex->∃o',h'.get? b=some o'
 tups:∀b xs,H b=some (.tup xs)->H' b=some (.tup xs)
 oN:∀b o u,H b=some (.jy o u)->H' b=some (.jy o u)
 rV:∀b ps,H b=some (.JK ps)->∃more,H' b=some (.JK (ps++more))
section
variable {fs fs' ex ex':List Addr}{H H1 H2:Hp}{h h1 h2 h':Heap}{a x e:Addr}{o:HO}
theorem Un.any(u:Un fs ex H H1 h h1){b:Addr}{ob:Obj}(q:h.get? b=some ob)(n:H b=none)(hx:b∉ex):∃sl,h1.get? b=some { ob with slots:=sl }:=by
 by_cases hb:b∈fs
 ·exact u.slot b ob q n hb hx
 ·exact⟨ob.slots,u.keep b ob q n hb hx⟩
theorem Un.kept(k:∀b u,h.get? b=some u->h'.get? b=some u):Un fs ex H H h h' :=
 ⟨λb ob q _ _ _=>k b ob q,λb ob q _ _ _=>⟨ob.slots,k b ob q⟩,λ_ _ _ n _=>n,λb ob q _=>⟨ob,k b ob q⟩,λ_ _ q=>q,λ_ _ _ q=>q,λ_ ps q=>⟨#[],by rw[q];simp⟩⟩
theorem Un.refl:Un fs ex H H h h:=Un.kept λ_ _ q=>q
theorem Un.laid(k:∀b u,h.get? b=some u->h'.get? b=some u)(hp:h.objs.size<=a)(hn:H a=none):Un fs ex H (upd H a o) h h' where
 keep:=λb u q _ _ _=>k b u q
 slot:=λb u q _ _ _=>⟨u.slots,k b u q⟩
 free:=λb u q n _=>by rw[ak (Nat.ne_of_lt (Nat.lt_of_lt_of_le (Heap.lt_size q) hp))];exact n
 there:=λb u q _=>⟨u,k b u q⟩
 tups:=λb xs q=>by rw[ak (au q hn)];exact q
 oN:=λb u xs q=>by rw[ak (au q hn)];exact q
 rV:=λb ps q=>⟨#[],by rw[ak (au q hn),q];simp⟩
theorem Un.write(mu:QI (H x))(he:e=x∨H e=some (.own x))(k:∀b u,b≠e->h.get? b=some u->h'.get? b=some u)(heo:∃u,h'.get? e=some u):Un fs ex H (upd H x o) h h':=by
 have hx:∀b,H b=none->b≠x:=λb n z=>by subst z;rw[n] at mu;exact mu
 have hb:∀b,H b=none->b≠e:=λb n z=>by
  subst z
  rcases he with r|r
  ·exact hx b n r
  ·rw[n] at r;cases r
 have hm:∀b u,H b=some u->¬ QI (some u)->b≠x:=λb u q nm z=>by subst z;rw[q] at mu;exact nm mu
 refine⟨λb u q n _ _=>k b u (hb b n) q,λb u q n _ _=>⟨u.slots,k b u (hb b n) q⟩,λb u q n _=>by rw[ak (hx b n)];exact n,λb u q _=>?_,
  λb xs q=>by rw[ak (hm b _ q λz=>z)];exact q,λb u xs q=>by rw[ak (hm b _ q λz=>z)];exact q,λb ps q=>⟨#[],by rw[ak (hm b _ q λz=>z),q];simp⟩⟩
 by_cases hbe:b=e
 ·subst hbe;exact heo
 ·exact⟨u,k b u hbe q⟩
end
def Tf(h:Heap)(H:Hp):List Addr:=(List.range h.objs.size).filter λa=>(H a).isSome
def uM(h:Heap)(H:Hp):Heap:=PySem.W.hideAll h (Tf h H)
theorem AG(h:Heap)(H:Hp):(uM h H).objs.size=h.objs.size:=PySem.W.hideAll_size _ _
theorem FH{h:Heap}{H:Hp}{b:Addr}{o:Obj}(e:h.get? b=some o)(n:H b=none):(uM h H).get? b=some o :=
 PySem.W.hideAll_get _ e λhm=>by
  have q:(H b).isSome=true:=(List.mem_filter.mp hm).2
  rw[n] at q;simp at q
theorem Iq{h:Heap}{H:Hp}{b:Addr}{o:Obj}(e:(uM h H).get? b=some o):h.get? b=some o/\H b=none:=by
 have e':h.get? b=some o:=PySem.W.of_hideAll (Tf h H) e
 refine⟨e',?_⟩
 cases q:H b with
 |none=>rfl
 |some x=>
  have hm:b∈Tf h H:=List.mem_filter.mpr ⟨List.mem_range.mpr (Heap.lt_size e'),by simp[q]⟩
  have z:(uM h H).get? b=none:=PySem.W.hideAll_none (Tf h H) hm
  rw[z] at e;cases e
def kZ(g h:Heap)(L:Addr):List (Addr×Obj):=(List.range h.objs.size).filterMap λa=>if a=L∨(g.get? a).isSome=true then none else (h.get? a).map λo=>(a,o)
theorem e9{g h:Heap}{L a:Addr}{o:Obj}(h1:a≠L)(h2:g.get? a=none)(h3:h.get? a=some o):(a,o)∈kZ g h L :=
 List.mem_filterMap.mpr ⟨a,List.mem_range.mpr (Heap.lt_size h3),by simp[h1,h2,h3]⟩
theorem pZ{g h:Heap}{L:Addr}{p:Addr×Obj}(hp:p∈kZ g h L):p.1≠L/\g.get? p.1=none/\h.get? p.1=some p.2:=by
 obtain⟨b,_,e⟩:=List.mem_filterMap.mp hp
 split at e
 ·cases e
 ·rename_i hn
  cases q:h.get? b with
  |none=>rw[q] at e;simp at e
  |some u=>
   rw[q] at e
   simp only[Option.map_some,Option.some.injEq] at e
   subst e
   refine⟨λz=>hn (.inl z),?_,q⟩
   show g.get? b=none
   cases r:g.get? b with
   |none=>rfl
   |some v=>exact(hn (.inr (by simp[r]))).elim
theorem qy{g h:Heap}{L:Addr}:News g L h (kZ g h L):=λp hp=>let ⟨a,b,c⟩:=pZ hp;⟨c,a,b⟩
structure Mod(K:PySem.W.Frag)(mg:Str->Option Value)(base:Heap):Prop where
 Rl:K.In base
 glob:base.Ns mainGlobals mg
 blt:∃mb,base.Ns builtinsNs mb/\∀x:Str,x ≠ "__name__" -> mb x=bootBuiltins x
 nolimit:base.NoLimit
structure Cx where
 prog:Program
 w:World
 K:PySem.W.Frag
 mg:Str->Option Value
 base:Heap
 A:Around
 N:List Str
 s₀:Shared
 H₀:Hp
 env:Env
 outer:List Env
 stack:List Env
 ex:List Addr
 fn:Str->Bool
 calm:Bool
 pn:List (Addr×Obj)
 xe:Value->Shared->Prop
def frs(l:List Env):List Addr:=l.filterMap (·.frame)
abbrev Cx.fs(X:Cx):List Addr:=frs X.outer
def Td(sc:Scope)(x:Str):Prop:=sc.names.lookup x=some .local∨sc.names.lookup x=some .cell∨sc.names.lookup x=some .free
def Loc(sc:Scope)(x:Str):Prop:=sc.names.lookup x=some .local∨sc.names.lookup x=some .cell
def Look(env:Env)(h:Heap)(m:Str->Option Value)(x:Str)(u:Value):Prop :=
 (env.kindOf x=some .local/\m x=some u)∨((env.kindOf x=some .cell∨env.kindOf x=some .free)/\∃c,env.cells.lookup x=some c/\h.IsCell c (some u))
structure Cx.Ok(X:Cx):Prop where
 mod:Mod X.K X.mg X.base
 kind:X.env.scope.kind=.function
 glob:X.env.globals=mainGlobals
 blt:X.env.builtins=builtinsNs
 above:X.s₀.heap.objs.size<=X.env.locals
 inj:∀x y c,X.env.cells.lookup x=some c->X.env.cells.lookup y=some c->x=y
 has:∀x,(X.env.kindOf x=some .cell∨X.env.kindOf x=some .free)->∃c,X.env.cells.lookup x=some c
 QU:∀x c,X.fn x=true->X.env.cells.lookup x=some c->X.s₀.heap.objs.size<=c
 hd:X.calm=true->X.A.handled=none
 frames:X.A.frames=some X.stack
 stk:X.stack=X.outer∨(X.stack=X.env::X.outer/\X.env.frame=some X.env.locals)
 exf:∀b∈X.ex,b≠X.env.locals/\∀x c,X.env.cells.lookup x=some c->c≠b
 bs:∀b o,X.base.get? b=some o->X.s₀.heap.get? b=some o/\X.H₀ b=none
 Lp:X.base.objs.size<=X.s₀.heap.objs.size
 Di:∀b o,X.base.get? b=some o->b∉X.ex
 HK:∀b∈X.ex,b∉X.fs
 oQ:X.s₀.heap.FunFrames X.base X.outer
 OB:∀b∈X.fs,X.H₀ b=none
structure Inv(X:Cx)(pins:List (Addr×Obj))(Z:List (Option V))(H:Hp)(s:Shared):Prop where
 ok:X.Ok
 os:s.os=X.s₀.os
 bare:AllBare s.gens
 base:Un X.fs X.ex X.H₀ H X.s₀.heap s.heap
 loc:∃m,s.heap.Ns X.env.locals m/\∀(i:Nat) (x:Str) (v:V),X.N[i]?=some x->Z[i]?=some (some v)->Td X.env.scope x->∃u,RelV v u/\Look X.env s.heap m x u
 cell:∀x c,X.env.cells.lookup x=some c->∃v,s.heap.IsCell c v
 free:H X.env.locals=none
 jR:∀x c,X.env.cells.lookup x=some c->H c=none
 pin:∀p∈X.pn++pins,s.heap.get? p.1=some p.2/\H p.1=none/\p.1≠X.env.locals/\p.1∉X.fs/\∀v,p.2.data≠.cell v
 hok:k6 X.prog X.w H s.heap
 len:Z.length=X.N.length
section
variable {X:Cx}{pins:List (Addr×Obj)}{Z:List (Option V)}{H H':Hp}{s:Shared}{h':Heap}
theorem Cx.Ok.Tw(ok:X.Ok){b:Addr}{o:Obj}(e:X.base.get? b=some o):b∉X.fs:=λhb=>by
 have:=(ok.oQ.mem hb).1
 rw[e] at this;cases this
theorem Inv.bs(I:Inv X pins Z H s):∀b o,X.base.get? b=some o->s.heap.get? b=some o/\H b=none:=λb o e=>
 ⟨I.base.keep b o (I.ok.bs b o e).1 (I.ok.bs b o e).2 (I.ok.Tw e) (I.ok.Di b o e),I.base.free b o (I.ok.bs b o e).1 (I.ok.bs b o e).2 (I.ok.Di b o e)⟩
theorem Inv.bk(I:Inv X pins Z H s):∀b o,X.base.get? b=some o->s.heap.get? b=some o:=λb o e=>(I.bs b o e).1
theorem Inv.mod(I:Inv X pins Z H s):Mod X.K X.mg X.base:=I.ok.mod
theorem Inv.mK(I:Inv X pins Z H s):X.K.In s.heap:=I.ok.mod.Rl.keeps I.bk
theorem Inv.lt(I:Inv X pins Z H s):X.env.locals<s.heap.objs.size:=by
 obtain⟨_,hn,_⟩:=I.loc
 exact hn.lt
theorem Inv.sz(I:Inv X pins Z H s):X.s₀.heap.objs.size<=s.heap.objs.size:=Nat.le_trans I.ok.above (Nat.le_of_lt I.lt)
theorem Inv.QS(I:Inv X pins Z H s){a:Addr}(h:s.heap.objs.size<=a):a∉X.fs:=λhb=>by
 obtain⟨_,o,ho,_⟩:=I.ok.oQ.mem hb
 exact absurd (Nat.lt_of_lt_of_le (Heap.lt_size ho) (Nat.le_trans I.sz h)) (Nat.lt_irrefl _)
theorem Inv.NX(I:Inv X pins Z H s):∀x c,X.env.cells.lookup x=some c->c≠X.env.locals:=λx c e z=>by
 obtain⟨v,o,ho,hd⟩:=I.cell x c e
 obtain⟨m,⟨o',es,ep,ho',hd',_⟩,_⟩:=I.loc
 rw[z,ho'] at ho;cases ho;rw[hd'] at hd;cases hd
theorem Inv.oQ(I:Inv X pins Z H s):s.heap.FunFrames X.base X.outer:=by
 have all:∀(l:List Env),(∀b∈frs l,b∈X.fs)->X.s₀.heap.FunFrames X.base l->s.heap.FunFrames X.base l:=by
  intro l
  induction l with
  |nil=>intro _ _;trivial
  |cons env r ih=>
   intro hs hl
   obtain⟨hk,⟨L,o,hf,hn,ho,hd⟩,hr⟩:=hl
   have hL:L∈X.fs:=hs L (by unfold frs;rw[List.filterMap_cons,hf];exact List.mem_cons_self)
   obtain⟨sl,e⟩:=I.base.slot L o ho (I.ok.OB L hL) hL λz=>I.ok.HK L z hL
   exact⟨hk,⟨L,_,hf,hn,e,hd⟩,ih (λb hb=>hs b (by unfold frs;rw[List.filterMap_cons,hf];exact List.mem_cons_of_mem _ hb)) hr⟩
 exact all X.outer (λ_ hb=>hb) I.ok.oQ
theorem Inv.stack(I:Inv X pins Z H s):s.heap.FunFrames X.base X.stack:=by
 rcases I.ok.stk with e|⟨e,hf⟩
 ·rw[e];exact I.oQ
 ·rw[e]
  obtain⟨m,hn,_⟩:=I.loc
  refine .cons (by rw[I.ok.kind];decide) hf hn ?_ I.oQ
  exact Heap.get?_none_of_le (Nat.le_trans I.ok.Lp I.ok.above)
theorem Inv.pO(I:Inv X pins Z H s):∀b∈frs X.stack,b∈X.env.locals::X.fs:=λb hb=>by
 rcases I.ok.stk with e|⟨e,hf⟩
 ·rw[e] at hb;exact List.mem_cons_of_mem _ hb
 ·rw[e] at hb
  unfold frs at hb
  rw[List.filterMap_cons,hf] at hb
  exact hb
theorem Inv.ze(I:Inv X pins Z H s):∀b∈frs X.stack,H b=none:=λb hb=>by
 rcases List.mem_cons.mp (I.pO b hb) with e|hb
 ·rw[e];exact I.free
 ·obtain⟨_,o,ho,_⟩:=I.ok.oQ.mem hb
  exact I.base.free b o ho (I.ok.OB b hb) λz=>I.ok.HK b z hb
theorem Inv.step{g':Array GenState}{t':Nat}{d':Drawn}{ch:List Addr}(I:Inv X pins Z H s)
  (hch:∀b∈ch,(b∈X.ex∨X.s₀.heap.objs.size<=b)/\b≠X.env.locals/\(∀x c,X.env.cells.lookup x=some c->c≠b)/\∀p∈X.pn++pins,p.1≠b)
  (keep:∀b o,b≠X.env.locals->b∉X.fs->b∉ch->s.heap.get? b=some o->H b=none->h'.get? b=some o)
  (slot:∀b o,b≠X.env.locals->b∈X.fs->b∉ch->s.heap.get? b=some o->H b=none->∃sl,h'.get? b=some { o with slots:=sl }) (free:∀b o,b∉ch->s.heap.get? b=some o->H b=none->H' b=none)
  (there:∀b o,b∉ch->s.heap.get? b=some o->∃o',h'.get? b=some o')
  (tups:∀b xs,H b=some (.tup xs)->H' b=some (.tup xs)) (oN:∀b o u,H b=some (.jy o u)->H' b=some (.jy o u)) (rV:∀b ps,H b=some (.JK ps)->∃more,H' b=some (.JK (ps++more)))
  (ns:∀m,s.heap.Ns X.env.locals m->h'.Ns X.env.locals m) (hok:k6 X.prog X.w H' h') (hg:AllBare g') :
  Inv X pins Z H' { s with heap:=h',gens:=g',drawn:=d',toks:=t' }:=by
 have neL:∀b o,X.s₀.heap.get? b=some o->b≠X.env.locals:=λb o e=>Nat.ne_of_lt (Nat.lt_of_lt_of_le (Heap.lt_size e) I.ok.above)
 have neC:∀b o,X.s₀.heap.get? b=some o->b∉X.ex->b∉ch:=λb o e hx hb=>by
  rcases (hch b hb).1 with z|z
  ·exact hx z
  ·exact absurd (Nat.lt_of_lt_of_le (Heap.lt_size e) z) (Nat.lt_irrefl _)
 have cellK:∀x c,X.env.cells.lookup x=some c->∀v,s.heap.IsCell c v->h'.IsCell c v:=λx c e v ⟨o,ho,hd⟩=>by
  have nch:c∉ch:=λz=>(hch c z).2.2.1 x c e rfl
  by_cases hc:c∈X.fs
  ·obtain⟨sl,q⟩:=slot c o (I.NX x c e) hc nch ho (I.jR x c e)
   exact⟨_,q,hd⟩
  ·exact⟨o,keep c o (I.NX x c e) hc nch ho (I.jR x c e),hd⟩
 refine⟨I.ok,I.os,hg,⟨λb o e n hb hx=>?_,λb o e n hb hx=>?_,λb o e n hx=>?_,λb o e hx=>?_,λb xs e=>tups b xs (I.base.tups b xs e),λb o xs e=>oN b o xs (I.base.oN b o xs e),λb ps e=>?_⟩,?_,λx c e=>?_,?_,λx c e=>?_,λp hp=>?_,hok,I.len⟩
 ·exact keep b o (neL b o e) hb (neC b o e hx) (I.base.keep b o e n hb hx) (I.base.free b o e n hx)
 ·obtain⟨sl,e1⟩:=I.base.slot b o e n hb hx
  obtain⟨sl',e2⟩:=slot b _ (neL b o e) hb (neC b o e hx) e1 (I.base.free b o e n hx)
  exact⟨sl',e2⟩
 ·obtain⟨o',e1⟩:=I.base.there b o e hx
  exact free b o' (neC b o e hx) e1 (I.base.free b o e n hx)
 ·obtain⟨o',e1⟩:=I.base.there b o e hx
  exact there b o' (neC b o e hx) e1
 ·obtain⟨m1,e1⟩:=I.base.rV b ps e
  obtain⟨m2,e2⟩:=rV b _ e1
  exact⟨m1++m2,by rw[e2,Array.append_assoc]⟩
 ·obtain⟨m,hn,hl⟩:=I.loc
  refine⟨m,ns m hn,λi x v e1 e2 e3=>?_⟩
  obtain⟨u,r,l⟩:=hl i x v e1 e2 e3
  refine⟨u,r,?_⟩
  rcases l with l|⟨k,c,e,z⟩
  ·exact .inl l
  ·exact .inr ⟨k,c,e,cellK x c e _ z⟩
 ·obtain⟨v,z⟩:=I.cell x c e
  exact⟨v,cellK x c e v z⟩
 ·obtain⟨m,⟨o,_,_,ho,_⟩,_⟩:=I.loc
  exact free _ o (λz=>(hch _ z).2.1 rfl) ho I.free
 ·obtain⟨v,o,ho,hd⟩:=I.cell x c e
  exact free c o (λz=>(hch c z).2.2.1 x c e rfl) ho (I.jR x c e)
 ·obtain⟨e,n,ne,nf,d⟩:=I.pin p hp
  have nch:p.1∉ch:=λz=>(hch p.1 z).2.2.2 p hp rfl
  exact⟨keep p.1 p.2 ne nf nch e n,free p.1 p.2 nch e n,ne,nf,d⟩
theorem Inv.un{t':Nat}(I:Inv X pins Z H s)(u:Un X.fs [] H H' s.heap h')(hok:k6 X.prog X.w H' h'):Inv X pins Z H' { s with heap:=h',toks:=t' }:=by
 obtain⟨m,⟨o,es,ep,ho,r⟩,_⟩:=id I.loc
 obtain⟨sl,hL⟩:=u.any ho I.free (by simp)
 exact I.step (g':=s.gens) (d':=s.drawn) (ch:=[]) (λ_ z=>nomatch z) (λb o _ hb _ e n=>u.keep b o e n hb (by simp)) (λb o _ hb _ e n=>u.slot b o e n hb (by simp)) (λb o _ e n=>u.free b o e n (by simp)) (λb o _ e=>u.there b o e (by simp)) u.tups u.oN u.rV (λm' hm=>by
  obtain⟨o',es',ep',ho',r'⟩:=hm
  rw[ho] at ho';cases ho'
  exact⟨_,es',ep',hL,r'⟩) hok I.bare
theorem Inv.call{g':Array GenState}{t':Nat}{d':Drawn}{ch:List Addr}(I:Inv X pins Z H s)(u:Un (frs X.stack) ch H H' s.heap h')(hok:k6 X.prog X.w H' h')(hg:AllBare g')
  (hch:∀b∈ch,(b∈X.ex∨X.s₀.heap.objs.size<=b)/\b≠X.env.locals/\(∀x c,X.env.cells.lookup x=some c->c≠b)/\∀p∈X.pn++pins,p.1≠b) :
  Inv X pins Z H' { s with heap:=h',gens:=g',drawn:=d',toks:=t' }:=by
 obtain⟨m,⟨o,es,ep,ho,r⟩,_⟩:=id I.loc
 obtain⟨sl,hL⟩:=u.any ho I.free λz=>(hch _ z).2.1 rfl
 exact I.step (ch:=ch) hch (λb o hL hb hc e n=>u.keep b o e n (λz=>(List.mem_cons.mp (I.pO b z)).elim hL hb) hc) (λb o _ _ hc e n=>u.any e n hc) (λb o hc e n=>u.free b o e n hc) (λb o hc e=>u.there b o e hc) u.tups u.oN u.rV (λm' hm=>by
  obtain⟨o',es',ep',ho',r'⟩:=hm
  rw[ho] at ho';cases ho'
  exact⟨_,es',ep',hL,r'⟩) hok hg
theorem Inv.turned{t':Nat}{it:Addr}(I:Inv X pins Z H s)(k:∀b o,b≠it->s.heap.get? b=some o->h'.get? b=some o)(hn:H it=none)(hL:it≠X.env.locals)
  (h1:it∈X.ex∨X.s₀.heap.objs.size<=it) (h2:∀x c,X.env.cells.lookup x=some c->c≠it) (h3:∀p∈X.pn++pins,p.1≠it):Inv X pins Z H { s with heap:=h',toks:=t' }:=by
 have nit:∀b u,H b=some u->b≠it:=λb u e z=>by rw[z,hn] at e;cases e
 refine I.step (g':=s.gens) (d':=s.drawn) (ch:=[it]) (λb hb=>?_) (λb o _ _ hc e _=>k b o (λz=>hc (by simp[z])) e) (λb o _ _ hc e _=>⟨o.slots,k b o (λz=>hc (by simp[z])) e⟩) (λ_ _ _ _ n=>n)
  (λb o hc e=>⟨o,k b o (λz=>hc (by simp[z])) e⟩) (λ_ _ e=>e) (λ_ _ _ e=>e) (λb ps e=>⟨#[],by rw[e];simp⟩) (λm hm=>?_) (λb u e=>?_) I.bare
 ·have e:b=it:=by simpa using hb
  subst e
  exact⟨h1,hL,h2,h3⟩
 ·obtain⟨o,es,ep,ho,r⟩:=hm
  exact⟨o,es,ep,k _ o (Ne.symm hL) ho,r⟩
 ·refine(I.hok b u e).stay (λc v hc q=>k c v ?_ q) (λ_ q=>q) λ_ _ q=>q
  rcases hc with z|z
  ·rw[z];exact nit b u e
  ·exact nit c _ z
theorem Inv.tok(I:Inv X pins Z H s)(t:Nat):Inv X pins Z H { s with toks:=t }:=I.un (h':=s.heap) (t':=t) Un.refl I.hok
theorem Inv.kept{t':Nat}(I:Inv X pins Z H s)(k:∀b u,s.heap.get? b=some u->h'.get? b=some u):Inv X pins Z H { s with heap:=h',toks:=t' }:=I.un (Un.kept k) (I.hok.kept k)
theorem Inv.laid{a:Addr}{o:HO}{t':Nat}(I:Inv X pins Z H s)(k:∀b u,s.heap.get? b=some u->h'.get? b=some u)(hp:s.heap.objs.size<=a)(new:cL X.prog X.w (upd H a o) h' a o) :
  Inv X pins Z (upd H a o) { s with heap:=h',toks:=t' }:=I.un (Un.laid k hp (I.hok.fresh hp)) (I.hok.laid k hp new)
theorem Inv.write{x e:Addr}{o:HO}{t':Nat}(I:Inv X pins Z H s)(mu:QI (H x))(he:e=x∨H e=some (.own x))(k:∀b u,b≠e->s.heap.get? b=some u->h'.get? b=some u)(heo:∃u,h'.get? e=some u)
  (new:cL X.prog X.w (upd H x o) h' x o):Inv X pins Z (upd H x o) { s with heap:=h',toks:=t' }:=I.un (Un.write mu he k heo) (I.hok.write mu he k heo new)
theorem Inv.gR{pins':List (Addr×Obj)}(I:Inv X pins Z H s)(h:∀p∈pins',s.heap.get? p.1=some p.2/\H p.1=none/\p.1≠X.env.locals/\p.1∉X.fs/\∀v,p.2.data≠.cell v):Inv X pins' Z H s :=
 ⟨I.ok,I.os,I.bare,I.base,I.loc,I.cell,I.free,I.jR,λp hp=>(List.mem_append.mp hp).elim (λz=>I.pin p (List.mem_append_left _ z)) (h p),I.hok,I.len⟩
theorem wI{N:List Str}(hN:N.Nodup){i j:Nat}{x:Str}(a:N[i]?=some x)(b:N[j]?=some x):i=j:=by
 obtain⟨h1,e1⟩:=List.getElem?_eq_some_iff.mp a
 obtain⟨h2,e2⟩:=List.getElem?_eq_some_iff.mp b
 exact(List.getElem_inj hN).mp (e1.trans e2.symm)
theorem Ah{M:Model}{A:Around}{E:Value->Shared->Prop}{i:Nat}{x:Str}{v:V}{u:Value}{Q:Unit->Shared->Prop}(I:Inv X pins Z H s)(hN:X.N.Nodup)(hi:X.N[i]?=some x)(hx:Loc X.env.scope x)(r:RelV v u)
  (h:∀s',Inv X pins (Z.set i (some v)) H s'->(∃a,Heap.SameBut a s.heap s'.heap/\(a=X.env.locals∨X.env.cells.lookup x=some a))->Q () s') (hf:autoParam (X.fn x=true∨X.env.scope.names.lookup x=some .local) L2.Y0._auto_1):wpAny M A (storeName X.env x u) Q E s:=by
 obtain⟨m,hn,hl⟩:=id I.loc
 have hcls:(X.env.scope.kind == .class || (X.env.scope.kind == .module && X.env.locals != X.env.globals))=false:=by rw[I.ok.kind];rfl
 have hiZ:i<Z.length:=by rw[I.len];exact(List.getElem?_eq_some_iff.mp hi).1
 have NX:=I.NX
 have tracked:∀{a:Addr} {h':Heap},(∃o,s.heap.get? a=some o/\H a=none)->Heap.SameBut a s.heap h'->k6 X.prog X.w H h':=λ{a h'} ha hs b ob e=>by
  obtain⟨_,_,hfree⟩:=ha
  refine(I.hok b ob e).stay (λc w' hc q=>(hs.2 c ?_).trans q) (λ_ q=>q) λ_ _ q=>q
  rintro rfl
  rcases hc with rfl|hc
  ·rw[hfree] at e;cases e
  ·rw[hfree] at hc;cases hc
 rcases hx with hk|hk
 ·refine wpAny_storeName_local hk hn (λh' hn' hs=>?_) hcls
  obtain⟨oL,_,_,hoL,_⟩:=id hn
  refine h _ ⟨I.ok,I.os,I.bare,⟨λb o e n hb hx=>?_,λb o e n hb hx=>?_,I.base.free,λb o e hx=>?_,I.base.tups,I.base.oN,I.base.rV⟩,⟨_,hn',λj y v' e1 e2 e3=>?_⟩,λy c e=>?_,I.free,I.jR,λp hp=>?_,tracked ⟨oL,hoL,I.free⟩ hs,by simpa using I.len⟩ ⟨_,hs,.inl rfl⟩
  ·exact(hs.2 b (Nat.ne_of_lt (Nat.lt_of_lt_of_le (Heap.lt_size e) I.ok.above))).trans (I.base.keep b o e n hb hx)
  ·obtain⟨sl,e1⟩:=I.base.slot b o e n hb hx
   exact⟨sl,(hs.2 b (Nat.ne_of_lt (Nat.lt_of_lt_of_le (Heap.lt_size e) I.ok.above))).trans e1⟩
  ·obtain⟨o',e1⟩:=I.base.there b o e hx
   exact⟨o',(hs.2 b (Nat.ne_of_lt (Nat.lt_of_lt_of_le (Heap.lt_size e) I.ok.above))).trans e1⟩
  ·by_cases hj:j=i
   ·subst hj
    rw[hi] at e1;cases e1
    rw[List.getElem?_set_self hiZ] at e2
    cases e2
    exact⟨u,r,.inl ⟨hk,by simp⟩⟩
   ·rw[List.getElem?_set_ne (Ne.symm hj)] at e2
    obtain⟨u',r',q⟩:=hl j y v' e1 e2 e3
    refine⟨u',r',?_⟩
    rcases q with ⟨k,e⟩|⟨k,c,e,z⟩
    ·refine .inl ⟨k,?_⟩
     have:y≠x:=λe=>hj (wI hN e1 (e ▸ hi))
     simp[this,e]
    ·exact .inr ⟨k,c,e,z.sameBut hs (NX y c e)⟩
  ·obtain⟨w',z⟩:=I.cell y c e
   exact⟨w',z.sameBut hs (NX y c e)⟩
  ·obtain⟨e,n,ne,nf,d⟩:=I.pin p hp
   exact⟨(hs.2 p.1 ne).trans e,n,ne,nf,d⟩
 ·have hfn:X.fn x=true:=by
   rcases hf with z|z
   ·exact z
   ·rw[z] at hk;cases hk
  obtain⟨c,hc⟩:=I.ok.has x (.inl hk)
  obtain⟨w',z⟩:=I.cell x c hc
  refine wpAny_storeName_cell I.ok.kind hk hc z (λh' hc' hs=>?_)
  obtain⟨oc,hoc,hocd⟩:=id z
  refine h { s with heap:=h' } ⟨I.ok,I.os,I.bare,⟨λb o e n hb hx=>?_,λb o e n hb hx=>?_,I.base.free,λb o e hx=>?_,I.base.tups,I.base.oN,I.base.rV⟩,⟨m,hn.sameBut hs (Ne.symm (NX x c hc)),λj y v' e1 e2 e3=>?_⟩,λy c' e=>?_,I.free,I.jR,λp hp=>?_,tracked ⟨oc,hoc,I.jR x c hc⟩ hs,by simpa using I.len⟩ ⟨c,hs,.inr hc⟩
  ·exact(hs.2 b (Nat.ne_of_lt (Nat.lt_of_lt_of_le (Heap.lt_size e) (I.ok.QU x c hfn hc)))).trans (I.base.keep b o e n hb hx)
  ·obtain⟨sl,e1⟩:=I.base.slot b o e n hb hx
   exact⟨sl,(hs.2 b (Nat.ne_of_lt (Nat.lt_of_lt_of_le (Heap.lt_size e) (I.ok.QU x c hfn hc)))).trans e1⟩
  ·obtain⟨o',e1⟩:=I.base.there b o e hx
   exact⟨o',(hs.2 b (Nat.ne_of_lt (Nat.lt_of_lt_of_le (Heap.lt_size e) (I.ok.QU x c hfn hc)))).trans e1⟩
  ·by_cases hj:j=i
   ·subst hj
    rw[hi] at e1;cases e1
    rw[List.getElem?_set_self hiZ] at e2
    cases e2
    exact⟨u,r,.inr ⟨.inl hk,c,hc,hc'⟩⟩
   ·rw[List.getElem?_set_ne (Ne.symm hj)] at e2
    obtain⟨u',r',q⟩:=hl j y v' e1 e2 e3
    refine⟨u',r',?_⟩
    rcases q with q|⟨k,c',e,z'⟩
    ·exact .inl q
    ·refine .inr ⟨k,c',e,z'.sameBut hs ?_⟩
     rintro rfl
     exact hj (wI hN e1 (I.ok.inj _ _ _ e hc ▸ hi))
  ·by_cases hcc:c'=c
   ·subst hcc;exact⟨_,hc'⟩
   ·obtain⟨w2,z2⟩:=I.cell y c' e
    exact⟨w2,z2.sameBut hs hcc⟩
  ·obtain⟨e,n,ne,nf,d⟩:=I.pin p hp
   refine⟨(hs.2 p.1 ?_).trans e,n,ne,nf,d⟩
   intro q
   rw[q,hoc] at e
   have q':oc=p.2:=Option.some.inj e
   exact d w' (by rw[← q'];exact hocd)
theorem qO{M:Model}{A:Around}{E:Value->Shared->Prop}{i:Nat}{x:Str}{v:V}{u:Value}{Q:Unit->Shared->Prop}(I:Inv X pins Z H s)(hN:X.N.Nodup)(hi:X.N[i]?=some x)(hx:Loc X.env.scope x)(r:RelV v u)
  (h:∀s',Inv X pins (Z.set i (some v)) H s'->Q () s') (hf:autoParam (X.fn x=true∨X.env.scope.names.lookup x=some .local) L2.Y0._auto_1):wpAny M A (storeName X.env x u) Q E s :=
 Ah I hN hi hx r (λs' I' _=>h s' I') hf
theorem Inv.QD{s':Shared}{ch:List Addr}(I:Inv X pins Z H s)(ho:s'.os=s.os)(u:Un (frs X.stack) ch H H' s.heap s'.heap)(hok:k6 X.prog X.w H' s'.heap)(hg:AllBare s'.gens)
  (hch:∀b∈ch,(b∈X.ex∨X.s₀.heap.objs.size<=b)/\b≠X.env.locals/\(∀x c,X.env.cells.lookup x=some c->c≠b)/\∀p∈X.pn++pins,p.1≠b):Inv X pins Z H' s':=by
 obtain⟨h',g',d',t',o'⟩:=s'
 have e:o'=s.os:=ho
 subst e
 exact I.call (g':=g') (t':=t') (d':=d') u hok hg hch
end
abbrev XK:=Value->Option Addr->Hp->Prop
abbrev St:=List (Option V)
abbrev VK:=V->Hp->Prop
abbrev TE:=St->Hp->VK->Prop
abbrev TT:=St->Hp->(Bool->Hp->Prop)->Prop
abbrev TA:=St->Hp->(List V->Hp->Prop)->Prop
structure Ends where
 nx:St->Hp->Prop
 rt:VK
 bk:St->Hp->Prop:=λ_ _=>False
 ct:St->Hp->Prop:=λ_ _=>False
abbrev TS:=Ends->St->Hp->Prop
def EP(X:Cx)(pins:List (Addr×Obj))(Z:St)(Q:VK)(u:Value)(s':Shared):Prop:=∃v H',Inv X pins Z H' s'/\RelV v u/\Q v H'
def TP(X:Cx)(pins:List (Addr×Obj))(Z:St)(Q:Bool->Hp->Prop)(b:Bool)(s':Shared):Prop:=∃H',Inv X pins Z H' s'/\Q b H'
def AP(X:Cx)(pins:List (Addr×Obj))(Z:St)(Q:List V->Hp->Prop)(us:List Value)(s':Shared):Prop:=∃vs H',Inv X pins Z H' s'/\Vals vs us/\Q vs H'
def SP(X:Cx)(pins:List (Addr×Obj))(D:Ends)(f:Flow)(s':Shared):Prop :=
 match f with
 |.next=>∃Z' H',Inv X pins Z' H' s'/\D.nx Z' H'
 |.brk=>∃Z' H',Inv X pins Z' H' s'/\D.bk Z' H'
 |.cont=>∃Z' H',Inv X pins Z' H' s'/\D.ct Z' H'
 |.ret u=>∃v Z' H',Inv X pins Z' H' s'/\RelV v u/\D.rt v H'
def PE(X:Cx)(e:Expr)(t:TE):Prop :=
 ∀(pins:List (Addr×Obj)) (s:Shared) (Z:St) (H:Hp) (Q:VK),Inv X pins Z H s->t Z H Q->wpAny (model X.prog X.w) X.A (eval e X.env) (EP X pins Z Q) X.xe s
def PT(X:Cx)(e:Expr)(t:TT):Prop :=
 ∀(pins:List (Addr×Obj)) (s:Shared) (Z:St) (H:Hp) (Q:Bool->Hp->Prop),Inv X pins Z H s->t Z H Q->wpAny (model X.prog X.w) X.A (isTrue e X.env (eval e X.env)) (TP X pins Z Q) X.xe s
def PW(X:Cx)(e:Expr)(t:TT):Prop :=
 ∀(whole:Sem Value) (pins:List (Addr×Obj)) (s:Shared) (Z:St) (H:Hp) (Q:Bool->Hp->Prop),Inv X pins Z H s->t Z H Q->wpAny (model X.prog X.w) X.A (isTrue e X.env whole) (TP X pins Z Q) X.xe s
theorem PW.pt{X:Cx}{e:Expr}{t:TT}(h:PW X e t):PT X e t:=h _
def PA(X:Cx)(es:List Expr)(t:TA):Prop :=
 ∀(pos:Pos) (pins:List (Addr×Obj)) (s:Shared) (Z:St) (H:Hp) (Q:List V->Hp->Prop),Inv X pins Z H s->t Z H Q->wpAny (model X.prog X.w) X.A (spliced (backTo pos (starEach es X.env))) (AP X pins Z Q) X.xe s
def PS(X:Cx)(st:Stmt)(t:TS):Prop :=
 ∀(pins:List (Addr×Obj)) (s:Shared) (Z:St) (H:Hp) (D:Ends),Inv X pins Z H s->t D Z H->wpAny (model X.prog X.w) X.A (exec st X.env) (SP X pins D) X.xe s
def xX(X:Cx)(st:List Stmt)(t:TS):Prop :=
 ∀(pins:List (Addr×Obj)) (s:Shared) (Z:St) (H:Hp) (D:Ends),Inv X pins Z H s->t D Z H->wpAny (model X.prog X.w) X.A (execs st X.env) (SP X pins D) X.xe s
theorem cU{α:Type}{t:Sem α}{Q Q':α->Shared->Prop}{M:Model}{A:Around}{E:Value->Shared->Prop}{s:Shared}(h:wpAny M A t Q E s)(hQ:∀a s,Q a s->Q' a s):wpAny M A t Q' E s:=wpAny_mono h hQ λ_ _ x=>x
section
variable {X:Cx}
def HE(i:Nat):TE:=λZ H Q=>∃v,Z[i]?=some (some v)/\Q v H
def tC(v:V):TE:=λ_ H Q=>Q v H
theorem OL {i:Nat} {x:Str} {pos:Pos} (hN:X.N[i]?=some x) (hv:Td X.env.scope x) (hd:autoParam ((x == ("__debug__":Str))=false) L2.Y1._auto_1) (hcd:autoParam ((x == ("__classdict__":Str))=false) L2.Y1._auto_1):PE X (.Name x pos) (HE i):=by
 intro pins s Z H Q I h
 obtain⟨v,e,h⟩:=h
 obtain⟨m,hn,hl⟩:=I.loc
 obtain⟨u,r,l⟩:=hl i x v hN e hv
 have fin:EP X pins Z Q u s:=⟨v,H,I,r,h⟩
 rcases l with ⟨hk,hm⟩|⟨hk,c,hc,hcell⟩
 ·exact wpAny_Name (wpAny_loadName_local I.ok.kind hk hn hm fin) hd
 ·rcases hk with hk|hk
  ·exact wpAny_Name (wpAny_loadName_cell I.ok.kind hk hc hcell fin) hd
  ·exact wpAny_Name (wpAny_loadName_free I.ok.kind hk hc hcell fin hcd) hd
theorem aq{i j pos}:PE X (.Constant (.int i) j pos) (tC (.int i)):=λ_ _ _ H _ I h=>wpAny_Constant_int ⟨.int i,H,I.tok _,⟨_,rfl⟩,h⟩
theorem lF{b j pos}:PE X (.Constant (.bool b) j pos) (tC (.bl b)):=λ_ _ _ H _ I h=>Constant_bool ⟨.bl b,H,I,rfl,h⟩
theorem bX{j pos}:PE X (.Constant .none j pos) (tC .cW):=λ_ _ _ H _ I h=>Constant_none ⟨.cW,H,I,rfl,h⟩
theorem az{x j pos}:PE X (.Constant (.str x) j pos) (tC (.str x)):=λ_ _ _ H _ I h=>Calls.Constant_str ⟨.str x,H,I.tok _,⟨_,rfl⟩,h⟩
def Gl(X:Cx)(x:Str):Prop:=X.env.kindOf x=some .globalImplicit
theorem nc{E:Value->Shared->Prop}{pins:List (Addr×Obj)}{s:Shared}{Z:St}{H:Hp}{x:Str}{u:Value}{pos:Pos}{Q:Value->Shared->Prop}(I:Inv X pins Z H s)(hg:Gl X x)(hm:X.mg x=some u)(h:Q u s)
  (hd:autoParam ((x == ("__debug__":Str))=false) L2.Y1._auto_1):wpAny (model X.prog X.w) X.A (eval (.Name x pos) X.env) Q E s :=
 Calls.Name_function_global I.ok.kind hg (Calls.loadGlobal_global (by rw[I.ok.glob];exact I.mod.glob.keeps I.bk) hm h) hd
theorem kh{E:Value->Shared->Prop}{pins:List (Addr×Obj)}{s:Shared}{Z:St}{H:Hp}{x:Str}{u:Value}{pos:Pos}{Q:Value->Shared->Prop}(I:Inv X pins Z H s)(hg:Gl X x)(hm:X.mg x=none)(hv:bootBuiltins x=some u)(h:Q u s)
  (hn:autoParam (x ≠ "__name__") L2.Y1._auto_1) (hd:autoParam ((x == ("__debug__":Str))=false) L2.Y1._auto_1):wpAny (model X.prog X.w) X.A (eval (.Name x pos) X.env) Q E s:=by
 obtain⟨mb,h1,h2⟩:=I.mod.blt
 exact Calls.Name_function_global I.ok.kind hg (Calls.loadGlobal_builtin (by rw[I.ok.glob];exact I.mod.glob.keeps I.bk) hm (by rw[I.ok.blt];exact h1.keeps I.bk) ((h2 x hn).trans hv) h) hd
theorem mQ {x:Str} {v:V} {u:Value} {pos:Pos} (hg:Gl X x) (hm:X.mg x=some u) (r:RelV v u) (hd:autoParam ((x == ("__debug__":Str))=false) L2.Y1._auto_1):PE X (.Name x pos) (tC v) :=
 λ_ _ _ H _ I h=>nc I hg hm ⟨v,H,I,r,h⟩ hd
theorem zF {x:Str} {v:V} {u:Value} {pos:Pos} (hg:Gl X x) (hm:X.mg x=none) (hv:bootBuiltins x=some u) (r:RelV v u) (hn:autoParam (x ≠ "__name__") L2.Y1._auto_1) (hd:autoParam ((x == ("__debug__":Str))=false) L2.Y1._auto_1):PE X (.Name x pos) (tC v) :=
 λ_ _ _ H _ I h=>kh I hg hm hv ⟨v,H,I,r,h⟩ hn hd
variable {a b:Expr}{ta tb:TE}{pos:Pos}
def PC(X:Cx)(op:CmpOp)(a b:Expr)(t:TE):Prop :=
 ∀(pins:List (Addr×Obj)) (s:Shared) (Z:St) (H:Hp) (Q:VK),Inv X pins Z H s->t Z H Q->
  wpAny (model X.prog X.w) X.A (eval a X.env) (λv s₁=>wpAny (model X.prog X.w) X.A (eval b X.env) (λu s₂=>wpAny (model X.prog X.w) X.A (compareOp op v u) (EP X pins Z Q) X.xe s₂) X.xe s₁) X.xe s
theorem vt(b:Expr){op:CmpOp}(h:op≠.In)(h2:op≠.NotIn):behindInMarks op b=false:=by
 have e1:(op == CmpOp.In)=false:=by cases op <;> first | rfl | exact absurd rfl h
 have e2:(op == CmpOp.NotIn)=false:=by cases op <;> first | rfl | exact absurd rfl h2
 cases b <;> simp[behindInMarks,e1,e2]
def tB(t:TE):TT:=λZ H Q=>t Z H λx H1=>∃c,x=.bl c/\Q c H1
theorem xH{op:CmpOp}{t:TE}(h:PC X op a b t)(h1:behindInMarks op b=false:=by first | exact vt _ (by decide) (by decide) | rfl):PT X (.Compare a [op] [b] pos) (tB t):=by
 intro pins s Z H Q I hw
 refine wpAny_isTrue_Compare1 (cU (h pins s Z H _ I hw) λv s1 h1=>cU h1 λu s2 h2=>cU h2 λc s3 hY=>?_) h1
 obtain⟨x,H1,I1,r1,q1⟩:=hY
 obtain⟨d,rfl,q⟩:=q1
 cases r1
 exact wpAny_truthy_bool ⟨H1,I1,q⟩
theorem iB{e:Expr}{t:TE}(h:PE X e t)(he:autoParam (∀whole,isTrue e X.env whole=(do let v ← whole;standAt e.pos;holding [v] (truthy v))) L2.Y2._auto_1):PT X e (tB t):=by
 intro pins s Z H Q I hw
 refine isTrue_plain (cU (h pins s Z H _ I hw) λv s1 hY=>?_) (he _)
 obtain⟨x,H1,I1,r1,q1⟩:=hY
 obtain⟨d,rfl,q⟩:=q1
 cases r1
 exact wpAny_truthy_bool ⟨H1,I1,q⟩
variable {tA tB':TT}{rest:List Expr}
def R8(t u:TT):TT:=λZ H Q=>t Z H λc H1=>if c=true then u Z H1 Q else Q false H1
def tOr(t u:TT):TT:=λZ H Q=>t Z H λc H1=>if c=true then Q true H1 else u Z H1 Q
def Sq(t:TT):TT:=λZ H Q=>t Z H λc H1=>Q (!c) H1
theorem fV(ha:PT X a tA):PW X (.BoolOp .And [a] pos) tA:=by
 intro wh pins s Z H Q I h
 refine isTrue_and (cU (ha pins s Z H Q I h) λc s1 e=>?_)
 cases c with
 |true=>exact isTrue_and_nil e
 |false=>exact e
theorem jF(ha:PT X a tA):PW X (.BoolOp .Or [a] pos) tA:=by
 intro wh pins s Z H Q I h
 refine isTrue_or (cU (ha pins s Z H Q I h) λc s1 e=>?_)
 cases c with
 |false=>exact isTrue_or_nil e
 |true=>exact e
theorem iz(ha:PT X a tA)(hb:PW X (.BoolOp .And (b::rest) pos) tB'):PW X (.BoolOp .And (a::b::rest) pos) (R8 tA tB'):=by
 intro wh pins s Z H Q I h
 refine isTrue_and (cU (ha pins s Z H _ I h) λc s1  hZ=>?_)
 obtain⟨H1,I1,q1⟩:=hZ
 cases c with
 |true=>exact hb wh pins s1 Z H1 Q I1 q1
 |false=>exact⟨H1,I1,q1⟩
theorem jV(ha:PT X a tA)(hb:PW X (.BoolOp .Or (b::rest) pos) tB'):PW X (.BoolOp .Or (a::b::rest) pos) (tOr tA tB'):=by
 intro wh pins s Z H Q I h
 refine isTrue_or (cU (ha pins s Z H _ I h) λc s1  hZ=>?_)
 obtain⟨H1,I1,q1⟩:=hZ
 cases c with
 |true=>exact⟨H1,I1,q1⟩
 |false=>exact hb wh pins s1 Z H1 Q I1 q1
theorem jb(ha:PT X a tA):PT X (.UnaryOp .Not a pos) (Sq tA):=by
 intro pins s Z H Q I h
 exact isTrue_not (ha pins s Z H (λc H1=>Q (!c) H1) I h)
def Jm(ta tb:TE):TE:=λZ H Q=>ta Z H λx H1=>∃c,x=.bl c/\if c=true then tb Z H1 Q else Q (.bl false) H1
def TZ(ta tb:TE):TE:=λZ H Q=>ta Z H λx H1=>∃c,x=.bl c/\if c=true then Q (.bl true) H1 else tb Z H1 Q
def Ji(ta:TE):TE:=λZ H Q=>ta Z H λx H1=>∃c,x=.bl c/\Q (.bl (!c)) H1
theorem yK{op}{t:TE}(h:PE X a t):PE X (.BoolOp op [a] pos) t:=λpins s Z H Q I hw=>BoolOp_one (h pins s Z H Q I hw)
theorem D3(ha:PE X a ta)(hb:PE X (.BoolOp .And (b::rest) pos) tb):PE X (.BoolOp .And (a::b::rest) pos) (Jm ta tb):=by
 intro pins s Z H Q I h
 refine BoolOp_and (cU (ha pins s Z H _ I h) λv s1  hZ=>?_)
 obtain⟨x,H1,I1,r1,q1⟩:=hZ
 obtain⟨c,rfl,q1⟩:=q1
 cases r1
 refine wpAny_truthy_bool ?_
 cases c with
 |true=>exact hb pins s1 Z H1 Q I1 q1
 |false=>exact⟨.bl false,H1,I1,rfl,q1⟩
theorem E9(ha:PE X a ta):PE X (.UnaryOp .Not a pos) (Ji ta):=by
 intro pins s Z H Q I h
 refine UnaryOp_ (cU (ha pins s Z H _ I h) λv s1  hZ=>?_)
 obtain⟨x,H1,I1,r1,q1⟩:=hZ
 obtain⟨c,rfl,q1⟩:=q1
 cases r1
 exact not_of (wpAny_truthy_bool ⟨.bl (!c),H1,I1,rfl,q1⟩)
def tIf(t:TT)(ta tb:TE):TE:=λZ H Q=>t Z H λc H1=>if c=true then ta Z H1 Q else tb Z H1 Q
theorem cN{c:Expr}(hc:PT X c tA)(ha:PE X a ta)(hb:PE X b tb):PE X (.IfExp c a b pos) (tIf tA ta tb):=by
 intro pins s Z H Q I h
 refine wpAny_IfExp (cU (hc pins s Z H _ I h) λd s1  hZ=>?_)
 obtain⟨H1,I1,q1⟩:=hZ
 cases d with
 |true=>exact ha pins s1 Z H1 Q I1 q1
 |false=>exact hb pins s1 Z H1 Q I1 q1
end
def bg(K:PySem.W.Frag)(H:Hp)(a:Addr)(xs:List V):Prop :=
 Rd H a (.lst xs)∨
  ∃(o:Obj) (its:Array Value) (n:Nat),K.lookup a=some o/\o.cls=.type "list" /\ o.dict=none/\o.data=.seq its n/\its.size<=sizeLine/\Vals xs its.toList
def dO(K:PySem.W.Frag)(H:Hp)(a:Addr)(xs:List V):Prop :=
 Rd H a (.tup xs)∨
  ∃(o:Obj) (its:Array Value) (n:Nat),K.lookup a=some o/\o.cls=.type "tuple" /\ o.data=.seq its n/\its.size<=sizeLine/\Vals xs its.toList
def TY:Value->Option V
 |.none=>some .cW
 |.bool b=>some (.bl b)
 |.int i _=>some (.int i)
 |.str x _=>some (.str x)
 |.bytes b _=>some (.byt b)
 |.float b _=>some (.wJ b)
 |.ref a=>some (.ref a)
 |.type n=>some (.ty n)
 |_=>none
theorem RelV.abs{x:V}{u:Value}(r:RelV x u):TY u=some x:=by
 cases x with
 |cW=>cases r;rfl
 |bl _=>cases r;rfl
 |int _=>obtain⟨t,rfl⟩:=r;rfl
 |str _=>obtain⟨t,rfl⟩:=r;rfl
 |byt _=>obtain⟨t,rfl⟩:=r;rfl
 |wJ _=>obtain⟨t,rfl⟩:=r;rfl
 |ref _=>cases r;rfl
 |ty _=>cases r;rfl
theorem RelV.inj{x y:V}{u:Value}(r:RelV x u)(q:RelV y u):x=y:=Option.some.inj (r.abs.symm.trans q.abs)
theorem Vals.inj:∀{xs ys:List V} {us:List Value},Vals xs us->Vals ys us->xs=ys
 |_,_,_,.nil,.nil=>rfl
 |_,_,_,.cons r t,.cons r' t'=>by rw[r.inj r',Vals.inj t t']
section
variable {X:Cx}{pins:List (Addr×Obj)}{Z:St}{H:Hp}{s:Shared}{a:Addr}{xs ys:List V}
theorem bg.of{K:PySem.W.Frag}(h:H a=some (.lst xs)):bg K H a xs:=.inl (.inl h)
theorem dO.of{K:PySem.W.Frag}(h:H a=some (.tup xs)):dO K H a xs:=.inl (.inl h)
theorem Inv.list(I:Inv X pins Z H s)(h:bg X.K H a xs):∃its:List Value,Vals xs its/\PlainL s.heap a its.toArray/\xs.length<=sizeLine:=by
 rcases h with h|⟨o,its,n,hk,hc,hd,hs,hz,r⟩
 ·obtain⟨z,its,n,r,e⟩:=h.ok I.hok
  exact⟨its,r,⟨_,n,e,rfl,rfl,rfl⟩,z⟩
 ·refine⟨its.toList,r,⟨o,n,I.mK a o hk,hc,hd,by simpa using hs⟩,?_⟩
  have e:=r.length
  simp only[Array.length_toList] at e
  lia
theorem Inv.tuple(I:Inv X pins Z H s)(h:dO X.K H a xs):∃its:List Value,Vals xs its/\IsTup s.heap a its.toArray/\xs.length<=sizeLine:=by
 rcases h with h|⟨o,its,n,hk,hc,hs,hz,r⟩
 ·obtain⟨z,its,r,p⟩:=h.ok I.hok
  exact⟨its,r,p,z⟩
 ·refine⟨its.toList,r,⟨o,I.mK a o hk,hc,n,by simpa using hs⟩,?_⟩
  have e:=r.length
  simp only[Array.length_toList] at e
  lia
theorem Inv.mY(I:Inv X pins Z H s)(h:bg X.K H a xs)(h':bg X.K H a ys):xs=ys:=by
 obtain⟨its,r,⟨o,n,e,_,_,d⟩,_⟩:=I.list h
 obtain⟨its',r',⟨o',n',e',_,_,d'⟩,_⟩:=I.list h'
 rw[e] at e';cases e'
 rw[d] at d'
 injection d' with d1 _
 have:its=its':=by simpa using congrArg Array.toList d1
 subst this
 exact r.inj r'
end
abbrev Cx.rG(X:Cx)(E:Value->Shared->Prop):Cx:={ X with xe:=E }
abbrev Cx.S7(X:Cx):Cx:=X.rG λ_ _=>False
theorem Cx.Ok.rG{X:Cx}(ok:X.Ok)(E:Value->Shared->Prop):(X.rG E).Ok :=
 ⟨ok.mod,ok.kind,ok.glob,ok.blt,ok.above,ok.inj,ok.has,ok.QU,ok.hd,ok.frames,ok.stk,ok.exf,ok.bs,ok.Lp,ok.Di,ok.HK,ok.oQ,ok.OB⟩
theorem Cx.Ok.kE{X:Cx}{E:Value->Shared->Prop}(ok:(X.rG E).Ok):X.Ok :=
 ⟨ok.mod,ok.kind,ok.glob,ok.blt,ok.above,ok.inj,ok.has,ok.QU,ok.hd,ok.frames,ok.stk,ok.exf,ok.bs,ok.Lp,ok.Di,ok.HK,ok.oQ,ok.OB⟩
section
variable {X:Cx}{pins:List (Addr×Obj)}{Z:St}{H:Hp}{s:Shared}{E:Value->Shared->Prop}
theorem Inv.rG(I:Inv X pins Z H s)(E:Value->Shared->Prop):Inv (X.rG E) pins Z H s:=⟨I.ok.rG E,I.os,I.bare,I.base,I.loc,I.cell,I.free,I.jR,I.pin,I.hok,I.len⟩
theorem Inv.kE(I:Inv (X.rG E) pins Z H s):Inv X pins Z H s:=⟨I.ok.kE,I.os,I.bare,I.base,I.loc,I.cell,I.free,I.jR,I.pin,I.hok,I.len⟩
theorem SP.kE{D:Ends}{f:Flow}{s':Shared}(h:SP (X.rG E) pins D f s'):SP X pins D f s':=by
 cases f with
 |next=>obtain⟨Z',H',I,q⟩:=h;exact⟨Z',H',I.kE,q⟩
 |brk=>obtain⟨Z',H',I,q⟩:=h;exact⟨Z',H',I.kE,q⟩
 |cont=>obtain⟨Z',H',I,q⟩:=h;exact⟨Z',H',I.kE,q⟩
 |ret u=>obtain⟨v,Z',H',I,r,q⟩:=h;exact⟨v,Z',H',I.kE,r,q⟩
theorem xX.S7{st:List Stmt}{t:TS}(h:xX X.S7 st t):xX X st t:=λpins s Z H D I hw=>
 wpAny_mono (h pins s Z H D (I.rG _) hw) (λ_ _ q=>q.kE) λ_ _ z=>False.elim z
end
section
variable {X:Cx}{st:Stmt}{rest:List Stmt}{t u:TS}{e:Expr}{te:TE}{pos:Pos}
def RO:TS:=λD Z H=>D.nx Z H
def QT(t u:TS):TS:=λD Z H=>t { D with nx:=u D } Z H
theorem vV(h1:PS X st t)(h2:xX X rest u):xX X (st::rest) (QT t u):=by
 intro pins s Z H D I h
 refine wpAny_execs_cons (cU (h1 pins s Z H { D with nx:=u D } I h) λf s1 q=>?_)
 cases f with
 |next=>
  obtain⟨Z',H',I',q⟩:=q
  exact h2 pins s1 Z' H' D I' q
 |ret v=>exact q
 |brk=>exact q
 |cont=>exact q
theorem HM(h1:PS X st t):xX X [st] t:=by
 intro pins s Z H D I h
 refine wpAny_execs_cons (cU (h1 pins s Z H D I h) λf s1 q=>?_)
 cases f with
 |next=>exact wpAny_execs_nil q
 |ret v=>exact q
 |brk=>exact q
 |cont=>exact q
theorem Inv.quiet{pins:List (Addr×Obj)}{Z:St}{H:Hp}{s:Shared}(I:Inv X pins Z H s):interactive X.env=false:=by simp[interactive,I.ok.kind]
def LV(te:TE):TS:=λD Z H=>te Z H λ_ H1=>D.nx Z H1
theorem bx(he:PE X e te)(hs:autoParam (swapsWith e none pos.line X.env=pure false) L2.Y3._auto_1):PS X (.Expr e pos) (LV te):=by
 intro pins s Z H D I h
 exact wpAny_Expr_any (cU (he pins s Z H _ I h) λv s1 ⟨x,H1,I1,r1,q1⟩=>⟨Z,H1,I1,q1⟩) I.quiet hs
def OT(te:TE):TS:=λD Z H=>te Z H D.rt
theorem aJ(he:PE X e te):PS X (.Return (some e) pos) (OT te):=by
 intro pins s Z H D I h
 exact wpAny_Return_some (cU (he pins s Z H _ I h) λv s1 ⟨x,H1,I1,r1,q1⟩=>⟨x,Z,H1,I1,r1,q1⟩)
def QV(c:TT)(t u:TS):TS:=λD Z H=>c Z H λb H1=>if b=true then t D Z H1 else u D Z H1
theorem bK{c:Expr}{a b:List Stmt}{tc:TT}(hc:PT X c tc)(ha:xX X a t)(hb:xX X b u):PS X (.If c a b pos) (QV tc t u):=by
 intro pins s Z H D I h
 refine wpAny_If (cU (hc pins s Z H _ I h) λd s1  hZ=>?_)
 obtain⟨H1,I1,q1⟩:=hZ
 cases d with
 |true=>exact ha pins s1 Z H1 D I1 q1
 |false=>exact hb pins s1 Z H1 D I1 q1
end
abbrev TG:=V->St->Hp->(St->Hp->Prop)->Prop
abbrev OC:=List V->St->Hp->(St->Hp->Prop)->Prop
def PG(X:Cx)(target:Expr)(t:TG):Prop :=
 ∀(pins:List (Addr×Obj)) (s:Shared) (Z:St) (H:Hp) (v:V) (u:Value) (Q:St->Hp->Prop),Inv X pins Z H s->RelV v u->t v Z H Q->
  wpAny (model X.prog X.w) X.A (assign target X.env u) (λ_ s'=>∃Z' H',Inv X pins Z' H' s'/\Q Z' H') X.xe s
def Tg(X:Cx)(ts:List Expr)(t:OC):Prop :=
 ∀(pins:List (Addr×Obj)) (s:Shared) (Z:St) (H:Hp) (vs:List V) (us:List Value) (Q:St->Hp->Prop),Inv X pins Z H s->Vals vs us->t vs Z H Q->
  wpAny (model X.prog X.w) X.A (assignInOrder ((assignEach ts X.env).map (·.2)) us) (λ_ s'=>∃Z' H',Inv X pins Z' H' s'/\Q Z' H') X.xe s
abbrev Qa:=V->V->V->Hp->(Hp->Prop)->Prop
def RI(X:Cx)(t:Qa):Prop :=
 ∀(pins:List (Addr×Obj)) (s:Shared) (Z:St) (H:Hp) (o i v:V) (ov iv u:Value) (Q:Hp->Prop),Inv X pins Z H s->RelV o ov->RelV i iv->RelV v u->t o i v H Q->
  wpAny (model X.prog X.w) X.A (setItem ov iv u) (λ_ s'=>∃H',Inv X pins Z H' s'/\Q H') X.xe s
abbrev Th:=V->V->Hp->VK->Prop
def PIp(X:Cx)(op:Operator)(t:Th):Prop :=
 ∀(pins:List (Addr×Obj)) (s:Shared) (Z:St) (H:Hp) (x y:V) (v u:Value) (Q:VK),Inv X pins Z H s->RelV x v->RelV y u->t x y H Q->
  wpAny (model X.prog X.w) X.A (inplaceOp op v u) (EP X pins Z Q) X.xe s
section
variable {X:Cx}{pos:Pos}
def oz(i:Nat):TG:=λv Z H Q=>Q (Z.set i (some v)) H
theorem oY{i:Nat}{x:Str}(hN:X.N.Nodup)(hi:X.N[i]?=some x)(hx:Loc X.env.scope x)(hf:autoParam (X.fn x=true∨X.env.scope.names.lookup x=some .local) L2.Y0._auto_1):PG X (.Name x pos) (oz i):=by
 intro pins s Z H v u Q I r h
 exact wpAny_assign_Name (qO I hN hi hx r (λs' I'=>⟨_,H,I',h⟩) hf)
def Uk:OC:=λvs Z H Q=>vs=[]/\Q Z H
def RW(t:TG)(u:OC):OC:=λvs Z H Q=>∃v r,vs=v::r/\t v Z H λZ' H'=>u r Z' H' Q
theorem jK:Tg X [] Uk:=by
 intro pins s Z H vs us Q I r h
 obtain⟨e,h⟩:=h
 subst e
 cases r
 exact assignInOrder_nil ⟨Z,H,I,h⟩
theorem cB{e:Expr}{es:List Expr}{t:TG}{u:OC}(h1:PG X e t)(h2:Tg X es u)
  (hs:autoParam ((assignEach (e::es) X.env).map (·.2)=assign e X.env::(assignEach es X.env).map (·.2)) L2.Y3._auto_1):Tg X (e::es) (RW t u):=by
 intro pins s Z H vs us Q I r h
 obtain⟨v,vr,e1,h⟩:=h
 subst e1
 cases r with
 |cons r rr=>
  rw[hs]
  refine assignInOrder_cons (cU (h1 pins s Z H _ _ _ I r h) λ_ s1  hZ=>?_)
  obtain⟨Z1,H1,I1,q1⟩:=hZ
  exact h2 pins s1 Z1 H1 _ _ Q I1 rr q1
def T5(K:PySem.W.Frag)(n:Nat)(t:OC):TG:=λv Z H Q=>∃a xs,v=.ref a/\dO K H a xs/\xs.length=n/\t xs Z H Q
theorem lX{es:List Expr}{k:Nat}{t:OC}{n:Nat}(hc:X.calm=true)(h:Tg X es t)
  (hn:autoParam ((assignEach es X.env).length=n) L2.Y3._auto_1) (hst:autoParam ((assignEach es X.env).findIdx? (·.1)=none) L2.Y3._auto_1):PG X (.Tuple es k pos) (T5 X.K n t):=by
 intro pins s Z H v u Q I r hw
 obtain⟨a,xs,e1,hq,hl,hw⟩:=hw
 subst e1
 cases r
 obtain⟨its,rv,ht,hz⟩:=I.tuple hq
 refine assign_Tuple_tuple (I.ok.hd hc) ht (by simp[hn,← hl,rv.length]) hst λh' hx=>?_
 have I1:Inv X pins Z H { s with heap:=h' }:=I.kept (t':=s.toks) λb o e=>hx b o (Nat.ne_of_lt (Heap.lt_size e)) e
 exact h pins _ Z H xs _ Q I1 (by simpa using rv) hw
def Ui(to ti:TE)(t:Qa):TG:=λv Z H Q=>to Z H λo H1=>ti Z H1 λi H2=>t o i v H2 λH3=>Q Z H3
theorem BG{o i:Expr}{to ti:TE}{t:Qa}(ho:PE X o to)(hi:PE X i ti)(hs:RI X t)
  (ha:autoParam (∀v,assign (.Subscript o i pos) X.env v=(do
   let ov ← holding [v] (eval o X.env)
   let iv ← holding [v,ov] (eval i X.env)
   standAt pos
   holding [v,ov,iv] (setItem ov iv v)
   release [v,ov,iv] [])) L2.Y2._auto_1):PG X (.Subscript o i pos) (Ui to ti t):=by
 intro pins s Z H v u Q I r h
 rw[ha]
 refine wpAny_bind (wpAny_holding (cU (ho pins s Z H _ I h) λov s1  hZ=>?_))
 obtain⟨x,H1,I1,r1,q1⟩:=hZ
 refine wpAny_bind (wpAny_holding (cU (hi pins s1 Z H1 _ I1 q1) λiv s2  hZ=>?_))
 obtain⟨y,H2,I2,r2,q2⟩:=hZ
 refine wpAny_bind (wpAny_standAt (wpAny_bind (wpAny_holding (cU (hs pins s2 Z H2 x y v ov iv u _ I2 r1 r2 r q2) λ_ s3  hZ=>?_))))
 obtain⟨H3,I3,q3⟩:=hZ
 exact wpAny_release ⟨Z,H3,I3,q3⟩
def Gj(te:TE)(g:TG):TS:=λD Z H=>te Z H λx H1=>g x Z H1 D.nx
theorem uF{tg e:Expr}{te:TE}{g:TG}(he:PE X e te)(hg:PG X tg g)(hs:autoParam (swapsWithSole [tg] e pos.line X.env=pure false) L2.Y3._auto_1)(hw:autoParam (swappedStores [tg] e X.env=pure none) L2.Y3._auto_1)
  (h1:autoParam ((assignEach [tg] X.env).map (·.2)=[assign tg X.env]) L2.Y3._auto_1):PS X (.Assign [tg] e pos) (Gj te g):=by
 intro pins s Z H D I h
 refine wpAny_Assign_stores (cU (he pins s Z H _ I h) λv s1 hY=>?_) hs hw
 obtain⟨x,H1,I1,r1,q1⟩:=hY
 rw[h1]
 exact cU (hg pins s1 Z H1 x v _ I1 r1 q1) λ_ s2 q=>q
theorem uz{i:Nat}{x:Str}{e:Expr}{te:TE}{pos':Pos}(hN:X.N.Nodup)(hi:X.N[i]?=some x)(hx:Loc X.env.scope x)(he:PE X e te)(hs:autoParam (swapsWith e (some (.Name x pos')) pos.line X.env=pure false) L2.Y3._auto_1)(hf:autoParam (X.fn x=true∨X.env.scope.names.lookup x=some .local) L2.Y0._auto_1) :
  PS X (.Assign [.Name x pos'] e pos) (Gj te (oz i)):=by
 intro pins s Z H D I h
 refine wpAny_Assign_Name (cU (he pins s Z H _ I h) λv s1 hY=>?_) hs
 obtain⟨y,H1,I1,r1,q1⟩:=hY
 exact qO I1 hN hi hx r1 (λs2 I2=>⟨_,H1,I2,q1⟩) hf
def R3(i:Nat)(te:TE)(ti:Th):TS:=λD Z H=>∃x,Z[i]?=some (some x)/\te Z H λy H1=>ti x y H1 λz H2=>D.nx (Z.set i (some z)) H2
theorem xZ{i:Nat}{x:Str}{e:Expr}{te:TE}{op:Operator}{ti:Th}{pos':Pos}(hN:X.N.Nodup)(hi:X.N[i]?=some x)(hx:Loc X.env.scope x)(he:PE X e te)(ho:PIp X op ti)(hf:autoParam (X.fn x=true∨X.env.scope.names.lookup x=some .local) L2.Y0._auto_1) :
  PS X (.AugAssign (.Name x pos') op e pos) (R3 i te ti):=by
 intro pins s Z H D I h
 obtain⟨v,e1,h⟩:=h
 obtain⟨m,hn,hl⟩:=I.loc
 have vis:Td X.env.scope x:=by rcases hx with k|k;exact .inl k;exact .inr (.inl k)
 obtain⟨u,r,l⟩:=hl i x v hi e1 vis
 refine wpAny_AugAssign_Name ?_
 have go:wpAny (model X.prog X.w) X.A (eval e X.env) (λw s₂=>wpAny (model X.prog X.w) X.A (inplaceOp op u w) (λr s₃=>wpAny (model X.prog X.w) X.A (storeName X.env x r) (λ_=>SP X pins D .next) X.xe s₃) X.xe s₂) X.xe s:=by
  refine cU (he pins s Z H _ I h) λw s1  hZ=>?_
  obtain⟨y,H1,I1,r1,q1⟩:=hZ
  refine cU (ho pins s1 Z H1 v y u w _ I1 r r1 q1) λz s2  hZ=>?_
  obtain⟨zv,H2,I2,r2,q2⟩:=hZ
  exact qO I2 hN hi hx r2 (λs3 I3=>⟨_,H2,I3,q2⟩) hf
 rcases l with ⟨hk,hm⟩|⟨hk,c,hc,hcell⟩
 ·exact wpAny_loadName_local I.ok.kind hk hn hm go
 ·rcases hk with hk|hk
  ·exact wpAny_loadName_cell I.ok.kind hk hc hcell go
  ·rcases hx with k|k
   ·have:X.env.scope.names.lookup x=some .free:=hk
    rw[k] at this;cases this
   ·have:X.env.scope.names.lookup x=some .free:=hk
    rw[k] at this;cases this
def ipI(f:Int->Int->Int):Th:=λx y H Q=>∃i j,x=.int i/\y=.int j/\Q (.int (f i j)) H
theorem yu:PIp X .Add (ipI λi j=>i+j):=by
 intro pins s Z H x y v u Q I r1 r2 h
 obtain⟨i,j,e1,e2,q⟩:=h
 subst e1;subst e2
 obtain⟨t,rfl⟩:=r1
 obtain⟨t',rfl⟩:=r2
 exact iadd_int ⟨.int _,H,I.tok _,⟨_,rfl⟩,q⟩
end
section
variable {X:Cx}{pos:Pos}
def NH(c:TT)(tb:TS):TS:=λD Z H=>∃W:Nat->St->Hp->Prop,(∃m,W m Z H)/\∀m Z H,W m Z H->
 c Z H λb H1=>if b=true then ∃N:St->Hp->Prop,(∀Z' H',N Z' H'->∃m',m'<m/\W m' Z' H')/\tb { D with nx:=N,ct:=N,bk:=D.nx } Z H1 else D.nx Z H1
theorem jZ{c:Expr}{body:List Stmt}{tc:TT}{tb:TS}(hp:PassesOwn (model X.prog X.w) X.A X.env X.xe)(hc:PT X c tc)(hb:xX X body tb):PS X (.While c body [] pos) (NH tc tb):=by
 intro pins s Z H D I h
 obtain⟨W,⟨m0,w0⟩,turn⟩:=h
 refine wpAny_While (codeAny_whileLoop (λn s'=>∃Z' H',Inv X pins Z' H' s'/\W n Z' H') ?_ m0 ⟨Z,H,I,w0⟩)
 rintro n s1 ⟨Z1,H1,I1,w1⟩
 refine wpAny_passesOwn hp (cU (hc pins s1 Z1 H1 _ I1 (turn n Z1 H1 w1)) λb s2  hZ=>?_)
 obtain⟨H2,I2,q2⟩:=hZ
 cases b with
 |true=>
  obtain⟨N,hN,q2⟩:=q2
  rw[if_pos rfl]
  refine wpAny_passesOwn hp (cU (hb pins s2 Z1 H2 _ I2 q2) λf s3 q3=>?_)
  cases f with
  |next=>
   obtain⟨Z3,H3,I3,n3⟩:=q3
   obtain⟨m',hm,w3⟩:=hN Z3 H3 n3
   exact⟨m',hm,Z3,H3,I3,w3⟩
  |cont=>
   obtain⟨Z3,H3,I3,n3⟩:=q3
   obtain⟨m',hm,w3⟩:=hN Z3 H3 n3
   exact⟨m',hm,Z3,H3,I3,w3⟩
  |brk=>exact q3
  |ret v=>exact q3
 |false=>
  rw[if_neg Bool.false_ne_true]
  exact wpAny_execs_nil ⟨Z1,H2,I2,q2⟩
end
structure It where
 go:Nat->Hp->Prop
 Qz:Nat->Hp->V->Hp->Prop
 stop:Nat->Hp->Prop
def rN(X:Cx)(pins:List (Addr×Obj))(H:Hp)(b:Addr):Prop :=
 H b=none/\b≠X.env.locals/\b∉X.fs/\(b∈X.ex∨X.s₀.heap.objs.size<=b)/\(∀x c,X.env.cells.lookup x=some c->c≠b)/\∀p∈X.pn++pins,p.1≠b
theorem Inv.Ae{X:Cx}{pins:List (Addr×Obj)}{Z:St}{H H':Hp}{s:Shared}{b:Addr}(I:Inv X pins Z H s)(hb:s.heap.objs.size<=b)(hn:H' b=none):rN X pins H' b:=by
 refine⟨hn,Nat.ne_of_gt (Nat.lt_of_lt_of_le I.lt hb),I.QS hb,.inr (Nat.le_trans I.sz hb),λx c e z=>?_,λp hp z=>?_⟩
 ·obtain⟨v,q⟩:=I.cell x c e
  exact absurd (Nat.lt_of_lt_of_le q.lt (by rw[z];exact hb)) (Nat.lt_irrefl _)
 ·exact absurd (Nat.lt_of_lt_of_le (Heap.lt_size (I.pin p hp).1) (by rw[z];exact hb)) (Nat.lt_irrefl _)
structure Turn(P:Program)(w:World)(K:PySem.W.Frag)(tg:Expr)(J:It)(fp:List Addr)(it:Addr)(tn:Nat->Heap->Prop):Prop where
 mem:it∈fp
 obj:∀i h,tn i h->∀b∈fp,∃o,h.get? b=some o/\∀v,o.data≠.cell v
 keep:∀i h h',tn i h->(∀b∈fp,∀o,h.get? b=some o->h'.get? b=some o)->tn i h'
 item:∀(X:Cx),X.prog=P->X.w=w->X.K=K->X.calm=true->∀(i:Nat) (pins:List (Addr×Obj)) (s:Shared) (Z:St) (H:Hp) (E:Value->Shared->Prop),Inv X pins Z H s->(∀b∈fp,rN X pins H b)->tn i s.heap->J.go i H->
  wpAny (model P w) X.A (pyNext (.ref it)) (λr s1=>∃u,r=some u/\
   wpAny (model P w) X.A (letOwnedTupleGo tg (.ref it) u) (λ_ s2=>∃x H',Inv X pins Z H' s2/\RelV x u/\J.Qz i H x H'/\tn (i+1) s2.heap/\∀b∈fp,H' b=none) E s1) E s
 done:∀(X:Cx),X.prog=P->X.w=w->X.K=K->X.calm=true->∀(i:Nat) (pins:List (Addr×Obj)) (s:Shared) (Z:St) (H:Hp) (E:Value->Shared->Prop),Inv X pins Z H s->(∀b∈fp,rN X pins H b)->tn i s.heap->J.stop i H->
  wpAny (model P w) X.A (pyNext (.ref it)) (λr s1=>r=none/\Inv X pins Z H s1) E s
 self:∀(A:Around) (i:Nat) (s:Shared) (Q:Value->Shared->Prop) (E:Value->Shared->Prop),tn i s.heap->Q (.ref it) s->wpAny (model P w) A (pyIter (.ref it)) Q E s
abbrev TI:=St->Hp->(It->Hp->Prop)->Prop
def T8(X:Cx)(pins:List (Addr×Obj))(Z:St)(tg:Expr)(R:It->Hp->Prop)(itv:Value)(s2:Shared):Prop :=
 ∃(it:Addr) (fp:List Addr) (tn:Nat->Heap->Prop) (J:It) (H':Hp),itv=.ref it/\Inv X pins Z H' s2/\Turn X.prog X.w X.K tg J fp it tn/\tn 0 s2.heap/\(∀b∈fp,rN X pins H' b)/\R J H'
def PI(X:Cx)(tg iter:Expr)(wi:TI):Prop :=
 ∀(pins:List (Addr×Obj)) (s:Shared) (Z:St) (H:Hp) (R:It->Hp->Prop),Inv X pins Z H s->wi Z H R->
  wpAny (model X.prog X.w) X.A (eval iter X.env) (λv s1=>wpAny (model X.prog X.w) X.A (pyIter v) (T8 X pins Z tg R) X.xe s1) X.xe s
theorem BH{M:Model}{A:Around}{E:Value->Shared->Prop}{s:Shared}{tg:Expr}{it:Addr}{u:Value}{o:Obj}{n:String}{vs:Array Value}{Q:Unit->Shared->Prop}(ho:s.heap.get? it=some o)(hc:o.cls=.type n)(hd:o.data=.fields vs)
  (hn:["enumerate","zip","dict_itemiterator","dict_reverseitemiterator","odict_iterator","itertools.zip_longest","itertools.pairwise"].contains n=false) (hQ:Q () s):wpAny M A (letOwnedTupleGo tg (.ref it) u) Q E s:=by
 unfold letOwnedTupleGo
 cases tg <;> first
  |exact wpAny_pure hQ
  | (cases u <;> first
    |exact wpAny_pure hQ
    | (refine wpAny_bind (wpAny_load ho ?_)
       rw[hc,hd]
       show wpAny M A (if (["enumerate","zip","dict_itemiterator","dict_reverseitemiterator","odict_iterator","itertools.zip_longest","itertools.pairwise"].contains n && vs[0]? == some (rawInt _))=true then _ else _) Q E s
       rw[if_neg (by intro h;rw[hn,Bool.false_and] at h;cases h)]
       exact wpAny_pure hQ))
def Nm(K:PySem.W.Frag)(a:Addr):It :=
 ⟨λi H=>∃xs x,bg K H a xs/\xs[i]?=some x,λi H x H'=>H'=H/\∀xs,bg K H a xs->xs[i]?=some x,λi H=>∃xs,bg K H a xs/\xs.length<=i⟩
def La(lo:Int)(n:Nat):It:=⟨λi _=>i<n,λi H x H'=>H'=H/\x=.int (lo+i),λi _=>n<=i⟩
theorem AI{P:Program}{w:World}{K:PySem.W.Frag}{tg:Expr}(a it:Addr):Turn P w K tg (Nm K a) [it] it (λi h=>h.IsListIter it a i) where
 mem:=by simp
 obj:=λi h st b hb=>by
  have e:b=it:=by simpa using hb
  subst e
  obtain⟨o,e,c,d⟩:=st
  exact⟨o,e,λv z=>by rw[d] at z;cases z⟩
 keep:=λi h h' st k=>st.at λo e=>k it (by simp) o e
 item:=by
  intro X hP hw hK hc i pins s Z H E I hf st hg
  subst hP hw hK
  obtain⟨xs,x,hq,hx⟩:=hg
  obtain⟨its,rv,p,hz⟩:=I.list hq
  obtain⟨u,hu,ru⟩:=rv.get hx
  obtain⟨f0,f1,f2,f3,f4,f5⟩:=hf it (by simp)
  refine wpAny_pyNext_list_item st p.isList (x:=u) (by simpa using hu) λh' st' sb=>?_
  have I1:Inv X pins Z H { s with heap:=h' }:=I.turned (t':=s.toks) (λb o hb e=>(sb.2 b hb).trans e) f0 f1 f3 f4 f5
  obtain⟨o,e,c,d⟩:=id st'
  exact⟨u,rfl,BH (s:={ s with heap:=h' }) e c d (by decide) ⟨x,H,I1,ru,⟨rfl,λys hy=>by rw[I.mY hy hq];exact hx⟩,st',λb hb=>(hf b hb).1⟩⟩
 done:=by
  intro X hP hw hK hc i pins s Z H E I hf st hg
  subst hP hw hK
  obtain⟨xs,hq,hx⟩:=hg
  obtain⟨its,rv,p,hz⟩:=I.list hq
  obtain⟨f0,f1,f2,f3,f4,f5⟩:=hf it (by simp)
  have hl:=rv.length
  exact wpAny_pyNext_list_end (I.ok.hd hc) st p.isList (by simp;lia) λh' eb=>⟨rfl,I.turned (t':=s.toks) (λb o hb e=>eb b o hb e) f0 f1 f3 f4 f5⟩
 self:=λ_ _ _ _ _ st h=>wpAny_pyIter_listiter st h
theorem xM{P:Program}{w:World}{K:PySem.W.Frag}{tg:Expr}(it:Addr)(lo:Int)(n:Nat):Turn P w K tg (La lo n) [it] it (λi h=>IsRangeIter h it (lo+(i:Nat)*1) ((n:Int)-(i:Nat)) 1) where
 mem:=by simp
 obj:=λi h st b hb=>by
  have e:b=it:=by simpa using hb
  subst e
  exact⟨_,st,λv z=>by
   have z':Data.fields _=Data.cell v:=z
   cases z'⟩
 keep:=λi h h' st k=>k it (by simp) _ st
 item:=by
  intro X hP hw hK hc i pins s Z H E I hf st hg
  subst hP hw hK
  obtain⟨f0,f1,f2,f3,f4,f5⟩:=hf it (by simp)
  have W:=Walks.range (prog:=X.prog) (w:=X.w) (I.ok.hd hc) it lo 1 n
  refine W.item i s _ _ hg st λv h' tk hv st' kk=>?_
  obtain⟨t,rfl⟩:=hv
  have I1:Inv X pins Z H { s with heap:=h',toks:=tk }:=I.turned (λb o hb e=>kk b o (by simpa using hb) e) f0 f1 f3 f4 f5
  refine⟨_,rfl,BH (s:={ s with heap:=h',toks:=tk }) (n:="range_iterator") st' rfl rfl (by decide) ⟨.int (lo+i),H,I1,⟨t,?_⟩,⟨rfl,rfl⟩,st',λb hb=>(hf b hb).1⟩⟩
  rw[Int.mul_one]
 done:=by
  intro X hP hw hK hc i pins s Z H E I hf st hg
  subst hP hw hK
  obtain⟨f0,f1,f2,f3,f4,f5⟩:=hf it (by simp)
  exact wpAny_pyNext_range_end (I.ok.hd hc) st (by have:n<=i:=hg;lia) λh' eb=>⟨rfl,I.turned (t':=s.toks) (λb o hb e=>eb b o hb e) f0 f1 f3 f4 f5⟩
 self:=λ_ _ _ _ _ st h=>wpAny_pyIter_rangeiter st h
section
variable {X:Cx}{tg:Expr}
def Rq(K:PySem.W.Frag)(tl:TE):TI:=λZ H R=>tl Z H λx H1=>∃a,x=.ref a/\(∃xs,bg K H1 a xs)/\R (Nm K a) H1
theorem fF{l:Expr}{tl:TE}(hl:PE X l tl):PI X tg l (Rq X.K tl):=by
 intro pins s Z H R I h
 refine cU (hl pins s Z H _ I h) λv s1  hZ=>?_
 obtain⟨x,H1,I1,r1,q1⟩:=hZ
 obtain⟨a,e,⟨xs,hq⟩,q⟩:=q1
 subst e
 cases r1
 obtain⟨its,rv,p,hz⟩:=I1.list hq
 refine wpAny_pyIter_list p.isList ?_
 refine⟨s1.heap.objs.size,[s1.heap.objs.size],_,_,H1,rfl,I1.kept (t':=s1.toks) λb o e=>Heap.get?_push_of_some _ e,AI a _,⟨_,Heap.get?_push_size _ rfl,rfl,rfl⟩,λb hb=>?_,q⟩
 have e:b=s1.heap.objs.size:=by simpa using hb
 subst e
 exact I1.Ae (Nat.le_refl _) (I1.hok.fresh (Nat.le_refl _))
theorem EA{pins:List (Addr×Obj)}{Z:St}{H:Hp}{s:Shared}{R:It->Hp->Prop}{E:Value->Shared->Prop}{lo hi:Int}{t u v:Tok}{tk:Nat}(I:Inv X pins Z H s)(h1:-(2 ^ 62)<=lo)(h2:lo<2 ^ 62)(h3:-(2 ^ 62)<=hi)(h4:hi<2 ^ 62)
  (q:R (La lo (hi-lo).toNat) H):wpAny (model X.prog X.w) X.A (pyIter (.ref s.heap.objs.size)) (T8 X pins Z tg R) E { s with heap:=s.heap.push { cls:=.type "range",data:=.fields #[.int lo t,.int hi u,.int 1 v] },toks:=tk }:=by
 refine wpAny_pyIter_range (IsRange.new ..) (small_one h1 h2 h3 h4) ?_
 have I1:Inv X pins Z H { s with heap:=s.heap.push { cls:=.type "range",data:=.fields #[.int lo t,.int hi u,.int 1 v] },toks:=tk }:=I.kept λb o e=>Heap.get?_push_of_some _ e
 refine⟨(s.heap.push { cls:=.type "range",data:=.fields #[.int lo t,.int hi u,.int 1 v] }).objs.size,[(s.heap.push { cls:=.type "range",data:=.fields #[.int lo t,.int hi u,.int 1 v] }).objs.size],_,_,H,rfl,
  I1.kept (t':=tk) λb o e=>Heap.get?_push_of_some _ e,xM _ lo (hi-lo).toNat,?_,λb hb=>?_,q⟩
 ·have e1:lo+((0:Nat):Int)*1=lo:=by simp
  have e2:(((hi-lo).toNat:Nat):Int)-((0:Nat):Int)=Builtin.Range.rangeSize lo hi 1:=by rw[rangeSize_one];split <;> lia
  show IsRangeIter _ _ (lo+((0:Nat):Int)*1) ((((hi-lo).toNat:Nat):Int)-((0:Nat):Int)) 1
  rw[e1,e2]
  exact Heap.get?_push_size _ rfl
 ·have e:b=(s.heap.push { cls:=.type "range",data:=.fields #[.int lo t,.int hi u,.int 1 v] }).objs.size:=by simpa using hb
  subst e
  exact I1.Ae (Nat.le_refl _) (I1.hok.fresh (Nat.le_refl _))
def SR(ta:TA):TI:=λZ H R=>ta Z H λvs H1=>∃j:Int,vs=[.int j] /\ -(2 ^ 62)<=j/\j<2 ^ 62/\R (La 0 j.toNat) H1
theorem iI {a:Expr} {ta:TA} {p pos:Pos} (hg:Gl X "range") (hm:X.mg "range" = none) (ha:PA X [a] ta) (hs:autoParam (starEach [a] X.env=[(false,eval a X.env)]) L2.Y3._auto_1):PI X tg (.Call (.Name "range" p) [a] [] pos) (SR ta):=by
 intro pins s Z H R I h
 refine Call_ (kh I hg hm boot_range (PyProof.Rows.callWith_type1 (cU (ha pos pins s Z H _ I h) λus s1 hY=>?_) hs rfl))
 obtain⟨vs,H1,I1,r1,q1⟩:=hY
 obtain⟨j,e,q1,q2,q⟩:=q1
 subst e
 cases r1 with
 |cons r rr=>
  cases rr
  obtain⟨t,rfl⟩:=r
  exact call_range_1 (EA I1 (by lia) (by lia) q1 q2 (by simpa using q))
def Tn(wi:TI)(g:TG)(tb:TS):TS:=λD Z H=>wi Z H λJ H1=>∃W:Nat->Nat->St->Hp->Prop,(∃m,W 0 m Z H1)/\∀i m Z H,W i m Z H->
 (J.stop i H/\D.nx Z H)∨(J.go i H/\∃N:St->Hp->Prop,(∀Z' H',N Z' H'->∃m',m'<m/\W (i+1) m' Z' H')/\∀x H',J.Qz i H x H'->g x Z H' λZ2 H2=>tb { D with nx:=N,ct:=N,bk:=D.nx } Z2 H2)
def kJ(fp:List Addr)(h:Heap):List (Addr×Obj):=fp.filterMap λb=>(h.get? b).map λo=>(b,o)
theorem gK{fp:List Addr}{h:Heap}{b:Addr}{o:Obj}(hb:b∈fp)(e:h.get? b=some o):(b,o)∈kJ fp h:=List.mem_filterMap.mpr ⟨b,hb,by rw[e];rfl⟩
theorem nU{fp:List Addr}{h:Heap}{p:Addr×Obj}(hp:p∈kJ fp h):p.1∈fp/\h.get? p.1=some p.2:=by
 obtain⟨b,hb,e⟩:=List.mem_filterMap.mp hp
 cases q:h.get? b with
 |none=>rw[q] at e;cases e
 |some o=>
  rw[q] at e
  have e':(b,o)=p:=Option.some.inj e
  subst e'
  exact⟨hb,q⟩
theorem Inv.pinned{pins:List (Addr×Obj)}{Z:St}{H:Hp}{s:Shared}{fp:List Addr}(I:Inv X pins Z H s)(hf:∀b∈fp,rN X pins H b)(ho:∀b∈fp,∃o,s.heap.get? b=some o/\∀v,o.data≠.cell v):Inv X (pins++kJ fp s.heap) Z H s :=
 I.gR λp hp=>(List.mem_append.mp hp).elim (λz=>I.pin p (List.mem_append_right _ z)) λz=>by
  obtain⟨hb,e⟩:=nU z
  obtain⟨f0,f1,f2,_⟩:=hf p.1 hb
  obtain⟨o,e',d⟩:=ho p.1 hb
  rw[e] at e';cases e'
  exact⟨e,f0,f1,f2,d⟩
theorem Inv.qT{pins pl:List (Addr×Obj)}{Z:St}{H:Hp}{s:Shared}(I:Inv X (pins++pl) Z H s):Inv X pins Z H s:=I.gR λp hp=>I.pin p (List.mem_append_right _ (List.mem_append_left _ hp))
theorem Qn{iter:Expr}{body:List Stmt}{wi:TI}{g:TG}{tb:TS}{pos:Pos}(hp:PassesOwn (model X.prog X.w) X.A X.env X.xe)(hc:X.calm=true)(hi:PI X tg iter wi)(hg:PG X tg g)(hb:xX X body tb)
  (hs:autoParam (∀x,foldedSetIterable iter X.env x=pure x) L2.Y2._auto_1):PS X (.For tg iter body [] pos) (Tn wi g tb):=by
 intro pins s Z H D I h
 refine wpAny_For (cU (hi pins s Z H _ I h) λv s1 h1=>cU h1 λitv s2 h2=>?_) hs
 obtain⟨it,fp,tn,J,H2,e,I2,T,st2,f2,W,⟨m0,w0⟩,turn⟩:=h2
 subst e
 have stat:∀{H':Hp},(∀b∈fp,H' b=none)->∀b∈fp,rN X pins H' b:=λhn b hb=>⟨hn b hb,(f2 b hb).2⟩
 refine codeAny_forLoop_any (λn s'=>∃i Z' H',Inv X pins Z' H' s'/\tn i s'.heap/\(∀b∈fp,H' b=none)/\W i n Z' H') ?_ m0 ⟨0,Z,H2,I2,st2,λb hb=>(f2 b hb).1,w0⟩
 rintro n s3 ⟨i,Z3,H3,I3,st3,fr3,w3⟩
 rcases turn i n Z3 H3 w3 with ⟨stop,qn⟩|⟨go,N,hN,step⟩
 ·refine wpAny_passesOwn hp (cU (T.done X rfl rfl rfl hc i pins s3 Z3 H3 X.xe I3 (stat fr3) st3 stop) λr s4 hY=>?_)
  obtain⟨hr,I4⟩:=hY
  subst hr
  exact wpAny_execs_nil ⟨Z3,H3,I4,qn⟩
 ·refine wpAny_passesOwn hp (cU (T.item X rfl rfl rfl hc i pins s3 Z3 H3 X.xe I3 (stat fr3) st3 go) λr s4 hY=>?_)
  obtain⟨u,hr,h4⟩:=hY
  subst hr
  refine wpAny_passesOwn hp (cU h4 λ_ s5  hZ=>?_)
  obtain⟨x,H5,I5,r5,y5,st5,fr5⟩:=hZ
  have I5':=I5.pinned (stat fr5) (T.obj _ _ st5)
  refine wpAny_passesOwn hp (cU (hg _ s5 Z3 H5 x u _ I5' r5 (step x H5 y5)) λ_ s6  hZ=>?_)
  obtain⟨Z6,H6,I6,q6⟩:=hZ
  refine wpAny_passesOwn hp (cU (hb _ s6 Z6 H6 _ I6 q6) λf s7 q7=>?_)
  have again:∀{Z7:St} {H7:Hp},Inv X (pins++kJ fp s5.heap) Z7 H7 s7->N Z7 H7->∃m,m<n/\∃i Z' H',Inv X pins Z' H' s7/\tn i s7.heap/\(∀b∈fp,H' b=none)/\W i m Z' H':=λ{Z7 H7} I7 n7=>by
   obtain⟨m',hm,w7⟩:=hN Z7 H7 n7
   refine⟨m',hm,i+1,Z7,H7,I7.qT,T.keep _ _ _ st5 λb hb o e=>(I7.pin (b,o) (List.mem_append_right _ (List.mem_append_right _ (gK hb e)))).1,λb hb=>?_,w7⟩
   obtain⟨o,e,d⟩:=T.obj _ _ st5 b hb
   exact(I7.pin (b,o) (List.mem_append_right _ (List.mem_append_right _ (gK hb e)))).2.1
  cases f with
  |next=>obtain⟨Z7,H7,I7,n7⟩:=q7;exact again I7 n7
  |cont=>obtain⟨Z7,H7,I7,n7⟩:=q7;exact again I7 n7
  |brk=>obtain⟨Z7,H7,I7,q7⟩:=q7;exact⟨Z7,H7,I7.qT,q7⟩
  |ret v=>obtain⟨x7,Z7,H7,I7,r7,q7⟩:=q7;exact⟨x7,Z7,H7,I7.qT,r7,q7⟩
end
theorem D0{K:PySem.W.Frag}{a:Addr}{xs:List V}{g:TG}{tb:TS}{D:Ends}{Z:St}{H:Hp}(Pv:Nat->St->Hp->Prop)(h0:Pv 0 Z H)(hl:∀i Z H,i<=xs.length->Pv i Z H->bg K H a xs)
  (hs:∀i x Z H,xs[i]?=some x->Pv i Z H->g x Z H λZ2 H2=>tb { D with nx:=Pv (i+1),ct:=Pv (i+1),bk:=D.nx } Z2 H2) (hd:∀Z H,Pv xs.length Z H->D.nx Z H) :
  ∃W:Nat->Nat->St->Hp->Prop,(∃m,W 0 m Z H)/\∀i m Z H,W i m Z H->
   ((Nm K a).stop i H/\D.nx Z H)∨((Nm K a).go i H/\∃N:St->Hp->Prop,(∀Z' H',N Z' H'->∃m',m'<m/\W (i+1) m' Z' H')/\∀x H',(Nm K a).Qz i H x H'->g x Z H' λZ2 H2=>tb { D with nx:=N,ct:=N,bk:=D.nx } Z2 H2):=by
 refine⟨λi m Z H=>m=xs.length-i/\i<=xs.length/\Pv i Z H,⟨xs.length,by simp,Nat.zero_le _,h0⟩,?_⟩
 rintro i m Z H ⟨rfl,hi,p⟩
 have q:=hl i Z H hi p
 by_cases hlt:i<xs.length
 ·refine .inr ⟨⟨xs,xs[i],q,by simp[hlt]⟩,Pv (i+1),λZ' H' p'=>⟨xs.length-(i+1),by lia,rfl,hlt,p'⟩,λx H' y=>?_⟩
  obtain⟨e,y⟩:=y
  subst e
  exact hs i x Z _ (y xs q) p
 ·have e:i=xs.length:=by lia
  subst e
  exact .inl ⟨⟨xs,q,Nat.le_refl _⟩,hd Z H p⟩
theorem Af{lo:Int}{n:Nat}{g:TG}{tb:TS}{D:Ends}{Z:St}{H:Hp}(Pv:Nat->St->Hp->Prop)(h0:Pv 0 Z H)
  (hs:∀i Z H,i<n->Pv i Z H->g (.int (lo+i)) Z H λZ2 H2=>tb { D with nx:=Pv (i+1),ct:=Pv (i+1),bk:=D.nx } Z2 H2) (hd:∀Z H,Pv n Z H->D.nx Z H) :
  ∃W:Nat->Nat->St->Hp->Prop,(∃m,W 0 m Z H)/\∀i m Z H,W i m Z H->
   ((La lo n).stop i H/\D.nx Z H)∨((La lo n).go i H/\∃N:St->Hp->Prop,(∀Z' H',N Z' H'->∃m',m'<m/\W (i+1) m' Z' H')/\∀x H',(La lo n).Qz i H x H'->g x Z H' λZ2 H2=>tb { D with nx:=N,ct:=N,bk:=D.nx } Z2 H2):=by
 refine⟨λi m Z H=>m=n-i/\i<=n/\Pv i Z H,⟨n,by simp,Nat.zero_le _,h0⟩,?_⟩
 rintro i m Z H ⟨rfl,hi,p⟩
 by_cases hlt:i<n
 ·refine .inr ⟨hlt,Pv (i+1),λZ' H' p'=>⟨n-(i+1),by lia,rfl,hlt,p'⟩,λx H' y=>?_⟩
  obtain⟨e,y⟩:=y
  subst e y
  exact hs i Z _ hlt p
 ·have e:i=n:=by lia
  subst e
  exact .inl ⟨Nat.le_refl _,hd Z H p⟩
abbrev R2:=V->V->Hp->VK->Prop
def lA(X:Cx)(f:Value->Value->Sem Value)(r:R2):Prop :=
 ∀(pins:List (Addr×Obj)) (s:Shared) (Z:St) (H:Hp) (x y:V) (v u:Value) (Q:VK),Inv X pins Z H s->RelV x v->RelV y u->r x y H Q->
  wpAny (model X.prog X.w) X.A (f v u) (EP X pins Z Q) X.xe s
def T3(X:Cx)(f:Value->Sem Value)(r:V->Hp->VK->Prop):Prop :=
 ∀(pins:List (Addr×Obj)) (s:Shared) (Z:St) (H:Hp) (x:V) (v:Value) (Q:VK),Inv X pins Z H s->RelV x v->r x H Q->
  wpAny (model X.prog X.w) X.A (f v) (EP X pins Z Q) X.xe s
def ic(X:Cx)(f:Value)(r:List V->Hp->VK->Prop):Prop :=
 ∀(pins:List (Addr×Obj)) (s:Shared) (Z:St) (H:Hp) (xs:List V) (us:List Value) (Q:VK),Inv X pins Z H s->Vals xs us->r xs H Q->
  wpAny (model X.prog X.w) X.A (call f us) (EP X pins Z Q) X.xe s
def Ud(X:Cx)(r:V->Hp->(Bool->Hp->Prop)->Prop):Prop :=
 ∀(pins:List (Addr×Obj)) (s:Shared) (Z:St) (H:Hp) (x:V) (v:Value) (Q:Bool->Hp->Prop),Inv X pins Z H s->RelV x v->r x H Q->
  wpAny (model X.prog X.w) X.A (truthy v) (TP X pins Z Q) X.xe s
def QA(r:R2)(ta tb:TE):TE:=λZ H Q=>ta Z H λx H1=>tb Z H1 λy H2=>r x y H2 Q
def tUn(r:V->Hp->VK->Prop)(ta:TE):TE:=λZ H Q=>ta Z H λx H1=>r x H1 Q
def rI(C:Int->Int->Prop)(g:Int->Int->V):R2:=λx y H Q=>∃i j,x=.int i/\y=.int j/\C i j/\Q (g i j) H
def Jd(g:Int->Int->V):R2:=λx y H Q=>∃i j,x=.int i/\y=.int j/\Q (g i j) H
def rU(g:Int->V):V->Hp->VK->Prop:=λx H Q=>∃i,x=.int i/\Q (g i) H
section
variable {X:Cx}{a b c:Expr}{ta tb tc:TE}{pos:Pos}
theorem ME(ha:PE X a ta)(hb:PE X b tb){pins:List (Addr×Obj)}{s:Shared}{Z:St}{H:Hp}{R:V->V->Hp->Prop}(I:Inv X pins Z H s)
  (h:ta Z H λx H1=>tb Z H1 λy H2=>R x y H2) {Q:Value->Shared->Prop} {f:Value->Value->Sem Value}
  (hf:∀v u s2 x y H2,Inv X pins Z H2 s2->RelV x v->RelV y u->R x y H2->wpAny (model X.prog X.w) X.A (f v u) Q X.xe s2) :
  wpAny (model X.prog X.w) X.A (eval a X.env) (λv s₁=>wpAny (model X.prog X.w) X.A (eval b X.env) (λu s₂=>wpAny (model X.prog X.w) X.A (f v u) Q X.xe s₂) X.xe s₁) X.xe s:=by
 refine cU (ha pins s Z H _ I h) λv s1  hZ=>?_
 obtain⟨x,H1,I1,r1,q1⟩:=hZ
 refine cU (hb pins s1 Z H1 _ I1 q1) λu s2  hZ=>?_
 obtain⟨y,H2,I2,r2,q2⟩:=hZ
 exact hf v u s2 x y H2 I2 r1 r2 q2
theorem aM{op:Operator}{r:R2}(ho:lA X (binaryOp op) r)(ha:PE X a ta)(hb:PE X b tb):PE X (.BinOp a op b pos) (QA r ta tb):=by
 intro pins s Z H Q I h
 exact wpAny_BinOp (ME ha hb I h λv u s2 x y H2 I2 rx ry q=>ho pins s2 Z H2 x y v u Q I2 rx ry q)
theorem lM{op:UnaryOp}{r:V->Hp->VK->Prop}(ho:T3 X (unaryOp op) r)(ha:PE X a ta):PE X (.UnaryOp op a pos) (tUn r ta):=by
 intro pins s Z H Q I h
 exact UnaryOp_ (cU (ha pins s Z H _ I h) λv s1 ⟨x,H1,I1,r1,q1⟩=>ho pins s1 Z H1 x v Q I1 r1 q1)
theorem S9{f:Value->Value->Sem Value}{C:Int->Int->Prop}{g:Int->Int->Int}
  (rule:∀(i j:Int) (t u:Tok) (s:Shared) (Q:Value->Shared->Prop) (E:Value->Shared->Prop),C i j->Q (.int (g i j) s.toks) { s with toks:=s.toks+1 }->wpAny (model X.prog X.w) X.A (f (.int i t) (.int j u)) Q E s) :
  lA X f (rI C λi j=>.int (g i j)):=by
 intro pins s Z H x y v u Q I rx ry h
 obtain⟨i,j,rfl,rfl,hc,q⟩:=h
 obtain⟨t,rfl⟩:=rx
 obtain⟨t',rfl⟩:=ry
 exact rule i j t t' s _ _ hc ⟨.int (g i j),H,I.tok _,⟨_,rfl⟩,q⟩
theorem SD{f:Value->Value->Sem Value}{g:Int->Int->Int}
  (rule:∀(i j:Int) (t u:Tok) (s:Shared) (Q:Value->Shared->Prop) (E:Value->Shared->Prop),Q (.int (g i j) s.toks) { s with toks:=s.toks+1 }->wpAny (model X.prog X.w) X.A (f (.int i t) (.int j u)) Q E s) :
  lA X f (Jd λi j=>.int (g i j)):=by
 intro pins s Z H x y v u Q I rx ry h
 obtain⟨i,j,rfl,rfl,q⟩:=h
 obtain⟨t,rfl⟩:=rx
 obtain⟨t',rfl⟩:=ry
 exact rule i j t t' s _ _ ⟨.int (g i j),H,I.tok _,⟨_,rfl⟩,q⟩
theorem MK{f:Value->Value->Sem Value}{g:Int->Int->Bool}
  (rule:∀(i j:Int) (t u:Tok) (s:Shared) (Q:Value->Shared->Prop) (E:Value->Shared->Prop),Q (.bool (g i j)) s->wpAny (model X.prog X.w) X.A (f (.int i t) (.int j u)) Q E s) :
  lA X f (Jd λi j=>.bl (g i j)):=by
 intro pins s Z H x y v u Q I rx ry h
 obtain⟨i,j,rfl,rfl,q⟩:=h
 obtain⟨t,rfl⟩:=rx
 obtain⟨t',rfl⟩:=ry
 exact rule i j t t' s _ _ ⟨.bl (g i j),H,I,rfl,q⟩
def Tr(i j:Int):Prop:=0<j/\j<1073741824
def O2(i j:Int):Prop:=(-(2 ^ 64)<i/\i<2 ^ 64)∨(-(2 ^ 64)<j/\j<2 ^ 64)
theorem O2.ok{i j:Int}(h:O2 i j):IntMulOk i j:=by
 rcases h with ⟨h1,h2⟩|⟨h1,h2⟩
 ·exact .of_left (intBits_le_64 h1 h2)
 ·exact .of_right (intBits_le_64 h1 h2)
theorem xS(k:Nat):(0:Int)<=2 ^ k:=by
 rw[two_pow_cast]
 exact Int.natCast_nonneg _
theorem bO:lA X (binaryOp .Add) (Jd λi j=>.int (i+j)):=SD λ_ _ _ _ _ _ _ q=>add_int q
theorem eu:lA X (binaryOp .Sub) (Jd λi j=>.int (i-j)):=SD λ_ _ _ _ _ _ _ q=>sub_int q
theorem kr:lA X (binaryOp .Mult) (rI O2 λi j=>.int (i*j)):=S9 λ_ _ _ _ _ _ _ hc q=>mul_int q hc.ok
theorem Hj:lA X (binaryOp .FloorDiv) (rI Tr λi j=>.int (i / j)):=S9 λi j _ _ _ _ _ hc q=>by
 have h1:(0:Int)<j:=hc.1
 have h2:j<1073741824:=hc.2
 exact floordiv_int (by lia) (by rw[Int.fdiv_eq_ediv_of_nonneg i (by lia)];exact q) (.inl (PyProof.noPylong_small (by lia)))
theorem kD:lA X (binaryOp .Mod) (rI (λ_ j=>0<j) λi j=>.int (i % j)):=S9 λi j _ _ _ _ _ hc q=>by
 have h1:(0:Int)<j:=hc
 exact mod_int' (by lia) (by rw[Int.fmod_eq_emod_of_nonneg i (by lia)];exact q)
theorem N5:lA X (binaryOp .RShift) (rI (λ_ j=>0<=j) λi j=>.int (i / 2 ^ j.toNat)):=S9 λi j _ _ _ _ _ hc q=>
 rshift_int hc (by rw[Int.fdiv_eq_ediv_of_nonneg i (xS _)];exact q)
theorem unI{f:Value->Sem Value}{g:Int->Int}
  (rule:∀(i:Int) (t:Tok) (s:Shared) (Q:Value->Shared->Prop) (E:Value->Shared->Prop),Q (.int (g i) s.toks) { s with toks:=s.toks+1 }->wpAny (model X.prog X.w) X.A (f (.int i t)) Q E s) :
  T3 X f (rU λi=>.int (g i)):=by
 intro pins s Z H x v Q I rx h
 obtain⟨i,rfl,q⟩:=h
 obtain⟨t,rfl⟩:=rx
 exact rule i t s _ _ ⟨.int (g i),H,I.tok _,⟨_,rfl⟩,q⟩
theorem jd:T3 X (unaryOp .USub) (rU λi=>.int (-i)):=unI λ_ _ _ _ _ q=>neg_int q
end
def Q5:V->V->Bool
 |.cW,.cW=>true | .cW,.int _=>true | .int _,.cW=>true | .cW,.bl _=>true | .bl _,.cW=>true | .cW,.str _=>true | .str _,.cW=>true
 |.int _,.int _=>true | .bl _,.bl _=>true | .str _,.str _=>true | .byt _,.byt _=>true
 |.int _,.str _=>true | .str _,.int _=>true | .bl _,.str _=>true | .str _,.bl _=>true
 |_,_=>false
def rEq:R2:=λx y H Q=>Q5 x y=true/\Q (.bl (decide (x=y))) H
def rNe:R2:=λx y H Q=>Q5 x y=true/\Q (.bl (!decide (x=y))) H
theorem zk{i j:Int}:decide (V.int i=V.int j)=(i == j):=by
 rw[Bool.eq_iff_iff]
 simp
theorem BD{i j:Bool}:decide (V.bl i=V.bl j)=(i == j):=by
 rw[Bool.eq_iff_iff]
 simp
theorem zm{i j:Str}:decide (V.str i=V.str j)=(i == j):=by
 rw[Bool.eq_iff_iff]
 simp
theorem zN{i j:Array UInt8}:decide (V.byt i=V.byt j)=(i.toList == j.toList):=by
 rw[Bool.eq_iff_iff]
 cases i
 cases j
 simp
section
variable {X:Cx}{a b c:Expr}{ta tb tc:TE}{pos:Pos}
theorem cg{pins:List (Addr×Obj)}{Z:St}{H:Hp}{s:Shared}{Q:VK}{k k':Bool}(I:Inv X pins Z H s)(q:Q (.bl k) H)(e:k=k'):EP X pins Z Q (.bool k') s:=by
 subst e
 exact⟨.bl k,H,I,rfl,q⟩
theorem ez:lA X (compareOp .Eq) rEq:=by
 intro pins s Z H x y v u Q I rx ry h
 obtain⟨hs,q⟩:=h
 cases x with
 |cW=>
  cases rx
  cases y with
  |cW=>cases ry;exact PySem.EqNone.eq_none_none (cg I q (by simp))
  |bl j=>cases ry;exact PySem.EqNone.eq_none_bool (cg I q (by simp))
  |int j=>obtain⟨t',rfl⟩:=ry;exact PySem.EqNone.eq_none_int (cg I q (by simp))
  |str j=>obtain⟨t',rfl⟩:=ry;exact PySem.EqNone.eq_none_str (cg I q (by simp))
  |_=>exact absurd (show false=true from hs) Bool.false_ne_true
 |bl i=>
  cases rx
  cases y with
  |cW=>cases ry;exact PySem.EqNone.eq_bool_none (cg I q (by simp))
  |bl j=>cases ry;exact eq_bool (cg I q BD)
  |str j=>obtain⟨t',rfl⟩:=ry;exact PySem.EqMixed.eq_bool_str (cg I q (by simp))
  |_=>exact absurd (show false=true from hs) Bool.false_ne_true
 |int i=>
  obtain⟨t,rfl⟩:=rx
  cases y with
  |cW=>cases ry;exact PySem.EqNone.eq_int_none (cg I q (by simp))
  |int j=>obtain⟨t',rfl⟩:=ry;exact eq_int (cg I q zk)
  |str j=>obtain⟨t',rfl⟩:=ry;exact PySem.EqMixed.eq_int_str (cg I q (by simp))
  |_=>exact absurd (show false=true from hs) Bool.false_ne_true
 |str i=>
  obtain⟨t,rfl⟩:=rx
  cases y with
  |cW=>cases ry;exact PySem.EqNone.eq_str_none (cg I q (by simp))
  |bl j=>cases ry;exact PySem.EqMixed.eq_str_bool (cg I q (by simp))
  |int j=>obtain⟨t',rfl⟩:=ry;exact PySem.EqMixed.eq_str_int (cg I q (by simp))
  |str j=>obtain⟨t',rfl⟩:=ry;exact eq_str (cg I q zm)
  |_=>exact absurd (show false=true from hs) Bool.false_ne_true
 |byt i=>
  obtain⟨t,rfl⟩:=rx
  cases y with
  |byt j=>obtain⟨t',rfl⟩:=ry;exact PySem.W.eq_bytes (cg I q zN)
  |_=>exact absurd (show false=true from hs) Bool.false_ne_true
 |_=>cases y <;> exact absurd (show false=true from hs) Bool.false_ne_true
theorem oG:lA X (compareOp .NotEq) rNe:=by
 intro pins s Z H x y v u Q I rx ry h
 obtain⟨hs,q⟩:=h
 cases x with
 |cW=>
  cases rx
  cases y with
  |cW=>cases ry;exact PySem.EqNone.ne_none_none (cg I q (by simp))
  |bl j=>cases ry;exact PySem.EqNone.ne_none_bool (cg I q (by simp))
  |int j=>obtain⟨t',rfl⟩:=ry;exact PySem.EqNone.ne_none_int (cg I q (by simp))
  |str j=>obtain⟨t',rfl⟩:=ry;exact PySem.EqNone.ne_none_str (cg I q (by simp))
  |_=>exact absurd (show false=true from hs) Bool.false_ne_true
 |bl i=>
  cases rx
  cases y with
  |cW=>cases ry;exact PySem.EqNone.ne_bool_none (cg I q (by simp))
  |bl j=>cases ry;exact ne_bool (cg I q (congrArg not BD))
  |str j=>obtain⟨t',rfl⟩:=ry;exact PySem.EqMixed.ne_bool_str (cg I q (by simp))
  |_=>exact absurd (show false=true from hs) Bool.false_ne_true
 |int i=>
  obtain⟨t,rfl⟩:=rx
  cases y with
  |cW=>cases ry;exact PySem.EqNone.ne_int_none (cg I q (by simp))
  |int j=>obtain⟨t',rfl⟩:=ry;exact ne_int (cg I q (congrArg not zk))
  |str j=>obtain⟨t',rfl⟩:=ry;exact PySem.EqMixed.ne_int_str (cg I q (by simp))
  |_=>exact absurd (show false=true from hs) Bool.false_ne_true
 |str i=>
  obtain⟨t,rfl⟩:=rx
  cases y with
  |cW=>cases ry;exact PySem.EqNone.ne_str_none (cg I q (by simp))
  |bl j=>cases ry;exact PySem.EqMixed.ne_str_bool (cg I q (by simp))
  |int j=>obtain⟨t',rfl⟩:=ry;exact PySem.EqMixed.ne_str_int (cg I q (by simp))
  |str j=>obtain⟨t',rfl⟩:=ry;exact ne_str (cg I q (congrArg not zm))
  |_=>exact absurd (show false=true from hs) Bool.false_ne_true
 |byt i=>
  obtain⟨t,rfl⟩:=rx
  cases y with
  |byt j=>obtain⟨t',rfl⟩:=ry;exact PySem.W.ne_bytes (cg I q (congrArg not zN))
  |_=>exact absurd (show false=true from hs) Bool.false_ne_true
 |_=>cases y <;> exact absurd (show false=true from hs) Bool.false_ne_true
theorem ie:lA X (compareOp .Lt) (Jd λi j=>.bl (decide (i<j))):=MK λ_ _ _ _ _ _ _ q=>lt_int q
theorem gZ:lA X (compareOp .Gt) (Jd λi j=>.bl (decide (j<i))):=MK λ_ _ _ _ _ _ _ q=>gt_int q
theorem Jo:lA X (compareOp .GtE) (Jd λi j=>.bl (decide (j<=i))):=MK λ_ _ _ _ _ _ _ q=>ge_int q
theorem nT:lA X (compareOp .In) (λx y H Q=>∃i j,x=.str i/\y=.str j/\Q (.bl (!(Builtin.Str.occurrences j i 0 j.length 1).isEmpty)) H):=by
 intro pins s Z H x y v u Q I rx ry h
 obtain⟨i,j,rfl,rfl,q⟩:=h
 obtain⟨t,rfl⟩:=rx
 obtain⟨t',rfl⟩:=ry
 exact in_str (cg I q rfl)
theorem uG:lA X (compareOp .Is) (λx y H Q=>y=.cW/\Q (.bl (decide (x=.cW))) H):=by
 intro pins s Z H x y v u Q I rx ry h
 obtain⟨rfl,q⟩:=h
 cases ry
 refine is_none_gen (cg I q ?_)
 cases x <;> first
  | (cases rx;rfl)
  | (obtain⟨t,rfl⟩:=rx;rfl)
theorem jC:lA X (compareOp .IsNot) (λx y H Q=>y=.cW/\Q (.bl (!decide (x=.cW))) H):=by
 intro pins s Z H x y v u Q I rx ry h
 obtain⟨rfl,q⟩:=h
 cases ry
 refine isnot_none_gen (cg I q ?_)
 cases x <;> first
  | (cases rx;rfl)
  | (obtain⟨t,rfl⟩:=rx;rfl)
theorem uP:lA X (compareOp .NotIn) (λx y H Q=>∃i j,x=.str i/\y=.str j/\Q (.bl (!(!(Builtin.Str.occurrences j i 0 j.length 1).isEmpty))) H):=by
 intro pins s Z H x y v u Q I rx ry h
 obtain⟨i,j,rfl,rfl,q⟩:=h
 obtain⟨t,rfl⟩:=rx
 obtain⟨t',rfl⟩:=ry
 exact notIn_str (cg I q rfl)
theorem aI(b:Expr){op:CmpOp}(h:autoParam (op≠.In) L2.Y1._auto_1)(h2:autoParam (op≠.NotIn) L2.Y1._auto_1):behindInMarks op b=false:=by
 have e1:(op == CmpOp.In)=false:=by cases op <;> first | rfl | exact absurd rfl h
 have e2:(op == CmpOp.NotIn)=false:=by cases op <;> first | rfl | exact absurd rfl h2
 cases b <;> simp[behindInMarks,e1,e2]
theorem fj{op:CmpOp}{r:R2}(ho:lA X (compareOp op) r)(ha:PE X a ta)(hb:PE X b tb)(hm:behindInMarks op b=false):PE X (.Compare a [op] [b] pos) (QA r ta tb):=by
 intro pins s Z H Q I h
 exact wpAny_Compare1 (ME ha hb I h λv u s2 x y H2 I2 rx ry q=>ho pins s2 Z H2 x y v u Q I2 rx ry q) hm
def JY(t:TE):TT:=λZ H Q=>t Z H λx H'=>∃k,x=.bl k/\Q k H'
theorem aE{op:CmpOp}{r:R2}(ho:lA X (compareOp op) r)(ha:PE X a ta)(hb:PE X b tb)(hm:behindInMarks op b=false):PT X (.Compare a [op] [b] pos) (JY (QA r ta tb)):=by
 intro pins s Z H Q I h
 refine wpAny_isTrue_Compare1 (cU (ha pins s Z H _ I h) λv s1 ⟨x,H1,I1,r1,q1⟩=>cU (hb pins s1 Z H1 _ I1 q1) λu s2 ⟨y,H2,I2,r2,q2⟩=>
  cU (ho pins s2 Z H2 x y v u _ I2 r1 r2 q2) λc s3 ⟨z,H3,I3,r3,k,e,q3⟩=>?_) hm
 subst e
 cases r3
 exact wpAny_truthy_bool ⟨H3,I3,q3⟩
def Hz(K:PySem.W.Frag)(x:V)(H:Hp)(k:Bool):Prop :=
 match x with
 |.cW=>k=false
 |.bl b=>k=b
 |.int i=>k=(i != 0)
 |.str y=>y.length<=sizeLine/\k=((y.length:Int) != 0)
 |.byt y=>y.size<=sizeLine/\k=((y.size:Int) != 0)
 |.ref p=>(∃xs,bg K H p xs/\k = !xs.isEmpty)∨(∃xs,dO K H p xs/\k = !xs.isEmpty)∨∃kvs,H p=some (.dK kvs)/\k = !kvs.isEmpty
 |_=>False
theorem yH{κ:Type}{kvs:List (κ×V)}{vs:List (κ×Value)}(r:KV kvs vs):(!vs.isEmpty) = !kvs.isEmpty:=by
 cases r <;> rfl
theorem qQ{xs:List V}{its:List Value}(r:Vals xs its):(!its.toArray.isEmpty) = !xs.isEmpty:=by
 cases r <;> simp
theorem lS:(sizeLine:Nat)<2 ^ 63:=by rw[sizeLine_eq];decide
theorem CQ:Ud X (λx H Q=>∃k,Hz X.K x H k/\Q k H):=by
 intro pins s Z H x v Q I rx h
 obtain⟨k,e,q⟩:=h
 have hl:=lS
 have hs:sizeLine=16777216:=sizeLine_eq
 cases x with
 |cW=>
  cases rx
  have e':k=false:=e
  subst e'
  exact truthy_none ⟨H,I,q⟩
 |bl b=>
  cases rx
  have e':k=b:=e
  subst e'
  exact wpAny_truthy_bool ⟨H,I,q⟩
 |int i=>
  obtain⟨t,rfl⟩:=rx
  have e':k=(i != 0):=e
  subst e'
  exact PySem.P.truthy_int ⟨H,I,q⟩
 |str y=>
  obtain⟨t,rfl⟩:=rx
  obtain⟨hy,e'⟩:y.length<=sizeLine/\k=((y.length:Int) != 0):=e
  subst e'
  exact PySem.P.truthy_str (by lia) ⟨H,I.tok _,q⟩
 |byt y=>
  obtain⟨t,rfl⟩:=rx
  obtain⟨hy,e'⟩:y.size<=sizeLine/\k=((y.size:Int) != 0):=e
  subst e'
  exact PySem.W.truthy_bytes (by lia) ⟨H,I.tok _,q⟩
 |ref p=>
  cases rx
  have e':(∃xs,bg X.K H p xs/\k = !xs.isEmpty)∨(∃xs,dO X.K H p xs/\k = !xs.isEmpty)∨∃kvs,H p=some (.dK kvs)/\k = !kvs.isEmpty:=e
  rcases e' with ⟨xs,hx,e'⟩|⟨xs,hx,e'⟩|⟨kvs,hx,e'⟩
  ·subst e'
   obtain⟨its,r,pl,hz⟩:=I.list hx
   have hlen:=r.length
   exact wpAny_truthy_list pl.isList (by simp only[List.size_toArray];lia) ⟨H,I.tok _,by rw[qQ r];exact q⟩
  ·subst e'
   obtain⟨its,r,pl,hz⟩:=I.tuple hx
   have hlen:=r.length
   exact truthy_tuple pl (by simp only[List.size_toArray];lia) ⟨H,I.tok _,by rw[qQ r];exact q⟩
  ·subst e'
   obtain⟨hz,hS,vs,r,m⟩:kvs.length<=sizeLine/\(p == sysModules)=false/\∃vs,KV kvs vs/\s.heap.DictOf (b7 X.prog X.w) p vs:=I.hok p _ hx
   have hlen:kvs.length=vs.length:=Paired.length r
   exact wpAny_truthy_dict hS m (by lia) ⟨H,I.tok _,by rw[yH r];exact q⟩
 |_=>exact(show False from e).elim
theorem jj(ha:PE X a ta)(he:∀whole,isTrue a X.env whole=(do let v ← whole;standAt a.pos;holding [v] (truthy v))) :
  PT X a (λZ H Q=>ta Z H λx H'=>∃k,Hz X.K x H' k/\Q k H'):=by
 intro pins s Z H Q I h
 exact isTrue_plain (cU (ha pins s Z H _ I h) λv s1 ⟨x,H1,I1,r1,q1⟩=>CQ pins s1 Z H1 x v Q I1 r1 q1) (he _)
theorem eU:lA X (binaryOp .Add) (λx y H Q=>∃i j,x=.str i/\y=.str j/\i.length+j.length<=sizeLine/\Q (.str (i++j)) H):=by
 intro pins s Z H x y v u Q I rx ry h
 obtain⟨i,j,rfl,rfl,hz,q⟩:=h
 obtain⟨t,rfl⟩:=rx
 obtain⟨t',rfl⟩:=ry
 exact add_str (λt' tk=>⟨.str (i++j),H,I.tok _,⟨_,rfl⟩,q⟩) hz
theorem vals1{x:V}{us:List Value}(r:Vals [x] us):∃u,us=[u]/\RelV x u:=by
 cases r with
 |cons r1 r2=>cases r2;exact⟨_,rfl,r1⟩
theorem vals2{x y:V}{us:List Value}(r:Vals [x,y] us):∃u w',us=[u,w']/\RelV x u/\RelV y w':=by
 cases r with
 |cons r1 r2=>
  cases r2 with
  |cons r3 r4=>cases r4;exact⟨_,_,rfl,r1,r3⟩
theorem Ar (hc:X.calm=true):ic X (.builtin "max") (λxs H Q=>∃i j,xs=[.int i,.int j]/\Q (.int (if j>i then j else i)) H):=by
 intro pins s Z H xs us Q I r h
 obtain⟨i,j,rfl,q⟩:=h
 obtain⟨u,w',rfl,⟨t,rfl⟩,⟨t',rfl⟩⟩:=vals2 r
 refine max_two_ints (I.ok.hd hc) λh' tk k=>⟨_,H,I.kept k,?_,q⟩
 by_cases hj:j>i
 ·rw[if_pos hj,if_pos hj];exact⟨_,rfl⟩
 ·rw[if_neg hj,if_neg hj];exact⟨_,rfl⟩
theorem kU:ic X (.type "int") (λxs H Q=>(∃i,xs=[.int i]/\Q (.int i) H)∨∃k,xs=[.bl k]/\Q (.int (if k then 1 else 0)) H):=by
 intro pins s Z H xs us Q I r h
 rcases h with ⟨i,rfl,q⟩|⟨k,rfl,q⟩
 ·obtain⟨u,rfl,t,rfl⟩:=vals1 r
  exact call_int_int ⟨.int i,H,I,⟨_,rfl⟩,q⟩
 ·obtain⟨u,rfl,r1⟩:=vals1 r
  cases r1
  exact call_int_bool ⟨.int (if k then 1 else 0),H,I.tok _,⟨_,rfl⟩,q⟩
end
structure xC(h:Heap)(x dx C:Addr)(mA:Str->Option Value):Prop where
 obj:h.get? x=some (PySem.W.instObj C dx)
 ns:h.Ns1 dx mA
 ne:dx≠x
theorem Ax{h:Heap}{dx:Addr}{mA:Str->Option Value}(n:h.Ns1 dx mA):∃od,h.get? dx=some od/\∀name,PySem.W.lookIn name od=some (mA name):=by
 obtain⟨o,es,ep,ho,hd,hk,_,hm⟩:=n
 refine⟨o,ho,λname=>?_⟩
 have e:=hm name
 unfold nsFind findBy at e
 rw[← Array.find?_toList] at e
 unfold PySem.W.lookIn
 rw[hd]
 dsimp only
 split
 ·rename_i y q
  rw[q] at e
  exact congrArg some e
 ·rename_i q
  rw[q] at e
  have a:es.toList.any (·.refKey)=false:=by
   rw[List.any_eq_false]
   intro y hy
   obtain⟨z,t,hkey⟩:=hk y (Array.mem_toList_iff.mp hy)
   simp[DictEntry.refKey,hkey]
  have a':¬ es.toList.any (·.refKey)=true:=by rw[a];exact Bool.false_ne_true
  rw[if_neg a']
  exact congrArg some e
theorem xC.look{h:Heap}{x dx C:Addr}{mA:Str->Option Value}(I:xC h x dx C mA):∃od,PySem.W.InstAt h x (PySem.W.instObj C dx) C (some od)/\∀name,PySem.W.lookIn name od=some (mA name) :=
 let ⟨od,ho,hl⟩:=Ax I.ns
 ⟨od,⟨I.obj,rfl,rfl,ho⟩,hl⟩
section
variable {prog:Program}{w:World}{A:Around}{E:Value->Shared->Prop}{s:Shared}{K:PySem.W.Frag}{x dx C f:Addr}{mA:Str->Option Value}{name:Str}{v:Value}
theorem get_map{expr:Bool}{Q:Value->Shared->Prop}(X:K.In s.heap)(I:xC s.heap x dx C mA)(hg:PySem.W.plainGet K C name=true)(hh:PySem.W.hasDictIn K C=true)
  (ha:PySem.W.findIn K (.ref C) name=some none) (hv:mA name=some v) (hv':PySem.W.handedIn v=true) (h:Q v { s with toks:=s.toks+1 }) :
  wpAny (model prog w) A (getAttr (.ref x) name expr) Q E s:=by
 obtain⟨od,J,hl⟩:=I.look
 exact PySem.W.get_value X J (PySem.W.plainGet_of hg).1 (PySem.W.findObj_own hh ha rfl (by rw[hl,hv])) hv' h
theorem DV{pl:Sem Bool}{Q:Value×List Value->Shared->Prop}(X:K.In s.heap)(I:xC s.heap x dx C mA)(hg:PySem.W.plainGet K C name=true)
  (hf:PySem.W.findIn K (.ref C) name=some (some (.ref f))) (ht:PySem.W.isFn K (.ref f)=true) (hv:mA name=none) (h:Q (.ref f,[.ref x]) s) :
  wpAny (model prog w) A (getMethod (.ref x) name pl) Q E s:=by
 obtain⟨od,J,hl⟩:=I.look
 exact PySem.W.method_fn X J (PySem.W.plainGet_of hg).1 (PySem.W.plainGet_of hg).2 hf (beq_iff_eq.mp ht) (by show (PySem.W.lookIn name od).map (·.isSome)=some false;rw[hl,hv];rfl) h
theorem GV{ns:List Str}{Q:Unit->Shared->Prop}(X:K.In s.heap)(I:xC s.heap x dx C mA)
  (hs:PySem.W.findIn K (.ref C) "__setattr__" = some (some (.builtin "object.__setattr__"))) (hp:PySem.W.plainOver K C=true) (ht:PySem.W.takerIn K C name=some none) (hh:PySem.W.hasDictIn K C=true)
  (hw:PySem.Within mA ns) (hsz:ns.length<=sizeLine)
  (h:∀h',xC h' x dx C (λy=>if y=name then some v else mA y)->Heap.SameBut dx s.heap h'->Q () { s with heap:=h',toks:=s.toks+2 }) :
  wpAny (model prog w) A (setAttr (.ref x) name v) Q E s:=by
 obtain⟨od,J,hl⟩:=I.look
 refine PySem.W.set_plain X J hs (PySem.W.osa_open (s:={ s with toks:=s.toks+1 }) (r:=none) X J hp ht λb=>?_)
 obtain⟨cd,hc,hd'⟩:=PySem.W.any_some hh
 have hx:s.heap.get? x=some ⟨.ref C,some dx,.plain,#[]⟩:=I.obj
 refine wpAny_bind (wpAny_pure (wpAny_bind (wpAny_bind (wpAny_loadPart hx (wpAny_bind (PySem.W.Looks.here (s:={ s with toks:=s.toks+1 }) (PySem.W.looks_clsIn X hc) ?_))))))
 rw[hd']
 refine wpAny_pure (a:=some dx) (wpAny_bind (wpAny_pure (wpAny_bind ?_)))
 refine wpAny_nsSet1 (s:={ s with toks:=s.toks+1 }) I.ns λh' hn2 hs2=>?_
 obtain⟨oD,esD,epD,hoD,hdD,hcD⟩:=hn2.count (PySem.Within.cons name v hw)
 refine wpAny_bind (wpAny_lookBehind hoD (by rw[hdD];exact pastItsLine_dict (Nat.le_trans hcD (by rw[List.length_cons];lia))) ?_)
 exact wpAny_pure (h _ ⟨(hs2.2 _ (Ne.symm I.ne)).trans I.obj,hn2,I.ne⟩ hs2)
theorem Ew{R:Result->Shared->Prop}{vs:List Value}{kw:List (Str×Value)}(X:K.In s.heap)(hm:PySem.W.makesIn K C=true)
  (hi:PySem.W.findIn K (.ref C) "__init__" = some (some (.ref f))) (hf:PySem.W.typeIn K (.ref f)=some (.type "function"))
  (h:codeAny (model prog w) (A.under (.builtin "type.__call__" ⟨.ref C::vs,kw⟩)) (.call (.ref f) ⟨.ref (s.heap.objs.size+1)::vs,kw⟩) (PySem.W.InitBack (s.heap.objs.size+1) R)
   { s with heap:=(s.heap.push PySem.W.emptyDict).push (PySem.W.instObj C s.heap.objs.size) }) :
  codeAny (model prog w) A (.call (.ref C) ⟨vs,kw⟩) R s:=by
 obtain⟨hh,g,d,t,os⟩:=s
 exact PySem.W.make_core (PySem.W.makes_of X hm) (PySem.W.looks_findIn X hi) (λself=>PySem.W.bind_fn X self hf) (.inl rfl) h
theorem Bc{R:Result->Shared->Prop}(X:K.In s.heap)(hm:PySem.W.makesIn K C=true)
  (hi:PySem.W.findIn K (.ref C) "__init__" = some (some (.builtin "object.__init__")))
  (hb:∀self,PySem.W.Looks (model prog w) s.heap (bindSpecial (.builtin "object.__init__") self) (.builtin "object.__init__",[self]))
  (h:codeAny (model prog w) (A.under (.builtin "type.__call__" ⟨[.ref C],[]⟩)) (.call (.builtin "object.__init__") ⟨[.ref (s.heap.objs.size+1)],[]⟩) (PySem.W.InitBack (s.heap.objs.size+1) R)
   { s with heap:=(s.heap.push PySem.W.emptyDict).push (PySem.W.instObj C s.heap.objs.size) }) :
  codeAny (model prog w) A (.call (.ref C) ⟨[],[]⟩) R s:=by
 obtain⟨hh,g,d,t,os⟩:=s
 exact PySem.W.make_core (PySem.W.makes_of X hm) (PySem.W.looks_findIn X hi) hb (.inr ⟨rfl,rfl⟩) h
end
def cX(f:Str)(v:V):List (Str×V)->List (Str×V)
 | []=>[(f,v)]
 | (g,x)::r=>if g=f then (g,v)::r else (g,x)::cX f v r
theorem oH(f g:Str)(v:V):∀fs:List (Str×V),(cX f v fs).lookup g=if g=f then some v else fs.lookup g
 | []=>by
  show List.lookup g [(f,v)]=_
  by_cases h:g=f
  ·have hb:(g == f)=true:=beq_iff_eq.mpr h
   simp only[List.lookup,hb,if_pos h]
  ·have hb:(g == f)=false:=beq_eq_false_iff_ne.mpr h
   simp only[List.lookup,hb,if_neg h]
 | (k,x)::r=>by
  have ih:=oH f g v r
  rw[show cX f v ((k,x)::r)=(if k=f then (k,v)::r else (k,x)::cX f v r) from rfl]
  by_cases hk:k=f
  ·rw[if_pos hk]
   by_cases h:g=k
   ·have hb:(g == k)=true:=beq_iff_eq.mpr h
    simp only[List.lookup,hb,if_pos (h.trans hk)]
   ·have hb:(g == k)=false:=beq_eq_false_iff_ne.mpr h
    simp only[List.lookup,hb,if_neg (λe:g=f=>h (e.trans hk.symm))]
  ·rw[if_neg hk]
   by_cases h:g=k
   ·have hb:(g == k)=true:=beq_iff_eq.mpr h
    simp only[List.lookup,hb,if_neg (λe:g=f=>hk (h.symm.trans e))]
   ·have hb:(g == k)=false:=beq_eq_false_iff_ne.mpr h
    simp only[List.lookup,hb]
    exact ih
theorem nQ(f:Str)(v:V):∀fs:List (Str×V),f∈(cX f v fs).map (·.1)/\∀g,g∈fs.map (·.1)->g∈(cX f v fs).map (·.1)
 | []=>⟨by simp[cX],λg h=>by simp at h⟩
 | (k,x)::r=>by
  obtain⟨i1,i2⟩:=nQ f v r
  rw[show cX f v ((k,x)::r)=(if k=f then (k,v)::r else (k,x)::cX f v r) from rfl]
  by_cases hk:k=f
  ·rw[if_pos hk]
   subst hk
   exact⟨by simp,λg h=>by simpa using h⟩
  ·rw[if_neg hk]
   refine⟨?_,λg h=>?_⟩
   ·rw[List.map_cons]
    exact List.mem_cons_of_mem _ i1
   ·rw[List.map_cons] at h ⊢
    rcases List.mem_cons.mp h with e|e
    ·exact List.mem_cons.mpr (.inl e)
    ·exact List.mem_cons_of_mem _ (i2 g e)
theorem oE(f:Str)(v:V):∀fs:List (Str×V),(cX f v fs).length<=fs.length+1
 | []=>by simp[cX]
 | (k,x)::r=>by
  have ih:=oE f v r
  rw[show cX f v ((k,x)::r)=(if k=f then (k,v)::r else (k,x)::cX f v r) from rfl]
  by_cases hk:k=f
  ·rw[if_pos hk,List.length_cons,List.length_cons];lia
  ·rw[if_neg hk,List.length_cons,List.length_cons];lia
theorem jm.some_of{v:V}{o:Option Value}(r:jm (some v) o):∃u,o=some u/\RelV v u:=by
 cases o with
 |none=>exact(show False from r).elim
 |some u=>exact⟨u,rfl,r⟩
theorem jm.none_of{o:Option Value}(r:jm none o):o=none:=by
 cases o with
 |none=>rfl
 |some u=>exact(show False from r).elim
theorem AV{v:V}{u:Value}(r:RelV v u):PySem.W.handedIn u=true:=by
 cases v with
 |cW=>cases (show u=Value.none from r);rfl
 |bl b=>cases (show u=Value.bool b from r);rfl
 |int i=>obtain⟨t,e⟩:=(show ∃t,u=Value.int i t from r);cases e;rfl
 |str x=>obtain⟨t,e⟩:=(show ∃t,u=Value.str x t from r);cases e;rfl
 |byt b=>obtain⟨t,e⟩:=(show ∃t,u=Value.bytes b t from r);cases e;rfl
 |wJ b=>obtain⟨t,e⟩:=(show ∃t,u=Value.float b t from r);cases e;rfl
 |ref a=>cases (show u=Value.ref a from r);rfl
 |ty n=>cases (show u=Value.type n from r);rfl
section
variable {P:Program}{w:World}{H H':Hp}{h h':Heap}{a C dx:Addr}{fs fs':List (Str×V)}
theorem o4(hok:k6 P w H h)(e:H a=some (.ins C dx fs)):∃mA,xC h a dx C mA/\(∀f,jm (fs.lookup f) (mA f))/\PySem.Within mA (fs.map (·.1))/\fs.length<=1000/\H dx=some (.own a):=by
 obtain⟨d,z,ne,ob,mA,n,r,q⟩:=(show cL P w H h a (.ins C dx fs) from hok a _ e)
 exact⟨mA,⟨ob,n,ne⟩,r,q,z,d⟩
end
structure mO(K:PySem.W.Frag)(C:Addr):Prop where
 pg:PySem.W.plainGet K C Str.empty=true
 hd:PySem.W.hasDictIn K C=true
 po:PySem.W.plainOver K C=true
 sa:PySem.W.findIn K (.ref C) "__setattr__" = some (some (.builtin "object.__setattr__"))
theorem mO.get{K:PySem.W.Frag}{C:Addr}(c:mO K C)(f:Str):PySem.W.plainGet K C f=true:=c.pg
def bT(K:PySem.W.Frag)(C:Addr)(f:Str):Prop:=PySem.W.findIn K (.ref C) f=some none
theorem bT.R9{K:PySem.W.Frag}{C:Addr}{f:Str}(n:bT K C f):PySem.W.takerIn K C f=some none:=by
 unfold PySem.W.takerIn
 rw[show PySem.W.findIn K (.ref C) f=some none from n]
 rfl
structure Meth(K:PySem.W.Frag)(C:Addr)(m:Str)(f:Addr):Prop where
 at_:PySem.W.findIn K (.ref C) m=some (some (.ref f))
 fn:PySem.W.isFn K (.ref f)=true
 kp:PySem.W.keepIn K (.ref f)=true
section
variable {X:Cx}{pins:List (Addr×Obj)}{Z:St}{H:Hp}{s:Shared}{a C dx:Addr}{fs:List (Str×V)}{f:Str}{v:V}{A:Around}{E:Value->Shared->Prop}
theorem qY{b:Bool}{Q:Value->Shared->Prop}(I:Inv X pins Z H s)(e:H a=some (.ins C dx fs))(c:mO X.K C)(n:bT X.K C f)(l:fs.lookup f=some v)
  (h:∀u s',Inv X pins Z H s'->RelV v u->Q u s'):wpAny (model X.prog X.w) A (getAttr (.ref a) f b) Q E s:=by
 obtain⟨mA,O,r,_,_,_⟩:=o4 I.hok e
 obtain⟨u,hu,ru⟩:=jm.some_of (v:=v) (o:=mA f) (by rw[← l];exact r f)
 exact get_map I.mK O (c.get f) c.hd n hu (AV ru) (h u _ (I.tok _) ru)
theorem pQ{m:Str}{g:Addr}{pl:Sem Bool}{Q:Value×List Value->Shared->Prop}(I:Inv X pins Z H s)(e:H a=some (.ins C dx fs))(c:mO X.K C)(k:Meth X.K C m g)(l:fs.lookup m=none)
  (h:Q (.ref g,[.ref a]) s):wpAny (model X.prog X.w) A (getMethod (.ref a) m pl) Q E s:=by
 obtain⟨mA,O,r,_,_,_⟩:=o4 I.hok e
 have hn:mA m=none:=jm.none_of (by rw[← l];exact r m)
 exact DV I.mK O (c.get m) k.at_ k.fn hn h
theorem qo{y:V}{u:Value}{Q:Unit->Shared->Prop}(I:Inv X pins Z H s)(e:H a=some (.ins C dx fs))(c:mO X.K C)(n:bT X.K C f)(hl:fs.length<1000)(ry:RelV y u)
  (h:∀s',Inv X pins Z (upd H a (.ins C dx (cX f y fs))) s'->Q () s'):wpAny (model X.prog X.w) A (setAttr (.ref a) f u) Q E s:=by
 obtain⟨mA,O,r,wi,_,ho⟩:=o4 I.hok e
 have hz:(fs.map (·.1)).length<=sizeLine:=by rw[List.length_map,sizeLine_eq];lia
 refine GV I.mK O c.sa c.po n.R9 c.hd wi hz λh' O' sb=>h _ ?_
 have hd:∃o,h'.get? dx=some o:=let ⟨o,_,_,e',_⟩:=O'.ns;⟨o,e'⟩
 refine I.write (x:=a) (e:=dx) (by rw[e];exact True.intro) (.inr ho) (λb q hb z=>(sb.2 b hb).trans z) hd ?_
 refine⟨by rw[ak O.ne];exact ho,?_,O.ne,O'.obj,_,O'.ns,λg=>?_,λg hg=>?_⟩
 ·have:=oE f y fs;lia
 ·show jm ((cX f y fs).lookup g) (if g=f then some u else mA g)
  rw[oH]
  by_cases q:g=f
  ·rw[if_pos q,if_pos q];exact ry
  ·rw[if_neg q,if_neg q];exact r g
 ·by_cases q:g=f
  ·rw[q];exact(nQ f y fs).1
  ·refine(nQ f y fs).2 g (wi g λz=>hg ?_)
   show (if g=f then some u else mA g)=none
   rw[if_neg q];exact z
theorem Inv.made(I:Inv X pins Z H s):Inv X pins Z (upd (upd H s.heap.objs.size (.own (s.heap.objs.size+1))) (s.heap.objs.size+1) (.ins C s.heap.objs.size []))
  { s with heap:=(s.heap.push PySem.W.emptyDict).push (PySem.W.instObj C s.heap.objs.size) }:=by
 have e1:(s.heap.push PySem.W.emptyDict).get? s.heap.objs.size=some PySem.W.emptyDict:=Heap.get?_push_size s.heap rfl
 have e2:((s.heap.push PySem.W.emptyDict).push (PySem.W.instObj C s.heap.objs.size)).get? (s.heap.objs.size+1)=some (PySem.W.instObj C s.heap.objs.size):=by
  have:=Heap.get?_push_size (s.heap.push PySem.W.emptyDict) (o:=PySem.W.instObj C s.heap.objs.size) rfl
  rwa [Heap.size_push] at this
 have e3:(s.heap.push PySem.W.emptyDict).Ns s.heap.objs.size (λ_=>none):=⟨PySem.W.emptyDict,#[],_,e1,rfl,(λe he=>absurd he (by simp)),λ_=>rfl⟩
 have I1:=I.laid (a:=s.heap.objs.size) (o:=.own (s.heap.objs.size+1)) (h':=s.heap.push PySem.W.emptyDict) (t':=s.toks) (λb u q=>Heap.get?_push_of_some _ q) (Nat.le_refl _) ⟨_,e1⟩
 refine I1.laid (a:=s.heap.objs.size+1) (o:=.ins C s.heap.objs.size []) (t':=s.toks) (λb u q=>Heap.get?_push_of_some _ q) (Nat.le_of_eq (Heap.size_push _ _)) ?_
 have ne:s.heap.objs.size≠s.heap.objs.size+1:=Nat.ne_of_lt (Nat.lt_succ_self _)
 refine⟨by rw[ak ne,af],Nat.zero_le _,ne,e2,λ_=>none,(Heap.Ns1.of_empty e3).at λo q=>Heap.get?_push_of_some _ q,λ_=>True.intro,λy hy=>absurd rfl hy⟩
theorem ID{prog:Program}{w:World}{env:Env}{e:Expr}{f:Str}{pos:Pos}{s:Shared}{Q:Value->Shared->Prop}(hb:attributeBase e f env (eval e env)=eval e env)
  (h:wpAny (model prog w) A (eval e env) (λo s₁=>wpAny (model prog w) A (getAttr o f true) Q E s₁) E s):wpAny (model prog w) A (eval (.Attribute e f pos) env) Q E s :=
 Attribute_any_ h (by rw[arm_eval_Attribute,hb])
end
def Qf(K:PySem.W.Frag)(ta:TE)(f:Str):TE:=λZ H Q=>ta Z H λx H1=>∃a C dx fs v,x=.ref a/\H1 a=some (.ins C dx fs)/\mO K C/\bT K C f/\fs.lookup f=some v/\Q v H1
def Ue(K:PySem.W.Frag)(ta tv:TE)(f:Str):TS:=λD Z H=>tv Z H λy H1=>ta Z H1 λx H2=>∃a C dx fs,x=.ref a/\H2 a=some (.ins C dx fs)/\mO K C/\bT K C f/\fs.length<1000/\
 D.nx Z (upd H2 a (.ins C dx (cX f y fs)))
def Ri(X:Cx)(op:Operator)(rd:V->V->Hp->VK->Prop):Prop :=
 ∀(pins:List (Addr×Obj)) (s:Shared) (Z:St) (H:Hp) (x y:V) (u v:Value) (Q:VK),Inv X pins Z H s->RelV x u->RelV y v->rd x y H Q->wpAny (model X.prog X.w) X.A (inplaceOp op u v) (EP X pins Z Q) X.xe s
def Ib(K:PySem.W.Frag)(ta tv:TE)(rd:V->V->Hp->VK->Prop)(f:Str):TS:=λD Z H=>ta Z H λx H1=>∃a C dx fs v,x=.ref a/\H1 a=some (.ins C dx fs)/\mO K C/\bT K C f/\fs.lookup f=some v/\
 tv Z H1 λy H2=>rd v y H2 λz H3=>∃dx' fs',H3 a=some (.ins C dx' fs')/\fs'.length<1000/\D.nx Z (upd H3 a (.ins C dx' (cX f z fs')))
section
variable {X:Cx}{o e value:Expr}{f:Str}{pos pos' tpos:Pos}{ta tv:TE}
theorem aK(he:PE X e ta)(hb:attributeBase e f X.env (eval e X.env)=eval e X.env):PE X (.Attribute e f pos) (Qf X.K ta f):=by
 intro pins s Z H Q I h
 refine ID hb (cU (he pins s Z H _ I h) λu s1  hZ=>?_)
 obtain⟨x,H1,I1,rx,a,C,dx,fs,v,ex,ea,c,n,l,q⟩:=hZ
 subst ex
 obtain rfl:u=Value.ref a:=rx
 exact qY I1 ea c n l λu' s2 I2 ru=>⟨v,H1,I2,ru,q⟩
theorem bW(ha:PE X o ta)(hv:PE X value tv)(hs:swapsWith value (some (.Attribute o f pos')) pos.line X.env=pure false):PS X (.Assign [.Attribute o f pos'] value pos) (Ue X.K ta tv f):=by
 intro pins s Z H D I h
 refine plainObj_wpAny_Assign_Attribute (cU (hv pins s Z H _ I h) λu s1 ⟨y,H1,I1,ry,q⟩=>cU (ha pins s1 Z H1 _ I1 q) λov s2 hY=>?_) hs
 obtain⟨x,H2,I2,rx,a,C,dx,fs,ex,ea,c,n,l,q2⟩:=hY
 subst ex
 obtain rfl:ov=Value.ref a:=rx
 exact qo I2 ea c n l ry λs3 I3=>⟨Z,_,I3,q2⟩
theorem AM{op:Operator}{rd:V->V->Hp->VK->Prop}(ha:PE X o ta)(hv:PE X value tv)(hop:Ri X op rd):PS X (.AugAssign (.Attribute o f tpos) op value pos) (Ib X.K ta tv rd f):=by
 intro pins s Z H D I h
 refine wpAny_AugAssign_AttributeAny (cU (ha pins s Z H _ I h) λov s1  hZ=>?_)
 obtain⟨x,H1,I1,rx,a,C,dx,fs,v,ex,ea,c,n,l,q⟩:=hZ
 subst ex
 obtain rfl:ov=Value.ref a:=rx
 refine qY I1 ea c n l λu s2 I2 ru=>cU (hv pins s2 Z H1 _ I2 q) λw3 s3 ⟨y,H2,I3,ry,q3⟩=>cU (hop pins s3 Z H2 v y u w3 _ I3 ru ry q3) λw4 s4  hZ=>?_
 obtain⟨z,H3,I4,rz,dx',fs',ea',l',q4⟩:=hZ
 exact qo I4 ea' c n l' rz λs5 I5=>⟨Z,_,I5,q4⟩
def TU:V->V->Hp->VK->Prop:=λx y H Q=>∃i j,x=.int i/\y=.int j/\Q (.int (i+j)) H
theorem MY:Ri X .Add TU:=by
 rintro pins s Z H x y u v Q I rx ry ⟨i,j,rfl,rfl,q⟩
 obtain⟨t,rfl⟩:=(show ∃t,u=Value.int i t from rx)
 obtain⟨t',rfl⟩:=(show ∃t',v=Value.int j t' from ry)
 exact PyProof.Rows.iadd_int ⟨.int (i+j),H,I.tok _,⟨_,rfl⟩,q⟩
end
section
variable {X:Cx}{pins:List (Addr×Obj)}{Z:St}{H:Hp}{s:Shared}{A:Around}{E:Value->Shared->Prop}{Q:Value->Shared->Prop}{c:Value}{b:Bool}
inductive n5(K:PySem.W.Frag)(H:Hp):V->Value->Prop where
 |cW:n5 K H .cW (.type "NoneType")
 |bl (x:Bool):n5 K H (.bl x) (.type "bool")
 |int (i:Int):n5 K H (.int i) (.type "int")
 |str (x:Str):n5 K H (.str x) (.type "str")
 |wJ (x:UInt64):n5 K H (.wJ x) (.type "float")
 |lst {a:Addr} {xs:List V} (e:H a=some (.lst xs)):n5 K H (.ref a) (.type "list")
 |jy {a:Addr} {o:Obj} {xs:List V} (e:H a=some (.jy o (.lst xs))):n5 K H (.ref a) (.type "list")
 |tup {a:Addr} {xs:List V} (e:H a=some (.tup xs)):n5 K H (.ref a) (.type "tuple")
 |dK {a:Addr} {kvs:List (Key×V)} (e:H a=some (.dK kvs)):n5 K H (.ref a) (.type "dict")
 |dT {a:Addr} {kvs:List (List Key×V)} (e:H a=some (.dT kvs)):n5 K H (.ref a) (.type "dict")
 |ins {a C dx:Addr} {fs:List (Str×V)} (e:H a=some (.ins C dx fs)) (cl:mO K C) (ha:PySem.W.findIn K (.ref C) "__class__" = some (some (.builtin "object.__class__")))
   (hn:PySem.W.specialIn K (.builtin "object.__class__") "__get__" = some (some (.builtin "getset_descriptor.__get__"))) (htk:PySem.W.takesIn K (.builtin "object.__class__")=some true)
   (hm:PySem.W.mroIn K C (.type "object")=some true):n5 K H (.ref a) (.ref C)
theorem AZ{x:V}{u t:Value}(I:Inv X pins Z H s)(rx:RelV x u)(ty:n5 X.K H x t)(e:PySem.W.kitOne X.K t c=some b)(h:∀tk,Q (.bool b) { s with toks:=tk }) :
  wpAny (model X.prog X.w) A (call (.builtin "isinstance") [u,c]) Q E s:=by
 cases ty with
 |cW=>cases (show u=Value.none from rx);exact PySem.W.kia_one PySem.W.kitx_none I.mK True.intro e (λz=>nomatch z) h
 |bl y=>cases (show u=Value.bool y from rx);exact PySem.W.kia_one PySem.W.kitx_bool I.mK True.intro e (λz=>nomatch z) h
 |int i=>obtain⟨t,q⟩:=(show ∃t,u=Value.int i t from rx);cases q;exact PySem.W.kia_one PySem.W.kitx_int I.mK True.intro e (λz=>nomatch z) h
 |str y=>obtain⟨t,q⟩:=(show ∃t,u=Value.str y t from rx);cases q;exact PySem.W.kia_one PySem.W.kitx_str I.mK True.intro e (λz=>nomatch z) h
 |wJ y=>obtain⟨t,q⟩:=(show ∃t,u=Value.float y t from rx);cases q;exact PySem.W.kia_one PySem.W.kitx_float I.mK True.intro e (λz=>nomatch z) h
 | @lst a xs ea=>
  cases (show u=Value.ref a from rx)
  obtain⟨_,_,n,_,h1⟩:=(show cL X.prog X.w H s.heap a (.lst xs) from I.hok a _ ea)
  exact PySem.W.kia_one PySem.W.kitx_list I.mK ⟨_,h1,rfl⟩ e (λz=>nomatch z) h
 | @jy a ob xs ea=>
  cases (show u=Value.ref a from rx)
  obtain⟨_,_,_,n,_,h1⟩:=(show cL X.prog X.w H s.heap a (.jy ob (.lst xs)) from I.hok a _ ea)
  exact PySem.W.kia_one PySem.W.kitx_list I.mK ⟨_,h1,rfl⟩ e (λz=>nomatch z) h
 | @tup a xs ea=>
  cases (show u=Value.ref a from rx)
  obtain⟨_,_,_,p⟩:=(show cL X.prog X.w H s.heap a (.tup xs) from I.hok a _ ea)
  obtain⟨o,h1,h2,_⟩:=p
  exact PySem.W.kia_one PySem.W.kitx_tuple I.mK ⟨o,h1,h2⟩ e (λz=>nomatch z) h
 | @dK a kvs ea=>
  cases (show u=Value.ref a from rx)
  obtain⟨_,_,vs,_,p⟩:=(show cL X.prog X.w H s.heap a (.dK kvs) from I.hok a _ ea)
  obtain⟨o,es,ep,h1,h2,_⟩:=p
  exact PySem.W.kia_one PySem.W.kitx_dict I.mK ⟨o,h1,h2.1⟩ e (λz=>nomatch z) h
 | @dT a kvs ea=>
  cases (show u=Value.ref a from rx)
  obtain⟨_,_,xs,_,o,es,ep,h1,h2,_⟩:=(show cL X.prog X.w H s.heap a (.dT kvs) from I.hok a _ ea)
  exact PySem.W.kia_one PySem.W.kitx_dict I.mK ⟨o,h1,h2.1⟩ e (λz=>nomatch z) h
 | @ins a C dx fs ea cl ha hn htk hm=>
  cases (show u=Value.ref a from rx)
  obtain⟨mA,O,_⟩:=o4 I.hok ea
  obtain⟨od,J,_⟩:=O.look
  exact PySem.W.kia_one (PySem.W.kitx_own (cl.get _) cl.hd ha hn htk hm) I.mK J e (λz=>nomatch z) h
end
structure fS(k:Nat)(A:Around):Prop where
 hd:A.handled=none
 dp:A.depth+3*k+5<recursionLimit
 un:A.units+16*k+200<cLine
theorem fS.mono{j k:Nat}{A:Around}(r:fS k A)(h:j<=k):fS j A:=⟨r.hd,by have:=r.dp;lia,by have:=r.un;lia⟩
theorem fS.deeper{k:Nat}{A:Around}(r:fS (k+1) A)(env:Env):fS k (A.deeper env) :=
 ⟨r.hd,by have:=r.dp;show A.depth+1+3*k+5<_;lia,by have:=r.un;show A.units+3+16*k+200<_;lia⟩
theorem yy {A:Around} {C:Addr} {us:List Value} {kw:List (Str×Value)}:(A.under (.builtin "type.__call__" ⟨.ref C::us,kw⟩)).depth=A.depth+1:=by
 first | rfl | simp[Around.under,Code.weight,Code.isCreation,Code.isGuard,Code.isCaller,Code.frames,Code.isFrame,guardIds]
theorem yb {A:Around} {C:Addr} {us:List Value} {kw:List (Str×Value)}:(A.under (.builtin "type.__call__" ⟨.ref C::us,kw⟩)).units=A.units+1:=by
 first | rfl | simp[Around.under,Code.cUnits,Code.frames,Code.isFrame]
theorem fS.make {k:Nat} {A:Around} (r:fS (k+1) A) (C:Addr) (us:List Value) (kw:List (Str×Value)):fS k (A.under (.builtin "type.__call__" ⟨.ref C::us,kw⟩)) :=
 ⟨r.hd,by have:=r.dp;rw[yy];lia,by have:=r.un;rw[yb];lia⟩
theorem fS.depth{k:Nat}{A:Around}(r:fS k A):A.depth<recursionLimit:=by have:=r.dp;lia
theorem fS.units{k:Nat}{A:Around}(r:fS k A):A.units+64<cLine:=by have:=r.un;lia
def BV:TA:=λ_ H Q=>Q [] H
def Ed(ta:TE)(tr:TA):TA:=λZ H Q=>ta Z H λx H1=>tr Z H1 λxs H2=>Q (x::xs) H2
section
variable {X:Cx}{e:Expr}{es:List Expr}{te:TE}{t:TA}{pos:Pos}
theorem ai:PA X [] BV:=λ_ _ _ _ H Q I h=>Calls.spliced_nil ⟨[],H,I,.nil,h⟩
theorem aa(ha:PE X e te)(hr:PA X es t)(hs:autoParam (starEach (e::es) X.env=(false,eval e X.env)::starEach es X.env) L2.Y3._auto_1):PA X (e::es) (Ed te t):=by
 intro pos pins s Z H Q I h
 rw[hs]
 show wpAny _ _ (spliced ((false,eval e X.env)::backTo pos (starEach es X.env))) _ _ s
 refine Calls.spliced_cons (cU (ha pins s Z H _ I h) λu s1  hZ=>?_)
 obtain⟨x,H1,I1,r1,q1⟩:=hZ
 exact cU (hr pos pins s1 Z H1 _ I1 q1) λus s2 ⟨xs,H2,I2,r2,q2⟩=>⟨x::xs,H2,I2,.cons r1 r2,q2⟩
def Rb(t:TA):TE:=λZ H Q=>t Z H λxs H1=>xs.length<=sizeLine/\∀p,H1 p=none->Q (.ref p) (upd H1 p (.tup xs))
def S3(t:TA):TE:=λZ H Q=>t Z H λxs H1=>xs.length<=sizeLine/\∀p,H1 p=none->Q (.ref p) (upd H1 p (.lst xs))
theorem bC{x1}(h:PA X es t):PE X (.Tuple es x1 pos) (Rb t):=by
 intro pins s Z H Q I hq
 refine wpAny_Tuple_spliced (cU (h pos pins s Z H _ I hq) λus s1 ⟨xs,H1,I1,r,z,q⟩=>⟨by rw[← r.length];exact z,?_⟩)
 have hf:H1 s1.heap.objs.size=none:=I1.hok.fresh (Nat.le_refl _)
 refine⟨.ref s1.heap.objs.size,upd H1 s1.heap.objs.size (.tup xs),I1.laid (t':=s1.toks) (λb u e=>Heap.get?_push_of_some _ e) (Nat.le_refl _) ?_,rfl,q _ hf⟩
 exact⟨z,us,r,⟨_,Heap.get?_push_size _ rfl,rfl,_,rfl⟩⟩
theorem bP(h:PA X es t):PE X (.List es pos) (S3 t):=by
 intro pins s Z H Q I hq
 refine wpAny_List_spliced (cU (h pos pins s Z H _ I hq) λus s1 ⟨xs,H1,I1,r,z,q⟩=>⟨by rw[← r.length];exact z,?_⟩)
 have hf:H1 s1.heap.objs.size=none:=I1.hok.fresh (Nat.le_refl _)
 refine⟨.ref s1.heap.objs.size,upd H1 s1.heap.objs.size (.lst xs),I1.laid (t':=s1.toks) (λb u e=>Heap.get?_push_of_some _ e) (Nat.le_refl _) ?_,rfl,q _ hf⟩
 exact⟨z,us,0,r,Heap.get?_push_size _ rfl⟩
end
abbrev Sp:=List V->Hp->VK->XK->Prop
abbrev xr:=List Env->Hp->Shared->XK->Value->Shared->Prop
structure wX(P:Program)(w:World)(K:PySem.W.Frag)(mg:Str->Option Value)(base:Heap)(A:Around)(outer:List Env)(s:Shared)(H:Hp):Prop where
 frames:A.frames=some outer
 mod:Mod K mg base
 bs:∀b o,base.get? b=some o->s.heap.get? b=some o/\H b=none
 Lp:base.objs.size<=s.heap.objs.size
 oQ:s.heap.FunFrames base outer
 OB:∀b∈frs outer,H b=none
 hok:k6 P w H s.heap
 bare:AllBare s.gens
def CE(outer:List Env)(P:Program)(w:World)(H:Hp)(s:Shared)(Q:VK)(u:Value)(s':Shared):Prop :=
 ∃v H',s'.os=s.os/\AllBare s'.gens/\Un (frs outer) [] H H' s.heap s'.heap/\k6 P w H' s'.heap/\RelV v u/\Q v H'
def CR(CX:xr)(outer:List Env)(P:Program)(w:World)(H:Hp)(s:Shared)(Q:VK)(E:XK)(r:Result)(s':Shared):Prop :=
 match r with
 |.ok (.ret u)=>CE outer P w H s Q u s'
 |.ok _=>False
 |.error e=>CX outer H s E e s'
structure bD(P:Program)(w:World)(K:PySem.W.Frag)(mg:Str->Option Value)(base:Heap)(CX:xr)(k:Nat)(f:Addr)(fd:FuncData)(ps:List Str)(sp:Sp):Prop where
 len:∀vs H Q E,sp vs H Q E->vs.length=ps.length
 run:∀(A:Around) (outer:List Env) (s:Shared) (H:Hp) (args:Args) (us:List Value) (vs:List V) (Q:VK) (E:XK),fS k A->wX P w K mg base A outer s H->BindsTo s fd args (ps.zip us)->Vals vs us->sp vs H Q E->
  codeAny (model P w) A (.call (.ref f) args) (CR CX outer P w H s Q E) s
theorem wX.make{P:Program}{w:World}{K:PySem.W.Frag}{mg:Str->Option Value}{base:Heap}{A:Around}{outer:List Env}{s:Shared}{H:Hp}(e:wX P w K mg base A outer s H)(C:Addr)(us:List Value)(kw:List (Str×Value)) :
  wX P w K mg base (A.under (.builtin "type.__call__" ⟨.ref C::us,kw⟩)) outer s H:=⟨by first | exact e.frames | (simpa [Around.under,Code.envs,Code.isFrame,pushEnvs] using e.frames),e.mod,e.bs,e.Lp,e.oQ,e.OB,e.hok,e.bare⟩
section
variable {X:Cx}{pins:List (Addr×Obj)}{Z:St}{H:Hp}{s s':Shared}
theorem Inv.Rh(I:Inv X pins Z H s):wX X.prog X.w X.K X.mg X.base X.A X.stack s H :=
 ⟨I.ok.frames,I.ok.mod,I.bs,Nat.le_trans I.ok.Lp I.sz,I.stack,I.ze,I.hok,I.bare⟩
theorem Inv.after{Q:VK}{u:Value}(I:Inv X pins Z H s)(h:CE X.stack X.prog X.w H s Q u s'):EP X pins Z Q u s':=by
 obtain⟨v,H',os,bare,un,hok,r,q⟩:=h
 obtain⟨hh,g,d,t,os'⟩:=s'
 obtain rfl:os'=s.os:=os
 exact⟨v,H',I.call (h':=hh) (g':=g) (d':=d) (t':=t) (ch:=[]) un hok bare (λb z=>absurd z (by simp)),r,q⟩
end
def B5(sp:Sp)(dvs:List V)(E:XK)(t:TA):TE:=λZ H Q=>t Z H λvs H1=>sp (vs++dvs) H1 Q E
def Bq(C:Addr)(m:Str)(sp:Sp)(dvs:List V)(E:XK)(ta:TE)(t:TA):TE:=λZ H Q=>ta Z H λx H1=>∃a dx fs,x=.ref a/\H1 a=some (.ins C dx fs)/\fs.lookup m=none/\
 t Z H1 λvs H2=>sp (x::(vs++dvs)) H2 Q E
def Ko(C:Addr)(sp:Sp)(dvs:List V)(E:XK)(t:TA):TE:=λZ H Q=>t Z H λvs H1=>∀x dx,H1 x=none->H1 dx=none->dx≠x->
 sp (.ref x::(vs++dvs)) (upd (upd H1 dx (.own x)) x (.ins C dx [])) (λv H2=>v=.cW/\Q (.ref x) H2) E
def Binds(K:PySem.W.Frag)(fd:FuncData)(ps:List Str)(ds:List Value):Prop :=
 ∀(s:Shared) (us:List Value),K.In s.heap->(us++ds).length=ps.length->BindsTo s fd ⟨us,[]⟩ (ps.zip (us++ds))
theorem Binds.all{K:PySem.W.Frag}{fd:FuncData}{ps:List Str}(h:∀us:List Value,us.length=ps.length->bindArgs fd ⟨us,[]⟩=pure (ps.zip us)):Binds K fd ps []:=λs us _ hl=>by
 rw[List.append_nil] at hl ⊢
 exact .of_eq (h us hl)
def Passes(CX:xr)(X:Cx)(E:XK):Prop:=∀(pins:List (Addr×Obj)) (Z:St) (H:Hp) (s:Shared) (e:Value) (s':Shared),Inv X pins Z H s->CX X.stack H s E e s'->X.xe e s'
section
variable {X:Cx}{CX:xr}{k:Nat}{f C:Addr}{fd:FuncData}{ps:List Str}{sp:Sp}{dvs:List V}{ds:List Value}{E:XK}{x m:Str}{p pos apos:Pos}{e o:Expr}{es:List Expr}{ta:TE}{t:TA}
theorem uA{pins:List (Addr×Obj)}{Z:St}{H:Hp}{s:Shared}{Q:VK}{us:List Value}{vs:List V}(F:bD X.prog X.w X.K X.mg X.base CX k f fd ps sp)(hr:fS k X.A)(hb:Binds X.K fd ps ds)(hd:Vals dvs ds)(hx:Passes CX X E)
  (I:Inv X pins Z H s) (r:Vals vs us) (h:sp (vs++dvs) H Q E):wpAny (model X.prog X.w) X.A (call (.ref f) us) (EP X pins Z Q) X.xe s:=by
 have r2:Vals (vs++dvs) (us++ds):=r.append hd
 have hl:(us++ds).length=ps.length:=by rw[← r2.length];exact F.len _ _ _ _ h
 refine wpAny_call (codeAny_mono (F.run X.A X.stack s H ⟨us,[]⟩ (us++ds) (vs++dvs) Q E hr I.Rh (hb s us I.mK hl) r2 h) λr s' hq=>?_)
 cases r with
 |error e=>exact hx pins Z H s e s' I hq
 |ok fl=>
  cases fl with
  |ret u=>exact I.after hq
  |next=>exact False.elim hq
  |brk=>exact False.elim hq
  |cont=>exact False.elim hq
theorem aW(F:bD X.prog X.w X.K X.mg X.base CX k f fd ps sp)(hr:fS k X.A)(hg:Gl X x)(hm:X.mg x=some (.ref f))(hk:PySem.W.keepIn X.K (.ref f)=true)(hb:Binds X.K fd ps ds)(hd:Vals dvs ds)(hx:Passes CX X E)
  (ha:PA X (e::es) t) (hdb:autoParam ((x == ("__debug__":Str))=false) L2.Y1._auto_1) (he:autoParam (starEach (e::es) X.env=(false,eval e X.env)::starEach es X.env) L2.Y3._auto_1) (hpl:autoParam ((backTo pos (starEach es X.env)).any (·.1)=false) L2.Y3._auto_1) :
  PE X (.Call (.Name x p) (e::es) [] pos) (B5 sp dvs E t):=by
 intro pins s Z H Q I h
 refine wpAny_Call_Name_kw (nc I hg hm ?_ hdb)
 refine PySem.W.callWith_K (h₀:=X.base) I.ok.mod.Rl hk (cU (ha pos pins s Z H _ I h) λus s1 ⟨vs,H1,I1,r,q⟩=>⟨I1.mK,?_⟩) he hpl
 exact uA F hr hb hd hx I1 r q
theorem BP(F:bD X.prog X.w X.K X.mg X.base CX k f fd ps sp)(hr:fS k X.A)(hg:Gl X x)(hm:X.mg x=some (.ref f))(hk:PySem.W.keepIn X.K (.ref f)=true)(hb:Binds X.K fd ps ds)(hd:Vals dvs ds)(hx:Passes CX X E)
  (hdb:autoParam ((x == ("__debug__":Str))=false) L2.Y1._auto_1):PE X (.Call (.Name x p) [] [] pos) (B5 sp dvs E BV):=by
 intro pins s Z H Q I h
 refine wpAny_Call_Name_kw (nc I hg hm ?_ hdb)
 exact PySem.W.callWith_K0 I.mK hk (uA (us:=[]) F hr hb hd hx I .nil h)
theorem bF{pl:Sem Bool}(he:PE X o ta)(c:mO X.K C)(hm:Meth X.K C m f)(F:bD X.prog X.w X.K X.mg X.base CX k f fd ps sp)(hr:fS k X.A)(hb:Binds X.K fd ps ds)(hd:Vals dvs ds)(hx:Passes CX X E)(ha:PA X (e::es) t)
  (hst:autoParam (starEach (e::es) X.env=(false,eval e X.env)::starEach es X.env) L2.Y3._auto_1) (hpl:autoParam ((backTo pos (starEach es X.env)).any (·.1)=false) L2.Y3._auto_1)
  (ht:autoParam (eval (.Call (.Attribute o m apos) (e::es) [] pos) X.env=(do
   let ov ← eval o X.env
   standAt apos.atName
   let (f,first) ← holding [ov] (getMethod ov m pl)
   callWith pos f first (backTo pos (starEach (e::es) X.env)) (backToKw pos (keywordEach [] X.env)))) L2.Y3._auto_1) :
  PE X (.Call (.Attribute o m apos) (e::es) [] pos) (Bq C m sp dvs E ta t):=by
 intro pins s Z H Q I h
 refine PySem.W.methodCall_KW (pl:=pl) (cU (he pins s Z H _ I h) λu s1 hY=>?_) ht
 obtain⟨x,H1,I1,rx,a,dx,fs,ex,ea,l,q⟩:=hY
 subst ex
 obtain rfl:u=Value.ref a:=rx
 refine pQ I1 ea c hm l ?_
 refine PySem.W.callWith_K (first:=[.ref a]) (h₀:=X.base) I.ok.mod.Rl hm.kp (cU (ha pos pins s1 Z H1 _ I1 q) λus s2 ⟨vs,H2,I2,r,q2⟩=>⟨I2.mK,?_⟩) hst hpl
 exact uA (us:=.ref a::us) (vs:=.ref a::vs) F hr hb hd hx I2 (.cons rfl r) q2
theorem bN{pl:Sem Bool}(he:PE X o ta)(c:mO X.K C)(hm:Meth X.K C m f)(F:bD X.prog X.w X.K X.mg X.base CX k f fd ps sp)(hr:fS k X.A)(hb:Binds X.K fd ps ds)(hd:Vals dvs ds)(hx:Passes CX X E)
  (ht:autoParam (eval (.Call (.Attribute o m apos) [] [] pos) X.env=(do
   let ov ← eval o X.env
   standAt apos.atName
   let (f,first) ← holding [ov] (getMethod ov m pl)
   callWith pos f first (backTo pos (starEach [] X.env)) (backToKw pos (keywordEach [] X.env)))) L2.Y3._auto_1) :
  PE X (.Call (.Attribute o m apos) [] [] pos) (Bq C m sp dvs E ta BV):=by
 intro pins s Z H Q I h
 refine PySem.W.methodCall_KW (pl:=pl) (cU (he pins s Z H _ I h) λu s1 hY=>?_) ht
 obtain⟨x,H1,I1,rx,a,dx,fs,ex,ea,l,q⟩:=hY
 subst ex
 obtain rfl:u=Value.ref a:=rx
 refine pQ I1 ea c hm l ?_
 exact PySem.W.callWith_K0 (first:=[.ref a]) I1.mK hm.kp (uA (us:=[.ref a]) (vs:=[.ref a]) F hr hb hd hx I1 (.cons rfl .nil) q)
structure Mk(K:PySem.W.Frag)(C f:Addr):Prop where
 makes:PySem.W.makesIn K C=true
 init:PySem.W.findIn K (.ref C) "__init__" = some (some (.ref f))
 fn:PySem.W.isFn K (.ref f)=true
 kp:PySem.W.keepIn K (.ref C)=true
theorem Cw{pins:List (Addr×Obj)}{Z:St}{H:Hp}{s:Shared}{Q:VK}{us:List Value}{vs:List V}(M:Mk X.K C f)(F:bD X.prog X.w X.K X.mg X.base CX k f fd ps sp)(hr:fS (k+1) X.A)(hb:Binds X.K fd ps ds)(hd:Vals dvs ds)
  (hx:Passes CX X E) (I:Inv X pins Z H s) (r:Vals vs us)
  (h:∀x dx,H x=none->H dx=none->dx≠x->sp (.ref x::(vs++dvs)) (upd (upd H dx (.own x)) x (.ins C dx [])) (λv H2=>v=.cW/\Q (.ref x) H2) E) :
  wpAny (model X.prog X.w) X.A (call (.ref C) us) (EP X pins Z Q) X.xe s:=by
 have hq:=h (s.heap.objs.size+1) s.heap.objs.size (I.hok.fresh (Nat.le_succ _)) (I.hok.fresh (Nat.le_refl _)) (Nat.ne_of_lt (Nat.lt_succ_self _))
 have I2:=Inv.made (C:=C) I
 have r2:Vals (V.ref (s.heap.objs.size+1)::(vs++dvs)) (Value.ref (s.heap.objs.size+1)::(us++ds)):=.cons rfl (r.append hd)
 have hl:(Value.ref (s.heap.objs.size+1)::us++ds).length=ps.length:=by
  have e:=r2.length
  rw[F.len _ _ _ _ hq] at e
  exact e.symm
 refine wpAny_call (Ew (f:=f) I.mK M.makes M.init (beq_iff_eq.mp M.fn) (codeAny_mono (F.run _ X.stack _ _ ⟨Value.ref (s.heap.objs.size+1)::us,[]⟩ (Value.ref (s.heap.objs.size+1)::(us++ds)) _ _ E (hr.make C us [])
  (I2.Rh.make C us []) (hb _ (Value.ref (s.heap.objs.size+1)::us) I2.mK hl) r2 hq) λr s' hq'=>?_))
 cases r with
 |error e=>exact hx pins Z _ _ e s' I2 hq'
 |ok fl=>
  cases fl with
  |ret u=>
   obtain⟨v,H',I3,rv,ev,q3⟩:=I2.after hq'
   subst ev
   exact⟨rv,⟨V.ref (s.heap.objs.size+1),H',I3,rfl,q3⟩⟩
  |next=>exact False.elim hq'
  |brk=>exact False.elim hq'
  |cont=>exact False.elim hq'
theorem dI(M:Mk X.K C f)(F:bD X.prog X.w X.K X.mg X.base CX k f fd ps sp)(hr:fS (k+1) X.A)(hg:Gl X x)(hm:X.mg x=some (.ref C))(hb:Binds X.K fd ps ds)(hd:Vals dvs ds)(hx:Passes CX X E)
  (ha:PA X (e::es) t) (hdb:autoParam ((x == ("__debug__":Str))=false) L2.Y1._auto_1) (he:autoParam (starEach (e::es) X.env=(false,eval e X.env)::starEach es X.env) L2.Y3._auto_1) (hpl:autoParam ((backTo pos (starEach es X.env)).any (·.1)=false) L2.Y3._auto_1) :
  PE X (.Call (.Name x p) (e::es) [] pos) (Ko C sp dvs E t):=by
 intro pins s Z H Q I h
 refine wpAny_Call_Name_kw (nc I hg hm ?_ hdb)
 refine PySem.W.callWith_K (h₀:=X.base) I.ok.mod.Rl M.kp (cU (ha pos pins s Z H _ I h) λus s1 ⟨vs,H1,I1,r,q⟩=>⟨I1.mK,?_⟩) he hpl
 exact Cw M F hr hb hd hx I1 r q
end
section
variable {X:Cx}{CX:xr}{k:Nat}{f C:Addr}{fd:FuncData}{ps ks:List Str}{sp:Sp}{E:XK}{x m:Str}{p pos apos kpos:Pos}{e o:Expr}{es:List Expr}{kws:List Keyword}{te ta:TE}{t tk:TA}{nm:Option Str}
variable {g:List Value->List Value->List Value}{gV:List V->List V->List V}
end
structure aC(N P:List Str)(sc:Scope):Prop where
 kind:sc.kind=.function
 co:sc.isCoroutine=false
 gen:sc.isGenerator=false
 nd:N.Nodup
 pre:N.take P.length=P
 par:∀x∈P,sc.names.lookup x=some .local∨sc.names.lookup x=some .cell
 M8:∀y∈sc.names,y.2≠.free
theorem sE{kindOf:Str->Option NameKind}{x:Str}:∀{binds:List (Str×Value)} {m:Str->Option Value},(∀v,(x,v)∉binds)->bindL kindOf binds m x=m x
 | [],_,_=>rfl
 | (n,v)::r,m,h=>by
  unfold bindL
  rw[sE λw hw=>h w (List.mem_cons_of_mem _ hw)]
  split
  ·have:x≠n:=by rintro rfl;exact h v List.mem_cons_self
   simp[this]
  ·rfl
theorem sy{kindOf:Str->Option NameKind}{x:Str}:∀{binds:List (Str×Value)} {m:Str->Option Value},(∀v,(x,v)∉binds)->bindC kindOf binds m x=m x
 | [],_,_=>rfl
 | (n,v)::r,m,h=>by
  unfold bindC
  rw[sy λw hw=>h w (List.mem_cons_of_mem _ hw)]
  split
  ·rfl
  ·have:x≠n:=by rintro rfl;exact h v List.mem_cons_self
   simp[this]
theorem tE{kindOf:Str->Option NameKind}{x:Str}{v:Value}:∀{P:List Str} {vs:List Value} {i:Nat} {m:Str->Option Value},P.Nodup->P[i]?=some x->vs[i]?=some v->kindOf x=some .local->
  bindL kindOf (P.zip vs) m x=some v
 | [],_,_,_,_,h,_,_=>by simp at h
 |_::_,[],_,_,_,_,h,_=>by simp at h
 |p::P,w::vs,0,m,nd,h1,h2,hk=>by
  simp at h1 h2;subst h1;subst h2
  show bindL kindOf ((p,w)::P.zip vs) m p=_
  unfold bindL
  rw[sE λv hv=>(List.nodup_cons.mp nd).1 (List.of_mem_zip hv).1,if_pos hk]
  simp
 |p::P,w::vs,i+1,m,nd,h1,h2,hk=>by
  show bindL kindOf ((p,w)::P.zip vs) m x=_
  unfold bindL
  exact tE (i:=i) (List.nodup_cons.mp nd).2 (by simpa using h1) (by simpa using h2) hk
theorem tN{kindOf:Str->Option NameKind}{x:Str}{v:Value}:∀{P:List Str} {vs:List Value} {i:Nat} {m:Str->Option Value},P.Nodup->P[i]?=some x->vs[i]?=some v->kindOf x≠some .local->
  bindC kindOf (P.zip vs) m x=some v
 | [],_,_,_,_,h,_,_=>by simp at h
 |_::_,[],_,_,_,_,h,_=>by simp at h
 |p::P,w::vs,0,m,nd,h1,h2,hk=>by
  simp at h1 h2;subst h1;subst h2
  show bindC kindOf ((p,w)::P.zip vs) m p=_
  unfold bindC
  rw[sy λv hv=>(List.nodup_cons.mp nd).1 (List.of_mem_zip hv).1,if_neg hk]
  simp
 |p::P,w::vs,i+1,m,nd,h1,h2,hk=>by
  show bindC kindOf ((p,w)::P.zip vs) m x=_
  unfold bindC
  exact tN (i:=i) (List.nodup_cons.mp nd).2 (by simpa using h1) (by simpa using h2) hk
def start(N:List Str)(vs:List V):St:=vs.map some++List.replicate (N.length-vs.length) none
def xh(CX:xr)(P:Program)(w:World)(K:PySem.W.Frag)(mg:Str->Option Value)(base:Heap)(N:List Str)(qual:Str)(scope:Scope)(f:Addr)(cd:Value)(A:Around)(outer:List Env)(s:Shared)(H:Hp)(E:XK):Cx where
 prog:=P
 w:=w
 K:=K
 mg:=mg
 base:=base
 A:=A.deeper (envOfC qual scope s.heap.objs.size f cd)
 N:=N
 s₀:=s
 H₀:=H
 env:=envOfC qual scope s.heap.objs.size f cd
 outer:=outer
 stack:=envOfC qual scope s.heap.objs.size f cd::outer
 ex:=[]
 calm:=true
 fn:=λ_=>true
 pn:=[]
 xe:=λe s'=>wpAny (model P w) (A.deeper (envOfC qual scope s.heap.objs.size f cd)) (leaving (envOfC qual scope s.heap.objs.size f cd) e) (λ_ s''=>CX outer H s E e s'') (λe' s''=>CX outer H s E e' s'') s'
theorem u9{sc:Scope}{n:Nat}{x:Str}(h:sc.names.lookup x=some .cell):∃c,(cellsFrom n sc.names []).lookup x=some c:=by
 have q:=PySem.W.cellsFrom_some sc.names n [] (.inl h)
 exact Option.isSome_iff_exists.mp q
theorem A0{CX:xr}{P:Program}{w:World}{K:PySem.W.Frag}{mg:Str->Option Value}{base:Heap}{N ps:List Str}{qual:Str}{scope:Scope}{f:Addr}{cd:Value}{A:Around}{outer:List Env}{s s1:Shared}{H:Hp}{E:XK}{us:List Value}{vs:List V}
  (S:aC N ps scope) (hd:A.handled=none) (e0:wX P w K mg base A outer s H) (hl:vs.length=ps.length) (r:Vals vs us)
  (x:InCallC s s.heap.objs.size (bindL (envOfC qual scope s.heap.objs.size f cd).kindOf (ps.zip us) λ_=>none) (cellsFrom (s.heap.objs.size+1) scope.names []) (bindC (envOfC qual scope s.heap.objs.size f cd).kindOf (ps.zip us) λ_=>none) s1) :
  Inv (xh CX P w K mg base N qual scope f cd A outer s H E) [] (start N vs) H s1:=by
 have hpl:ps.length<=N.length:=by have:=congrArg List.length S.pre;rw[List.length_take] at this;lia
 obtain⟨h1,tk,rfl,hk⟩:=x.done
 have noA:∀b:Addr,b∉(xh CX P w K mg base N qual scope f cd A outer s H E).ex:=λb z=>absurd (show b∈([]:List Addr) from z) (by simp)
 refine⟨⟨e0.mod,S.kind,rfl,rfl,Nat.le_refl _,λy z c h1 h2=>?_,λy hy=>?_,λy c _ h=>?_,λ_=>hd,Around.frames_deeper e0.frames,.inr ⟨rfl,rfl⟩,λb z=>absurd z (noA b),e0.bs,e0.Lp,λb _ _=>noA b,λb z=>absurd z (noA b),e0.oQ,e0.OB⟩,
  rfl,e0.bare,Un.kept hk,⟨_,x.toInCall.ns,λi y v h1 h2 h3=>?_⟩,λy c h=>⟨_,x.cell y c h⟩,e0.hok.fresh (Nat.le_refl _),λy c h=>?_,λp hp=>absurd (show p∈([]:List (Addr×Obj)) from hp) (by simp),e0.hok.kept hk,?_⟩
 ·exact name_of_addr x.apart (PySem.mem_of_lookup h1) (PySem.mem_of_lookup h2)
 ·have hy:scope.names.lookup y=some .cell∨scope.names.lookup y=some .free:=hy
  rcases hy with hy|hy
  ·exact u9 hy
  ·exact absurd rfl (S.M8 _ (PySem.mem_of_lookup hy))
 ·exact Nat.le_of_lt (x.above y c (PySem.mem_of_lookup h))
 ·have hi:i<vs.length:=by
   unfold start at h2
   by_cases hi:i<vs.length
   ·exact hi
   ·rw[List.getElem?_append_right (by simpa using hi)] at h2
    rw[List.getElem?_replicate] at h2
    split at h2 <;> cases h2
  have ha:vs[i]?=some v:=by
   unfold start at h2
   rw[List.getElem?_append_left (by simpa using hi),List.getElem?_map] at h2
   cases e:vs[i]? with
   |none=>rw[e] at h2;cases h2
   |some a=>rw[e] at h2;cases h2;rfl
  obtain⟨u,hu,rv⟩:=r.get ha
  have hp:ps[i]?=some y:=by
   rw[← S.pre,List.getElem?_take_of_lt (by lia)];exact h1
  have ndP:ps.Nodup:=by rw[← S.pre];exact S.nd.sublist (List.take_sublist _ _)
  refine⟨u,rv,?_⟩
  rcases S.par y (List.mem_of_getElem? hp) with k|k
  ·exact .inl ⟨k,tE ndP hp hu k⟩
  ·obtain⟨c,e⟩:=u9 (n:=s.heap.objs.size+1) k
   refine .inr ⟨.inl k,c,e,?_⟩
   have q:=x.cell y c e
   rw[tN ndP hp hu (by show scope.names.lookup y≠_;rw[k];decide)] at q
   exact q
 ·exact e0.hok.fresh (Nat.le_of_lt (x.above y c (PySem.mem_of_lookup h)))
 ·unfold start
  show _=N.length
  rw[List.length_append,List.length_map,List.length_replicate]
  lia
theorem R6{CX:xr}{P:Program}{w:World}{K:PySem.W.Frag}{mg:Str->Option Value}{base:Heap}{k:Nat}{f:Addr}{name qual:Str}{params:Arguments}{body:List Stmt}{scope:Scope}{dV kV doc pm cdv ct oc:Value}{an od:Option Addr}
  {osl:Array (Option Value)} {N ps:List Str} {sp:Sp} (lk:K.lookup f=some ⟨oc,od,.func (PySem.W.fnOf name qual params body scope dV kV doc pm an cdv ct),osl⟩) (hcd:PySem.W.codeIn K cdv qual=true) (S:aC N ps scope)
  (len:∀vs H Q E,sp vs H Q E->vs.length=ps.length)
  (hbody:∀(A:Around) (outer:List Env) (s:Shared) (H:Hp) (vs:List V) (Q:VK) (E:XK),fS k (A.deeper (envOfC qual scope s.heap.objs.size f cdv))->sp vs H Q E->
   ∃t,xX (xh CX P w K mg base N qual scope f cdv A outer s H E) body t/\t { nx:=λ_ H'=>Q .cW H',rt:=Q } (start N vs) H) :
  bD P w K mg base CX (k+1) f (PySem.W.fnOf name qual params body scope dV kV doc pm an cdv ct) ps sp:=by
 refine⟨len,λA outer s H args us vs Q E hr e0 hb r hsp=>?_⟩
 have hl:=len _ _ _ _ hsp
 have KX:K.In s.heap:=e0.mod.Rl.keeps λb o e=>(e0.bs b o e).1
 have lim:s.heap.NoLimit:=e0.mod.nolimit.keeps λb o e=>(e0.bs b o e).1
 have hkind:∀y∈ps.zip us,scope.names.lookup y.1=some .local∨(scope.names.lookup y.1=some .cell/\((cellsFrom (s.heap.objs.size+1) scope.names []).lookup y.1).isSome=true):=λ⟨n,v⟩ hy=>by
  rcases S.par n (List.of_mem_zip hy).1 with q|q
  ·exact .inl q
  ·exact .inr ⟨q,PySem.W.cellsFrom_some _ _ _ (.inl q)⟩
 refine codeAny_call_function hr.depth (KX _ _ lk) rfl S.co S.gen rfl (PySem.W.codeRec_of KX hcd) (hb _ _ _ _ ?_)
 refine wpAny_newFunctionEnv_cells S.kind hkind λenv he s1 x=>?_
 subst he
 refine⟨lim.keeps x.toInCall.keep,codeAny_func ?_⟩
 obtain⟨t,ht,hq⟩:=hbody A outer s H vs Q E (hr.deeper _) hsp
 have I:Inv (xh CX P w K mg base N qual scope f cdv A outer s H E) [] (start N vs) H s1:=A0 S hr.hd e0 hl r x
 refine wpAny_mono (ht [] s1 (start N vs) H _ I hq) (λfl s' hs=>?_) λe s' hs=>hs
 have fin:∀{Z':St} {H':Hp} {v:V} {u:Value},Inv (xh CX P w K mg base N qual scope f cdv A outer s H E) [] Z' H' s'->RelV v u->Q v H'->CE outer P w H s Q u s' :=
  λ{Z' H' v u} J rv q=>⟨v,H',J.os,J.bare,J.base,J.hok,rv,q⟩
 cases fl with
 |ret u=>
  obtain⟨v,Z',H',J,rv,q⟩:=hs
  exact fin J rv q
 |next=>
  obtain⟨Z',H',J,q⟩:=hs
  exact fin (v:=V.cW) (u:=Value.none) J rfl q
 |brk=>
  obtain⟨_,_,_,q⟩:=hs
  exact False.elim q
 |cont=>
  obtain⟨_,_,_,q⟩:=hs
  exact False.elim q
section
variable {X:Cx}{x:Str}{p pos:Pos}{e:Expr}{es:List Expr}{t:TA}{id T:String}{r:List V->Hp->VK->Prop}
def Tj(r:List V->Hp->VK->Prop)(t:TA):TE:=λZ H Q=>t Z H λvs H1=>r vs H1 Q
theorem aN (hc:ic X (.builtin id) r) (hg:Gl X x) (hm:X.mg x=none) (hv:bootBuiltins x=some (.builtin id)) (ha:PA X (e::es) t) (hn:autoParam (x ≠ "__name__") L2.Y1._auto_1) (hdb:autoParam ((x == ("__debug__":Str))=false) L2.Y1._auto_1)
  (he:autoParam (starEach (e::es) X.env=(false,eval e X.env)::starEach es X.env) L2.Y3._auto_1) (hpl:autoParam ((backTo pos (starEach es X.env)).any (·.1)=false) L2.Y3._auto_1):PE X (.Call (.Name x p) (e::es) [] pos) (Tj r t):=by
 intro pins s Z H Q I h
 refine wpAny_Call_Name_kw (kh I hg hm hv ?_ hn hdb)
 exact PyProof.Rows.callWith_builtin1 (cU (ha pos pins s Z H _ I h) λus s1 ⟨vs,H1,I1,r1,q1⟩=>hc pins s1 Z H1 vs us Q I1 r1 q1) he hpl
theorem cJ (hc:ic X (.type T) r) (hg:Gl X x) (hm:X.mg x=none) (hv:bootBuiltins x=some (.type T)) (ha:PA X (e::es) t) (hn:autoParam (x ≠ "__name__") L2.Y1._auto_1) (hdb:autoParam ((x == ("__debug__":Str))=false) L2.Y1._auto_1)
  (he:autoParam (starEach (e::es) X.env=(false,eval e X.env)::starEach es X.env) L2.Y3._auto_1) (hpl:autoParam ((backTo pos (starEach es X.env)).any (·.1)=false) L2.Y3._auto_1):PE X (.Call (.Name x p) (e::es) [] pos) (Tj r t):=by
 intro pins s Z H Q I h
 refine wpAny_Call_Name_kw (kh I hg hm hv ?_ hn hdb)
 exact PyProof.Rows.callWith_type1 (cU (ha pos pins s Z H _ I h) λus s1 ⟨vs,H1,I1,r1,q1⟩=>hc pins s1 Z H1 vs us Q I1 r1 q1) he hpl
end
end L2
namespace HT
open PySem PyProof.Rows
def lexLt:List Int->List Int->Bool
 | [],[]=>false
 | [],_::_=>true
 |_::_,[]=>false
 |x::xs,y::ys=>if x=y then lexLt xs ys else decide (x<y)
theorem xG(x y:Int)(xs ys:List Int):lexLt (x::xs) (y::ys)=if x=y then lexLt xs ys else decide (x<y):=rfl
theorem rM:lexLt [] []=false:=rfl
theorem qA(y:Int)(ys:List Int):lexLt [] (y::ys)=true:=rfl
theorem qu(x:Int)(xs:List Int):lexLt (x::xs) []=false:=rfl
theorem rA(A:Around)(s:Shared)(a:Int)(t:Tok)(c:Int)(u:Tok):∃e,SeqAt.EqAt A s (.int a t) (.int c u) e/\(e=true↔a=c) :=
 ⟨(a == c),SeqAt.EqAt.int_int a t c u,by simp⟩
theorem GB(A:Around)(s:Shared)(a:Int)(t:Tok)(c:Int)(u:Tok)(prog:Program)(w:World)(E:Value->Shared->Prop)(Q:Value->Shared->Prop)(h:Q (.bool (decide (a<c))) s) :
  wpAny (model prog w) A (richCompare .Lt (.int a t) (.int c u)) Q E s :=
 (PyProof.Rows.lt_int h:wpAny (model prog w) A (compareOp .Lt (.int a t) (.int c u)) Q E s)
section
open PySem.SeqAt
open PySem.AutoSeq1 (wpAny_loadPart')
open PySem.MeetsSeq PySem.MeetsSeq2 PySem.MeetsSeq3
theorem rJ(l b:Addr)(items items2:Array Value)(n n2:Nat)(dd dd2:Option Addr)(sl sl2:Array (Option Value))(ns ms:List Int)(hi:IntsAre items.toList ns)(hj:IntsAre items2.toList ms) :
  Meets (Builtin.«tuple.__lt__» ⟨[.ref l,.ref b],[]⟩)
   (λ_ R s=>s.heap.get? l=some { cls:=.type "tuple",dict:=dd,data:=.seq items n,slots:=sl }/\s.heap.get? b=some { cls:=.type "tuple",dict:=dd2,data:=.seq items2 n2,slots:=sl2 }/\
    R (.ok (.ret (.bool (lexLt ns ms)))) s) :=
 .of_wp λprog w A R s h=>by
  obtain⟨hp,g,d,tk,os⟩:=s;obtain⟨hl,hb,h⟩:=h
  have f2:=AutoSeq1.sub_tuple_tuple
  have z1:items.size=ns.length:=by rw[← hi.length];simp
  have z2:items2.size=ms.length:=by rw[← hj.length];simp
  wp_walk using wpAny_loadPart' hl,wpAny_loadPart' hb,wpAny_forIn_list _ (λrest b s'=>b.1=none/\s'=⟨hp,g,d,tk,os⟩/\∃(vs ws:List Value) (ns' ms':List Int),rest=vs.zip ws/\
   IntsAre vs ns'/\IntsAre ws ms'/\ns'.length+items2.size=ms'.length+items.size/\R (.ok (.ret (.bool (lexLt ns' ms')))) ⟨hp,g,d,tk,os⟩) _
  case turn=>
   rintro⟨y,x⟩ rest b s' ⟨hb',rfl,vs,ws,ns',ms',hz,hvi,hwi,hlen,hR⟩
   cases hvi with
   |nil=>rw[List.zip_nil_left] at hz;cases hz
   |cons a t hvi'=>
    cases hwi with
    |nil=>rw[List.zip_nil_right] at hz;cases hz
    |cons c u hwi'=>
     rw[List.zip_cons_cons] at hz
     injection hz with hyx hrest
     injection hyx with hy hx
     subst hy hx
     rw[xG] at hR
     simp only[List.length_cons] at hlen
     obtain⟨e,he,hiff⟩:=rA A.in1 ⟨hp,g,d,tk,os⟩ a t c u
     refine wpAny_bind (he prog w _ _ ?_)
     cases e with
     |true=>
      rw[if_pos (hiff.mp rfl)] at hR
      wp_walk
      exact⟨rfl,rfl,_,_,_,_,hrest,hvi',hwi',by lia,hR⟩
     |false=>
      rw[if_neg (λq=>absurd (hiff.mpr q) Bool.false_ne_true)] at hR
      have hri:=GB A.in1 ⟨hp,g,d,tk,os⟩ a t c u prog w
      wp_walk using hri
      exact⟨_,rfl,by simpa using hR⟩
  case fin=>
   rintro⟨b1,b2⟩ s' ⟨hb',rfl,vs,ws,ns',ms',hz,hvi,hwi,hlen,hR⟩
   simp only at hb'
   subst hb'
   have hv:lexLt ns' ms'=decide (items.size<items2.size):=by
    cases hvi with
    |nil=>
     cases hwi with
     |nil=>
      simp only[List.length_nil] at hlen
      rw[rM]
      exact(decide_eq_false (by lia)).symm
     |cons c u hw=>
      simp only[List.length_nil,List.length_cons] at hlen
      rw[qA]
      exact(decide_eq_true (by lia)).symm
    |cons a t hv=>
     cases hwi with
     |nil=>
      simp only[List.length_nil,List.length_cons] at hlen
      rw[qu]
      exact(decide_eq_false (by lia)).symm
     |cons c u hw=>
      rw[List.zip_cons_cons] at hz
      cases hz
   rw[hv] at hR
   wp_walk
   exact⟨_,rfl,by simpa [Builtin.Tuple.tupleCompareSizes] using hR⟩
  case h=>
   exact⟨rfl,rfl,items.toList,items2.toList,ns,ms,rfl,hi,hj,by lia,h⟩
end
section
variable {prog:Program}{w:World}{A:Around}{E:Value->Shared->Prop}{s:Shared}
theorem ya{l b:Addr}{items items2:Array Value}{ns ms:List Int}{Q:Value->Shared->Prop}(hl:IsTup s.heap l items)(hb:IsTup s.heap b items2)(hi:IntsAre items.toList ns)(hj:IntsAre items2.toList ms)
  (hu:A.units<cLine) (h:Q (.bool (lexLt ns ms)) s):wpAny (model prog w) A (compareOp .Lt (.ref l) (.ref b)) Q E s:=by
 obtain⟨⟨cls,dd,data,sl⟩,ho,hc,n,hd⟩:=id hl
 obtain⟨⟨cls2,dd2,data2,sl2⟩,ho2,hc2,n2,hd2⟩:=id hb
 simp only at hc hd hc2 hd2
 subst hc hd hc2 hd2
 exact richCompare_meets_room (op:=.Lt) ⟨_,ho,rfl⟩ ⟨_,ho2,rfl⟩ PySem.F.slot_tuple_lt PySem.F.entry_tuple_lt (PySem.F.args_tuple_lt_2 _ _) (rJ l b items items2 n n2 dd dd2 sl sl2 ns ms hi hj)
  ⟨ho,ho2,show Value.bool (lexLt ns ms)≠Value.notImplemented/\Q (.bool (lexLt ns ms)) s from ⟨(λx=>nomatch x),h⟩⟩ hu
def vD(n d:Nat):Option Int->Nat
 |none=>d
 |some v=>if v<0 then (v+(n:Int)).toNat else min v.toNat n
theorem wj(n d:Nat):vD n d none=d:=rfl
theorem pe(n d k:Nat):vD n d (some (k:Int))=min k n:=by
 show (if (k:Int)<0 then ((k:Int)+(n:Int)).toNat else min (k:Int).toNat n)=min k n
 rw[if_neg (by lia),Int.toNat_natCast]
end
end HT
namespace L2
open PySem PySem.Spec PyProof.Rows
abbrev TO:=St->Hp->(Option Int->Hp->Prop)->Prop
def PO(X:Cx)(e:Option Expr)(t:TO):Prop :=
 ∀(pins:List (Addr×Obj)) (s:Shared) (Z:St) (H:Hp) (Q:Option Int->Hp->Prop),Inv X pins Z H s->t Z H Q->
  wpAny (model X.prog X.w) X.A (evalPart e X.env) (λu s'=>∃o H',Inv X pins Z H' s'/\IsPart u o/\Q o H') X.xe s
def zP:TO:=λ_ H Q=>Q none H
def J5(t:TE):TO:=λZ H Q=>t Z H λx H1=>∃i,x=.int i/\Q (some i) H1
theorem intsAre_of{ns:List Int}:∀{us:List Value},Vals (ns.map V.int) us->IntsAre us ns:=by
 induction ns with
 |nil=>intro us r;rw[List.map_nil] at r;cases r;exact .nil
 |cons n ns ih=>
  intro us r
  rw[List.map_cons] at r
  cases r with
  |cons r1 r2=>
   obtain⟨t,e⟩:=r1
   subst e
   exact .cons n t (ih r2)
section
variable {X:Cx}{e:Expr}{te:TE}{lo hi:Option Expr}{tl th:TO}{pos p2:Pos}
theorem gj:PO X none zP:=by
 intro pins s Z H Q I h
 rw[evalPart_none]
 exact wpAny_pure ⟨none,H,I,.none,h⟩
theorem cM(h:PE X e te):PO X (some e) (J5 te):=by
 intro pins s Z H Q I hw
 rw[evalPart_some]
 refine cU (h pins s Z H _ I hw) λu s1  hZ=>?_
 obtain⟨x,H1,I1,r1,q1⟩:=hZ
 obtain⟨i,rfl,q⟩:=q1
 obtain⟨t,rfl⟩:=r1
 exact⟨some i,H1,I1,.int i t,q⟩
def TN(X:Cx)(r:V->Option Int->Option Int->Hp->VK->Prop):Prop :=
 ∀(pins:List (Addr×Obj)) (s:Shared) (Z:St) (H:Hp) (x:V) (v vl vu:Value) (lo hi:Option Int) (sl:Addr) (Q:VK),Inv X pins Z H s->RelV x v->s.heap.IsSliceOf sl vl vu .none->IsPart vl lo->IsPart vu hi->r x lo hi H Q->
  ∃T id,typeLookup (.type T) "__getitem__" = pure (some (.builtin id))/\s.TypeIs v T/\wpAny (model X.prog X.w) X.A (getItem v (.ref sl)) (EP X pins Z Q) X.xe s
def tSl(r:V->Option Int->Option Int->Hp->VK->Prop)(te:TE)(tl th:TO):TE:=λZ H Q=>te Z H λx H1=>tl Z H1 λl H2=>th Z H2 λu H3=>r x l u H3 Q
theorem cT{r:V->Option Int->Option Int->Hp->VK->Prop}(hr:TN X r)(he:PE X e te)(hl:PO X lo tl)(hu:PO X hi th):PE X (.Subscript e (.Slice lo hi none p2) pos) (tSl r te tl th):=by
 intro pins s Z H Q I h
 refine Subscript_ (cU (he pins s Z H _ I h) λv s1  hZ=>?_)
 obtain⟨x,H1,I1,r1,q1⟩:=hZ
 refine wpAny_Slice (cU (hl pins s1 Z H1 _ I1 q1) λvl s2 ⟨l,H2,I2,pl,q2⟩=>cU (hu pins s2 Z H2 _ I2 q2) λvu s3  hZ=>?_)
 obtain⟨u,H3,I3,pu,q3⟩:=hZ
 rw[evalPart_none]
 refine wpAny_pure ?_
 have I4:Inv X pins Z H3 { s3 with heap:=s3.heap.push { cls:=.type "slice",data:=.fields #[vl,vu,.none] } }:=I3.kept (t':=s3.toks) λb ob q=>Heap.get?_push_of_some _ q
 obtain⟨T,id,hT,ht,hg⟩:=hr pins { s3 with heap:=s3.heap.push { cls:=.type "slice",data:=.fields #[vl,vu,.none] } } Z H3 x v vl vu l u s3.heap.objs.size Q I4 r1 (Heap.IsSliceOf.new ..) pl pu q3
 show wpAny (model X.prog X.w) X.A (subscriptTail e (.Slice lo hi none p2) v (.ref s3.heap.objs.size)) (EP X pins Z Q) X.xe { s3 with heap:=s3.heap.push { cls:=.type "slice",data:=.fields #[vl,vu,.none] } }
 exact tail_any (ops:=[.ref s3.heap.objs.size,v]) ht hT hg (by with_unfolding_all rfl)
def cz(xs:List V)(lo hi:Option Int):List V:=(xs.drop (HT.vD xs.length 0 lo)).take (HT.vD xs.length xs.length hi-HT.vD xs.length 0 lo)
theorem vL(xs:List V)(lo hi:Option Int):(cz xs lo hi).length<=xs.length:=by
 unfold cz
 rw[List.length_take,List.length_drop]
 lia
def Tz(K:PySem.W.Frag):R2:=λx y H Q=>∃a b ns ms,x=.ref a/\y=.ref b/\dO K H a (ns.map V.int)/\dO K H b (ms.map V.int)/\Q (.bl (HT.lexLt ns ms)) H
theorem MC(hu:X.A.units<cLine):lA X (compareOp .Lt) (Tz X.K):=by
 intro pins s Z H x y v u Q I rx ry h
 obtain⟨a,b,ns,ms,rfl,rfl,ha,hb,q⟩:=h
 cases rx
 cases ry
 obtain⟨its,r1,p1,_⟩:=I.tuple ha
 obtain⟨its2,r2,p2,_⟩:=I.tuple hb
 have i1:IntsAre its.toArray.toList ns:=intsAre_of r1
 have i2:IntsAre its2.toArray.toList ms:=intsAre_of r2
 exact HT.ya p1 p2 i1 i2 hu ⟨.bl (HT.lexLt ns ms),H,I,rfl,q⟩
end
def Az(n:Nat)(i:Int):Option Nat:=if 0<=i then (if i<n then some i.toNat else none) else if -(n:Int)<=i then some (i+n).toNat else none
def rO{α:Type}(xs:List α)(i:Int):Option α:=(Az xs.length i).bind λj=>xs[j]?
theorem zG{n:Nat}{i:Int}{j:Nat}(h:Az n i=some j):seqIndex? i n=some j/\j<n /\ -(n:Int)<=i/\i<n:=by
 unfold Az at h
 by_cases h0:0<=i
 ·rw[if_pos h0] at h
  by_cases h1:i<n
  ·rw[if_pos h1] at h
   have e:i.toNat=j:=Option.some.inj h
   exact⟨by rw[seqIndex_of h0 h1,e],by lia,by lia,h1⟩
  ·rw[if_neg h1] at h;cases h
 ·rw[if_neg h0] at h
  by_cases h1:-(n:Int)<=i
  ·rw[if_pos h1] at h
   have e:(i+n).toNat=j:=Option.some.inj h
   exact⟨by rw[seqIndex_neg (by lia) h1,e],by lia,h1,by lia⟩
  ·rw[if_neg h1] at h;cases h
theorem uD{α:Type}{xs:List α}{i:Int}{v:α}(h:rO xs i=some v):∃j,seqIndex? i xs.length=some j/\xs[j]?=some v/\j<xs.length /\ -(xs.length:Int)<=i/\i<xs.length:=by
 unfold rO at h
 cases e:Az xs.length i with
 |none=>rw[e] at h;cases h
 |some j=>
  rw[e] at h
  obtain⟨h1,h2,h3,h4⟩:=zG e
  exact⟨j,h1,h,h2,h3,h4⟩
theorem aH{α:Type}{xs:List α}{j:Nat}{v:α}(h:xs[j]?=some v):rO xs (j:Int)=some v:=by
 have hj:j<xs.length:=(List.getElem?_eq_some_iff.mp h).1
 have e:Az xs.length (j:Int)=some j:=by
  unfold Az
  rw[if_pos (by lia),if_pos (by lia)];simp
 unfold rO;rw[e];exact h
def GW(b:Expr):Prop:=∀o i,subscripted b false o i=operate [o,i] (getItem o i)
def Rm(X:Cx)(r:R2):Prop :=
 ∀(value slice:Expr) (pins:List (Addr×Obj)) (s:Shared) (Z:St) (H:Hp) (x y:V) (v u:Value) (Q:VK),Inv X pins Z H s->RelV x v->RelV y u->r x y H Q->
  subscripted slice false v u=operate [v,u] (getItem v u)->wpAny (model X.prog X.w) X.A (subscriptTail value slice v u) (EP X pins Z Q) X.xe s
def Qc(X:Cx)(id:String)(r:V->List V->Hp->VK->Prop):Prop :=
 ∀(pins:List (Addr×Obj)) (s:Shared) (Z:St) (H:Hp) (x:V) (xs:List V) (v:Value) (us:List Value) (Q:VK),Inv X pins Z H s->RelV x v->Vals xs us->r x xs H Q->
  wpAny (model X.prog X.w) X.A (call (.builtin id) (v::us)) (EP X pins Z Q) X.xe s
section
variable {X:Cx}{a b:Expr}{ta tb:TE}{pos:Pos}
theorem aR{r:R2}(hr:Rm X r)(ha:PE X a ta)(hb:PE X b tb)(hs:GW b):PE X (.Subscript a b pos) (QA r ta tb):=by
 intro pins s Z H Q I h
 exact Subscript_ (ME ha hb I h λv u s2 x y H2 I2 rx ry q=>hr a b pins s2 Z H2 x y v u Q I2 rx ry q (hs _ _))
def Hy(K:PySem.W.Frag):R2:=λx y H Q=>∃p xs i v,x=.ref p/\y=.int i/\bg K H p xs/\rO xs i=some v/\Q v H
def SO(K:PySem.W.Frag):R2:=λx y H Q=>∃p xs i v,x=.ref p/\y=.int i/\dO K H p xs/\rO xs i=some v/\Q v H
def S0:R2:=λx y H Q=>∃z i c,x=.str z/\y=.int i/\z.length<=sizeLine/\rO z.cps.toList i=some c/\Q (.str ⟨#[c]⟩) H
theorem aL:Rm X (Hy X.K):=by
 intro value slice pins s Z H x y v u Q I rx ry h hs
 obtain⟨p,xs,i,z,rfl,rfl,hq,he,q⟩:=h
 cases rx
 obtain⟨t,rfl⟩:=ry
 obtain⟨its,r,pl,hz⟩:=I.list hq
 obtain⟨j,h1,h2,h3,h4,h5⟩:=uD he
 obtain⟨w,ew,rw'⟩:=r.get h2
 have hl:=r.length
 have hn:=lS
 have fin:EP X pins Z Q w s:=⟨z,H,I,rw',q⟩
 by_cases h0:0<=i
 ·have hj:i.toNat=j:=by
   rw[seqIndex_of h0 h5] at h1
   exact Option.some.inj h1
  exact item_listR pl.isList h0 (by lia) (by rw[hj];simpa using ew) fin hs
 ·have hj:(i+(its.toArray.size:Int)).toNat=j:=by
   rw[seqIndex_neg (by lia) h4] at h1
   rw[List.size_toArray,← hl]
   exact Option.some.inj h1
  exact subscriptTail_builtinR (x:=w) pl.isList.typeIs slot_list_getitem.lookup
   (wpAny_getItem_list_neg (Q:=λr s'=>r=w/\EP X pins Z Q r s') pl.isList (by lia) (by rw[List.size_toArray] <;> lia) (by lia) (by rw[hj];simpa using ew) ⟨rfl,fin⟩) hs
theorem cu:Rm X (SO X.K):=by
 intro value slice pins s Z H x y v u Q I rx ry h hs
 obtain⟨p,xs,i,z,rfl,rfl,hq,he,q⟩:=h
 cases rx
 obtain⟨t,rfl⟩:=ry
 obtain⟨its,r,pl,hz⟩:=I.tuple hq
 obtain⟨j,h1,h2,h3,h4,h5⟩:=uD he
 obtain⟨w,ew,rw'⟩:=r.get h2
 have hl:=r.length
 have hn:=lS
 have fin:EP X pins Z Q w s:=⟨z,H,I,rw',q⟩
 exact subscriptTail_builtinR (x:=w) pl.typeIs slot_tuple_getitem.lookup
  (getItem_tuple (j:=j) (Q:=λr s'=>r=w/\EP X pins Z Q r s') pl (by lia) (by lia) (by rw[List.size_toArray,← hl];exact h1) (by simpa using ew) ⟨rfl,fin⟩) hs
theorem uE:Rm X S0:=by
 intro value slice pins s Z H x y v u Q I rx ry h hs
 obtain⟨z,i,c,rfl,rfl,hz,he,q⟩:=h
 obtain⟨t,rfl⟩:=rx
 obtain⟨t',rfl⟩:=ry
 obtain⟨j,h1,h2,h3,h4,h5⟩:=uD he
 have hl:z.cps.toList.length=z.length:=by simp[Str.length]
 rw[hl] at h1 h4 h5
 have hn:=lS
 exact tail_any (typeIs_str s z t) slot_str_getitem.lookup (getItem_str (c:=c) (by
  have e1:decide (i < -(2 ^ 63:Int))=false:=decide_eq_false (by lia)
  have e2:decide (i ≥ 2 ^ 63)=false:=decide_eq_false (by lia)
  rw[e1,e2,Bool.or_false]) (by rw[h1];simpa using h2) ⟨.str ⟨#[c]⟩,H,I.tok _,⟨_,rfl⟩,q⟩) hs
theorem xm (its:List Value) (n j:Nat) (u:Value):Obj.mapSeq (·.setIfInBounds j u) { cls:=.type "list",data:=.seq its.toArray n } = { cls:=.type "list",data:=.seq (its.set j u).toArray n }:=by
 simp[Obj.mapSeq]
theorem Inv.lst{pins:List (Addr×Obj)}{Z:St}{H:Hp}{s:Shared}{p:Addr}{xs:List V}(I:Inv X pins Z H s)(h:H p=some (.lst xs)) :
  ∃(its:List Value) (n:Nat),Vals xs its/\s.heap.get? p=some { cls:=.type "list",data:=.seq its.toArray n }/\xs.length<=sizeLine:=by
 obtain⟨z,its,n,r,e⟩:=I.hok p _ h
 exact⟨its,n,r,e,z⟩
theorem Inv.Qg{pins:List (Addr×Obj)}{Z:St}{H:Hp}{s:Shared}{p:Addr}{xs ys:List V}{its its':List Value}{n n':Nat}{f:Obj->Obj}(I:Inv X pins Z H s)(h:H p=some (.lst xs))
  (ho:s.heap.get? p=some { cls:=.type "list",data:=.seq its.toArray n }) (hf:f { cls:=.type "list",data:=.seq its.toArray n } = { cls:=.type "list",data:=.seq its'.toArray n' }) (r:Vals ys its') (hz:ys.length<=sizeLine) (t:Nat) :
  Inv X pins Z (upd H p (.lst ys)) { s with heap:=s.heap.update p f,toks:=t }:=by
 have e:(s.heap.update p f).get? p=some { cls:=.type "list",data:=.seq its'.toArray n' }:=by
  rw[Heap.get?_update_self f ho (by rw[hf] <;> rfl),hf]
 refine I.write (x:=p) (e:=p) (by rw[h];trivial) (.inl rfl) (λb u hb q=>(Heap.get?_update_other _ _ (Ne.symm hb)).trans q) ⟨_,e⟩ ?_
 exact⟨hz,its',n',r,e⟩
def SV:V->V->V->Hp->(Hp->Prop)->Prop:=λo i v H Q=>∃p xs k j,o=.ref p/\i=.int k/\H p=some (.lst xs)/\Az xs.length k=some j/\Q (upd H p (.lst (xs.set j v)))
theorem set_list:RI X SV:=by
 intro pins s Z H o i v ov iv u Q I ro ri rv h
 obtain⟨p,xs,k,j,rfl,rfl,hp,hj,q⟩:=h
 cases ro
 obtain⟨t,rfl⟩:=ri
 obtain⟨its,n,r,ho,hz⟩:=I.lst hp
 obtain⟨h1,h2,h3,h4⟩:=zG hj
 have hl:=r.length
 have hn:=lS
 have I':Inv X pins Z (upd H p (.lst (xs.set j v))) { s with heap:=s.heap.update p (Obj.mapSeq (·.setIfInBounds j u)) } :=
  I.Qg hp ho (xm its n j u) (r.set rv j) (by rw[List.length_set];exact hz) s.toks
 by_cases h0:0<=k
 ·have hk:k.toNat=j:=by
   rw[seqIndex_of h0 h4] at h1
   exact Option.some.inj h1
  exact PySem.W.ki_setAt ho h0 (by lia) (by rw[List.size_toArray,← hl];exact h4) (by rw[hk];exact⟨_,I',q⟩)
 ·have hk:(k+(its.toArray.size:Int)).toNat=j:=by
   rw[seqIndex_neg (by lia) h3] at h1
   rw[List.size_toArray,← hl]
   exact Option.some.inj h1
  exact PySem.W.ki_setBack ho (by lia) (by rw[List.size_toArray,← hl];exact h3) (by lia) (by rw[hk];exact⟨_,I',q⟩)
theorem uv(lo hi:Option Int)(n:Nat):(sliceBounds lo hi none n).1=((HT.vD n 0 lo:Nat):Int)/\(sliceBounds lo hi none n).2.1=((HT.vD n n hi:Nat):Int)/\(sliceBounds lo hi none n).2.2=1:=by
 refine⟨?_,?_,rfl⟩
 ·cases lo with
  |none=>simp[sliceBounds,HT.vD]
  |some i=>
   simp only[sliceBounds,HT.vD,Option.getD_none,show (1:Int)>0 by decide,if_true]
   by_cases h:i<0
   ·simp only[h,if_true] <;> lia
   ·simp only[h,if_false] <;> lia
 ·cases hi with
  |none=>simp[sliceBounds,HT.vD]
  |some i=>
   simp only[sliceBounds,HT.vD,Option.getD_none,show (1:Int)>0 by decide,if_true]
   by_cases h:i<0
   ·simp only[h,if_true] <;> lia
   ·simp only[h,if_false] <;> lia
theorem rL(its:List Value)(lo hi:Option Int):slicePick its.toArray lo hi none=((its.drop (HT.vD its.length 0 lo)).take (HT.vD its.length its.length hi-HT.vD its.length 0 lo)).toArray:=by
 obtain⟨h1,h2,h3⟩:=uv lo hi its.toArray.size
 unfold slicePick
 rw[h1,h2,h3]
 simp only[sliceRange_one,pick_run,List.size_toArray] <;> rfl
def To(K:PySem.W.Frag):V->Option Int->Option Int->Hp->VK->Prop:=λx lo hi H Q=>∃a xs,x=.ref a/\bg K H a xs/\∀p,H p=none->Q (.ref p) (upd H p (.lst (cz xs lo hi)))
theorem gS:TN X (To X.K):=by
 intro pins s Z H x v vl vu lo hi sl Q I rx hs pl pu h
 obtain⟨a,xs,rfl,hx,q⟩:=h
 cases rx
 obtain⟨its,r,ht,hz⟩:=I.list hx
 have hlen:=r.length
 refine⟨"list",_,slot_list_getitem.lookup,ht.isList.typeIs,?_⟩
 refine wpAny_getItem_list_slice ht.isList hs pl pu .none (by simp) ?_ (by rw[List.size_toArray] <;> lia)
 rw[rL,← hlen]
 refine⟨.ref s.heap.objs.size,_,I.laid (t':=s.toks) (o:=.lst (cz xs lo hi)) (λb ob q=>Heap.get?_push_of_some _ q) (Nat.le_refl _) ?_,rfl,q _ (I.hok.fresh (Nat.le_refl _))⟩
 exact⟨Nat.le_trans (vL xs lo hi) hz,_,0,(r.drop (HT.vD xs.length 0 lo)).take (HT.vD xs.length xs.length hi-HT.vD xs.length 0 lo),Heap.get?_push_size _ rfl⟩
def iT:V->Bool
 |.cW=>true
 |.bl _=>true
 |.int _=>true
 |.str _=>true
 |_=>false
def Bd:V->V->Bool
 |.cW,.cW=>true
 |.bl a,.bl b=>a == b
 |.bl a,.int b=>(if a then 1 else 0) == b
 |.int a,.bl b=>a == (if b then 1 else 0)
 |.int a,.int b=>a == b
 |.str a,.str b=>a == b
 |_,_=>false
theorem yi{A:Around}{s:Shared}{y x:V}{u v:Value}(ry:RelV y u)(rx:RelV x v)(fy:iT y=true)(fx:iT x=true):SeqAt.EqAt A s u v (Bd y x):=by
 cases y with
 |cW=>
  cases ry
  cases x with
  |cW=>cases rx;exact SeqAt.EqAt.same _
  |bl b=>cases rx;exact SeqAt.EqAt.none_bool b
  |int b=>obtain⟨t,rfl⟩:=rx;exact SeqAt.EqAt.none_int b t
  |str b=>obtain⟨t,rfl⟩:=rx;exact SeqAt.EqAt.none_str b t
  |_=>exact absurd (show false=true from fx) Bool.false_ne_true
 |bl a=>
  cases ry
  cases x with
  |cW=>cases rx;exact SeqAt.EqAt.bool_none a
  |bl b=>cases rx;exact SeqAt.EqAt.bool_bool a b
  |int b=>obtain⟨t,rfl⟩:=rx;exact SeqAt.EqAt.bool_int a b t
  |str b=>obtain⟨t,rfl⟩:=rx;exact SeqAt.EqAt.bool_str a b t
  |_=>exact absurd (show false=true from fx) Bool.false_ne_true
 |int a=>
  obtain⟨t',rfl⟩:=ry
  cases x with
  |cW=>cases rx;exact SeqAt.EqAt.int_none a t'
  |bl b=>cases rx;exact SeqAt.EqAt.int_bool a t' b
  |int b=>obtain⟨t,rfl⟩:=rx;exact SeqAt.EqAt.int_int a t' b t
  |str b=>obtain⟨t,rfl⟩:=rx;exact SeqAt.EqAt.int_str a t' b t
  |_=>exact absurd (show false=true from fx) Bool.false_ne_true
 |str a=>
  obtain⟨t',rfl⟩:=ry
  cases x with
  |cW=>cases rx;exact SeqAt.EqAt.str_none a t'
  |bl b=>cases rx;exact SeqAt.EqAt.str_bool a t' b
  |int b=>obtain⟨t,rfl⟩:=rx;exact SeqAt.EqAt.str_int a t' b t
  |str b=>obtain⟨t,rfl⟩:=rx;exact SeqAt.EqAt.str_str a t' b t
  |_=>exact absurd (show false=true from fx) Bool.false_ne_true
 |_=>exact absurd (show false=true from fy) Bool.false_ne_true
def yF(x:V)(u:Value):Bool:=match u with
 |.none=>Bd .cW x
 |.bool b=>Bd (.bl b) x
 |.int i _=>Bd (.int i) x
 |.str z _=>Bd (.str z) x
 |_=>false
theorem BX{x y:V}{u:Value}(r:RelV y u)(f:iT y=true):yF x u=Bd y x:=by
 cases y with
 |cW=>cases r;rfl
 |bl b=>cases r;rfl
 |int i=>obtain⟨t,rfl⟩:=r;rfl
 |str z=>obtain⟨t,rfl⟩:=r;rfl
 |_=>exact absurd (show false=true from f) Bool.false_ne_true
theorem mU{x:V}:∀{xs:List V} {us:List Value},Vals xs us->xs.all iT=true->us.any (yF x)=xs.any λy=>Bd y x
 |_,_,.nil,_=>rfl
 |y::xs,u::us,.cons r t,f=>by
  rw[List.all_cons,Bool.and_eq_true] at f
  rw[List.any_cons,List.any_cons,BX r f.1,mU t f.2]
theorem j6{A:Around}{s:Shared}{x:V}{v:Value}(rx:RelV x v)(fx:iT x=true):∀{xs:List V} {us:List Value},Vals xs us->xs.all iT=true->∀u∈us,SeqAt.EqAt A s u v (yF x u)
 |_,_,.nil,_=>λu hu=>by cases hu
 |y::xs,u::us,.cons r t,f=>λu' hu=>by
  rw[List.all_cons,Bool.and_eq_true] at f
  rcases List.mem_cons.mp hu with rfl|hu
  ·rw[BX r f.1];exact yi r rx f.1 fx
  ·exact j6 rx fx t f.2 u' hu
def Oh(x:V)(xs:List V):Bool:=xs.any λy=>Bd y x
def TQ(K:PySem.W.Frag)(neg:Bool):R2:=λx y H Q=>∃p xs,y=.ref p/\(bg K H p xs∨dO K H p xs)/\iT x=true/\xs.all iT=true/\Q (.bl (if neg then !Oh x xs else Oh x xs)) H
theorem tT:lA X (compareOp .In) (TQ X.K false):=by
 intro pins s Z H x y v u Q I rx ry h
 obtain⟨p,xs,rfl,hq,fx,fs,q⟩:=h
 cases ry
 rcases hq with hq|hq
 ·obtain⟨its,r,pl,hz⟩:=I.list hq
  refine SeqAt.in_listAt (yF x) pl.isList (λw hw=>j6 rx fx r fs w (by simpa using hw)) ⟨.bl _,H,I,rfl,?_⟩
  rw[show its.toArray.any (yF x)=its.any (yF x) by simp,mU r fs]
  exact q
 ·obtain⟨its,r,pl,hz⟩:=I.tuple hq
  refine SeqAt.in_tupleAt (yF x) pl (λw hw=>j6 rx fx r fs w (by simpa using hw)) ⟨.bl _,H,I,rfl,?_⟩
  rw[show its.toArray.any (yF x)=its.any (yF x) by simp,mU r fs]
  exact q
theorem nq:lA X (compareOp .NotIn) (TQ X.K true):=by
 intro pins s Z H x y v u Q I rx ry h
 obtain⟨p,xs,rfl,hq,fx,fs,q⟩:=h
 cases ry
 rcases hq with hq|hq
 ·obtain⟨its,r,pl,hz⟩:=I.list hq
  refine SeqAt.notIn_listAt (yF x) pl.isList (λw hw=>j6 rx fx r fs w (by simpa using hw)) ⟨.bl _,H,I,rfl,?_⟩
  rw[show its.toArray.any (yF x)=its.any (yF x) by simp,mU r fs]
  exact q
 ·obtain⟨its,r,pl,hz⟩:=I.tuple hq
  refine SeqAt.notIn_tupleAt (yF x) pl (λw hw=>j6 rx fx r fs w (by simpa using hw)) ⟨.bl _,H,I,rfl,?_⟩
  rw[show its.toArray.any (yF x)=its.any (yF x) by simp,mU r fs]
  exact q
theorem bh:ic X (.builtin "len") (λxs H Q=>∃p ys,xs=[.ref p]/\(bg X.K H p ys∨dO X.K H p ys)/\Q (.int ys.length) H):=by
 intro pins s Z H xs us Q I r h
 obtain⟨p,ys,rfl,hq,q⟩:=h
 obtain⟨u,rfl,rx⟩:=vals1 r
 cases rx
 have hn:=lS
 rcases hq with hq|hq
 ·obtain⟨its,r',pl,hz⟩:=I.list hq
  have hlen:=r'.length
  exact Calls.call_len_list pl.isList (by simp only[List.size_toArray] <;> lia) ⟨.int ys.length,H,I.tok _,⟨s.toks+1,by rw[List.size_toArray,hlen]⟩,q⟩
 ·obtain⟨its,r',pl,hz⟩:=I.tuple hq
  have hlen:=r'.length
  exact len_tuple pl (by simp only[List.size_toArray] <;> lia) ⟨.int ys.length,H,I.tok _,⟨s.toks+1,by rw[List.size_toArray,hlen]⟩,q⟩
theorem bz:ic X (.builtin "len") (λxs H Q=>∃z,xs=[.str z]/\z.length<=sizeLine/\Q (.int z.length) H):=by
 intro pins s Z H xs us Q I r h
 obtain⟨z,rfl,hz,q⟩:=h
 obtain⟨u,rfl,t,rfl⟩:=vals1 r
 have hn:=lS
 exact len_str (by lia) ⟨.int z.length,H,I.tok _,⟨_,rfl⟩,q⟩
theorem iF:ic X (.type "list") (λxs H Q=>∃p ys,xs=[.ref p]/\(bg X.K H p ys∨dO X.K H p ys)/\∀l,H l=none->Q (.ref l) (upd H l (.lst ys))):=by
 intro pins s Z H xs us Q I r h
 obtain⟨p,ys,rfl,hq,q⟩:=h
 obtain⟨u,rfl,rx⟩:=vals1 r
 cases rx
 have fin:∀(its:List Value),Vals ys its->ys.length<=sizeLine->∀(h':Heap) (c':Nat),(∀b o',s.heap.get? b=some o'->h'.get? b=some o')->
   h'.get? s.heap.objs.size=some { cls:=.type "list",dict:=none,data:=.seq its.toArray c',slots:=#[] }->EP X pins Z Q (.ref s.heap.objs.size) { s with heap:=h' }:=λits r' hz h' c' kp e=>
  ⟨.ref s.heap.objs.size,_,I.laid (t':=s.toks) kp (Nat.le_refl _) (show cL X.prog X.w _ h' _ (.lst ys) from ⟨hz,its,c',r',e⟩),rfl,q _ (I.hok.fresh (Nat.le_refl _))⟩
 rcases hq with hq|hq
 ·obtain⟨its,r',pl,hz⟩:=I.list hq
  have hlen:=r'.length
  obtain⟨o,ho,hc,n,hd⟩:=pl.isList
  exact call_list_seq p (.inl rfl) ho hc hd (λh' c' kp e=>fin its r' hz h' c' kp e) (by simp only[List.size_toArray] <;> lia)
 ·obtain⟨its,r',pl,hz⟩:=I.tuple hq
  have hlen:=r'.length
  obtain⟨o,ho,hc,n,hd⟩:=pl
  exact call_list_seq p (.inr rfl) ho hc hd (λh' c' kp e=>fin its r' hz h' c' kp e) (by simp only[List.size_toArray] <;> lia)
def Up(K:PySem.W.Frag)(T:String)(x:V)(H:Hp):Prop:=match x with
 |.str _=>T = "str"
 |.int _=>T = "int"
 |.ref p=>(T = "list" /\ ∃xs,bg K H p xs)∨(T = "tuple" /\ ∃o,K.lookup p=some o/\o.cls=.type "tuple" /\ o.dict=none)∨
   (T = "dict" /\ ((∃kvs,H p=some (.dK kvs))∨∃kvs,H p=some (.dT kvs)))∨(T = "set" /\ ∃S n,H p=some (.set S n))
 |_=>False
theorem CS{pins:List (Addr×Obj)}{Z:St}{H:Hp}{s:Shared}{T:String}{x:V}{v:Value}(I:Inv X pins Z H s)(r:RelV x v)(ty:Up X.K T x H) :
  s.TypeIs v T/\∀a,v=.ref a->∃ob,s.heap.get? a=some ob/\ob.dict=none:=by
 cases x with
 |str z=>
  obtain⟨t,rfl⟩:=r
  cases (show T = "str" from ty)
  exact⟨typeIs_str s z t,λ_ e=>nomatch e⟩
 |int i=>
  obtain⟨t,rfl⟩:=r
  cases (show T = "int" from ty)
  exact⟨typeIs_int s i t,λ_ e=>nomatch e⟩
 |ref p=>
  cases r
  rcases ty with ⟨rfl,xs,hq⟩|⟨rfl,o,hk,hc,hd⟩|⟨rfl,hk⟩|⟨rfl,S,n,hk⟩
  ·obtain⟨its,_,pl,_⟩:=I.list hq
   refine⟨pl.isList.typeIs,λa e=>?_⟩
   cases e
   obtain⟨o,n,e,c,hd,_⟩:=pl
   exact⟨o,e,hd⟩
  ·refine⟨⟨o,I.mK p o hk,hc⟩,λa e=>?_⟩
   cases e
   exact⟨o,I.mK _ o hk,hd⟩
  ·have z:∃o,s.heap.get? p=some o/\o.ExactDict:=by
    rcases hk with ⟨kvs,hk⟩|⟨kvs,hk⟩
    ·obtain⟨_,_,_,_,o,_,_,e,ex,_⟩:=I.hok p _ hk
     exact⟨o,e,ex⟩
    ·obtain⟨_,_,_,_,o,_,_,e,ex,_⟩:=I.hok p _ hk
     exact⟨o,e,ex⟩
   obtain⟨o,e,ex⟩:=z
   refine⟨⟨o,e,ex.1⟩,λa e2=>?_⟩
   cases e2
   exact⟨o,e,ex.2.1⟩
  ·obtain⟨o,_,_,_,e,ex,_⟩:=I.hok p _ hk
   refine⟨⟨o,e,ex.1⟩,λa e2=>?_⟩
   cases e2
   exact⟨o,e,ex.2.1⟩
 |_=>exact False.elim ty
def Sl(K:PySem.W.Frag)(T:String)(r:V->List V->Hp->VK->Prop)(to:TE):TE:=λZ H Q=>to Z H λx H1=>Up K T x H1/\r x [] H1 Q
def tBM(K:PySem.W.Frag)(T:String)(r:V->List V->Hp->VK->Prop)(to:TE)(t:TA):TE:=λZ H Q=>to Z H λx H1=>Up K T x H1/\t Z H1 λxs H2=>r x xs H2 Q
variable {o e:Expr}{es:List Expr}{to:TE}{t:TA}{name:Str}{apos cpos:Pos}{T id:String}{r:V->List V->Hp->VK->Prop}
theorem PU (pa:PlainAttrs T) (slot:Slot T name id) (hty:typeOf (.builtin id)=pure (.type "method_descriptor")) (hm:Qc X id r) (ho:PE X o to)
  (hbase:autoParam (attributeBase o name X.env (eval o X.env)=eval o X.env) L2.Y3._auto_1) (hline:autoParam ((apos.endLine == cpos.line)=true) L2.Y3._auto_1):PE X (.Call (.Attribute o name apos) [] [] cpos) (Sl X.K T r to):=by
 intro pins s Z H Q I h
 refine wpAny_Call_method0_late hbase hline (cU (ho pins s Z H _ I h) λv s1  hZ=>?_)
 obtain⟨x,H1,I1,r1,ty,q1⟩:=hZ
 obtain⟨h1,h2⟩:=CS I1 r1 ty
 exact⟨T,id,pa,slot,hty,h1,h2,Calls.callWith_builtin rfl (PySem.evalArgs_none (hm pins s1 Z H1 x [] v [] Q I1 r1 .nil q1))⟩
theorem dG (pa:PlainAttrs T) (slot:Slot T name id) (hty:typeOf (.builtin id)=pure (.type "method_descriptor")) (hm:Qc X id r) (ho:PE X o to) (ha:PA X (e::es) t)
  (hbase:autoParam (attributeBase o name X.env (eval o X.env)=eval o X.env) L2.Y3._auto_1)
  (hfew:autoParam (((backTo cpos (starEach (e::es) X.env)).all (λx=>!x.1) && (backToKw cpos (keywordEach [] X.env)).all (λx=>x.1.isSome)
   && decide ((e::es).length+([]:List Keyword).length+(if ([]:List Keyword).isEmpty then 0 else 1)<30))=true) L2.Y3._auto_1)
  (hline:autoParam ((apos.endLine == cpos.line)=true) L2.Y3._auto_1) (hs:autoParam (starEach (e::es) X.env=(false,eval e X.env)::starEach es X.env) L2.Y3._auto_1) (hplain:autoParam ((backTo cpos (starEach es X.env)).any (·.1)=false) L2.Y3._auto_1) :
  PE X (.Call (.Attribute o name apos) (e::es) [] cpos) (tBM X.K T r to t):=by
 intro pins s Z H Q I h
 refine wpAny_Call_method_late hbase hfew hline rfl (cU (ho pins s Z H _ I h) λv s1  hZ=>?_)
 obtain⟨x,H1,I1,r1,ty,q1⟩:=hZ
 obtain⟨h1,h2⟩:=CS I1 r1 ty
 refine⟨T,id,pa,slot,hty,h1,h2,?_⟩
 have hA:=ha cpos pins s1 Z H1 _ I1 q1
 rw[hs] at hA ⊢
 refine Calls.callWith_builtin (by show (false || (backTo cpos (starEach es X.env)).any (·.1))=false;rw[hplain] <;> rfl) (Calls.evalArgs_plain ?_)
 exact cU hA λus s2 ⟨vs,H2,I2,r2,q2⟩=>hm pins s2 Z H2 x vs v us Q I2 r1 r2 q2
end
def Uc(X:Cx)(id:String)(r:V->List V->Hp->VK->Prop):Prop :=
 ∀(pins:List (Addr×Obj)) (s:Shared) (Z:St) (H:Hp) (x:V) (xs:List V) (v:Value) (us:List Value) (Q:VK),Inv X pins Z H s->RelV x v->Vals xs us->r x xs H Q->
  wpAny (model X.prog X.w) X.A (call (.builtin id) (v::us)) (EP X pins Z Q) X.xe s
theorem Vals.one{x:V}{us:List Value}(h:Vals [x] us):∃u,us=[u]/\RelV x u:=by
 cases h with
 |cons r h=>
  cases h
  exact⟨_,rfl,r⟩
theorem Vals.two{x y:V}{us:List Value}(h:Vals [x,y] us):∃u v,us=[u,v]/\RelV x u/\RelV y v:=by
 cases h with
 |cons r h=>cases h with
  |cons q h=>
   cases h
   exact⟨_,_,rfl,r,q⟩
theorem Vals.zero:∀{us:List Value},Vals [] us->us=[]
 |_,.nil=>rfl
theorem Vals.dropLast{xs:List V}{us:List Value}(h:Vals xs us):Vals xs.dropLast us.dropLast:=by
 induction h with
 |nil=>exact .nil
 |cons r t ih=>
  cases t with
  |nil=>exact .nil
  |cons q t'=>exact .cons r ih
theorem Vals.rep{xs:List V}{us:List Value}(h:Vals xs us):∀k:Nat,Vals (List.replicate k xs).flatten (List.replicate k us).flatten
 |0=>.nil
 |k+1=>by
  rw[List.replicate_succ,List.replicate_succ,List.flatten_cons,List.flatten_cons]
  exact Vals.append h (Vals.rep h k)
theorem yV{α:Type}(l:List α):l.eraseIdx (l.length-1)=l.dropLast:=by
 induction l with
 |nil=>rfl
 |cons a r ih=>
  cases r with
  |nil=>rfl
  |cons b r=>
   have e:(a::b::r).length-1=((b::r).length-1)+1:=by
    have h1:(a::b::r).length=r.length+2:=rfl
    have h2:(b::r).length=r.length+1:=rfl
    lia
   rw[e,List.eraseIdx_cons_succ,ih]
   all_goals rfl
theorem foldl_rep(its:List Value):∀(k:Nat) (acc:List Value),
  List.foldl (λx1 x2=>x1++x2) acc.toArray (List.replicate k its.toArray)=(acc++(List.replicate k its).flatten).toArray
 |0,acc=>by simp
 |k+1,acc=>by
  have e:acc.toArray++its.toArray=(acc++its).toArray:=by simp
  have e2:(acc++its)++(List.replicate k its).flatten=acc++(List.replicate (k+1) its).flatten:=by
   rw[List.replicate_succ,List.flatten_cons,List.append_assoc]
  rw[← e2,← foldl_rep its k (acc++its),← e,List.replicate_succ,List.foldl_cons]
section
variable {X:Cx}{pins:List (Addr×Obj)}{Z:St}{H:Hp}{s:Shared}{l b:Addr}{xs ys zs:List V}
theorem Inv.NW{its its':List Value}{n:Nat}{f:Array Value->Array Value}{t':Nat}(I:Inv X pins Z H s)(hH:H l=some (.lst xs))
  (e:s.heap.get? l=some { cls:=.type "list",data:=.seq its.toArray n }) (hf:f its.toArray=its'.toArray) (hv:Vals ys its') (hz:ys.length<=sizeLine) :
  Inv X pins Z (upd H l (.lst ys)) { s with heap:=s.heap.update l (Obj.mapSeq f),toks:=t' }:=by
 have q:=PySem.IsL.update e f
 rw[hf] at q
 refine I.write (x:=l) (e:=l) (by rw[hH];exact trivial) (.inl rfl) (λb' u hb hu=>(Heap.get?_update_other s.heap (Obj.mapSeq f) (Ne.symm hb)).trans hu) ⟨_,q⟩ ?_
 exact⟨hz,its',_,hv,q⟩
theorem Inv.B4{its:List Value}{t':Nat}(I:Inv X pins Z H s)(hv:Vals ys its)(hz:ys.length<=sizeLine) :
  Inv X pins Z (upd H s.heap.objs.size (.lst ys)) { s with heap:=s.heap.push { cls:=.type "list",data:=.seq its.toArray },toks:=t' } :=
 I.laid (λ_ _ q=>Heap.get?_push_of_some _ q) (Nat.le_refl _) ⟨hz,its,0,hv,Heap.get?_push_size _ rfl⟩
theorem Inv.fresh(I:Inv X pins Z H s):H s.heap.objs.size=none:=I.hok.fresh (Nat.le_refl _)
theorem Inv.xD (I:Inv X pins Z H s) (hH:H l=some (.lst xs)):xs.length<=sizeLine/\∃(its:List Value) (n:Nat),Vals xs its/\xs.length=its.length/\s.heap.get? l=some { cls:=.type "list",data:=.seq its.toArray n }:=by
 obtain⟨z,its,n,r,e⟩:=I.hok l _ hH
 exact⟨z,its,n,r,r.length,e⟩
theorem vY{n:Nat}(h:n<=sizeLine):Builtin.List.listTooLong n=false:=by
 unfold Builtin.List.listTooLong
 exact decide_eq_false (by lia)
end
section
variable {X:Cx}
def GU:V->List V->Hp->VK->Prop:=λx vs H Q=>∃l xs y,x=.ref l/\vs=[y]/\H l=some (.lst xs)/\xs.length<sizeLine/\Q .cW (upd H l (.lst (xs++[y])))
theorem c8:Uc X "list.append" GU:=by
 intro pins s Z H x vs v us Q I rx rv h
 obtain⟨l,xs,y,rfl,rfl,hH,hz,q⟩:=h
 cases rx
 obtain⟨u,rfl,ru⟩:=rv.one
 obtain⟨z,its,n,r,hl,e⟩:=I.xD hH
 refine call_meets F.slot_list_append ⟨_,e,rfl⟩ F.entry_list_append (F.args_list_append_2 _ _) (PySem.list_append l its.toArray n u (by rw[List.size_toArray];lia)) ⟨e,?_⟩
 refine⟨.cW,_,I.NW (its':=its++[u]) hH e (by simp) (r.append (.cons ru .nil)) ?_,rfl,q⟩
 rw[List.length_append,List.length_singleton]
 lia
def Ip:V->List V->Hp->VK->Prop:=λx vs H Q=>∃l b xs zs,x=.ref l/\vs=[.ref b]/\H l=some (.lst xs)/\H b=some (.lst zs)/\xs.length+zs.length<=sizeLine/\Q .cW (upd H l (.lst (xs++zs)))
theorem A1:Uc X "list.extend" Ip:=by
 intro pins s Z H x vs v us Q I rx rv h
 obtain⟨l,b,xs,zs,rfl,rfl,hH,hB,hz,q⟩:=h
 cases rx
 obtain⟨u,rfl,ru⟩:=rv.one
 cases ru
 obtain⟨z,its,n,r,hl,e⟩:=I.xD hH
 obtain⟨z2,its2,n2,r2,hl2,e2⟩:=I.xD hB
 have hsz:its.toArray.size+its2.toArray.size<=sizeLine:=by rw[List.size_toArray,List.size_toArray];lia
 have hlong:¬ (!its.toArray.isEmpty && Builtin.List.listTooLong (its.toArray.size+its2.toArray.size))=true:=by
  rw[vY hsz,Bool.and_false]
  exact Bool.false_ne_true
 refine call_meets F.slot_list_extend ⟨_,e,rfl⟩ F.entry_list_extend (F.args_list_extend_2 _ _)
  (AutoSeq1.list_extend_list_list_0 l its.toArray n b its2.toArray n2 hlong (by rw[List.size_toArray];lia) (by lia)) ⟨e,e2,?_⟩
 refine⟨.cW,_,I.NW (its':=its++its2) hH e (by simp) (r.append r2) ?_,rfl,q⟩
 rw[List.length_append]
 lia
def T6:V->List V->Hp->VK->Prop:=λx vs H Q=>∃l xs y,x=.ref l/\vs=[]/\H l=some (.lst xs)/\xs[xs.length-1]?=some y/\Q y (upd H l (.lst xs.dropLast))
theorem NJ:Uc X "list.pop" T6:=by
 intro pins s Z H x vs v us Q I rx rv h
 obtain⟨l,xs,y,rfl,rfl,hH,hy,q⟩:=h
 cases rx
 have hus:=rv.zero
 subst hus
 obtain⟨z,its,n,r,hl,e⟩:=I.xD hH
 obtain⟨u,hu,ru⟩:=r.get hy
 have hy':its.toArray[its.toArray.size-1]?=some u:=by
  show its.toArray[its.length-1]?=some u
  rw[← Array.getElem?_toList,← hl]
  exact hu
 refine call_meets F.slot_list_pop ⟨_,e,rfl⟩ F.entry_list_pop (F.args_list_pop_1 _) (MeetsSeq.list_pop_last l its.toArray n u hy' (by rw[List.size_toArray];lia)) ⟨e,?_⟩
 refine⟨y,_,I.NW (its':=its.dropLast) hH e ?_ r.dropLast ?_,ru,q⟩
 ·show its.toArray.eraseIdxIfInBounds (its.toArray.size-1)=its.dropLast.toArray
  rw[List.size_toArray,List.eraseIdxIfInBounds_toArray,yV]
 ·rw[List.length_dropLast]
  lia
def TJ:R2:=λx y H Q=>∃l b xs zs,x=.ref l/\y=.ref b/\H l=some (.lst xs)/\H b=some (.lst zs)/\xs.length+zs.length<=sizeLine/\∀p,H p=none->Q (.ref p) (upd H p (.lst (xs++zs)))
theorem gE:lA X (binaryOp .Add) TJ:=by
 intro pins s Z H x y v u Q I rx ry h
 obtain⟨l,b,xs,zs,rfl,rfl,hH,hB,hz,q⟩:=h
 cases rx
 cases ry
 obtain⟨z,its,n,r,hl,e⟩:=I.xD hH
 obtain⟨z2,its2,n2,r2,hl2,e2⟩:=I.xD hB
 refine PySem.P.add_list e e2 ?_ (by rw[List.size_toArray,List.size_toArray];lia)
 have ea:its.toArray++its2.toArray=(its++its2).toArray:=by simp
 rw[ea]
 exact⟨.ref _,_,I.B4 (t':=s.toks) (r.append r2) (by rw[List.length_append];lia),rfl,q _ I.fresh⟩
def Tq:R2:=λx y H Q=>∃l k xs,x=.ref l/\y=.int k/\H l=some (.lst xs) /\ -(2 ^ 63)<=k/\k<2 ^ 63/\xs.length*k.toNat<=sizeLine/\
 ∀p,H p=none->Q (.ref p) (upd H p (.lst (List.replicate k.toNat xs).flatten))
theorem len_rep{α:Type}(xs:List α)(k:Nat):(List.replicate k xs).flatten.length=k*xs.length:=by
 induction k with
 |zero=>simp
 |succ k ih=>rw[List.replicate_succ,List.flatten_cons,List.length_append,ih,Nat.succ_mul,Nat.add_comm]
theorem qR:lA X (binaryOp .Mult) Tq:=by
 intro pins s Z H x y v u Q I rx ry h
 obtain⟨l,k,xs,rfl,rfl,hH,h1,h2,hz,q⟩:=h
 cases rx
 obtain⟨t,rfl⟩:=ry
 obtain⟨z,its,n,r,hl,e⟩:=I.xD hH
 have hlen:its.toArray.size*k.toNat<=sizeLine:=by rw[List.size_toArray,← hl];exact hz
 have hcap:¬ its.toArray.size*k.toNat>(2 ^ 63-1) / 8:=by
  have:(sizeLine:Nat)<=(2 ^ 63-1) / 8:=by decide
  lia
 have hfit:¬ (!Builtin.List.listFitsIndex k)=true:=by
  rw[fitsIndex_both h1 h2]
  exact Bool.false_ne_true
 have hlong:¬ Builtin.List.listTooLong (its.toArray.size*k.toNat)=true:=by
  rw[vY hlen]
  exact Bool.false_ne_true
 have hnew:List.foldl (λx1 x2=>x1++x2) #[] (List.replicate (if its.toArray.isEmpty=true then 0 else k.toNat) its.toArray)=(List.replicate k.toNat its).flatten.toArray:=by
  have f0:∀m:Nat,List.foldl (λx1 x2=>x1++x2) #[] (List.replicate m its.toArray)=(List.replicate m its).flatten.toArray:=λm=>by
   have:=foldl_rep its m []
   rw[List.nil_append] at this
   exact this
  rw[f0]
  cases its with
  |nil=>simp
  |cons a r'=>rw[if_neg (by simp)]
 refine wpAny_binaryOp_repeat_ref (T:="list") (U:="int") (by decide) ⟨_,e,rfl⟩ (λs'=>typeIs_int s' k t) noFill_list_mul F.fills_int_mul F.slot_int_rmul repeat_list F.slot_int_index.lookup
  (call_meets F.slot_int_rmul (typeIs_int s k t) F.entry_int_rmul (F.args_int_rmul_2 _ _) (int___rmul___int_list k t l its.toArray n)
   ⟨e,rfl,⟨_,e,rfl⟩,call_meets F.slot_list_mul ⟨_,e,rfl⟩ F.entry_list_mul (F.args_list_mul_2 _ _) (AutoListH.list___mul___list_int_3 l its.toArray n k t hfit hcap hlong) ⟨e,?_⟩⟩)
 rw[hnew]
 exact⟨.ref _,_,I.B4 (t':=s.toks) (r.rep k.toNat) (by rw[len_rep,Nat.mul_comm];exact hz),rfl,q _ I.fresh⟩
end
section
variable {prog:Program}{w:World}{A:Around}{E:Value->Shared->Prop}{s:Shared}
set_option maxRecDepth 100000 in
end
section
variable {X:Cx}
end
end L2
namespace Att
open PySem PySem.W PySem.Calls PyProof.Rows
theorem oJ{P:Params}{h:Heap}:∀(ns:List Int) (vs:List Value),WellAll P h vs (ns.map WData.int)->IntsAre vs ns:=by
 intro ns
 induction ns with
 |nil=>
  intro vs w
  rw[List.map_nil] at w
  cases w
  exact .nil
 |cons n ns ih=>
  intro vs w
  rw[List.map_cons] at w
  cases w with
  |cons a b=>
   cases a
   exact .cons _ _ (ih _ b)
theorem Aj{l:OpenLaw}{n:Nat}(hn:l.most=some n){P:Params}{h:Heap}{args:List WData}{vals:List Value}
  (hpre:l.row.toRowW.claim.pre args=true) (hwl:WellAll P h vals args) :
  ∃a vs ns,vals=[Value.ref a]/\args=[WData.list (ns.map WData.int)]/\h.get? a=some { cls:=.type "list",data:=.seq vs.toArray }/\IntsAre vs ns/\ns.length<=n:=by
 have hsh:WShape.hasAll [] args [.list .int]=true:=(pre_splitW hpre).1
 have hc:l.pre.holds [] { args:=args }=true:=(pre_splitW hpre).2
 obtain⟨d,r,rfl,h1,h2⟩:=hasAllW_cons hsh
 obtain rfl:=hasAllW_nil h2
 obtain⟨xs,rfl,h3⟩:=hasW_list h1
 obtain⟨ns,rfl⟩:=items_int h3
 have hlen:ns.length<=n:=by
  unfold OpenLaw.pre at hc
  have h4:(WTm.not (.lt (.lit (.int (n:Int))) (.len (.arg 0)))).holds [] { args:=[.list (ns.map .int)] }=true:=by
   have h4:=(holds_andW hc).1
   rw[hn] at h4
   exact h4
  have h5:=condW_of h4 (w_not (w_lt w_lit (w_len_list (w_arg rfl))))
  rw[List.length_map] at h5
  refine Nat.le_of_not_lt λq=>?_
  have q':(n:Int)<((ns.length:Nat):Int):=by lia
  first
   | (rw[decide_eq_true q'] at h5;exact absurd h5 (by decide))
   | (simp at h5;lia)
 cases hwl with
 |cons w1 w2=>
  cases w2
  cases w1 with
  |list ho hall=>exact⟨_,_,ns,rfl,rfl,ho,oJ ns _ hall,hlen⟩
theorem AN(l:OpenLaw)(args:List WData):l.row.toRowW.claim.post args (.bool true) args=true :=
 postW_of (r:=l.row.toRowW) (X:=(true == true))
  (show WShape.has [] (.bool true) .bool=true by first | rfl | decide | simp[WShape.has,WShape.arms,WShape.armsAll])
  (show (WTm.eq .res (.lit (.bool true))).value [] { args:=args,res:=some (.bool true),after:=args }=some (.bool (true == true)) from w_eq_bool (w_res rfl) w_lit) rfl
theorem vZ{l:OpenLaw}{n:Nat}{q:Program}{loose:List Str}{XP:(Str->Option Value)->Heap->Prop}{YP:World->Heap->Prop}{d:DefRec}
  (hn:l.most=some n) (hdf:d.params.defaults=[])
  (call:∀(w:World) (s₀ s₁:Shared) (mg mb:Str->Option Value) (fa:Addr) (o:Obj) (pm cd doc:Value) (a:Addr) (vs:List Value) (ns:List Int),
   Ground q loose [] XP w s₀ mg mb s₁.heap->YP w s₁.heap->
   s₁.heap.get? fa=some o->o.data=.func (docDef d.name d.params d.body d.scope pm cd doc)->s₁.heap.CodeRec cd d.name->mg d.name=some (.ref fa)->
   s₁.heap.get? a=some { cls:=.type "list",data:=.seq vs.toArray }->IntsAre vs ns->ns.length<=n->s₁.gens = #[]->
   codeAny (model l.prog w) callerA (.call (.ref fa) ⟨[.ref a],[]⟩) (λr s'=>r=.ok (.ret (.bool true))/\OldK s₁.heap s'.heap/\s'.os=s₁.os/\AllBare s'.gens) s₁) :
  WalkO q loose XP YP l.row.toRowW d [] (λf vs=>PySem.call f vs):=by
 intro w s₀ s₁ mg mb G Y fa o pm cd doc dV kV ho hd hcd hD hmg hg args vals as hpre hlay hrd hwl hlo
 obtain rfl:dV=.none:=Dflts.none hD hdf
 obtain rfl:kV=.none:=Dflts.noKw hD
 obtain⟨a,vs,ns,rfl,rfl,hobj,hints,hlen⟩:=Aj hn hpre hwl
 refine enter_call (codeAny_mono (call w s₀ s₁ mg mb fa o pm cd doc a vs ns G Y ho (fd_plain hd) hcd hmg hobj hints hlen hg) λr s' hq=>?_)
 obtain⟨rfl,h2,h3,h4⟩:=hq
 exact⟨.inl ⟨.bool true,.bool true,[],rfl,λ_=>rfl,.bool true,AN l _,λ_=>⟨List.Pairwise.nil,λ_ hm=>(nomatch hm)⟩⟩,h2,h3,h4⟩
section
variable {prog:Program}{w:World}{A:Around}{E:Value->Shared->Prop}{s:Shared}{K:Frag}
def jc(h:Heap):Heap:={ h with objs:=#[] }
theorem eV(h:Heap)(b:Addr):(jc h).get? b=none:=by
 cases e:(jc h).get? b with
 |none=>rfl
 |some o=>exact absurd (Heap.lt_size e) (Nat.not_lt_zero _)
theorem yT{h:Heap}{L:Addr}{m:Str->Option Value}(n:h.Ns L m):Fr (jc h) L h m :=
 ⟨n,λb o e=>(by rw[eV] at e;cases e),Nat.zero_le _⟩
end
end Att
namespace L2
open PySem PySem.Spec PyProof.Rows
theorem sH:∀{vs:List Value} {ns:List Int},IntsAre vs ns->Vals (ns.map V.int) vs
 |_,_,.nil=>.nil
 |_,_,.cons n t h=>.cons ⟨t,rfl⟩ (sH h)
def Pn(H:Hp):Prop:=∀b,H b=none∨∃o xs,H b=some (.jy o (.lst xs))
theorem Ce{P:Program}{w:World}{K:PySem.W.Frag}{mg mb:Str->Option Value}{CX:xr}{k:Nat}{fa a:Addr}{fd:FuncData}{x:Str}{sp:Sp}{s₁:Shared}{vs:List Value}{ns:List Int}
  (KX:K.In s₁.heap) (hns:s₁.heap.Ns mainGlobals mg) (hb:s₁.heap.Ns builtinsNs mb) (hbb:∀x:Str,x ≠ "__name__" -> mb x=bootBuiltins x) (hlim:s₁.heap.NoLimit) (hg:s₁.gens = #[])
  (ha:s₁.heap.get? a=some { cls:=.type "list",data:=.seq vs.toArray }) (hi:IntsAre vs ns) (hl:ns.length<=sizeLine) (hr:fS k callerA)
  (F:∀base:Heap,K.In base->base.Ns mainGlobals mg->bD P w K mg base CX k fa fd [x] sp) (hbind:∀(s:Shared) (u:Value),BindsTo s fd ⟨[u],[]⟩ [(x,u)])
  (hsp:∀H:Hp,Pn H->bg K H a (ns.map V.int)->sp [.ref a] H (λv _=>v=.bl true) λ_ _ _=>False)
  (hCX:∀H e s',CX [] H s₁ (λ_ _ _=>False) e s'->False) :
  codeAny (model P w) callerA (.call (.ref fa) ⟨[.ref a],[]⟩) (λr s'=>r=.ok (.ret (.bool true))/\OldK s₁.heap s'.heap/\s'.os=s₁.os/\AllBare s'.gens) s₁:=by
 have rv:=sH hi
 have lenV:=hi.length
 have core:∀H:Hp,Pn H->bg K H a (ns.map V.int)->k6 P w H s₁.heap->(∀b,H b≠none->b=a)->(H a≠none->K.lookup a=none)->
   codeAny (model P w) callerA (.call (.ref fa) ⟨[.ref a],[]⟩) (λr s'=>r=.ok (.ret (.bool true))/\OldK s₁.heap s'.heap/\s'.os=s₁.os/\AllBare s'.gens) s₁:=by
  intro H hO hS hok hA hK
  have base_of:∀{b:Addr} {o:Obj},s₁.heap.get? b=some o->H b=none->(uM s₁.heap H).get? b=some o:=λe n=>FH e n
  have noA:∀{b:Addr} {o:Obj} {es:Array DictEntry} {ep:Nat},s₁.heap.get? b=some o->o.data=.dict es ep->H b=none:=λ{b o es ep} e d=>by
   cases q:H b with
   |none=>rfl
   |some u=>
    have e':b=a:=hA b (by rw[q];simp)
    subst e'
    rw[ha] at e;cases e
    have d':Data.seq vs.toArray _=Data.dict es ep:=d
    cases d'
  have nsK:∀{b:Addr} {m:Str->Option Value},s₁.heap.Ns b m->(uM s₁.heap H).Ns b m:=λ{b m} ⟨o,es,ep,e,d,r⟩=>⟨o,es,ep,base_of e (noA e d),d,r⟩
  have hKb:K.In (uM s₁.heap H):=λb o e=>base_of (KX b o e) (by
   cases q:H b with
   |none=>rfl
   |some u=>
    have e':b=a:=hA b (by rw[q];simp)
    subst e'
    rw[hK (by rw[q];simp)] at e;cases e)
  have hM:Mod K mg (uM s₁.heap H):=⟨hKb,nsK hns,⟨mb,nsK hb,hbb⟩,let ⟨mc,h1,h2⟩:=hlim;⟨mc,nsK h1,h2⟩⟩
  have e0:wX P w K mg (uM s₁.heap H) callerA [] s₁ H:=⟨rfl,hM,λb o e=>Iq e,Nat.le_of_eq (AG _ _),trivial,λb hb=>absurd (show b∈([]:List Addr) from hb) (by simp),hok,.of_eq hg⟩
  refine codeAny_mono ((F _ hKb (nsK hns)).run callerA [] s₁ H ⟨[.ref a],[]⟩ [.ref a] [.ref a] _ _ hr e0 (hbind s₁ (.ref a)) (.cons rfl .nil) (hsp H hO hS)) λr s' h=>?_
  cases r with
  |error e=>exact(hCX H e s' h).elim
  |ok fl=>
   cases fl with
   |next=>exact False.elim h
   |brk=>exact False.elim h
   |cont=>exact False.elim h
   |ret u=>
    obtain⟨v,H',os,bare,un,hok',r',q⟩:=h
    have q':v=.bl true:=q
    subst q'
    obtain rfl:u=Value.bool true:=r'
    refine⟨rfl,OldK.of_keep λb o e=>?_,os,bare⟩
    cases q:H b with
    |none=>exact un.keep b o e q (by intro z;exact absurd (show b∈([]:List Addr) from z) (by simp)) (by simp)
    |some u=>
     rcases hO b with z|⟨ob,xs,z⟩
     ·rw[q] at z;cases z
     ·have z2:=un.oN b ob _ z
      obtain⟨e1,_⟩:=hok b _ z
      obtain⟨e2,_⟩:=hok' b _ z2
      rw[e] at e1;cases e1
      exact e2
 cases hk:K.lookup a with
 |some o=>
  have e:=KX a o hk
  rw[ha] at e
  cases e
  refine core (λ_=>none) (λ_=>.inl rfl) (.inr ⟨_,vs.toArray,_,hk,rfl,rfl,rfl,by rw[List.size_toArray,lenV];exact hl,by simpa using rv⟩) (λb u z=>by have z':(none:Option HO)=some u:=z;cases z') (λb z=>absurd rfl z) λz=>absurd rfl z
 |none=>
  refine core (λb=>if b=a then some (.jy { cls:=.type "list",data:=.seq vs.toArray } (.lst (ns.map V.int))) else none) (λb=>?_) (.inl (.inr ⟨{ cls:=.type "list",data:=.seq vs.toArray },if_pos rfl⟩)) (λb u z=>?_) (λb z=>?_) λ_=>hk
  ·by_cases hb:b=a
   ·exact .inr ⟨_,_,if_pos hb⟩
   ·exact .inl (if_neg hb)
  ·by_cases hb:b=a
   ·have z':=(if_pos hb).symm.trans z
    cases z'
    subst hb
    exact⟨ha,by rw[List.length_map];exact hl,vs,_,rv,ha⟩
   ·have z':=(if_neg hb).symm.trans z
    cases z'
  ·by_cases hb:b=a
   ·exact hb
   ·exact absurd (if_neg hb) z
theorem HZ{l:PySem.W.OpenLaw}{n k:Nat}{q:Program}{loose:List Str}{XP:(Str->Option Value)->Heap->Prop}{YP:World->Heap->Prop}{d:DefRec}{K:Params->PySem.W.Frag}{CX:World->xr}{sp:World->Sp}{x:Str}
  (hn:l.most=some n) (hn2:n<=sizeLine) (hdf:d.params.defaults=[]) (hr:fS k callerA)
  (hY:∀(w:World) (h:Heap),YP w h->(K w.params).In h)
  (F:∀(w:World) (mg:Str->Option Value) (fa:Addr) (h:Heap),(K w.params).In h->h.Ns mainGlobals mg->mg d.name=some (.ref fa)->
   ∃fd:FuncData,(∀(s:Shared) (u:Value),BindsTo s fd ⟨[u],[]⟩ [(x,u)])/\
    ∀base:Heap,(K w.params).In base->base.Ns mainGlobals mg->bD l.prog w (K w.params) mg base (CX w) k fa fd [x] (sp w))
  (hsp:∀(w:World) (H:Hp) (a:Addr) (ns:List Int),ns.length<=n->Pn H->bg (K w.params) H a (ns.map V.int)->sp w [.ref a] H (λv _=>v=.bl true) λ_ _ _=>False)
  (hCX:∀(w:World) (H:Hp) (s:Shared) (e:Value) (s':Shared),CX w [] H s (λ_ _ _=>False) e s'->False) :
  PySem.W.WalkO q loose XP YP l.row.toRowW d [] (λf vs=>PySem.call f vs):=by
 refine Att.vZ hn hdf λw s₀ s₁ mg mb fa o pm cd doc a vs ns G Y ho hd hcd hmg hobj hints hlen hg=>?_
 have KX:=hY w _ Y
 obtain⟨fd,hb,hF⟩:=F w mg fa _ KX G.T.g hmg
 exact Ce KX G.T.g G.T.b G.T.builtins G.T.nolimit hg hobj hints (Nat.le_trans hlen hn2) hr hF hb (λH hO hS=>hsp w H a ns hlen hO hS) λH e s'=>hCX w H s₁ e s'
noncomputable def inClass(s:Stmt)(j:Nat):Stmt:=match s with
 |.ClassDef _ _ _ body _ _ _ _ _ _ _=>body.getD j (.Pass ⟨0,0,0,0⟩)
 |_=>.Pass ⟨0,0,0,0⟩
def pA(s:Stmt):Arguments:=match s with
 |.FunctionDef _ a _ _ _ _ _ _ _ _=>a
 |_=>{ posonlyargs:=[],args:=[],vararg:=none,kwonlyargs:=[],kw_defaults:=[],kwarg:=none,defaults:=[] }
def mR(s:Stmt):List Stmt:=match s with
 |.FunctionDef _ _ b _ _ _ _ _ _ _=>b
 |_=>[]
def av(s:Stmt):Scope:=match s with
 |.FunctionDef _ _ _ _ _ _ sc _ _ _=>sc
 |_=>{ kind:=.function,names:=[],isGenerator:=false,isCoroutine:=false }
abbrev dw:xr:=λ_ _ _ _ _ _=>False
abbrev E0:XK:=λ_ _ _=>False
theorem aF{X:Cx}:Passes dw X E0:=λ_ _ _ _ _ _ _ h=>h.elim
structure dh(K:PySem.W.Frag)(x qual:Str)(st:Stmt)(f:Addr)(fd:FuncData):Prop where
 ex:∃(oc:Value) (od:Option Addr) (kV doc pm:Value) (an:Option Addr) (cdv ct:Value) (osl:Array (Option Value)),
  fd=PySem.W.fnOf x qual (pA st) (mR st) (av st) .none kV doc pm an cdv ct/\K.lookup f=some ⟨oc,od,.func fd,osl⟩/\PySem.W.codeIn K cdv qual=true
 kp:PySem.W.keepIn K (.ref f)=true
section
variable {P:Program}{w:World}{K:PySem.W.Frag}{mg:Str->Option Value}{base:Heap}
theorem dh.ok{x qual:Str}{st:Stmt}{f:Addr}{fd:FuncData}{N ps:List Str}{k:Nat}{sp:Sp}(F:dh K x qual st f fd)(S:aC N ps (av st))(len:∀vs H Q E,sp vs H Q E->vs.length=ps.length)
  (hbody:∀(cdv:Value) (A:Around) (outer:List Env) (s:Shared) (H:Hp) (vs:List V) (Q:VK) (E:XK),fS k (A.deeper (envOfC qual (av st) s.heap.objs.size f cdv))->sp vs H Q E->
   ∃t,xX (xh dw P w K mg base N qual (av st) f cdv A outer s H E).S7 (mR st) t/\t { nx:=λ_ H'=>Q .cW H',rt:=Q } (start N vs) H):bD P w K mg base dw (k+1) f fd ps sp:=by
 obtain⟨oc,od,kV,doc,pm,an,cdv,ct,osl,rfl,lk,hcd⟩:=F.ex
 refine R6 lk hcd S len λA outer s H vs Q E hr hsp=>?_
 obtain⟨t,h,q⟩:=hbody cdv A outer s H vs Q E hr hsp
 exact⟨t,h.S7,q⟩
theorem dh.m{x qual:Str}{st:Stmt}{f:Addr}{fd:FuncData}{N ps:List Str}{k:Nat}{sp:Sp}(F:dh K x qual st f fd)(S:aC N ps (av st))(h:∀vs H Q E,sp vs H Q E->vs.length=ps.length/\∀(cdv:Value) (A:Around) (outer:List Env) (s:Shared),fS k (A.deeper (envOfC qual (av st) s.heap.objs.size f cdv))->∃t,xX (xh dw P w K mg base N qual (av st) f cdv A outer s H E).S7 (mR st) t/\t { nx:=λ_ H'=>Q .cW H',rt:=Q } (start N vs) H):bD P w K mg base dw (k+1) f fd ps sp:=F.ok S (λvs H Q E z=>(h vs H Q E z).1) λcdv A outer s H vs Q E hr z=>(h vs H Q E z).2 cdv A outer s hr
theorem dh.binds{x qual:Str}{st:Stmt}{f:Addr}{fd:FuncData}{ps:List Str}(F:dh K x qual st f fd)
  (h:∀(kV doc pm:Value) (an:Option Addr) (cdv ct:Value) (us:List Value),us.length=ps.length->bindArgs (PySem.W.fnOf x qual (pA st) (mR st) (av st) .none kV doc pm an cdv ct) ⟨us,[]⟩=pure (ps.zip us)):Binds K fd ps []:=by
 obtain⟨oc,od,kV,doc,pm,an,cdv,ct,osl,rfl,lk,hcd⟩:=F.ex
 exact .all (h kV doc pm an cdv ct)
theorem Ga{x qual:Str}{st:Stmt}{f:Addr}{oc:Value}{od an:Option Addr}{osl:Array (Option Value)}{kV doc pm cdv ct:Value}(l:K.lookup f=some ⟨oc,od,.func (PySem.W.fnOf x qual (pA st) (mR st) (av st) .none kV doc pm an cdv ct),osl⟩)
  (c:PySem.W.codeIn K cdv qual=true) (k:PySem.W.keepIn K (.ref f)=true):dh K x qual st f (PySem.W.fnOf x qual (pA st) (mR st) (av st) .none kV doc pm an cdv ct):=⟨⟨oc,od,kV,doc,pm,an,cdv,ct,osl,rfl,l,c⟩,k⟩
end
theorem cK{A:Around}{k:Nat}(hr:fS k A):A.units+1<cLine:=Nat.lt_of_le_of_lt (Nat.add_le_add_left (by decide:1<=64) _) hr.units
section
variable {X:Cx}
theorem pv (i:Nat) {x:Str} {pos:Pos} (hN:autoParam (X.N[i]?=some x) L2.Y3._auto_1) (hv:Td X.env.scope x:=by first | exact Or.inl rfl | exact Or.inr (Or.inl rfl) | exact Or.inr (Or.inr rfl)) (hd:autoParam ((x == ("__debug__":Str))=false) L2.Y1._auto_1)
  (hcd:autoParam ((x == ("__classdict__":Str))=false) L2.Y1._auto_1):PE X (.Name x pos) (HE i):=OL hN hv hd hcd
end
theorem lQ{A B:Prop}(h:B):if false=true then A else B:=by
 rw[if_neg Bool.false_ne_true]
 exact h
theorem By{A B:Prop}(h:A):if true=true then A else B:=by
 rw[if_pos rfl]
 exact h
def aj(H H':Hp):Prop:=∀b o,H b=some o->H' b=some o
theorem aj.refl(H:Hp):aj H H:=λ_ _ h=>h
theorem aj.trans{H H1 H2:Hp}(a:aj H H1)(b:aj H1 H2):aj H H2:=λc o h=>b c o (a c o h)
theorem aj.free{H H':Hp}(e:aj H H'){l:Addr}(h:H' l=Option.none):H l=Option.none:=by
 cases q:H l with
 |none=>rfl
 |some o=>
  rw[e l o q] at h
  cases h
theorem aj.seq{K:PySem.W.Frag}{H H':Hp}{a:Addr}{xs:List V}(e:aj H H')(h:bg K H a xs):bg K H' a xs:=by
 rcases h with (h|⟨o,h⟩)|h
 ·exact .inl (.inl (e _ _ h))
 ·exact .inl (.inr ⟨o,e _ _ h⟩)
 ·exact .inr h
end L2
set_option maxHeartbeats 4000000
namespace PySem.W.Fast
def tw17450943242273064314:=0
def tw16441064430703428460:=0
def tw7471248806964392331:=0
def tw15065770766775387593:=0
def tw13162798564593866987:=0
def tw15532948688546339634:=0
def tw14240437878994836775:=0
def tw6249536595287012538:=0
def tw17187627849897013271:=0
def tw10420523248749470175:=0
def tw12216609307908030448:=0
def tw5599929180273614261:=0
def tw6386691079915446624:=0
def tw5243525767720504812:=0
def tw3093196256626187813:=0
def tw163520521317212777:=0
def tw127953948375811078:=0
def tw4310778433546601097:=0
def tw16179551337557605851:=0
def tw12477343877795802576:=0
def tw1828613350729224741:=0
def tw17586816432199022389:=0
def tw16065266803433469119:=0
def tw16943446493595615993:=0
def tw6067513479498663920:=0
def tw4796680003240677644:=0
def tw3755353544152706692:=0
def tw15925079256648024723:=0
def tw10299726382818411534:=0
def tw10912773173513443139:=0
def tw10089066515427578780:=0
def tw14457707291427278291:=0
def tw15186342055072879535:=0
def tw9483727284857325165:=0
def tw14390876820220917112:=0
def tw11794218807816293198:=0
def tw7912482967799282259:=0
def tw5448870139557043950:=0
def tw4778433939147909741:=0
def tw18415121293812304449:=0
def tw6892033777665824617:=0
def tw5682529375299268510:=0
def tw17260673403018407181:=0
def tw13087998547370289031:=0
def tw7808203057221490366:=0
def tw7012752235547744603:=0
def tw4832651974435610803:=0
def tw4320516843102723709:=0
def tw3889455952894529729:=0
def tw2934741367843250131:=0
def tw2596334574260999671:=0
def tw1591803959897579609:=0
def tw14381263175391587737:=0
def tw1207259842898747208:=0
def tw11699922911340573479:=0
def tw1439239711906030404:=0
def tw3873397977105788974:=0
def tw14561517123780370973:=0
def tw15826222286283657659:=0
def tw4555633581966195869:=0
def tw15899509781614590194:=0
def tw14939547892598594439:=0
def tw14193726961596075515:=0
def tw13768856098142597866:=0
def tw12895068263139365519:=0
def tw11955914304237109638:=0
def tw11471540636286734407:=0
def tw10956395239565869763:=0
def tw12291387831844790748:=0
def tw75799226076668938:=0
def tw7234846146363939681:=0
def tw5863836448953409271:=0
def tw5397350706363567876:=0
def tw1837257609157780833:=0
def tw17858033327284735213:=0
def tw152579712794399093:=0
def tw12660269687647178805:=0
def tw1241661676585205177:=0
def tw18364262341347225743:=0
def tw7248047925596398363:=0
def tw12368497991841641934:=0
def tw3576935819096612147:=0
def tw2908726282840010731:=0
def tw17349087575615232425:=0
def tw17342545541409155864:=0
def tw13158145249979024834:=0
def tw1757910973978359534:=0
def tw17312226545238701136:=0
def tw10941505290954080731:=0
def tw2069967519338625541:=0
def tw17105584983025613065:=0
def tw11889860331916951184:=0
def tw11670554039695510548:=0
def tw11374854217913855459:=0
def tw7930312869050940775:=0
def tw7331782852249044722:=0
def tw6598513813876853871:=0
def tw469851773504006822:=0
def tw17900772203160998742:=0
def tw1747102062496247528:=0
def tw1718656807318223753:=0
def tw1614335752938069181:=0
def tw13054506592177165355:=0
def tw11475243607188692879:=0
def tw7651411020590043745:=0
def tw4729792416789515936:=0
def tw3731359929568644552:=0
def tw2818774294770276855:=0
def tw154268503323236767:=0
def tw15420488002132126430:=0
def tw14022189928286006443:=0
def tw13251395785656358209:=0
def tw11765641731005528136:=0
def tw9129966797022431635:=0
def tw6973547322807456863:=0
def tw532353846090004493:=0
def tw324634494911592913:=0
def tw1855086455258473615:=0
def tw16139705878400773191:=0
def tw14178169799141306113:=0
def tw13072793379267235962:=0
def tw10526507986584342030:=0
def tw3543946083039697082:=0
def tw18205131709135533425:=0
def tw2734659638923689520:=0
def tw16667890528262105477:=0
def tw15192686250080721871:=0
def tw10602276801099274535:=0
def tw16083782338281008668:=0
def tw8263337349927136686:=0
def tw603136145144395112:=0
def tw1182818860425144825:=0
def tw9499762856392425037:=0
def tw9440759317863814749:=0
def tw9337921181723617443:=0
def tw8440765055839080976:=0
def tw794946628551596200:=0
def tw7531436968930434832:=0
def tw4980066447316185346:=0
def tw4901934528271764794:=0
def tw17693248796866776174:=0
def tw15386981557366198981:=0
def tw14971699968440108358:=0
def tw13209869887113615303:=0
def tw109131997653280653:=0
def tw10616361991827935546:=0
def tw2279710732875710297:=0
def tw16386051477027317259:=0
def tw8630385059244350558:=0
def tw7476563012220000774:=0
def tw720602361157091400:=0
def tw596842078568559965:=0
def tw4879649563039923184:=0
def tw3906115886706905432:=0
def tw3633490785428433757:=0
def tw3288233868785652665:=0
def tw2584283527622400248:=0
def tw2543018273477188120:=0
def tw16724898138897696831:=0
def tw13778185574493471766:=0
def tw13710973734675373198:=0
def tw13126895344722767799:=0
def tw13095239058905716880:=0
def tw13011885734798474376:=0
def tw12808243895727174452:=0
def tw12190602379048231867:=0
def tw12004730915467782448:=0
def tw10739292888284252818:=0
def tw10293015366595870157:=0
def tw10271721735644299608:=0
def tw5947607820562788464:=0
def tw5565596250866423402:=0
def tw4402746984012466467:=0
def tw4258364182257137868:=0
def tw4208920349043274432:=0
def tw2968147098553424946:=0
def tw17512386303307862107:=0
def tw17226336568322221744:=0
def tw17109967224109916460:=0
def tw15538419939520831032:=0
def tw15020833654520784042:=0
def tw14590762038280122027:=0
def tw14110604662131418975:=0
def tw13887378071481107378:=0
def tw13653084876196159665:=0
def tw12300852314282925607:=0
def tw11932890971957810450:=0
def tw11551947965962066115:=0
def tw10763820630267210236:=0
def tw10500148258974003892:=0
def tw10027687309811282921:=0
def tw14737876691630287621:=0
def tw14097149930459010157:=0
def tw13438195151454718499:=0
def tw10516882815307001233:=0
def tw12752173355857148288:=0
def tw3137467120651159729:=0
def tw1602382957585532805:=0
def tw4462958814437692862:=0
def tw9145819019017530683:=0
def tw17486871522376988313:=0
def tw7395533380795542767:=0
def tw15643852883943154072:=0
def tw7624342754773575280:=0
def tw3416810931298684880:=0
def tw6608270866092437760:=0
def tw8573048132175744080:=0
def tw14867791783599998700:=0
def tw4840800565128343381:=0
def tw15050671107757894211:=0
def tw3240919841272207025:=0
def tw13129729264445861168:=0
def tw4329585671876943797:=0
def tw17932582817408066103:=0
def tw5608573101751366551:=0
def tw8721606583435740936:=0
def tw15663359648656420390:=0
def tw12751328315086424340:=0
def tw13268857101282695245:=0
def tw3274725058375085903:=0
def tw13691790874994515474:=0
def tw9282881049095776651:=0
def tw8521012627481817739:=0
def tw10722612807756398416:=0
def tw2879763751535261114:=0
def tw9052639407728694990:=0
def tw2637974203066129039:=0
def tw12238224308350478983:=0
def tw1554316165895729749:=0
def tw991298409944987798:=0
def tw4633607263887851907:=0
def tw7782826082462535743:=0
def tw4618887153236787259:=0
def tw12199105351599672317:=0
def tw4226783821555782325:=0
def tw15356889793427487369:=0
def tw1255346599711028052:=0
def tw15095102843428424441:=0
def tw5911298770479146766:=0
def tw10942764930095615366:=0
def tw13252242881003501990:=0
def tw9416424749291350783:=0
def tw10424017621911445573:=0
def tw6349574978253493530:=0
def tw1514337104863150286:=0
def tw12865083815705534809:=0
def tw16248010481717915140:=0
def tw57422475261280979:=0
def tw15043841780221445628:=0
def tw14462715228224634435:=0
def tw3840662628526582892:=0
def tw1667193147088639606:=0
def tw17440147176642750312:=0
def tw8435078640350031984:=0
def tw10097616071609473772:=0
def tw8720117447062511848:=0
def tw2478815360571610899:=0
def tw6071795239334182111:=0
def tw2542533741193049179:=0
def tw1787813739773066329:=0
def tw3846019561717362629:=0
def tw2150673078126666837:=0
def tw7624153637648888162:=0
def tw12251536619956832770:=0
def tw6991264125861765099:=0
def tw14479330422041656665:=0
def tw2564330847778166543:=0
def tw15893223784533892475:=0
def tw6933864864107958019:=0
def tw16086078846493349293:=0
def tw4353214858646700162:=0
def tw11031337945862780514:=0
def tw4393461583453374680:=0
def tw11926140768965859022:=0
def tw17642662014580345852:=0
def tw12828215116420633804:=0
def tw2019428577446354397:=0
def tw3591714367004264934:=0
def tw11735804353660557282:=0
def tw4320748278706964623:=0
def tw16654513868885006253:=0
def tw18194523660757071558:=0
def tw9719760302703475959:=0
def tw2787118596758769449:=0
def tw10027978345964203872:=0
def tw16336668167144532624:=0
def tw15026399239467111813:=0
def tw12703642463216676056:=0
def tw4573936298129205008:=0
def tw9547396615183425587:=0
def tw12171579627068528217:=0
def tw17494602784328268154:=0
def tw1596209548867864798:=0
def tw4376781269465826610:=0
def tw6144495754016911622:=0
def tw1947537893512701383:=0
def tw15097476852980116949:=0
def tw10992370183832098426:=0
def tw1078151418187396602:=0
def tw9269221975242758821:=0
def tw77396899738769677:=0
def tw14432754992156123703:=0
def tw7990514475133685762:=0
def tw15689890049594698738:=0
def tw7434638865887430778:=0
def tw1008806166366756805:=0
def tw5718753765768098711:=0
def tw7971921364461142511:=0
def tw17711893604226161157:=0
def tw6310431346490818917:=0
def tw5784978362727477197:=0
def tw776586824089450965:=0
def tw1749211033296163394:=0
def tw7728013836161943220:=0
def tw6874683166049938393:=0
def tw7403962148894119867:=0
def tw2076349625377509422:=0
def tw3106449264771229093:=0
def tw14492597663394967774:=0
def tw7416950418981740437:=0
def tw5899370955830148376:=0
def tw8410849756928021428:=0
def tw4959345438753926611:=0
def tw3822395034177198628:=0
def tw6191530532825564047:=0
def tw1844826024365378986:=0
def tw12624922471577861988:=0
def tw7111030509294335129:=0
def tw17063695861609688812:=0
def tw17886674300597510276:=0
def tw5292045002146712769:=0
def tw8646249937434328951:=0
def tw2932217945689152587:=0
def tw10247506075516579605:=0
def tw4412031858980852149:=0
def tw17608680064963288819:=0
def tw5750728737539522110:=0
def tw12662891466738008497:=0
def tw7287746735128869553:=0
def tw16745267328622113861:=0
def tw6827766942146705941:=0
def tw7121964886578106269:=0
def tw9945429379658082647:=0
def tw1715234361875888335:=0
def tw2057973789460767888:=0
def tw13315822326400346422:=0
def tw9797566094451898625:=0
def tw17529970527881702503:=0
def tw17620198373817487579:=0
def tw6836310126813283743:=0
def tw17273977318752931449:=0
def tw2321676363043757854:=0
def tw14601732457861681875:=0
def tw13093257250406163122:=0
def tw6073694837699443002:=0
def tw18377127845776322484:=0
def tw13199574992213287103:=0
def tw11809498227188029629:=0
def tw15327809975456428622:=0
def tw16702310450363115482:=0
def tw3858156441756534738:=0
def tw6577510135195510556:=0
def tw6245346590885332720:=0
def tw9137652755806045042:=0
def tw18102758824159185943:=0
def tw4965752068628607826:=0
def tw9143601503802822393:=0
def tw13688526252419442055:=0
def tw13344335498802578847:=0
def tw17288666212998294943:=0
def tw13154581926109812871:=0
def tw13443628209666114110:=0
def tw13017801352432738436:=0
def tw6699288404863462582:=0
def tw6334420279025016580:=0
def tw11578886786052801782:=0
def tw7192327898035282200:=0
def tw10730720353768921097:=0
def tw8055357669364815463:=0
def tw6001099783982223962:=0
def tw6309099599723888805:=0
def tw17361078886569693556:=0
def tw7980515554219121267:=0
def tw2734586979641933818:=0
def tw9774530593393588119:=0
def tw12285901032947358559:=0
def tw6078360831810690833:=0
def tw15093154277742815713:=0
def tw16624121418543795257:=0
def tw10674376156822417254:=0
def tw11309943300118220239:=0
def tw3857210325997528176:=0
def tw9926801196617310186:=0
def tw1572713702322035620:=0
def tw12277978841707824150:=0
def tw9918016782047144261:=0
def tw9207434472339111295:=0
def tw17567849590707010220:=0
def tw14733477403922299491:=0
def tw13729172007519993384:=0
def tw924994370362400440:=0
def tw114552830189444853:=0
def tw4322342791951125806:=0
def tw16862443625560938559:=0
def tw13393490053088972494:=0
def tw16697451616898421915:=0
def tw14354728474690522436:=0
def tw3144523264092101737:=0
def tw9577024536604530519:=0
def tw11455555320238610079:=0
def tw9889156843091573574:=0
def tw5598884091667348279:=0
def tw2854229889595248636:=0
def tw15517539864545308360:=0
def tw6720871158091238560:=0
def tw10835823112100233071:=0
def tw13787916549842390573:=0
def tw6539635656235005091:=0
def tw7100169203815186426:=0
def tw11912140376819422138:=0
def tw7920387558402018160:=0
def tw6120561823070902410:=0
def tw14558696882671722363:=0
def tw12344671883068264068:=0
def tw6890208359336339785:=0
def tw5379561253195970277:=0
def tw6703316199943609379:=0
def tw17834500568460226663:=0
def tw16486208197410998613:=0
def tw8760666323284588389:=0
def tw4087669994081625851:=0
def tw11086544614171249524:=0
def tw15144012568998239953:=0
def tw11391182277867800074:=0
def tw3296685663287117103:=0
def tw12202289632980107102:=0
def tw10597857888841848704:=0
def tw13544139450691926374:=0
def tw7070394028465563347:=0
def tw3008805556299353625:=0
def tw17377208549153325282:=0
def tw6330141918175470905:=0
def tw14786410160841832524:=0
def tw2409228552389135400:=0
def tw8472643616392719427:=0
def tw9742754477580095475:=0
def tw410096798438135217:=0
def tw1378754062776932197:=0
def tw6928144194770212625:=0
def tw9067530123284086807:=0
def tw2445655504884741157:=0
def tw4169944056892995484:=0
def tw3261309919517948133:=0
def tw4986795692686224751:=0
def tw12600699419612914080:=0
def tw5256203162737829265:=0
def tw2753915727061784383:=0
def tw108311244049971296:=0
def tw13882737570926858005:=0
def tw2990833888971687110:=0
def tw1245147774071318405:=0
def tw8171454301586649634:=0
def tw17314262016473774362:=0
def tw16555638922177213526:=0
def tw1241766317297515236:=0
def tw17358366420268889766:=0
def tw6124515891767210479:=0
def tw5238929306159387907:=0
def tw10802001756864256103:=0
def tw1841078493013297924:=0
def tw15936388641085935462:=0
def tw13527323404273516260:=0
def tw5539822878234440977:=0
def tw8631454893817395517:=0
def tw7627300664361192273:=0
def tw4327494240600809154:=0
def tw18235360304264457460:=0
def tw3429271631874165065:=0
def tw1266945783230808056:=0
def tw17980253839555051748:=0
def tw17670494080194798046:=0
def tw7700864459703317022:=0
def tw13177912197863067118:=0
def tw15789048764115442164:=0
def tw3089250481958725987:=0
def tw21848659997091131:=0
def tw5627105806815211385:=0
def tw11297979095223517707:=0
def tw14442756408956163104:=0
def tw18018412862797946848:=0
def tw2871225556453962773:=0
def tw14911287971554556823:=0
def tw5369148310726188644:=0
def tw1671546574717682953:=0
def tw11196961679471727656:=0
def tw14769834347493436163:=0
def tw10710084636005998599:=0
def tw17228275933341730116:=0
def tw12050637558050848191:=0
def tw10174180182830515201:=0
def tw7812564074047320309:=0
def tw6159199211098264736:=0
def tw2219436850598958967:=0
def tw11418695969913280659:=0
def tw3101836726293543854:=0
def tw2242905918841503893:=0
def tw7272308955626826910:=0
def tw4655919271643821795:=0
def tw8198188275420569153:=0
def tw5428084389280501375:=0
def tw1016051177713608394:=0
def tw6080406664901205854:=0
def tw15929940315207994147:=0
def tw3400801177408175958:=0
def tw225272074557950960:=0
def tw15131018649498094536:=0
def tw1863082373767428645:=0
def tw9303182566501947302:=0
def tw11581542025434269079:=0
def tw17508283302758410946:=0
def tw159354823244854667:=0
def tw9064364768616613722:=0
def tw7266349652828946741:=0
def tw15894090933440402542:=0
def tw17525328572317398987:=0
def tw10563333334736703006:=0
def tw15557996739647731638:=0
def tw4419013021840300439:=0
def tw1865631633996320513:=0
def tw5840842944593920216:=0
def tw6953881904187536486:=0
def tw14137944573396926253:=0
def tw14112029021883144694:=0
def tw10640739848534683641:=0
def tw18235629901278131757:=0
def tw13358660551642673799:=0
def tw5107042266555643606:=0
def tw10291479233505523570:=0
def tw5744437668747889473:=0
def tw12323345764902980440:=0
def tw1427624519762937424:=0
def tw1076994181766328044:=0
def tw3615190519434349082:=0
def tw600978588294582512:=0
def tw1424532298997355871:=0
def tw10392432951560286583:=0
def tw2406315336729946376:=0
def tw10388192787579097956:=0
def tw10652299414981660055:=0
def tw14761186078907405047:=0
def tw16192657660694604743:=0
def tw16166191894281602581:=0
def tw7286608627609143363:=0
def tw15366238352973272966:=0
def tw7686985166436331195:=0
def tw17418444220298653044:=0
def tw2284852999369798073:=0
def tw13386160260837416524:=0
def tw470139059840880774:=0
def tw17254998953747941467:=0
def tw11896339072712896280:=0
def tw6982956396408040185:=0
def tw6322068019911253535:=0
def tw12546910341633588000:=0
def tw11817999710379369018:=0
def tw11176951945882026009:=0
def tw6434566460660517738:=0
def tw13810778278710250238:=0
def tw1962584075507026368:=0
def tw4463384375040122777:=0
def tw17358545957052032938:=0
def tw15681236425918634288:=0
def tw4957109858113700208:=0
def tw18143518255259641202:=0
def tw6076966148223030116:=0
def tw14867429454432644228:=0
def tw11356497351077342389:=0
def tw3429453617253473306:=0
def tw2090757188710602460:=0
def tw10724836274980654050:=0
def tw14798926970205886344:=0
def tw12679724062230554936:=0
def tw3494856641378301097:=0
def tw14211741764619711164:=0
def tw4867305463271403772:=0
def tw13514349840277318948:=0
def tw18071071759584523379:=0
def tw17358517298944393749:=0
def tw7563112245043026528:=0
def tw2386585145046133924:=0
def tw13626058466150265540:=0
def tw10675876213197362533:=0
def tw734399528372155264:=0
def tw1898466593630459225:=0
def tw13579168575385965776:=0
def tw4539805511233668303:=0
def tw4009961764894141360:=0
def tw14321239732175034522:=0
def tw12200350745712775698:=0
def tw7306585561977635933:=0
def tw11278919594857677479:=0
def tw12157104921430944720:=0
def tw13670319988796391695:=0
def tw18128054925472315205:=0
def tw6120767391190989887:=0
def tw441833766022996652:=0
def tw1104492561347028412:=0
def tw3529349223872150076:=0
def tw18004664256065889161:=0
def tw11026658651100998787:=0
def tw5607131289387405785:=0
def tw1214890557472076636:=0
def tw16430034149243644105:=0
def tw13638173297161744546:=0
def tw1813922535801816218:=0
def tw17697608738136052464:=0
def tw1998900446870844742:=0
def tw4973107850811150011:=0
def tw9380251885150411832:=0
def tw13789956610464419282:=0
def tw8636129520443799684:=0
def tw12036605558060271991:=0
def tw14012869194052801059:=0
def tw9718834740615524890:=0
def tw750786280620121731:=0
def tw11970911008369383973:=0
def tw2269427646419252194:=0
def tw11325640495950942159:=0
def tw3648151489109219062:=0
def tw1738296264527140778:=0
def tw11602357674317129447:=0
def tw6370288206102182983:=0
def tw13363329070494940248:=0
def tw16074793495237033630:=0
def tw2051310425871151876:=0
def tw1649976047991026486:=0
def tw10925323415831231342:=0
def tw6456074040977120534:=0
def tw12449465667460549271:=0
def tw8759562387902743884:=0
def tw8696692738426453537:=0
def tw16795571655634444107:=0
def tw17864947567633185521:=0
def tw13535343523885902610:=0
def tw14702328894120487158:=0
def tw13972576120831718962:=0
def tw8954308010122512215:=0
def tw13949946186343644478:=0
def tw2439443791458281710:=0
def tw524473136447935160:=0
def tw4434300822313013904:=0
def tw4996469415069026343:=0
def tw11655460887316703953:=0
def tw6408894259222640059:=0
def tw16766637135368568700:=0
def tw1713086081392138551:=0
def tw905923768464310907:=0
def tw17046844960236161120:=0
def tw13994552971616953831:=0
def tw2534057181064920733:=0
def tw7182693477429856905:=0
def tw6115322693406017557:=0
def tw13022824131501765358:=0
def tw146125226868693783:=0
def tw11107735950159857781:=0
def tw4295117912174787210:=0
def tw5004549447331498952:=0
def tw2685613470795843111:=0
def tw8259216383771840722:=0
def tw16535446119327900481:=0
def tw13002114709703401736:=0
def tw4312102960637655138:=0
def tw13048315150196022080:=0
def tw17381417090462149656:=0
def tw7876653476202201898:=0
def tw15025418332681344817:=0
def tw3037071671983921333:=0
def tw5058153244878195908:=0
def tw17993103452213935186:=0
def tw1009275962300201124:=0
def tw8534602787330599711:=0
def tw3184944305065812635:=0
def tw10202970589098354770:=0
def tw6025394535719722608:=0
def tw6061454285341118814:=0
def tw12985209640105595808:=0
def tw1318603673388636391:=0
def tw6553861789659970194:=0
def tw15715278771400775313:=0
def tw17732442681207668034:=0
def tw12585850428117266702:=0
def tw1681441436522620543:=0
def tw1986427145379378122:=0
def tw7823119806068543825:=0
def tw6967233294690168177:=0
end PySem.W.Fast
namespace L2
open PySem PySem.Spec PyProof.Rows
structure uh(sc csc:Scope)(N:List Str)(x:Str)(caps:List (Str×Nat)):Prop where
 cell:∀p∈csc.names,p.2≠.cell
 kind:csc.kind=.function
 loc:∀p∈csc.names,p.2=.local->csc.names.lookup p.1=some .local
 tg:csc.names.lookup x=some .local
 free:∀p∈csc.names,p.2=.free->sc.names.lookup p.1=some .cell
 cap:∀p∈caps,N[p.2]?=some p.1/\csc.names.lookup p.1=some .free
 nd:(caps.map (·.1)++[x]).Nodup
def fK(env:Env):List (Str×NameKind)->List (Str×Addr)->List (Str×Addr)
 | [],cs=>cs
 | (n,k)::r,cs=>fK env r (if k == .free then (n,(env.cells.lookup n).getD 0)::cs else cs)
theorem lD{env:Env}{sc:Scope}(h:∀p∈sc.names,p.2=.free->∃c,env.cells.lookup p.1=some c):closureFor sc env=pure (fK env sc.names []):=by
 obtain⟨kind,names,g,c⟩:=sc
 simp only[closureFor]
 have aux:∀(l:List (Str×NameKind)) (cs:List (Str×Addr)),(∀p∈l,p.2=.free->∃c,env.cells.lookup p.1=some c)->
   (forIn l cs (λ(x:Str×NameKind) (r:List (Str×Addr))=>if (x.2 == NameKind.free)=true then (do let a ← cellOf env x.1;pure (ForInStep.yield ((x.1,a)::r))) else pure (ForInStep.yield r)):Sem (List (Str×Addr)))=pure (fK env l cs):=by
  intro l
  induction l with
  |nil=>intro cs _;rfl
  |cons p r ih=>
   intro cs hp
   obtain⟨n,k⟩:=p
   rw[List.forIn_cons]
   have ih':=λcs=>ih cs (λq hq=>hp q (List.mem_cons_of_mem _ hq))
   by_cases hk:(k == NameKind.free)=true
   ·obtain⟨c,e⟩:=hp (n,k) List.mem_cons_self (by simpa using hk)
    simp only[hk,if_true,cellOf,e,fK,pure_bind,Option.getD_some]
    exact ih' _
   ·have hk':(k == NameKind.free)=false:=by simpa using hk
    simp only[hk',if_false,fK,pure_bind,Bool.false_eq_true]
    exact ih' _
 have:=aux names [] h
 first
  | (rw[this];rfl)
  | (simp only[bind_pure];exact this)
  | (refine Eq.trans (bind_pure _) this)
theorem iJ{env:Env}:∀(l:List (Str×NameKind)) (cs:List (Str×Addr)),(∀p∈l,p.2=.free->∃c,env.cells.lookup p.1=some c)->(∀y c,cs.lookup y=some c->env.cells.lookup y=some c)->
  ∀y c,(fK env l cs).lookup y=some c->env.cells.lookup y=some c
 | [],_,_,h2=>h2
 | (n,k)::r,cs,h1,h2=>by
  unfold fK
  refine iJ r _ (λq hq=>h1 q (List.mem_cons_of_mem _ hq)) ?_
  by_cases hk:(k == NameKind.free)=true
  ·obtain⟨c,e⟩:=h1 (n,k) List.mem_cons_self (by simpa using hk)
   rw[if_pos hk]
   intro y c' h
   rw[e] at h
   rw[List.lookup_cons] at h
   cases hy:y == n with
   |true=>rw[hy] at h;simp at h;rw[eq_of_beq hy,← h];exact e
   |false=>rw[hy] at h;exact h2 y c' h
  ·rw[if_neg hk];exact h2
theorem lV{env:Env}:∀(l:List (Str×NameKind)) (cs:List (Str×Addr)) (y:Str),((y,NameKind.free)∈l∨∃c,cs.lookup y=some c)->∃c,(fK env l cs).lookup y=some c
 | [],_,_,h=>by
  rcases h with h|h
  ·cases h
  ·exact h
 | (n,k)::r,cs,y,h=>by
  unfold fK
  refine lV r _ y ?_
  by_cases hk:(k == NameKind.free)=true
  ·rw[if_pos hk]
   by_cases hy:(y == n)=true
   ·exact .inr ⟨_,by rw[List.lookup_cons,hy]⟩
   ·have hy':(y == n)=false:=by simpa using hy
    rcases h with h|⟨c,h⟩
    ·rcases List.mem_cons.mp h with z|z
     ·cases z;simp at hy
     ·exact .inl z
    ·exact .inr ⟨c,by rw[List.lookup_cons,hy'];exact h⟩
  ·rw[if_neg hk]
   rcases h with h|h
   ·rcases List.mem_cons.mp h with z|z
    ·cases z;simp at hk
    ·exact .inl z
   ·exact .inr h
abbrev dW(X:Cx)(N':List Str)(csc:Scope)(C:Addr)(s2:Shared)(H2:Hp)(fp:List Addr):Cx :=
 { X with N:=N',s₀:=s2,H₀:=H2,env:=compEnvC csc (fK X.env csc.names []) C X.env,outer:=X.stack,ex:=fp,fn:=λ_=>false,pn:=[],xe:=λ_ _=>False }
def lq(caps:List (Str×Nat))(Z:St):St:=caps.map λp=>(Z[p.2]?).join
def vX(J:It)(caps:List (Str×Nat))(te:TE)(Z:St)(H1:Hp)(Q:VK):Prop:=∃W:Nat->Nat->List V->Hp->Prop,(∃m,W 0 m [] H1)/\∀i m ys H,W i m ys H->
 (J.stop i H/\∀D,H D=none->Q (.ref D) (upd H D (.lst ys)))∨(J.go i H/\ys.length<sizeLine/\∀x H',J.Qz i H x H'->te (lq caps Z++[some x]) H' λy H2=>∃m',m'<m/\W (i+1) m' (ys++[y]) H2)
def Bh(caps:List (Str×Nat))(wi:TI)(te:TE):TE:=λZ H Q=>wi Z H λJ H1=>vX J caps te Z H1 Q
theorem kL{env:Env}(hk:env.scope.kind=.function):∀{names:List (Str×NameKind)} {x:Str},(∀p∈names,p.2=.free->env.kindOf p.1=some .cell)->names.lookup x=some .free->
  (names.map λ(n,k)=>if (k == NameKind.free && env.scope.kind == .function && env.kindOf n == some .cell) then (n,NameKind.cell) else (n,k)).lookup x=some .cell
 | [],_,_,h=>by simp at h
 | (n,k)::r,x,hf,h=>by
  have ih:=@kL env hk r x (λp hp=>hf p (List.mem_cons_of_mem _ hp))
  show List.lookup x ((if (k == NameKind.free && env.scope.kind == .function && env.kindOf n == some .cell)=true then (n,NameKind.cell) else (n,k))::_)=_
  cases hx:x == n with
  |true=>
   simp only[List.lookup_cons,hx] at h
   cases h
   have:=hf (n,.free) List.mem_cons_self rfl
   have hk':(env.scope.kind == ScopeKind.function)=true:=by rw[hk];rfl
   simp[List.lookup_cons,hx,this,hk']
  |false=>
   simp only[List.lookup_cons,hx] at h
   by_cases hc:(k == NameKind.free && env.scope.kind == .function && env.kindOf n == some .cell)=true
   ·rw[if_pos hc];simp only[List.lookup_cons,hx];exact ih h
   ·rw[if_neg hc];simp only[List.lookup_cons,hx];exact ih h
theorem fM{env:Env}:∀{names:List (Str×NameKind)} {x:Str} {k':NameKind},
  (names.map λ(n,k)=>if (k == NameKind.free && env.scope.kind == .function && env.kindOf n == some .cell) then (n,NameKind.cell) else (n,k)).lookup x=some k'->(k'=.cell∨k'=.free)->(∀p∈names,p.2≠.cell)->(x,NameKind.free)∈names
 | [],_,_,h,_,_=>by simp at h
 | (n,k)::r,x,k',h,hk,hn=>by
  have ih:=@fM env r x k'
  have h:List.lookup x ((if (k == NameKind.free && env.scope.kind == .function && env.kindOf n == some .cell)=true then (n,NameKind.cell) else (n,k))::(r.map λ(n,k)=>if (k == NameKind.free && env.scope.kind == .function && env.kindOf n == some .cell) then (n,NameKind.cell) else (n,k)))=some k':=h
  cases hx:x == n with
  |true=>
   have e:x=n:=eq_of_beq hx
   subst e
   by_cases hc:(k == NameKind.free && env.scope.kind == .function && env.kindOf x == some .cell)=true
   ·have:k=.free:=by
     simp only[Bool.and_eq_true] at hc
     simpa using hc.1.1
    subst this
    exact List.mem_cons_self
   ·rw[if_neg hc] at h
    simp only[List.lookup_cons,hx] at h
    cases h
    rcases hk with z|z
    ·exact absurd z (hn _ List.mem_cons_self)
    ·subst z;exact List.mem_cons_self
  |false=>
   refine List.mem_cons_of_mem _ (ih ?_ hk λp hp=>hn p (List.mem_cons_of_mem _ hp))
   by_cases hc:(k == NameKind.free && env.scope.kind == .function && env.kindOf n == some .cell)=true
   ·rw[if_pos hc] at h;simp only[List.lookup_cons,hx] at h;exact h
   ·rw[if_neg hc] at h;simp only[List.lookup_cons,hx] at h;exact h
section
variable {X:Cx}{pins:List (Addr×Obj)}{Z:St}{H:Hp}{s:Shared}
theorem ir(caps:List (Str×Nat))(Z:St):(lq caps Z).length=caps.length:=by simp[lq]
theorem rm{csc:Scope}{x:Str}{caps:List (Str×Nat)}{fp:List Addr}{h4:Heap}{t4:Nat}{C:Addr}{m0:Str->Option Value}(I:Inv X pins Z H s)(ck:uh X.env.scope csc X.N x caps)(hf:∀b∈fp,rN X pins H b)
  (hfs:∀b∈fp,b<s.heap.objs.size) (hC:s.heap.objs.size<=C) (hk:∀b o,s.heap.get? b=some o->h4.get? b=some o) (hn:h4.Ns C m0) :
  Inv (dW X (caps.map (·.1)++[x]) csc C s H fp) [] (lq caps Z++[none]) H { s with heap:=h4,toks:=t4 }:=by
 have cellsOk:∀p∈csc.names,p.2=.free->∃c,X.env.cells.lookup p.1=some c:=λp hp e=>I.ok.has p.1 (.inl (ck.free p hp e))
 have inX:∀y c,(fK X.env csc.names []).lookup y=some c->X.env.cells.lookup y=some c:=iJ _ _ cellsOk (λy c h=>by simp at h)
 have kf:∀p∈csc.names,p.2=.free->X.env.kindOf p.1=some .cell:=ck.free
 refine⟨⟨I.ok.mod,ck.kind,I.ok.glob,I.ok.blt,hC,λy z c h1 h2=>I.ok.inj y z c (inX y c h1) (inX z c h2),λy hy=>?_,λy c h=>(nomatch h),I.ok.hd,I.ok.frames,.inl rfl,λb hb=>⟨?_,λy c h=>?_⟩,?_,?_,?_,?_,I.stack,I.ze⟩,rfl,I.bare,Un.kept hk,⟨m0,hn,λi y v h1 h2 h3=>?_⟩,λy c h=>?_,I.hok.fresh hC,λy c h=>I.jR y c (inX y c h),λp hp=>absurd hp (by simp),I.hok.kept hk,?_⟩
 ·have hy':(csc.names.map λ(n,k)=>if (k == NameKind.free && X.env.scope.kind == .function && X.env.kindOf n == some .cell) then (n,NameKind.cell) else (n,k)).lookup y=some .cell∨(csc.names.map λ(n,k)=>if (k == NameKind.free && X.env.scope.kind == .function && X.env.kindOf n == some .cell) then (n,NameKind.cell) else (n,k)).lookup y=some .free:=hy
  refine lV _ _ y (.inl ?_)
  rcases hy' with z|z
  ·exact fM z (.inl rfl) ck.cell
  ·exact fM z (.inr rfl) ck.cell
 ·exact Nat.ne_of_lt (Nat.lt_of_lt_of_le (hfs b hb) hC)
 ·exact(hf b hb).2.2.2.2.1 y c (inX y c h)
 ·exact λb o e=>I.bs b o e
 ·exact Nat.le_trans I.ok.Lp I.sz
 ·intro b o e hb
  rcases (hf b hb).2.2.2.1 with z|z
  ·exact I.ok.Di b o e z
  ·exact absurd (Nat.lt_of_lt_of_le (Heap.lt_size (I.ok.bs b o e).1) z) (Nat.lt_irrefl _)
 ·intro b hb z
  rcases List.mem_cons.mp (I.pO b z) with e|e
  ·exact(hf b hb).2.1 e
  ·exact(hf b hb).2.2.1 e
 ·have hi:i<caps.length:=by
   by_cases hi:i<caps.length
   ·exact hi
   ·rw[List.getElem?_append_right (by rw[ir];lia),ir] at h2
    cases q:i-caps.length with
    |zero=>rw[q] at h2;simp at h2
    |succ k=>rw[q] at h2;simp at h2
  rw[List.getElem?_append_left (by rw[List.length_map];exact hi),List.getElem?_map] at h1
  rw[List.getElem?_append_left (by rw[ir];exact hi)] at h2
  unfold lq at h2
  rw[List.getElem?_map] at h2
  cases e:caps[i]? with
  |none=>rw[e] at h1;cases h1
  |some p=>
   rw[e] at h1 h2
   simp only[Option.map_some,Option.some.injEq] at h1 h2
   subst h1
   obtain⟨hN,hfr⟩:=ck.cap p (List.mem_of_getElem? e)
   have h2':Z[p.2]?=some (some v):=by
    cases q:Z[p.2]? with
    |none=>rw[q] at h2;cases h2
    |some w=>rw[q] at h2;simp at h2;rw[h2]
   have hcX:X.env.scope.names.lookup p.1=some .cell:=ck.free (p.1,.free) (PySem.mem_of_lookup hfr) rfl
   obtain⟨m,_,hl⟩:=I.loc
   obtain⟨u,r,l⟩:=hl p.2 p.1 v hN h2' (.inr (.inl hcX))
   refine⟨u,r,?_⟩
   rcases l with ⟨k,_⟩|⟨_,c,hc,z⟩
   ·have k':X.env.scope.names.lookup p.1=some .local:=k
    rw[hcX] at k';cases k'
   ·obtain⟨c',hc'⟩:=lV (env:=X.env) csc.names [] p.1 (.inl (PySem.mem_of_lookup hfr))
    have:c'=c:=by
     have:=inX p.1 c' hc'
     rw[hc] at this
     exact(Option.some.inj this).symm
    subst this
    refine .inr ⟨.inl (kL I.ok.kind kf hfr),c',hc',?_⟩
    obtain⟨o,ho,hd⟩:=z
    exact⟨o,hk _ _ ho,hd⟩
 ·obtain⟨v,o,ho,hd⟩:=I.cell y c (inX y c h)
  exact⟨v,o,hk _ _ ho,hd⟩
 ·rw[List.length_append,ir,List.length_append,List.length_map];rfl
end
theorem oq{prog:Program}{w:World}{A:Around}{R:Result->Shared->Prop}{s:Shared}{elt target iter:Expr}{scope:Scope}{pos:Pos}{it acc:Value}{env:Env}(J:Nat->Shared->Prop)
  (turn:∀n s,J n s->wpAny (model prog w) A (pyNext it) (λr s₁=>match r with
   |none=>R (.ok .next) s₁
   |some v=>wpAny (model prog w) A (letOwnedTupleGo target it v) (λ_ s₁=>wpAny (model prog w) A (assign target env v) (λ_ s₂=>wpAny (model prog w) A (eval elt env) (λx s₃=>
     wpAny (model prog w) A (call (.builtin "list.append") [acc,x]) (λ_ s₄=>∃m,m<n/\J m s₄) (λ_ _=>False) s₃)
     (λ_ _=>False) s₂) (λ_ _=>False) s₁) (λ_ _=>False) s₁) (λ_ _=>False) s)
  (n:Nat) (h:J n s) :
  codeAny (model prog w) A (.compLoop (.ListComp elt [⟨target,iter,[],0⟩] scope pos) 0 it acc env) R s:=by
 refine codeAny_loop rfl J (λn s hI=>?_) n h
 show wpAny _ _ ((compTurn (.ListComp elt [⟨target,iter,[],0⟩] scope pos) 0 it acc env).onRaise (λx=>do noteFrame x env;theTreesLotGoes x)) _ _ s
 refine wpAny_noted ?_
 rw[compTurn_list1]
 refine wpAny_bind (wpAny_standAt (wpAny_bind (wpAny_mono (turn n s hI) (λr s₁ h₁=>?_) λ_ _ h'=>h'.elim)))
 cases r with
 |none=>exact wpAny_pure h₁
 |some v=>
  refine wpAny_bind (wpAny_mono h₁ (λ_ s₁' h₁=>?_) λ_ _ h'=>h'.elim)
  exact wpAny_bind (wpAny_mono h₁ (λ_ s₂ h₂=>wpAny_bind (wpAny_bind (wpAny_mono h₂ (λx s₃ h₃=>wpAny_bind (wpAny_mono h₃
   (λ_ s₄ h₄=>wpAny_pure (wpAny_pure ⟨rfl,h₄⟩)) λ_ _ h'=>h'.elim)) λ_ _ h'=>h'.elim))) λ_ _ h'=>h'.elim)
theorem JH{a b:Nat}(h:a<b):a≠b:=Nat.ne_of_lt h
theorem IB{a b:Nat}(h:a<b):a≠b+1:=Nat.ne_of_lt (Nat.lt_succ_of_lt h)
theorem GL{a:Nat}:a≠a+1:=Nat.ne_of_lt (Nat.lt_succ_self a)
section
variable {X:Cx}
theorem sW{csc:Scope}{N':List Str}{fp:List Addr}{C D:Addr}{pins pl:List (Addr×Obj)}{Z Z':St}{H H':Hp}{s s':Shared}{h':Heap}{ys:List V}{its:List Value}{n:Nat}(I:Inv X pins Z H s)
  (J:Inv (dW X N' csc C s H fp) pl Z' H' s') (hf:∀b∈fp,rN X pins H b) (hC:s.heap.objs.size<=C) (hD:s.heap.objs.size<=D) (hDC:D≠C) (hs:Heap.SameBut C s'.heap h') (hv:Vals ys its) (hz:ys.length<=sizeLine)
  (hd:s'.heap.get? D=some { cls:=.type "list",data:=.seq its.toArray n }) (hDn:H' D=none):Inv X pins Z (upd H' D (.lst ys)) { s' with heap:=h' }:=by
 have ne:∀b o,s.heap.get? b=some o->b≠C/\b≠D:=λb o e=>⟨Nat.ne_of_lt (Nat.lt_of_lt_of_le (Heap.lt_size e) hC),Nat.ne_of_lt (Nat.lt_of_lt_of_le (Heap.lt_size e) hD)⟩
 have u:Un (frs X.stack) fp H H' s.heap s'.heap:=J.base
 have nDt:∀b o,H' b=some o->b≠D:=λb o e=>au e hDn
 refine I.QD (s':={ s' with heap:=h' }) (ch:=fp) J.os ?_ ?_ J.bare λb hb=>⟨(hf b hb).2.2.2.1,(hf b hb).2.1,(hf b hb).2.2.2.2.1,(hf b hb).2.2.2.2.2⟩
 ·refine⟨λb o q n hb he=>?_,λb o q n hb he=>?_,λb o q n he=>?_,λb o q he=>?_,λb xs q=>?_,λb o xs q=>?_,λb ps q=>?_⟩
  ·exact(hs.2 b (ne b o q).1).trans (u.keep b o q n hb he)
  ·obtain⟨sl,e⟩:=u.slot b o q n hb he
   exact⟨sl,(hs.2 b (ne b o q).1).trans e⟩
  ·rw[ak (ne b o q).2];exact u.free b o q n he
  ·obtain⟨o',e⟩:=u.there b o q he
   exact⟨o',(hs.2 b (ne b o q).1).trans e⟩
  ·have:=u.tups b xs q
   rw[ak (nDt b _ this)];exact this
  ·have:=u.oN b o xs q
   rw[ak (nDt b _ this)];exact this
  ·obtain⟨more,this⟩:=u.rV b ps q
   exact⟨more,by rw[ak (nDt b _ this)];exact this⟩
 ·intro b o e
  by_cases hb:b=D
  ·subst hb
   rw[af] at e;cases e
   exact⟨hz,its,n,hv,(hs.2 b hDC).trans hd⟩
  ·rw[ak hb] at e
   refine(J.hok b o e).stay (λc v hc q=>(hs.2 c ?_).trans q) (λc q=>by rw[ak (nDt c _ q)];exact q) λc xs q=>by rw[ak (nDt c _ q)];exact q
   have hfree:H' C=none:=J.free
   rcases hc with z|z
   ·rw[z];exact au e hfree
   ·exact au z hfree
theorem gi{sc csc:Scope}{N:List Str}{elt iter:Expr}{x:Str}{px pos:Pos}{caps:List (Str×Nat)}{wi:TI}{te:TE}(ck:uh sc csc N x caps)(hi:PI X (.Name x px) iter wi)
  (he:∀C s2 H2 fp,PE (dW X (caps.map (·.1)++[x]) csc C s2 H2 fp) elt te) (hc:autoParam (X.calm=true) L2.Y3._auto_1) (hsc:autoParam (X.env.scope=sc) L2.Y3._auto_1) (hXN:autoParam (X.N=N) L2.Y3._auto_1) (hs:autoParam (∀x,foldedSetIterable iter X.env x=pure x) L2.Y2._auto_1) :
  PE X (.ListComp elt [⟨.Name x px,iter,[],0⟩] csc pos) (Bh caps wi te):=by
 subst hsc hXN
 intro pins s Z H Q I h
 rw[eval_ListComp]
 have cellsOk:∀p∈csc.names,p.2=.free->∃c,X.env.cells.lookup p.1=some c:=λp hp e=>I.ok.has p.1 (.inl (ck.free p hp e))
 refine wpAny_comprehension_free (use:=none) rfl hs (lD cellsOk) ck.kind ck.loc (cU (hi pins s Z H _ I h) λv s1 h1=>cU h1 λitv s2 h2=>?_)
 obtain⟨it,fp,tn,J,H2,e,I2,T,st2,f2,W,⟨m0,w0⟩,turn⟩:=h2
 subst e
 refine wpAny_newObj_type (wpAny_newFunctionEnv ck.cell (by intro y hy;simp at hy) (λh4 hns4 hsb4=>?_) ck.kind)
 dsimp only at hns4 hsb4 ⊢
 generalize hD:s2.heap.objs.size=D at hns4 hsb4 ⊢
 generalize hH2:s2.heap.push { cls:=.type "list",dict:=none,data:=.seq ([]:List Value).toArray }=G at hns4 hsb4 ⊢
 have hGs:G.objs.size=D+1:=by rw[← hH2,Heap.size_push,hD]
 rw[hGs] at hns4 hsb4 ⊢
 have lt2:∀b o,s2.heap.get? b=some o->b<D:=λb o e=>hD ▸ Heap.lt_size e
 have old:∀b o,s2.heap.get? b=some o->b≠D+1/\b≠D:=λb o e=>⟨IB (lt2 b o e),JH (lt2 b o e)⟩
 have leD:s2.heap.objs.size<=D:=Nat.le_of_eq hD
 have leD1:s2.heap.objs.size<=D+1:=Nat.le_succ_of_le leD
 have keep4:∀b o,s2.heap.get? b=some o->h4.get? b=some o:=λb o e=>hsb4.extBut b o (old b o e).1 (Heap.get?_push_of_some _ (hH2 ▸ Heap.get?_push_of_some _ e))
 have hDo:h4.get? D=some { cls:=.type "list",data:=.seq ([]:List Value).toArray 0 }:=by
  refine hsb4.extBut D _ GL (Heap.get?_push_of_some _ ?_)
  rw[← hH2,← hD]
  exact Heap.get?_push_size _ rfl
 have fps:∀b∈fp,b<s2.heap.objs.size:=λb hb=>by
  obtain⟨o,e,_⟩:=T.obj _ _ st2 b hb
  exact Heap.lt_size e
 have I4:∀t4,Inv (dW X (caps.map (·.1)++[x]) csc (D+1) s2 H2 fp) [] (lq caps Z++[none]) H2 { s2 with heap:=h4,toks:=t4 }:=λt4=>rm (m0:=λx=>[].reverse.lookup x) I2 ck f2 fps leD1 keep4 hns4
 have cellsLt:∀y c,(fK X.env csc.names []).lookup y=some c->c<D:=λy c e=>by
  obtain⟨v,o,ho,_⟩:=I2.cell y c (iJ _ _ cellsOk (λy c h=>by simp at h) y c e)
  exact lt2 c o ho
 have fsLt:∀b∈frs X.stack,b<D:=λb hb=>by
  obtain⟨_,o,ho,_⟩:=I2.stack.mem hb
  exact lt2 b o ho
 have fpC:∀{pl:List (Addr×Obj)} {H':Hp},(∀p∈pl,p.1=D)->(∀b∈fp,H' b=none)->∀b∈fp,rN (dW X (caps.map (·.1)++[x]) csc (D+1) s2 H2 fp) pl H' b:=λ{pl H'} hpl hn b hb=>by
  have hb':b<D:=hD ▸ fps b hb
  refine⟨hn b hb,IB hb',?_,.inl hb,λy c e=>?_,λp hp=>?_⟩
  ·intro z
   rcases List.mem_cons.mp (I2.pO b z) with e|e
   ·exact(f2 b hb).2.1 e
   ·exact(f2 b hb).2.2.1 e
  ·exact(f2 b hb).2.2.2.2.1 y c (iJ _ _ cellsOk (λy c h=>by simp at h) y c e)
  ·have:p.1=D:=hpl p (by simpa using hp)
   rw[this];exact λz=>JH hb' z.symm
 have loop:∀t4,codeAny (model X.prog X.w) X.A (.compLoop (.ListComp elt [⟨.Name x px,iter,[],0⟩] csc pos) 0 (.ref it) (.ref D) (compEnvC csc (fK X.env csc.names []) (D+1) X.env))
   (compPost (model X.prog X.w) X.A X.xe none (EP X pins Z Q) (.ref D) (D+1)) { s2 with heap:=h4,toks:=t4 }:=by
  intro t4
  refine oq (λn s'=>∃(i:Nat) (ys:List V) (its:List Value) (k:Nat) (Z':St) (H':Hp),Inv (dW X (caps.map (·.1)++[x]) csc (D+1) s2 H2 fp) [(D,{ cls:=.type "list",data:=.seq its.toArray k })] Z' H' s'/\tn i s'.heap/\(∀b∈fp,H' b=none)/\Vals ys its/\ys.length<=sizeLine/\W i n ys H'/\(∃z,Z'=lq caps Z++[z])) ?_ m0 ?_
  ·rintro n s3 ⟨i,ys,its,k,Z3,H3,I3,st3,fr3,hv,hz,w3,z3,rfl⟩
   have pl1:∀p∈[((D,{ cls:=.type "list",data:=.seq its.toArray k }):Addr×Obj)],p.1=D:=λp hp=>by rw[List.mem_singleton.mp hp]
   rcases turn i n ys H3 w3 with ⟨stop,qn⟩|⟨go,hlt,step⟩
   ·refine wpAny_mono (T.done (dW X (caps.map (·.1)++[x]) csc (D+1) s2 H2 fp) rfl rfl rfl hc i _ s3 _ H3 (λ_ _=>False) I3 (fpC pl1 fr3) st3 stop) (λr s4 hY=>?_) λ_ _ f=>f.elim
    obtain⟨hr,I4'⟩:=hY
    subst hr
    obtain⟨m,hn,_⟩:=id I4'.loc
    have pD:=I4'.pin (D,{ cls:=.type "list",data:=.seq its.toArray k }) (by simp)
    refine⟨m,hn,λh' hs'=>⟨.ref D,_,sW I2 I4' f2 leD1 leD GL hs' hv hz pD.1 pD.2.1,rfl,qn D pD.2.1⟩⟩
   ·refine wpAny_mono (T.item (dW X (caps.map (·.1)++[x]) csc (D+1) s2 H2 fp) rfl rfl rfl hc i _ s3 _ H3 (λ_ _=>False) I3 (fpC pl1 fr3) st3 go) (λr s4 hY=>?_) λ_ _ f=>f.elim
    obtain⟨u,hr,h4'⟩:=hY
    subst hr
    refine wpAny_mono h4' (λ_ s4 hY=>?_) λ_ _ f=>f.elim
    obtain⟨xv,H5,I5,r5,y5,st5,fr5⟩:=hY
    have I5':=I5.pinned (fpC pl1 fr5) (T.obj _ _ st5)
    have hiN:(caps.map (·.1)++[x])[caps.length]?=some x:=by rw[List.getElem?_append_right (by simp)];simp
    refine wpAny_mono (oY (X:=dW X (caps.map (·.1)++[x]) csc (D+1) s2 H2 fp) (i:=caps.length) ck.nd hiN (.inl (lookup_relabel_local ck.tg)) (.inr (lookup_relabel_local ck.tg)) _ s4 _ H5 xv u _ I5' r5 (show oz caps.length xv _ H5 (λZ6 H6=>Z6=lq caps Z++[some xv]/\H6=H5) from ⟨?_,rfl⟩)) (λ_ s6 ⟨Z6,H6,I6,hZ,hH⟩=>?_) λ_ _ f=>f.elim
    ·rw[List.set_append_right _ _ (by rw[ir];exact Nat.le_refl _),ir,Nat.sub_self];rfl
    subst hZ hH
    refine wpAny_mono (he (D+1) s2 H2 fp _ s6 _ H6 _ I6 (step xv H6 y5)) (λw7 s7 hY=>?_) λ_ _ f=>f.elim
    obtain⟨y,H7,I7,r7,m',hm,w8⟩:=hY
    have pD:=I7.pin (D,{ cls:=.type "list",data:=.seq its.toArray k }) (by simp)
    have hll:=hv.length
    refine call_meets F.slot_list_append ⟨_,pD.1,rfl⟩ F.entry_list_append (F.args_list_append_2 _ _) (PySem.list_append D its.toArray k w7 (by rw[List.size_toArray];lia)) ⟨pD.1,?_⟩
    have q:=PySem.IsL.update pD.1 (·.push w7)
    have hpush:its.toArray.push w7=(its++[w7]).toArray:=by simp
    rw[hpush] at q
    obtain⟨k',q⟩:∃k',(s7.heap.update D (Obj.mapSeq (·.push w7))).get? D=some { cls:=.type "list",data:=.seq (its++[w7]).toArray k' }:=⟨_,q⟩
    have I7u:Inv (dW X (caps.map (·.1)++[x]) csc (D+1) s2 H2 fp) (kJ fp s4.heap) _ H7 s7:=I7.gR λp hp=>I7.pin p (List.mem_append_right _ (List.mem_append_right _ hp))
    have pfp:∀p∈kJ fp s4.heap,p.1<D:=λp hp=>hD ▸ fps p.1 (nU hp).1
    have I8:=I7u.turned (h':=s7.heap.update D (Obj.mapSeq (·.push w7))) (t':=s7.toks) (it:=D) (λb o hb e=>(Heap.get?_update_other s7.heap _ (Ne.symm hb)).trans e) pD.2.1 GL (.inr leD) (λy c e=>JH (cellsLt y c e)) (λp hp=>JH (pfp p (by simpa using hp)))
    refine⟨m',hm,i+1,ys++[y],its++[w7],k',_,H7,I8.gR λp hp=>?_,T.keep _ _ _ st5 λb hb o e=>(I8.pin (b,o) (List.mem_append_right _ (gK hb e))).1,λb hb=>?_,hv.append (.cons r7 .nil),?_,w8,_,rfl⟩
    ·rw[List.mem_singleton.mp hp]
     exact⟨q,pD.2.1,pD.2.2.1,pD.2.2.2.1,λv=>by simp⟩
    ·obtain⟨o,e,d⟩:=T.obj _ _ st5 b hb
     exact(I8.pin (b,o) (List.mem_append_right _ (gK hb e))).2.1
    ·rw[List.length_append,List.length_singleton];lia
  ·refine⟨0,[],[],0,_,H2,(I4 t4).gR λp hp=>?_,T.keep _ _ _ st2 λb hb o e=>keep4 b o e,λb hb=>(f2 b hb).1,.nil,Nat.zero_le _,w0,_,rfl⟩
   rw[List.mem_singleton.mp hp]
   refine⟨hDo,I2.hok.fresh leD,GL,λz=>absurd (fsLt D z) (Nat.lt_irrefl _),λv=>by simp⟩
 exact codeAny_compStart_list (loop _) (T.self _ 0 _ _ _ (T.keep _ _ _ st2 λb hb o e=>keep4 b o e) (loop _))
end
section
variable {X:Cx}
theorem yN{ys:List Str}:∀{us:List Value},Vals (ys.map V.str) us->StrsAre us ys:=by
 induction ys with
 |nil=>intro us r;cases r;exact .nil
 |cons y r ih=>
  intro us h
  cases h with
  |cons h t=>
   obtain⟨k,rfl⟩:=h
   exact .cons _ _ (ih t)
def rJoin(K:PySem.W.Frag):V->List V->Hp->VK->Prop:=λx vs H Q=>∃z p ys,x=.str z/\vs=[.ref p]/\bg K H p (ys.map V.str)/\(ys.map (·.length)).sum+ys.length*z.length<=16777216/\Q (.str (Txt.join z ys)) H
theorem mG:Qc X "str.join" (rJoin X.K):=by
 intro pins s Z H x vs v us Q I rx rv h
 obtain⟨z,p,ys,rfl,rfl,hq,hz,q⟩:=h
 obtain⟨t,rfl⟩:=rx
 obtain⟨u,rfl,ru⟩:=rv.one
 cases ru
 obtain⟨its,r,pl,_⟩:=I.list hq
 exact PyProof.Rows.join_list pl.isList (by simpa using yN r) hz λt' k=>⟨.str _,H,I.tok _,⟨_,rfl⟩,q⟩
def vI:V->List V->Hp->VK->Prop:=λx vs H Q=>∃a b i,x=.str a/\vs=[.str b,.int i]/\Q (.bl (fromIndex a.length i+b.length<=a.length && Builtin.Str.subAt a b (fromIndex a.length i))) H
theorem yz:Qc X "str.startswith" vI:=by
 intro pins s Z H x vs v us Q I rx rv h
 obtain⟨a,b,i,rfl,rfl,q⟩:=h
 obtain⟨t,rfl⟩:=rx
 obtain⟨u,w',rfl,ru,rw'⟩:=rv.two
 obtain⟨t1,rfl⟩:=ru
 obtain⟨t2,rfl⟩:=rw'
 exact call_gives F.slot_str_startswith (typeIs_str _ _ _) F.entry_str_startswith (F.args_str_startswith_3 _ _ _) (gives_str_startswith_from a b i t t1 t2) ⟨.bl _,H,I,rfl,q⟩
def wU:V->List V->Hp->VK->Prop:=λx vs H Q=>∃a b,x=.str a/\vs=[.str b]/\Q (.bl (0+b.length<=a.length && Builtin.Str.subAt a b 0)) H
theorem wW:Qc X "str.startswith" wU:=by
 intro pins s Z H x vs v us Q I rx rv h
 obtain⟨a,b,rfl,rfl,q⟩:=h
 obtain⟨t,rfl⟩:=rx
 obtain⟨u,rfl,ru⟩:=rv.one
 obtain⟨t1,rfl⟩:=ru
 exact call_gives F.slot_str_startswith (typeIs_str _ _ _) F.entry_str_startswith (F.args_str_startswith_2 _ _) (gives_str_startswith a b t t1) ⟨.bl _,H,I,rfl,q⟩
def rj(z:Str):List V:=z.cps.toList.map λc=>V.str ⟨#[c]⟩
theorem ye{z:Str}{acc:Array Value}(h:ItemsOf (SignAt z) acc z.cps.size):Vals (rj z) acc.toList:=by
 obtain⟨hs,hi⟩:=h
 have aux:∀(cs:List Nat) (us:List Value),us.length=cs.length->(∀(i:Nat) (v:Value),us[i]?=some v->∃c u,cs[i]?=some c/\v=Value.str ⟨#[c]⟩ u)->Vals (cs.map λc=>V.str ⟨#[c]⟩) us:=by
  intro cs
  induction cs with
  |nil=>intro us hl _;cases us with
   |nil=>exact .nil
   |cons _ _=>cases hl
  |cons c r ih=>
   intro us hl h
   cases us with
   |nil=>cases hl
   |cons u r'=>
    refine .cons ?_ (ih r' (by simpa using hl) λi v e=>h (i+1) v (by simpa using e))
    obtain⟨c',t,e,z⟩:=h 0 u rfl
    simp at e
    subst e
    exact⟨t,z⟩
 refine aux _ _ (by simp[hs]) λi v e=>?_
 obtain⟨c,u,e1,e2⟩:=hi i v (by simpa using e)
 exact⟨c,u,by simpa using e1,e2⟩
theorem xj (hc:X.calm=true):ic X (.type "list") (λxs H Q=>∃z:Str,xs=[.str z]/\z.length<=sizeLine/\∀l,H l=none->Q (.ref l) (upd H l (.lst (rj z)))):=by
 intro pins s Z H xs us Q I r h
 obtain⟨z,rfl,hz,q⟩:=h
 obtain⟨u,rfl,rx⟩:=vals1 r
 obtain⟨t,rfl⟩:=rx
 refine PySem.call_list_str (I.ok.hd hc) z t (λh' tk acc' c' kp e hi=>?_) hz
 have hv:=ye hi
 exact⟨.ref s.heap.objs.size,_,I.laid (t':=tk) kp (Nat.le_refl _) (show cL X.prog X.w _ h' _ (.lst (rj z)) from ⟨by simp only[rj,List.length_map,Array.length_toList];exact hz,acc'.toList,c',hv,by simpa using e⟩),rfl,q _ (I.hok.fresh (Nat.le_refl _))⟩
theorem wk:ic X (.builtin "isinstance") (λxs H Q=>∃x c cv t b,xs=[x,c]/\(c=V.ty cv∨False)/\n5 X.K H x t/\PySem.W.kitOne X.K t (.type cv)=some b/\Q (.bl b) H):=by
 intro pins s Z H xs us Q I r h
 obtain⟨x,c,cv,t,b,rfl,hc,ty,e,q⟩:=h
 obtain⟨u,w',rfl,ru,rw'⟩:=vals2 r
 rcases hc with rfl|hc
 ·cases rw'
  exact AZ I ru ty e λtk=>⟨.bl b,H,I.tok _,rfl,q⟩
 ·exact hc.elim
end
def At(X:Cx)(D:Ends)(sts:List Stmt)(Z:St)(H:Hp):Prop:=∀(pins:List (Addr×Obj)) (s:Shared),Inv X pins Z H s->wpAny (model X.prog X.w) X.A (execs sts X.env) (SP X pins D) X.xe s
section
variable {X:Cx}{D:Ends}{st:Stmt}{rest sts:List Stmt}{t:TS}{Z:St}{H:Hp}
theorem aA:xX X sts (λD Z H=>At X D sts Z H):=λpins s Z H D I h=>h pins s I
theorem bG(h:D.nx Z H):At X D [] Z H:=λ_ _ I=>wpAny_execs_nil ⟨Z,H,I,h⟩
theorem ao(h:PS X st t)(q:t { D with nx:=λZ H=>At X D rest Z H } Z H):At X D (st::rest) Z H:=λpins s I=>
 (vV h aA) pins s Z H D I q
theorem ay(h:PS X st t)(q:t D Z H):At X D [st] Z H:=λpins s I=>(HM h) pins s Z H D I q
theorem zl(h:At X D sts Z H):∃t,xX X sts t/\t D Z H:=⟨λD' Z' H'=>D'=D/\Z'=Z/\H'=H,λpins s Z' H' D' I ⟨e1,e2,e3⟩=>by subst e1 e2 e3;exact h pins s I,rfl,rfl,rfl⟩
end
theorem fq{c:Prop}[Decidable c]{A B:Prop}(h1:c->A)(h2:¬ c->B):if decide c=true then A else B:=by
 by_cases h:c
 ·rw[decide_eq_true h];exact h1 h
 ·rw[decide_eq_false h];exact h2 h
theorem qS{c:Prop}[Decidable c]{A B:Prop}(h1:¬ c->A)(h2:c->B):if (!decide c)=true then A else B:=by
 by_cases h:c
 ·rw[decide_eq_true h];exact h2 h
 ·rw[decide_eq_false h];exact h1 h
theorem Ti{c:Bool}{A B:Prop}(h1:c=true->A)(h2:c=false->B):if c=true then A else B:=by
 cases c
 ·exact h2 rfl
 ·exact h1 rfl
theorem aj.upd{H:Hp}{p:Addr}{o:HO}(h:H p=none):aj H (upd H p o):=λb u e=>by rw[ak (au e h)];exact e
theorem aj.to{H H1:Hp}{p:Addr}{o:HO}(s:aj H H1)(h:H1 p=none):aj H (L2.upd H1 p o):=s.trans (aj.upd h)
theorem aj.to2{H0 H:Hp}{p:Addr}{o:HO}(s:aj H0 H)(g:H p=none):aj H0 (L2.upd H p o)/\L2.upd H p o p=some o:=⟨s.to g,af⟩
theorem bg.same{K:PySem.W.Frag}{H H':Hp}{a:Addr}{xs:List V}(h:bg K H a xs)(e:aj H H'):bg K H' a xs:=e.seq h
section
variable {X:Cx}{C:Addr}{x:Str}{p pos:Pos}
def Gh(C:Addr):TE:=λ_ H Q=>∀x dx,H x=none->H dx=none->dx≠x->Q (.ref x) (upd (upd H dx (.own x)) x (.ins C dx []))
end
section
variable {X:Cx}{C:Addr}{x:Str}{p pos:Pos}
structure So(K:PySem.W.Frag)(C:Addr):Prop where
 makes:PySem.W.makesIn K C=true
 init:PySem.W.findIn K (.ref C) "__init__" = some (some (.builtin "object.__init__"))
 kp:PySem.W.keepIn K (.ref C)=true
theorem qU (M:So X.K C) (hg:Gl X x) (hm:X.mg x=some (.ref C)) (hdb:autoParam ((x == ("__debug__":Str))=false) L2.Y1._auto_1):PE X (.Call (.Name x p) [] [] pos) (Gh C):=by
 intro pins s Z H Q I h
 refine wpAny_Call_Name_kw (nc I hg hm ?_ hdb)
 refine PySem.W.callWith_K0 I.mK M.kp (wpAny_call ?_)
 have hq:=h (s.heap.objs.size+1) s.heap.objs.size (I.hok.fresh (Nat.le_succ _)) (I.hok.fresh (Nat.le_refl _)) (Nat.ne_of_lt (Nat.lt_succ_self _))
 have I2:=Inv.made (C:=C) I
 have Y:=PySem.W.makes_of (M:=model X.prog X.w) I.mK M.makes
 refine Bc I.mK M.makes M.init (λself=>PySem.W.Looks.of_pure (PySem.W.oi_bind self)) ?_
 obtain⟨hh,g,d,t,os⟩:=s
 have e2:((hh.push PySem.W.emptyDict).push (PySem.W.instObj C hh.objs.size)).get? (hh.objs.size+1)=some (PySem.W.instObj C hh.objs.size):=by
  have:=Heap.get?_push_size (hh.push PySem.W.emptyDict) (o:=PySem.W.instObj C hh.objs.size) rfl
  rwa [Heap.size_push] at this
 have t1:PySem.W.Looks (model X.prog X.w) ((hh.push PySem.W.emptyDict).push (PySem.W.instObj C hh.objs.size)) (typeOf (.ref (hh.objs.size+1))) (.ref C):=(PySem.W.Looks.ld e2).andThen .now
 have t2:PySem.W.Looks (model X.prog X.w) ((hh.push PySem.W.emptyDict).push (PySem.W.instObj C hh.objs.size)) (isInstance (.ref (hh.objs.size+1)) (.type "object")) true:=t1.andThen (Y.top.keeps λb o e=>Heap.get?_push_of_some _ (Heap.get?_push_of_some _ e))
 refine codeAny_call_builtin PySem.W.oi_plain PySem.W.entry_oi (@PySem.W.check_slot (model X.prog X.w) _ _ _ "object.__init__" "object" "__init__" (.ref (hh.objs.size+1)) [] [] _ PySem.W.oi_kind PySem.W.oi_split t2 (PySem.W.oi_args (.ref (hh.objs.size+1))) ?_)
 rw[PySem.W.oi_run]
 exact wpAny_pure ⟨rfl,⟨V.ref (hh.objs.size+1),_,I2,rfl,hq⟩⟩
end
section
variable {X:Cx}
def Sw:V->Option Int->Option Int->Hp->VK->Prop:=λx lo hi H Q=>∃z,x=.str z/\z.length<=sizeLine/\Q (.str (Txt.slice z lo hi)) H
theorem part_of{v:Value}{o:Option Int}(h:IsPart v o):∃l:Option (Int×Tok),v=partValue l/\l.map (·.1)=o:=by
 cases h with
 |none=>exact⟨none,rfl,rfl⟩
 |int i t=>exact⟨some (i,t),rfl,rfl⟩
theorem mj:TN X Sw:=by
 intro pins s Z H x v vl vu lo hi sl Q I rx hs pl pu h
 obtain⟨z,rfl,hz,q⟩:=h
 obtain⟨t,rfl⟩:=rx
 obtain⟨l,rfl,rfl⟩:=part_of pl
 obtain⟨u,rfl,rfl⟩:=part_of pu
 refine⟨"str",_,F.slot_str_getitem.lookup,typeIs_str _ _ _,wpAny_getItem_str_slice (l:=l) (u:=u) (st:=none) (by obtain⟨o,e,c,d⟩:=hs;exact⟨o,e,c,d⟩) rfl ?_⟩
 exact post_val_or_str ⟨Nat.le_trans (Txt.slice_le z _ _) hz,λt' k=>⟨.str _,H,I.tok _,⟨t',rfl⟩,q⟩⟩
end
section
variable {X:Cx}{D:Ends}{st:Stmt}{rest sts:List Stmt}{t:TS}{Z:St}{H:Hp}
theorem aS(R:St->Hp->Prop)(h:PS X st t)(q:t { D with nx:=R } Z H)(r:∀Z H,R Z H->At X D rest Z H):At X D (st::rest) Z H:=λpins s I=>
 (vV h (u:=λD' Z H=>D'=D/\R Z H) (λpins s Z H D' I ⟨e,z⟩=>by subst e;exact r Z H z pins s I)) pins s Z H D I (by
  have e:(λZ H=>D=D/\R Z H)=R:=by funext Z H;simp
  show t { D with nx:=λZ H=>D=D/\R Z H } Z H
  rw[e];exact q)
theorem NC{CX:xr}{P:Program}{w:World}{K:PySem.W.Frag}{mg:Str->Option Value}{base:Heap}{N:List Str}{qual:Str}{scope:Scope}{f:Addr}{cd:Value}{A:Around}{outer:List Env}{s:Shared}{H:Hp}{E:XK} :
  (xh CX P w K mg base N qual scope f cd A outer s H E).K=K:=rfl
end
theorem jN{caps:List (Str×Nat)}{lo:Int}{n:Nat}{te:TE}{Z:St}{H:Hp}{Q:VK}(Pv:Nat->List V->Hp->Prop)(h0:Pv 0 [] H)(hn:n<sizeLine)
  (hs:∀i ys H,i<n->ys.length=i->Pv i ys H->te (lq caps Z++[some (.int (lo+i))]) H λy H2=>∃m',m'<n-i/\m'=n-(i+1)/\i+1<=n/\(ys++[y]).length=i+1/\Pv (i+1) (ys++[y]) H2) (hd:∀ys H,ys.length=n->Pv n ys H->∀D,H D=none->Q (.ref D) (upd H D (.lst ys))) :
  vX (La lo n) caps te Z H Q:=by
 refine⟨λi m ys H=>m=n-i/\i<=n/\ys.length=i/\Pv i ys H,⟨n,by simp,Nat.zero_le _,rfl,h0⟩,?_⟩
 rintro i m ys H ⟨rfl,hi,hl,p⟩
 by_cases hlt:i<n
 ·refine .inr ⟨hlt,by lia,λx H' y=>?_⟩
  obtain⟨e,y⟩:=y
  subst e y
  exact hs i ys _ hlt hl p
 ·have e:i=n:=by lia
  subst e
  exact .inl ⟨Nat.le_refl _,hd ys H hl p⟩
theorem gD{K:PySem.W.Frag}{a:Addr}{xs:List V}{caps:List (Str×Nat)}{te:TE}{Z:St}{H:Hp}{Q:VK}(Pv:Nat->List V->Hp->Prop)(h0:Pv 0 [] H)(hn:xs.length<sizeLine)
  (hq:∀i ys H,i<=xs.length->Pv i ys H->bg K H a xs)
  (hs:∀i x ys H,xs[i]?=some x->ys.length=i->Pv i ys H->te (lq caps Z++[some x]) H λy H2=>∃m',m'<xs.length-i/\m'=xs.length-(i+1)/\i+1<=xs.length/\(ys++[y]).length=i+1/\Pv (i+1) (ys++[y]) H2) (hd:∀ys H,ys.length=xs.length->Pv xs.length ys H->∀D,H D=none->Q (.ref D) (upd H D (.lst ys))) :
  vX (Nm K a) caps te Z H Q:=by
 refine⟨λi m ys H=>m=xs.length-i/\i<=xs.length/\ys.length=i/\Pv i ys H,⟨xs.length,by simp,Nat.zero_le _,rfl,h0⟩,?_⟩
 rintro i m ys H ⟨rfl,hi,hl,p⟩
 have q:=hq i ys H hi p
 by_cases hlt:i<xs.length
 ·refine .inr ⟨⟨xs,xs[i],q,by simp[hlt]⟩,by lia,λx H' y=>?_⟩
  obtain⟨e,y⟩:=y
  subst e
  exact hs i x ys _ (y xs q) hl p
 ·have e:i=xs.length:=by lia
  subst e
  exact .inl ⟨⟨xs,q,Nat.le_refl _⟩,hd ys H hl p⟩
theorem cP{n i:Nat}{ys:List V}{y:V}{R:Prop}(hi:i<n)(hl:ys.length=i)(r:R):∃m',m'<n-i/\m'=n-(i+1)/\i+1<=n/\(ys++[y]).length=i+1/\R :=
 ⟨n-(i+1),by lia,rfl,hi,by simp[hl],r⟩
theorem F7{α:Type}(xs:List α){i:Int}(h0:0<=i)(h1:i<xs.length):∃v,xs[i.toNat]?=some v/\rO xs i=some v:=by
 have h3:i.toNat<xs.length:=by lia
 refine⟨xs[i.toNat],List.getElem?_eq_getElem h3,?_⟩
 have q:=aH (xs:=xs) (List.getElem?_eq_getElem h3)
 rw[Int.toNat_of_nonneg h0] at q
 exact q
theorem pN(a:Int){m:Int}(h:0<m):0<=a % m/\a % m<m:=⟨Int.emod_nonneg _ (by lia),Int.emod_lt_of_pos _ h⟩
theorem b9{n:Nat}(h:n<=1000000):n<=sizeLine:=Nat.le_trans h (by decide)
theorem dQ{n:Nat}(h:n<=1000000):n<sizeLine:=Nat.lt_of_le_of_lt h (by decide)
theorem GQ{K:PySem.W.Frag}{i:Nat}{f:Str}{Z:St}{H:Hp}{Q:VK}{a C dx:Addr}{fs:List (Str×V)}{v:V}(e:Z[i]?=some (some (.ref a)))(h:H a=some (.ins C dx fs))(c:mO K C)(n:bT K C f)(l:fs.lookup f=some v)(q:Q v H):Qf K (HE i) f Z H Q :=
 ⟨_,e,a,C,dx,fs,v,rfl,h,c,n,l,q⟩
def Ai(J:It)(g:TG)(tb:TS)(D:Ends)(Z:St)(H1:Hp):Prop:=∃W:Nat->Nat->St->Hp->Prop,(∃m,W 0 m Z H1)/\∀i m Z H,W i m Z H->
 (J.stop i H/\D.nx Z H)∨(J.go i H/\∃N:St->Hp->Prop,(∀Z' H',N Z' H'->∃m',m'<m/\W (i+1) m' Z' H')/\∀x H',J.Qz i H x H'->g x Z H' λZ2 H2=>tb { D with nx:=N,ct:=N,bk:=D.nx } Z2 H2)
def RV(wi:TI)(g:TG)(tb:TS):TS:=λD Z H=>wi Z H λJ H1=>Ai J g tb D Z H1
theorem gn{X:Cx}{tg iter:Expr}{body:List Stmt}{wi:TI}{g:TG}{tb:TS}{pos:Pos}(hp:PassesOwn (model X.prog X.w) X.A X.env X.xe)(hc:X.calm=true)(hi:PI X tg iter wi)(hg:PG X tg g)(hb:xX X body tb)
  (hs:autoParam (∀x,foldedSetIterable iter X.env x=pure x) L2.Y2._auto_1):PS X (.For tg iter body [] pos) (RV wi g tb):=Qn hp hc hi hg hb hs
theorem ql{lo:Int}{n:Nat}{g:TG}{tb:TS}{D:Ends}{Z:St}{H:Hp}(Pv:Nat->St->Hp->Prop)(h0:Pv 0 Z H)
  (hs:∀i Z H,i<n->Pv i Z H->g (.int (lo+i)) Z H λZ2 H2=>tb { D with nx:=Pv (i+1),ct:=Pv (i+1),bk:=D.nx } Z2 H2) (hd:∀Z H,Pv n Z H->D.nx Z H):Ai (La lo n) g tb D Z H:=Af Pv h0 hs hd
theorem jn{K:PySem.W.Frag}{a:Addr}{xs:List V}{g:TG}{tb:TS}{D:Ends}{Z:St}{H:Hp}(Pv:Nat->St->Hp->Prop)(h0:Pv 0 Z H)(hl:∀i Z H,i<=xs.length->Pv i Z H->bg K H a xs)
  (hs:∀i x Z H,xs[i]?=some x->Pv i Z H->g x Z H λZ2 H2=>tb { D with nx:=Pv (i+1),ct:=Pv (i+1),bk:=D.nx } Z2 H2) (hd:∀Z H,Pv xs.length Z H->D.nx Z H):Ai (Nm K a) g tb D Z H:=D0 Pv h0 hl hs hd
section
variable {κ:Type}[DecidableEq κ]
def dU(kvs:List (κ×V))(k:κ):Option V:=(kvs.find? λkv=>decide (kv.1=k)).map (·.2)
def putK(kvs:List (κ×V))(k:κ)(v:V):List (κ×V) :=
 if (kvs.any λkv=>decide (kv.1=k))=true then kvs.map (λkv=>if kv.1=k then (kv.1,v) else kv) else kvs++[(k,v)]
def i8(kvs:List (κ×V))(k:κ):List (κ×V):=kvs.filter λkv=>decide (kv.1≠k)
theorem vO{k:κ}:dU ([]:List (κ×V)) k=none:=rfl
theorem d8{p:κ×V}{r:List (κ×V)}{k:κ}(e:p.1=k):dU (p::r) k=some p.2:=by simp[dU,List.find?_cons,e]
theorem dM{p:κ×V}{r:List (κ×V)}{k:κ}(e:¬ p.1=k):dU (p::r) k=dU r k:=by simp[dU,List.find?_cons,e]
theorem fX(k:κ):∀kvs:List (κ×V),(kvs.any λkv=>decide (kv.1=k))=(dU kvs k).isSome
 | []=>rfl
 |p::r=>by
  rw[List.any_cons]
  by_cases e:p.1=k
  ·simp only[d8 e,decide_eq_true e,Bool.true_or,Option.isSome_some]
  ·rw[dM e,decide_eq_false e,Bool.false_or];exact fX k r
theorem u7(k j:κ)(y:V):∀kvs:List (κ×V),dU (kvs.map λkv=>if kv.1=k then (kv.1,y) else kv) j=(dU kvs j).map λx=>if j=k then y else x
 | []=>rfl
 |p::r=>by
  have ih:=u7 k j y r
  rw[List.map_cons]
  by_cases h:p.1=k
  ·rw[if_pos h]
   by_cases e:p.1=j
   ·rw[d8 (p:=(p.1,y)) e,d8 e,Option.map_some,if_pos (e.symm.trans h)]
   ·rw[dM (p:=(p.1,y)) e,dM e,ih]
  ·rw[if_neg h]
   by_cases e:p.1=j
   ·rw[d8 (p:=p) e,d8 e,Option.map_some,if_neg (λz=>h (e.trans z))]
   ·rw[dM (p:=p) e,dM e,ih]
theorem rZ(k j:κ)(y:V):∀kvs:List (κ×V),dU kvs k=none->dU (kvs++[(k,y)]) j=if j=k then some y else dU kvs j
 | [],_=>by
  by_cases e:k=j
  ·rw[if_pos e.symm];exact d8 (p:=(k,y)) e
  ·rw[if_neg (λz=>e z.symm)];exact dM (p:=(k,y)) e
 |p::r,hn=>by
  rw[List.cons_append]
  have hk:¬ p.1=k:=λz=>by rw[d8 z] at hn;cases hn
  rw[dM hk] at hn
  have ih:=rZ k j y r hn
  by_cases e:p.1=j
  ·rw[d8 e,d8 e,if_neg (λz=>hk (e.trans z))]
  ·rw[dM e,dM e,ih]
theorem vE(kvs:List (κ×V))(k j:κ)(y:V):dU (putK kvs k y) j=if j=k then some y else dU kvs j:=by
 unfold putK
 by_cases a:(kvs.any λkv=>decide (kv.1=k))=true
 ·rw[if_pos a,u7]
  rw[fX] at a
  by_cases e:j=k
  ·obtain⟨x,hx⟩:=Option.isSome_iff_exists.mp a
   rw[if_pos e,e,hx,Option.map_some,if_pos rfl]
  ·rw[if_neg e]
   cases dU kvs j with
   |none=>rfl
   |some x=>rw[Option.map_some,if_neg e]
 ·rw[if_neg a]
  refine rZ k j y kvs ?_
  rw[fX] at a
  cases q:dU kvs k with
  |none=>rfl
  |some x=>rw[q] at a;exact(a rfl).elim
theorem kG(kvs:List (κ×V))(k:κ)(v:V):(putK kvs k v).length<=kvs.length+1:=by
 unfold putK
 split
 ·rw[List.length_map];lia
 ·rw[List.length_append,List.length_cons,List.length_nil];lia
theorem vS{kvs:List (κ×V)}{k:κ}(v:V)(h:dU kvs k=none):putK kvs k v=kvs++[(k,v)]:=by
 unfold putK
 rw[fX,h]
 exact if_neg (by decide)
theorem jm.ju{o:Option V}{u:Option Value}(r:jm o u):o.isSome=u.isSome:=by
 cases o with
 |none=>cases u with
  |none=>rfl
  |some _=>exact(show False from r).elim
 |some _=>cases u with
  |none=>exact(show False from r).elim
  |some _=>rfl
theorem jm.getD{o:Option V}{u:Option Value}{d:V}{d':Value}(r:jm o u)(rd:RelV d d'):RelV (o.getD d) (u.getD d'):=by
 cases o with
 |none=>cases u with
  |none=>exact rd
  |some _=>exact(show False from r).elim
 |some _=>cases u with
  |none=>exact(show False from r).elim
  |some _=>exact r
theorem KV.val{kvs:List (κ×V)}{vs:List (κ×Value)}(r:KV kvs vs)(k:κ):jm (dU kvs k) (valueAt vs k):=by
 unfold KV at r
 induction r with
 |nil=>exact True.intro
 | @cons p q ps qs h t ih=>
  obtain⟨h1,h2⟩:=h
  by_cases e:p.1=k
  ·have e':q.1=k:=h1.symm.trans e
   have b:valueAt (q::qs) k=some q.2:=by simp[valueAt,List.find?_cons,e']
   rw[d8 e,b];exact h2
  ·have e':¬ q.1=k:=λz=>e (h1.trans z)
   have b:valueAt (q::qs) k=valueAt qs k:=by simp[valueAt,List.find?_cons,e']
   rw[dM e,b];exact ih
theorem KV.any{kvs:List (κ×V)}{vs:List (κ×Value)}(r:KV kvs vs)(k:κ):(kvs.any λkv=>decide (kv.1=k))=vs.any λkv=>decide (kv.1=k):=by
 unfold KV at r
 induction r with
 |nil=>rfl
 |cons h t ih=>rw[List.any_cons,List.any_cons,ih,h.1]
theorem KV.repl{kvs:List (κ×V)}{vs:List (κ×Value)}(r:KV kvs vs)(k:κ){y:V}{u:Value}(ry:RelV y u) :
  KV (kvs.map λkv=>if kv.1=k then (kv.1,y) else kv) (vs.map λkv=>if kv.1=k then (kv.1,u) else kv):=by
 unfold KV at r ⊢
 induction r with
 |nil=>exact .nil
 | @cons p q ps qs h t ih=>
  rw[List.map_cons,List.map_cons]
  refine .cons ?_ ih
  obtain⟨h1,h2⟩:=h
  by_cases e:p.1=k
  ·rw[if_pos e,if_pos (h1.symm.trans e)];exact⟨h1,ry⟩
  ·rw[if_neg e,if_neg (λz=>e (h1.trans z))];exact⟨h1,h2⟩
theorem KV.put{kvs:List (κ×V)}{vs:List (κ×Value)}(r:KV kvs vs)(k:κ){y:V}{u:Value}(ry:RelV y u):KV (putK kvs k y) (stored vs k u):=by
 unfold putK stored
 rw[r.any k]
 by_cases e:(vs.any λkv=>decide (kv.1=k))=true
 ·rw[if_pos e,if_pos e];exact r.repl k ry
 ·rw[if_neg e,if_neg e];exact Paired.snoc r ⟨rfl,ry⟩
theorem KV.drop{kvs:List (κ×V)}{vs:List (κ×Value)}(r:KV kvs vs)(k:κ):KV (i8 kvs k) (without vs k):=by
 unfold KV at r ⊢
 unfold i8 without
 induction r with
 |nil=>exact .nil
 | @cons p q ps qs h t ih=>
  obtain⟨h1,h2⟩:=h
  rw[List.filter_cons,List.filter_cons]
  by_cases e:p.1=k
  ·have a:¬ decide (p.1≠k)=true:=by simp[e]
   have b:¬ decide (q.1≠k)=true:=by simp[h1.symm.trans e]
   rw[if_neg a,if_neg b];exact ih
  ·have e':¬ q.1=k:=λz=>e (h1.trans z)
   have a:decide (p.1≠k)=true:=by simp[e]
   have b:decide (q.1≠k)=true:=by simp[e']
   rw[if_pos a,if_pos b];exact .cons ⟨h1,h2⟩ ih
theorem KV.keys{kvs:List (κ×V)}{vs:List (κ×Value)}(r:KV kvs vs):kvs.map (·.1)=vs.map (·.1):=by
 unfold KV at r
 induction r with
 |nil=>rfl
 |cons h t ih=>rw[List.map_cons,List.map_cons,ih,h.1]
theorem KV.length{kvs:List (κ×V)}{vs:List (κ×Value)}(r:KV kvs vs):kvs.length=vs.length:=Paired.length r
theorem BI(kvs:List (κ×V))(k:κ):(i8 kvs k).length<=kvs.length:=List.length_filter_le _ _
end
theorem mH{P:Program}{w:World}{k:Key}{u:Value}(r:RelV (kV k) u):(b7 P w).is k u=true:=by
 cases k with
 |inl i=>obtain⟨t,e⟩:=(show ∃t,u=Value.int i t from r);subst e;exact v9 P w i t
 |inr x=>obtain⟨t,e⟩:=(show ∃t,u=Value.str x t from r);subst e;exact wC P w x t
theorem tD{P:Program}{w:World}:∀{ks:List Key} {us:List Value},Vals (ks.map kV) us->ItemsAre (b7 P w) ks us
 | [],_,r=>by rw[List.map_nil] at r;cases r;exact .nil
 |k::ks,_,r=>by
  rw[List.map_cons] at r
  cases r with
  |cons h t=>exact .cons (mH h) (tD t)
abbrev KT(H:Hp):List (List Key×V)->List (List Key×Addr×Value)->Prop:=Paired λp q=>p.1=q.1/\H q.2.1=some (.tup (p.1.map kV))/\RelV p.2 q.2.2
theorem KT.val{H:Hp}{kvs:List (List Key×V)}{xs:List (List Key×Addr×Value)}(r:KT H kvs xs)(k:List Key):jm (dU kvs k) ((atKey xs k).map (·.2)):=by
 induction r with
 |nil=>exact True.intro
 | @cons p q ps qs h t ih=>
  obtain⟨h1,_,h2⟩:=h
  by_cases e:p.1=k
  ·have e':q.1=k:=h1.symm.trans e
   have b:atKey (q::qs) k=some q.2:=by simp[atKey,List.find?_cons,e']
   rw[d8 e,b];exact h2
  ·have e':¬ q.1=k:=λz=>e (h1.trans z)
   have b:atKey (q::qs) k=atKey qs k:=by simp[atKey,List.find?_cons,e']
   rw[dM e,b];exact ih
theorem KT.repl{H:Hp}{kvs:List (List Key×V)}{xs:List (List Key×Addr×Value)}(r:KT H kvs xs)(k:List Key){y:V}{u:Value}(ry:RelV y u) :
  KT H (kvs.map λkv=>if kv.1=k then (kv.1,y) else kv) (xs.map (putAt k u)):=by
 induction r with
 |nil=>exact .nil
 | @cons p q ps qs h t ih=>
  rw[List.map_cons,List.map_cons]
  refine .cons ?_ ih
  obtain⟨h1,h2,h3⟩:=h
  unfold putAt
  by_cases e:p.1=k
  ·rw[if_pos e,if_pos (h1.symm.trans e)];exact⟨h1,h2,ry⟩
  ·rw[if_neg e,if_neg (λz=>e (h1.trans z))];exact⟨h1,h2,h3⟩
theorem KT.put{H:Hp}{kvs:List (List Key×V)}{xs:List (List Key×Addr×Value)}(r:KT H kvs xs)(k:List Key){b:Addr}{y:V}{u:Value}(hb:H b=some (.tup (k.map kV)))(ry:RelV y u) :
  KT H (putK kvs k y) (storedH xs k b u):=by
 have e:(kvs.any λkv=>decide (kv.1=k))=(atKey xs k).isSome:=by
  rw[fX,(r.val k).ju,Option.isSome_map]
 unfold putK storedH
 rw[e]
 by_cases q:(atKey xs k).isSome=true
 ·rw[if_pos q,if_pos q];exact r.repl k ry
 ·rw[if_neg q,if_neg q];exact Paired.snoc r ⟨rfl,hb,ry⟩
theorem KT.keeps{H H':Hp}{kvs:List (List Key×V)}{xs:List (List Key×Addr×Value)}(r:KT H kvs xs)(ht:∀b ys,H b=some (.tup ys)->H' b=some (.tup ys)):KT H' kvs xs :=
 Paired.MZ r λ_ _ z=>⟨z.1,ht _ _ z.2.1,z.2.2⟩
section
variable {P:Program}{w:World}{H:Hp}{h:Heap}{a:Addr}
theorem J0{u:HO}(ok:k6 P w H h)(e:Rd H a u):cL P w H h a u:=e.ok ok
theorem m9{kvs:List (Key×V)}(ok:k6 P w H h)(e:Rd H a (.dK kvs)):kvs.length<=sizeLine/\(a == sysModules)=false/\∃vs,KV kvs vs/\h.DictOf (b7 P w) a vs :=
 show cL P w H h a (.dK kvs) from J0 ok e
theorem lJ{kvs:List (Key×V)}(ok:k6 P w H h)(e:H a=some (.dK kvs)):kvs.length<=sizeLine/\(a == sysModules)=false/\∃vs,KV kvs vs/\h.DictOf (b7 P w) a vs:=m9 ok (.inl e)
theorem nZ{ks:List Key}(ok:k6 P w H h)(e:H a=some (.tup (ks.map kV))):(tupleKind (b7 P w)).is h ks a:=by
 obtain⟨_,its,r,o,h1,h2,n,h3⟩:=(show cL P w H h a (.tup (ks.map kV)) from ok a _ e)
 exact⟨o,its.toArray,n,h1,h2,h3,by simpa using tD r⟩
theorem pT{kvs:List (List Key×V)}(ok:k6 P w H h)(e:Rd H a (.dT kvs)):kvs.length<=sizeLine/\(a == sysModules)=false/\
  ∃xs,KT H kvs xs/\h.DictOfH (tupleKind (b7 P w)) a xs:=by
 obtain⟨z,y,xs,r,o,es,ep,h1,h2,h3,h4,h5⟩:=(show cL P w H h a (.dT kvs) from J0 ok e)
 refine⟨z,y,xs,r,o,es,ep,h1,h2,h3,h4,λx hx=>?_,h5⟩
 have all:∀{l:List (List Key×V)} {m:List (List Key×Addr×Value)},KT H l m->∀x∈m,(tupleKind (b7 P w)).is h x.1 x.2.1:=by
  intro l m q
  induction q with
  |nil=>intro x hx;exact nomatch hx
  | @cons p q ps qs hq t ih=>
   intro x hx
   rcases List.mem_cons.mp hx with e|hx
   ·subst e
    exact nZ ok (by rw[← hq.1];exact hq.2.1)
   ·exact ih x hx
 exact all r x hx
theorem RK{kvs:List (List Key×V)}(ok:k6 P w H h)(e:H a=some (.dT kvs)):kvs.length<=sizeLine/\(a == sysModules)=false/\
  ∃xs,KT H kvs xs/\h.DictOfH (tupleKind (b7 P w)) a xs:=pT ok (.inl e)
end
def k9(H:Hp)(a:Addr)(y:V)(r:Option V):Prop :=
 (∃kvs k,Rd H a (.dK kvs)/\y=kV k/\r=dU kvs k)∨∃kvs k b,Rd H a (.dT kvs)/\y=.ref b/\H b=some (.tup (k.map kV))/\r=dU kvs k
def nF(H:Hp)(a:Addr)(y v:V)(H':Hp):Prop :=
 (∃kvs k,H a=some (.dK kvs)/\y=kV k/\kvs.length<sizeLine/\H'=upd H a (.dK (putK kvs k v)))∨
 ∃kvs k b,H a=some (.dT kvs)/\y=.ref b/\H b=some (.tup (k.map kV))/\kvs.length<sizeLine/\H'=upd H a (.dT (putK kvs k v))
theorem k9.k{H:Hp}{a:Addr}{kvs:List (Key×V)}{k:Key}(e:H a=some (.dK kvs)):k9 H a (kV k) (dU kvs k):=.inl ⟨kvs,k,.inl e,rfl,rfl⟩
theorem nF.k{H:Hp}{a:Addr}{kvs:List (Key×V)}{k:Key}{v:V}(e:H a=some (.dK kvs))(hl:kvs.length<sizeLine):nF H a (kV k) v (upd H a (.dK (putK kvs k v))):=.inl ⟨kvs,k,e,rfl,hl,rfl⟩
section
variable {X:Cx}{pins:List (Addr×Obj)}{Z:St}{H:Hp}{s:Shared}{a:Addr}{y v:V}{u r:Value}{o:Option V}{A:Around}{E:Value->Shared->Prop}
theorem Inv.big(I:Inv X pins Z H s):sysModules<s.heap.objs.size:=by
 have h:mainGlobals<s.heap.objs.size:=(I.mod.glob.keeps I.bk).lt
 exact Nat.lt_trans (by decide) h
theorem A2{Q:Value->Shared->Prop}(hu:A.units+1<cLine)(I:Inv X pins Z H s)(g:k9 H a y (some v))(ry:RelV y u)(h:∀w' s',Inv X pins Z H s'->RelV v w'->Q w' s') :
  wpAny (model X.prog X.w) A (getItem (.ref a) u) Q E s:=by
 rcases g with ⟨kvs,k,e,ey,l⟩|⟨kvs,k,b,e,ey,eb,l⟩
 ·subst ey
  obtain⟨z,hd,vs,rel,dd⟩:=m9 I.hok e
  obtain⟨w',hw,rw'⟩:=jm.some_of (v:=v) (o:=valueAt vs k) (by rw[l];exact rel.val k)
  exact wpAny_getItem_of (mH ry) dd.mapOf hw (h w' _ (I.tok _) rw')
 ·subst ey
  cases (show u=Value.ref b from ry)
  obtain⟨z,hd,xs,rel,dd⟩:=pT I.hok e
  obtain⟨w',hw,rw'⟩:=jm.some_of (v:=v) (o:=(atKey xs k).map (·.2)) (by rw[l];exact rel.val k)
  obtain⟨p,hp,hp2⟩:=Option.map_eq_some_iff.mp hw
  refine wpAny_getItem_heap (tupleKind_room_in1 hu) (nZ I.hok eb) dd hp ?_
  rw[hp2]
  exact h w' _ (I.tok _) rw'
theorem Uo{Q:Value->Shared->Prop}(hu:A.units+1<cLine)(I:Inv X pins Z H s)(g:k9 H a y o)(ry:RelV y u)(h:∀s',Inv X pins Z H s'->Q (.bool o.isSome) s') :
  wpAny (model X.prog X.w) A (compareOp .In u (.ref a)) Q E s:=by
 rcases g with ⟨kvs,k,e,ey,l⟩|⟨kvs,k,b,e,ey,eb,l⟩
 ·subst ey
  obtain⟨z,hd,vs,rel,dd⟩:=m9 I.hok e
  refine wpAny_in_of (mH ry) hd dd.mapOf ?_
  rw[← (rel.val k).ju,← l]
  exact h _ (I.tok _)
 ·subst ey
  cases (show u=Value.ref b from ry)
  obtain⟨z,hd,xs,rel,dd⟩:=pT I.hok e
  refine wpAny_in_heap (tupleKind_room_in1 hu) (nZ I.hok eb) hd dd ?_
  have q:=(rel.val k).ju
  rw[Option.isSome_map] at q
  rw[← q,← l]
  exact h _ (I.tok _)
theorem Ig{Q:Value->Shared->Prop}(hu:A.units+1<cLine)(I:Inv X pins Z H s)(g:k9 H a y o)(ry:RelV y u)(h:∀s',Inv X pins Z H s'->Q (.bool (!o.isSome)) s') :
  wpAny (model X.prog X.w) A (compareOp .NotIn u (.ref a)) Q E s:=by
 rcases g with ⟨kvs,k,e,ey,l⟩|⟨kvs,k,b,e,ey,eb,l⟩
 ·subst ey
  obtain⟨z,hd,vs,rel,dd⟩:=m9 I.hok e
  refine wpAny_notIn_of (mH ry) hd dd.mapOf ?_
  rw[← (rel.val k).ju,← l]
  exact h _ (I.tok _)
 ·subst ey
  cases (show u=Value.ref b from ry)
  obtain⟨z,hd,xs,rel,dd⟩:=pT I.hok e
  refine wpAny_notIn_heap (tupleKind_room_in1 hu) (nZ I.hok eb) hd dd ?_
  have q:=(rel.val k).ju
  rw[Option.isSome_map] at q
  rw[← q,← l]
  exact h _ (I.tok _)
theorem pB{h':Heap}{t':Nat}{ob:HO}(I:Inv X pins Z H s)(mu:QI (H a))(hs:Heap.SameBut a s.heap h')(he:∃q,h'.get? a=some q)(new:cL X.prog X.w (upd H a ob) h' a ob) :
  Inv X pins Z (upd H a ob) { s with heap:=h',toks:=t' } :=
 I.write (x:=a) (e:=a) mu (.inl rfl) (λb q hb z=>(hs.2 b hb).trans z) he new
theorem qD{P:Program}{w:World}{H':Hp}{h':Heap}{kvs:List (Key×V)}{vs:List (Key×Value)}(z:kvs.length<=sizeLine)(hd:(a == sysModules)=false)(rel:KV kvs vs)(dd:h'.DictOf (b7 P w) a vs) :
  cL P w H' h' a (.dK kvs):=⟨z,hd,vs,rel,dd⟩
theorem An{H':Hp}{Q:Unit->Shared->Prop}(hu:A.units+1<cLine)(I:Inv X pins Z H s)(g:nF H a y v H')(ry:RelV y u)(rv:RelV v r)(h:∀s',Inv X pins Z H' s'->Q () s') :
  wpAny (model X.prog X.w) A (setItem (.ref a) u r) Q E s:=by
 rcases g with ⟨kvs,k,e,ey,l,eH⟩|⟨kvs,k,b,e,ey,eb,l,eH⟩
 ·subst ey eH
  obtain⟨z,hd,vs,rel,dd⟩:=lJ I.hok e
  have hz:vs.length<=sizeLine:=by rw[← rel.length];exact z
  have hl:(putK kvs k v).length<=sizeLine:=by have:=kG kvs k v;lia
  refine wpAny_setItem_pairs (hsz:=hz) (mH ry) dd λh' dd' hs=>h _ ?_
  have he:∃q,h'.get? a=some q:=let ⟨q,_,_,hq,_⟩:=dd';⟨q,hq⟩
  exact pB I (by rw[e];exact True.intro) hs he (qD hl hd (rel.put k rv) dd')
 ·subst ey eH
  cases (show u=Value.ref b from ry)
  obtain⟨z,hd,xs,rel,dd⟩:=RK I.hok e
  have hz:xs.length<=sizeLine:=by rw[← Paired.length rel];exact z
  have hl:(putK kvs k v).length<=sizeLine:=by have:=kG kvs k v;lia
  refine wpAny_setItem_heap (hsz:=hz) (tupleKind_room_in1 hu) (nZ I.hok eb) dd λh' dd' hs=>h _ ?_
  obtain⟨q,es,ep,hq,h2,h3,h4,_,h5⟩:=dd'
  refine pB I (by rw[e];exact True.intro) hs ⟨q,hq⟩ ⟨hl,hd,_,(rel.put k eb rv).keeps λc ys ec=>?_,q,es,ep,hq,h2,h3,h4,h5⟩
  rw[ak (bL ec e (λz=>nomatch z))]
  exact ec
end
section
variable {X:Cx}{pins:List (Addr×Obj)}{Z:St}{H:Hp}{s:Shared}{a:Addr}{kvs:List (Key×V)}{k:Key}{u:Value}{A:Around}{E:Value->Shared->Prop}
theorem RE{v:V}{more:List Value}{Q:Value->Shared->Prop}(I:Inv X pins Z H s)(e:H a=some (.dK kvs))(ry:RelV (kV k) u)(l:dU kvs k=some v)(hm:more=[]∨∃x,more=[x])
  (h:∀w' s',Inv X pins Z (upd H a (.dK (i8 kvs k))) s'->RelV v w'->Q w' s'):wpAny (model X.prog X.w) A (call (.builtin "dict.pop") (.ref a::u::more)) Q E s:=by
 obtain⟨z,hd,vs,rel,dd⟩:=lJ I.hok e
 obtain⟨w',hw,rw'⟩:=jm.some_of (v:=v) (o:=valueAt vs k) (by rw[← l];exact rel.val k)
 have hp:(keyPart u).isSome=true:=by
  cases k with
  |inl i=>obtain⟨t,q⟩:=(show ∃t,u=Value.int i t from ry);subst q;rfl
  |inr x=>obtain⟨t,q⟩:=(show ∃t,u=Value.str x t from ry);subst q;rfl
 have ha:argsOk "dict.pop" ⟨.ref a::u::more,[]⟩:=by
  rcases hm with q|⟨x,q⟩
  ·subst q;exact PySem.F.args_dict_pop_2 _ _
  ·subst q;exact PySem.F.args_dict_pop_3 _ _ _
 refine call_meetsIn PySem.F.slot_dict_pop dd.typeIs PySem.F.entry_dict_pop ha (meets_dict_pop_there (b7 X.prog X.w) a (mH ry) more hm hp)
  ⟨vs,w',dd,by rw[← rel.length];exact z,hw,λh' dd' hs=>h w' _ ?_ rw'⟩
 have he:∃q,h'.get? a=some q:=let ⟨q,_,_,hq,_⟩:=dd';⟨q,hq⟩
 exact pB I (by rw[e];exact True.intro) hs he (qD (Nat.le_trans (BI kvs k) z) hd (rel.drop k) dd')
theorem Rt {Q:Value->Shared->Prop} (I:Inv X pins Z H s) (e:Rd H a (.dK kvs)) (h:∀t s',Inv X pins Z H s'->Q (.int kvs.length t) s'):wpAny (model X.prog X.w) A (call (.builtin "len") [.ref a]) Q E s:=by
 obtain⟨z,hd,vs,rel,dd⟩:=m9 I.hok e
 refine call_len_dict hd dd (by rw[← rel.length];rw[sizeLine_eq] at z;lia) ?_
 rw[← rel.length]
 exact h _ _ (I.tok _)
end
def QM(i:Expr):Prop:=∀ov iv,subscripted i false ov iv=operate [ov,iv] (getItem ov iv)
theorem Ir{prog:Program}{w:World}{A:Around}{E:Value->Shared->Prop}{s:Shared}{env:Env}{value slice:Expr}{pos:Pos}{T id:String}{Q:Value->Shared->Prop}
  (hl:typeLookup (.type T) "__getitem__" = pure (some (.builtin id))) (hs:QM slice)
  (h:wpAny (model prog w) A (eval value env) (λo s₁=>wpAny (model prog w) A (eval slice env) (λi s₂=>s₂.TypeIs o T/\wpAny (model prog w) A (getItem o i) Q E s₂) E s₁) E s) :
  wpAny (model prog w) A (eval (.Subscript value slice pos) env) Q E s:=by
 refine Subscript_ (wpAny_mono h (λo s₁ h₁=>wpAny_mono h₁ (λi s₂ h₂=>?_) λ_ _ x=>x) λ_ _ x=>x)
 obtain⟨hT,h₂⟩:=h₂
 unfold subscriptTail
 refine wpAny_bind ?_
 rw[getitemInPython_of_ne hT.not_modules]
 refine wpAny_bind (wpAny_specialOf hT hl ?_)
 have fin:wpAny (model prog w) A (subscripted slice false o i) (λr s₃=>wpAny (model prog w) A (letTemporaryGo value o r >>= λ_=>pure r) Q E s₃) E s₂:=by
  rw[hs o i]
  exact wpAny_operating (wpAny_mono h₂ (λr s₃ h₃=>wpAny_bind (wpAny_letTemporaryGo (wpAny_pure h₃))) λ_ _ x=>x)
 first
  |exact wpAny_pure (wpAny_bind fin)
  |exact wpAny_bind (wpAny_pure (wpAny_bind fin))
  |exact wpAny_bind fin
theorem vh {X:Cx} {pins:List (Addr×Obj)} {Z:St} {H:Hp} {s:Shared} {a:Addr} {y:V} {o:Option V} (I:Inv X pins Z H s) (g:k9 H a y o):s.TypeIs (.ref a) "dict" := by
 rcases g with ⟨kvs,k,e,_,_⟩|⟨kvs,k,b,e,_,_,_⟩
 ·obtain⟨_,_,vs,_,dd⟩:=m9 I.hok e
  exact dd.typeIs
 ·obtain⟨_,_,xs,_,dd⟩:=pT I.hok e
  exact dd.typeIs
def Q7(td ty:TE):TE:=λZ H Q=>td Z H λx H1=>ty Z H1 λy H2=>∃a v,x=.ref a/\k9 H2 a y (some v)/\Q v H2
def Tu(ty td:TE):TE:=λZ H Q=>ty Z H λy H1=>td Z H1 λx H2=>∃a o,x=.ref a/\k9 H2 a y o/\Q (.bl o.isSome) H2
def Ho(ty td:TE):TE:=λZ H Q=>ty Z H λy H1=>td Z H1 λx H2=>∃a o,x=.ref a/\k9 H2 a y o/\Q (.bl (!o.isSome)) H2
def Q9(td ty tv:TE):TS:=λD Z H=>tv Z H λv H1=>td Z H1 λx H2=>ty Z H2 λy H3=>∃a H4,x=.ref a/\nF H3 a y v H4/\D.nx Z H4
section
variable {X:Cx}{o i e value:Expr}{pos pos' tpos:Pos}{td ty tv:TE}
theorem dS(hu:X.A.units+1<cLine)(ho:PE X o td)(hi:PE X i ty)(hs:QM i):PE X (.Subscript o i pos) (Q7 td ty):=by
 intro pins s Z H Q I h
 refine Ir PySem.F.slot_dict_getitem.lookup hs (cU (ho pins s Z H _ I h) λu s1 ⟨x,H1,I1,rx,q1⟩=>cU (hi pins s1 Z H1 _ I1 q1) λiv s2  hZ=>?_)
 obtain⟨y,H2,I2,ry,a,v,ex,g,q2⟩:=hZ
 subst ex
 obtain rfl:u=Value.ref a:=rx
 exact⟨vh I2 g,A2 hu I2 g ry λw' s3 I3 rw'=>⟨v,H2,I3,rw',q2⟩⟩
theorem Nf(hu:X.A.units+1<cLine)(hi:PE X i ty)(ho:PE X o td):PC X .In i o (Tu ty td):=by
 intro pins s Z H Q I h
 refine cU (hi pins s Z H _ I h) λiv s1 ⟨y,H1,I1,ry,q1⟩=>cU (ho pins s1 Z H1 _ I1 q1) λu s2  hZ=>?_
 obtain⟨x,H2,I2,rx,a,ov,ex,g,q2⟩:=hZ
 subst ex
 obtain rfl:u=Value.ref a:=rx
 exact Uo hu I2 g ry λs3 I3=>⟨.bl ov.isSome,H2,I3,rfl,q2⟩
theorem sV(hu:X.A.units+1<cLine)(hi:PE X i ty)(ho:PE X o td):PC X .NotIn i o (Ho ty td):=by
 intro pins s Z H Q I h
 refine cU (hi pins s Z H _ I h) λiv s1 ⟨y,H1,I1,ry,q1⟩=>cU (ho pins s1 Z H1 _ I1 q1) λu s2  hZ=>?_
 obtain⟨x,H2,I2,rx,a,ov,ex,g,q2⟩:=hZ
 subst ex
 obtain rfl:u=Value.ref a:=rx
 exact Ig hu I2 g ry λs3 I3=>⟨.bl (!ov.isSome),H2,I3,rfl,q2⟩
theorem iG(hu:X.A.units+1<cLine)(ho:PE X o td)(hi:PE X i ty)(hv:PE X value tv)(hs:swapsWith value (some (.Subscript o i pos')) pos.line X.env=pure false) :
  PS X (.Assign [.Subscript o i pos'] value pos) (Q9 td ty tv):=by
 intro pins s Z H D I h
 refine wpAny_Assign_Subscript (cU (hv pins s Z H _ I h) λr s1 ⟨v,H1,I1,rv,q1⟩=>cU (ho pins s1 Z H1 _ I1 q1) λu s2 ⟨x,H2,I2,rx,q2⟩=>cU (hi pins s2 Z H2 _ I2 q2) λiv s3 hY=>?_) hs
 obtain⟨y,H3,I3,ry,a,H4,ex,g,q3⟩:=hY
 subst ex
 obtain rfl:u=Value.ref a:=rx
 exact An hu I3 g ry rv λs4 I4=>⟨Z,H4,I4,q3⟩
end
theorem uZ {P:Program} {w:World} {H:Hp} (h:Heap) (hb:sysModules<h.objs.size):cL P w H (h.push { cls:=.type "dict",data:=.dict #[] }) h.objs.size (.dK []) :=
 ⟨Nat.zero_le _,beq_eq_false_iff_ne.mpr (Ne.symm (Nat.ne_of_lt hb)),[],.nil,Heap.DictOf.new h⟩
def Py:TE:=λ_ H Q=>∀p,H p=none->Q (.ref p) (upd H p (.dK []))
section
variable {X:Cx}{pos:Pos}
theorem m5:PE X (.Dict [] [] pos) Py:=λpins s Z H Q I h=>
 wpAny_Dict_empty ⟨.ref s.heap.objs.size,_,I.laid (a:=s.heap.objs.size) (o:=.dK []) (t':=s.toks) (λ_ _ q=>Heap.get?_push_of_some _ q) (Nat.le_refl _) (uZ s.heap I.big),rfl,h _ (I.hok.fresh (Nat.le_refl _))⟩
end
def ym:List (TE×TE)->St->Hp->(List (V×V)->Hp->Prop)->Prop
 | [],_,H,Q=>Q [] H
 | (tk,tv)::r,Z,H,Q=>tk Z H λx H1=>tv Z H1 λy H2=>ym r Z H2 λps H3=>Q ((x,y)::ps) H3
abbrev VV:List (V×V)->List (Value×Value)->Prop:=Paired λp q=>RelV p.1 q.1/\RelV p.2 q.2
def Te(X:Cx)(pos:Pos)(keys:List (Option Expr))(values:List Expr)(trs:List (TE×TE)):Prop :=
 ∀(pins:List (Addr×Obj)) (s:Shared) (Z:St) (H:Hp) (Q:List (V×V)->Hp->Prop),Inv X pins Z H s->ym trs Z H Q->
  wpAny (model X.prog X.w) X.A (evalPairs (pairTrees keys values X.env pos)) (λvs s'=>∃ps H',Inv X pins Z H' s'/\VV ps vs/\Q ps H') X.xe s
theorem Hf{X:Cx}{pos:Pos}:Te X pos [] [] []:=λpins s Z H Q I h=>pairTrees_nil_walk ⟨[],H,I,.nil,h⟩
theorem vv{X:Cx}{pos:Pos}{k v:Expr}{ks:List (Option Expr)}{vs:List Expr}{tk tv:TE}{trs:List (TE×TE)}(hk:PE X k tk)(hv:PE X v tv)(hr:Te X pos ks vs trs) :
  Te X pos (some k::ks) (v::vs) ((tk,tv)::trs):=λpins s Z H Q I h=>
 pairTrees_cons_walk (cU (hk pins s Z H _ I h) λu s1 ⟨x,H1,I1,rx,q1⟩=>cU (hv pins s1 Z H1 _ I1 q1) λw2 s2 ⟨y,H2,I2,ry,q2⟩=>
  cU (hr pins s2 Z H2 _ I2 q2) λws s3 ⟨ps,H3,I3,rel,q3⟩=>⟨(x,y)::ps,H3,I3,.cons ⟨rx,ry⟩ rel,q3⟩)
def iP(kvs more:List (Key×V)):List (Key×V):=more.foldl (λacc kv=>putK acc kv.1 kv.2) kvs
theorem KV.merge:∀{more:List (Key×V)} {rs:List (Key×Value)} {kvs:List (Key×V)} {vs:List (Key×Value)},KV more rs->KV kvs vs->KV (iP kvs more) (merged vs rs):=by
 intro more rs kvs vs r
 unfold KV at r
 induction r generalizing kvs vs with
 |nil=>intro q;exact q
 | @cons p q ps qs h t ih=>
  intro r0
  have e:KV (putK kvs p.1 p.2) (stored vs q.1 q.2):=by
   have:=r0.put p.1 h.2
   rw[← h.1];exact this
  exact ih e
theorem je:∀(more kvs:List (Key×V)),(iP kvs more).length<=kvs.length+more.length
 | [],kvs=>by show kvs.length<=kvs.length+0;lia
 |p::r,kvs=>by
  have h1:=je r (putK kvs p.1 p.2)
  have h2:=kG kvs p.1 p.2
  show (iP (putK kvs p.1 p.2) r).length<=_
  rw[List.length_cons];lia
theorem p7{P:Program}{w:World}:∀{kvs:List (Key×V)} {ws:List (Value×Value)},VV (kvs.map λkv=>(kV kv.1,kv.2)) ws->∃rs,Carries (b7 P w) ws rs/\KV kvs rs
 | [],_,r=>by rw[List.map_nil] at r;cases r;exact⟨[],True.intro,.nil⟩
 |p::kvs,_,r=>by
  rw[List.map_cons] at r
  cases r with
  | @cons a b as bs h t=>
   obtain⟨rs,c,q⟩:=p7 (P:=P) (w:=w) t
   obtain⟨b1,b2⟩:=b
   exact⟨(p.1,b2)::rs,⟨mH h.1,rfl,c⟩,.cons ⟨rfl,h.2⟩ q⟩
def Sj(trs:List (TE×TE)):TE:=λZ H Q=>∀p,H p=none->ym trs Z (upd H p (.dK [])) λps H2=>H2 p=some (.dK [])/\∃kvs:List (Key×V),ps=kvs.map (λkv=>(kV kv.1,kv.2))/\kvs.length<=15/\Q (.ref p) (upd H2 p (.dK (iP [] kvs)))
theorem HJ{X:Cx}{pos:Pos}{keys:List (Option Expr)}{values:List Expr}{trs:List (TE×TE)}(h:Te X pos keys values trs)(hall:keys.all (·.isSome)=true)(hl:keys.length=values.length)(h0:keys≠[])
  (h15:keys.length<=15):PE X (.Dict keys values pos) (Sj trs):=by
 intro pins s Z H Q I q
 have hn:=I.hok.fresh (Nat.le_refl s.heap.objs.size)
 have I1:=I.laid (a:=s.heap.objs.size) (o:=.dK []) (h':=s.heap.push { cls:=.type "dict",data:=.dict #[] }) (t':=s.toks) (λ_ _ q=>Heap.get?_push_of_some _ q) (Nat.le_refl _) (uZ s.heap I.big)
 refine wpAny_Dict_walk (knd:=b7 X.prog X.w) hall hl h0 h15 (cU (h pins _ Z _ _ I1 (q _ hn)) λws s2  hZ=>?_)
 obtain⟨ps,H2,I2,rel,e,kvs,ep,lk,q2⟩:=hZ
 subst ep
 obtain⟨rs,c,rk⟩:=p7 (P:=X.prog) (w:=X.w) rel
 obtain⟨z,hd,vs0,r0,dd⟩:=lJ I2.hok e
 cases r0
 refine⟨rs,c,dd,λh' dd' hs=>⟨.ref s.heap.objs.size,_,?_,rfl,q2⟩⟩
 have hz:(iP [] kvs).length<=sizeLine:=by
  have h1:=je kvs []
  rw[List.length_nil] at h1
  rw[sizeLine_eq];lia
 have he:∃q,h'.get? s.heap.objs.size=some q:=let ⟨q,_,_,hq,_⟩:=dd';⟨q,hq⟩
 exact pB I2 (by rw[e];exact True.intro) hs he (qD hz hd (rk.merge .nil) dd')
structure M1(X:Cx)(o:Expr)(m:Str)(apos:Pos)(e:Expr)(cpos:Pos):Prop where
 base:attributeBase o m X.env (eval o X.env)=eval o X.env
 few:((backTo cpos (starEach [e] X.env)).all (λx=>!x.1) && (backToKw cpos (keywordEach [] X.env)).all (λx=>x.1.isSome)
  && decide (([e]:List Expr).length+([]:List Keyword).length+(if ([]:List Keyword).isEmpty then 0 else 1)<30))=true
 line:(apos.endLine == cpos.line)=true
 trees:backTo cpos (starEach [e] X.env)=[(false,eval e X.env)]
def Ur(H:Hp)(a:Addr):Prop:=(∃kvs,Rd H a (.dK kvs))∨∃kvs,Rd H a (.dT kvs)
theorem B3{X:Cx}{pins:List (Addr×Obj)}{Z:St}{H:Hp}{s:Shared}{a:Addr}(I:Inv X pins Z H s)(d:Ur H a) :
  s.TypeIs (.ref a) "dict" /\ (∀b,Value.ref a=.ref b->∃ob,s.heap.get? b=some ob/\ob.dict=none)/\(a == sysModules)=false:=by
 rcases d with ⟨kvs,e⟩|⟨kvs,e⟩
 ·obtain⟨_,hd,vs,_,dd⟩:=m9 I.hok e
  refine⟨dd.typeIs,λb q=>?_,hd⟩
  cases q
  obtain⟨ob,_,_,h1,h2,_⟩:=dd
  exact⟨ob,h1,h2.2.1⟩
 ·obtain⟨_,hd,xs,_,dd⟩:=pT I.hok e
  refine⟨dd.typeIs,λb q=>?_,hd⟩
  cases q
  obtain⟨ob,_,_,h1,h2,_⟩:=dd
  exact⟨ob,h1,h2.2.1⟩
section
variable {X:Cx}{pins:List (Addr×Obj)}{Z:St}{H:Hp}{s:Shared}{a:Addr}{y d:V}{u r:Value}{o:Option V}{A:Around}{E:Value->Shared->Prop}
theorem Oi{Q:Value->Shared->Prop}(hu:A.units+1<cLine)(I:Inv X pins Z H s)(g:k9 H a y o)(ry:RelV y u)(h:∀w' s',Inv X pins Z H s'->RelV (o.getD .cW) w'->Q w' s') :
  wpAny (model X.prog X.w) A (call (.builtin "dict.get") [.ref a,u]) Q E s:=by
 rcases g with ⟨kvs,k,e,ey,l⟩|⟨kvs,k,b,e,ey,eb,l⟩
 ·subst ey
  obtain⟨z,hd,vs,rel,dd⟩:=m9 I.hok e
  refine call_meetsIn PySem.F.slot_dict_get dd.typeIs PySem.F.entry_dict_get (PySem.F.args_dict_get_2 _ _) (meets_dict_get (b7 X.prog X.w) a (mH ry) hd) ⟨_,dd.mapOf,h _ _ (I.tok _) ?_⟩
  rw[l]
  exact(rel.val k).getD rfl
 ·subst ey
  cases (show u=Value.ref b from ry)
  obtain⟨z,hd,xs,rel,dd⟩:=pT I.hok e
  refine call_meetsIn PySem.F.slot_dict_get dd.typeIs PySem.F.entry_dict_get (PySem.F.args_dict_get_2 _ _) (meetsH_dict_get (tupleKind (b7 X.prog X.w)) a b hd) ⟨tupleKind_room_in1 hu,k,xs,nZ I.hok eb,dd,h _ _ (I.tok _) ?_⟩
  rw[l]
  exact(rel.val k).getD rfl
end
def Qq(td ty:TE):TE:=λZ H Q=>td Z H λx H1=>∃a,x=.ref a/\Ur H1 a/\ty Z H1 λy H2=>∃o,k9 H2 a y o/\Q (o.getD .cW) H2
def OJ(td ty:TE):TE:=λZ H Q=>td Z H λx H1=>∃a,x=.ref a/\Ur H1 a/\ty Z H1 λy H2=>∃kvs k v,H2 a=some (.dK kvs)/\y=kV k/\dU kvs k=some v/\Q v (upd H2 a (.dK (i8 kvs k)))
section
variable {X:Cx}{o e f:Expr}{apos cpos:Pos}{td ty tx:TE}
theorem Ec (hu:X.A.units+1<cLine) (ho:PE X o td) (he:PE X e ty) (m:M1 X o "get" apos e cpos):PE X (.Call (.Attribute o "get" apos) [e] [] cpos) (Qq td ty):=by
 intro pins s Z H Q I h
 refine wpAny_Call_method m.base m.few m.line PySem.F.plainAttrs_dict PySem.F.slot_dict_get PySem.F.type_dict_get (cU (ho pins s Z H _ I h) λu s1  hZ=>?_)
 obtain⟨x,H1,I1,rx,a,ex,d,q1⟩:=hZ
 subst ex
 obtain rfl:u=Value.ref a:=rx
 obtain⟨t1,t2,_⟩:=B3 I1 d
 refine⟨t1,t2,?_⟩
 rw[m.trees]
 refine Calls.callWith_builtin rfl (Calls.evalArgs_plain (Calls.spliced_cons (cU (he pins s1 Z H1 _ I1 q1) λiv s2 ⟨y,H2,I2,ry,ov,g,q2⟩=>Calls.spliced_nil ?_)))
 exact Oi hu I2 g ry λw' s3 I3 rw'=>⟨_,H2,I3,rw',q2⟩
theorem wO (ho:PE X o td) (he:PE X e ty) (m:M1 X o "pop" apos e cpos):PE X (.Call (.Attribute o "pop" apos) [e] [] cpos) (OJ td ty):=by
 intro pins s Z H Q I h
 refine wpAny_Call_method m.base m.few m.line PySem.F.plainAttrs_dict PySem.F.slot_dict_pop PySem.F.type_dict_pop (cU (ho pins s Z H _ I h) λu s1  hZ=>?_)
 obtain⟨x,H1,I1,rx,a,ex,d,q1⟩:=hZ
 subst ex
 obtain rfl:u=Value.ref a:=rx
 obtain⟨t1,t2,_⟩:=B3 I1 d
 refine⟨t1,t2,?_⟩
 rw[m.trees]
 refine Calls.callWith_builtin rfl (Calls.evalArgs_plain (Calls.spliced_cons (cU (he pins s1 Z H1 _ I1 q1) λiv s2 ⟨y,H2,I2,ry,kvs,k,v,ea,ey,l,q2⟩=>Calls.spliced_nil ?_)))
 subst ey
 exact RE I2 ea ry l (.inl rfl) λw' s3 I3 rw'=>⟨v,_,I3,rw',q2⟩
end
section
variable {X:Cx}{pins:List (Addr×Obj)}{Z:St}{H:Hp}{s:Shared}{a:Addr}{kvs:List (Key×V)}{A:Around}{E:Value->Shared->Prop}
theorem BC {Q:Value->Shared->Prop} (I:Inv X pins Z H s) (e:Rd H a (.dK kvs)) (h:∀p s',H p=none->Inv X pins Z (upd H p (.dK kvs)) s'->Q (.ref p) s'):wpAny (model X.prog X.w) A (call (.type "dict") [.ref a]) Q E s:=by
 obtain⟨z,hd,vs,rel,dd⟩:=m9 I.hok e
 refine kt_call_dict hd dd (by rw[← rel.length];exact z) λh' dd' hs=>?_
 refine h _ _ (I.hok.fresh (Nat.le_refl _)) (I.laid (a:=s.heap.objs.size) (o:=.dK kvs) (t':=s.toks) (λb q hq=>?_) (Nat.le_refl _) (qD z (beq_eq_false_iff_ne.mpr (Ne.symm (Nat.ne_of_lt I.big))) rel dd'))
 exact(hs.2 b (Nat.ne_of_lt (Heap.lt_size hq))).trans (Heap.get?_push_of_some _ hq)
end
section
variable {X:Cx}{pins:List (Addr×Obj)}{Z:St}{H:Hp}{s:Shared}{a:Addr}{y:V}{u:Value}{A:Around}{E:Value->Shared->Prop}
end
section
variable {X:Cx}
theorem AR:ic X (.builtin "len") (λxs H Q=>∃a kvs,xs=[V.ref a]/\H a=some (.dK kvs)/\Q (.int kvs.length) H):=by
 intro pins s Z H xs us Q I r h
 obtain⟨a,kvs,rfl,ha,q⟩:=h
 obtain⟨u,rfl,ru⟩:=vals1 r
 cases ru
 exact Rt I (.inl ha) λt s' I'=>⟨.int kvs.length,H,I',⟨t,rfl⟩,q⟩
end
section
variable {κ:Type}[DecidableEq κ]
theorem CD{kvs:List (κ×V)}{k:κ}(h:dU kvs k=none):¬ k∈kvs.map (·.1):=by
 intro m
 obtain⟨p,hp,e⟩:=List.mem_map.mp m
 have q:(kvs.any λkv=>decide (kv.1=k))=true:=List.any_eq_true.mpr ⟨p,hp,decide_eq_true e⟩
 rw[fX,h] at q
 exact absurd q (by simp)
theorem Im{kvs:List (κ×V)}{k:κ}{v:V}(h:dU kvs k=some v):k∈kvs.map (·.1):=by
 have q:(kvs.any λkv=>decide (kv.1=k))=true:=by
  rw[fX,h]
  all_goals rfl
 obtain⟨p,hp,e⟩:=List.any_eq_true.mp q
 exact List.mem_map.mpr ⟨p,hp,of_decide_eq_true e⟩
theorem zo:∀{l:List κ} {k:κ},l.Nodup->¬ k∈l->(l++[k]).Nodup
 | [],k,_,_=>by simp
 |a::r,k,h,hk=>by
  obtain⟨h1,h2⟩:=List.nodup_cons.mp h
  show (a::(r++[k])).Nodup
  refine List.nodup_cons.mpr ⟨λm=>?_,zo h2 λm=>hk (List.mem_cons.mpr (Or.inr m))⟩
  rcases List.mem_append.mp m with q|q
  ·exact h1 q
  ·exact hk (List.mem_cons.mpr (Or.inl (List.mem_singleton.mp q).symm))
theorem Ao{p:κ×V}{r:List (κ×V)}{k:κ}(e:p.1=k):i8 (p::r) k=i8 r k:=by
 unfold i8
 rw[List.filter_cons,if_neg (by simp[e])]
theorem Be{p:κ×V}{r:List (κ×V)}{k:κ}(e:¬ p.1=k):i8 (p::r) k=p::i8 r k:=by
 unfold i8
 rw[List.filter_cons,if_pos (by simp[e])]
end
section
variable {X:Cx}
def Gf:V->List V->Hp->VK->Prop:=λx vs H Q=>∃a b:Str,x=.str a/\vs=[.str b]/\(b.length == 0)=false/\a.length+2<=sizeLine/\∀p,H p=none->Q (.ref p) (upd H p (.lst ((PySem.Txt.split a b).map V.str)))
theorem AW:∀(n:Nat) (ys:List Str),Vals (ys.map V.str) (strsFrom n ys):=by
 intro n ys
 rw[strsFrom_eq]
 have aux:∀(l:List (Str×Tok)),Vals ((l.map (·.1)).map V.str) (strValues l):=by
  intro l
  induction l with
  |nil=>exact .nil
  |cons p r ih=>exact .cons ⟨p.2,rfl⟩ ih
 have:=aux (numbered n ys)
 rwa [numbered_texts] at this
theorem jq:Qc X "str.split" Gf:=by
 intro pins s Z H x vs v us Q I rx rv h
 obtain⟨a,b,rfl,rfl,hb,hz,q⟩:=h
 obtain⟨t,rfl⟩:=rx
 obtain⟨u,rfl,ru⟩:=rv.one
 obtain⟨t1,rfl⟩:=ru
 have q0:=q s.heap.objs.size (I.hok.fresh (Nat.le_refl _))
 have hle:=PyProof.Rows.split_le a b
 cases h1:(decide (a.length<b.length) || decide (Builtin.Str.strKind a<Builtin.Str.strKind b))
 ·cases hf:(Builtin.Str.occurrences a b 0 a.length (a.length+1)).isEmpty
  ·have e:PySem.Txt.split a b=Builtin.Str.partsBetween a (Builtin.Str.occurrences a b 0 a.length (a.length+1)) b.length:=by
    unfold PySem.Txt.split
    rw[if_neg (ne_true_of_eq_false h1),if_neg (ne_true_of_eq_false hf)]
   rw[e] at q0 hle
   refine call_meets F.slot_str_split (typeIs_str _ _ _) F.entry_str_split (F.args_str_split_2 _ _) (meets_str_split_sep a b t t1 h1 hb hf (by lia) (by lia)) ?_
   exact⟨.ref _,_,I.B4 (t':=_) (AW s.toks _) (by rw[List.length_map];lia),rfl,q0⟩
  ·have e:PySem.Txt.split a b=[a]:=by
    unfold PySem.Txt.split
    rw[if_neg (ne_true_of_eq_false h1),if_pos hf]
   rw[e] at q0
   refine call_meets F.slot_str_split (typeIs_str _ _ _) F.entry_str_split (F.args_str_split_2 _ _) (meets_str_split_not_found a b t t1 h1 hb hf) ?_
   exact⟨.ref _,_,I.B4 (ys:=[.str a]) (t':=s.toks) (.cons ⟨t,rfl⟩ .nil) (by show 1<=sizeLine;decide),rfl,q0⟩
 ·have e:PySem.Txt.split a b=[a]:=by
   unfold PySem.Txt.split
   rw[if_pos h1]
  rw[e] at q0
  refine call_meets F.slot_str_split (typeIs_str _ _ _) F.entry_str_split (F.args_str_split_2 _ _) (meets_str_split_cannot_occur a b t t1 h1) ?_
  exact⟨.ref _,_,I.B4 (ys:=[.str a]) (t':=s.toks) (.cons ⟨t,rfl⟩ .nil) (by show 1<=sizeLine;decide),rfl,q0⟩
theorem uX{bs:List Bool}:∀{us:List Value},Vals (bs.map V.bl) us->LSm.BoolsAre us bs:=by
 induction bs with
 |nil=>intro us r;cases r;exact .nil
 |cons y r ih=>
  intro us h
  cases h with
  |cons h t=>
   cases h
   exact .cons _ (ih t)
theorem AL (hc:X.calm=true):ic X (.builtin "all") (λxs H Q=>∃(p:Addr) (bs:List Bool),xs=[.ref p]/\bg X.K H p (bs.map V.bl)/\Q (.bl (bs.all id)) H):=by
 intro pins s Z H xs us Q I r h
 obtain⟨p,bs,rfl,hq,q⟩:=h
 obtain⟨u,rfl,rx⟩:=vals1 r
 cases rx
 obtain⟨its,r',pl,hz⟩:=I.list hq
 have hb:=uX r'
 have hl:=pl.isList
 have hlt:p<s.heap.objs.size:=by obtain⟨_,e,_⟩:=hl;exact Heap.lt_size e
 refine call_all_walk (wpAny_pyIter_list hl ?_)
 refine⟨s.heap.objs.size,[s.heap.objs.size,p],[s.heap.objs.size],its.toArray.size,_,_,λi=>(bs[i]?).getD true,rfl,Walks.list (A:=X.A.in1) (I.ok.hd hc) _ p (Nat.ne_of_lt hlt) its.toArray,
  ⟨⟨_,Heap.get?_push_size _ rfl,rfl,rfl⟩,hl.push _⟩,λi v s' Q' E' hP hQ=>?_,λh' tk hk=>?_⟩
 ·obtain⟨b,e,rfl⟩:=hb.get i v (by simpa using hP)
  simp only[e,Option.getD_some] at hQ
  exact wpAny_truthy_bool hQ
 ·have e:((List.range its.toArray.size).all λi=>(bs[i]?).getD true)=bs.all id:=by
   rw[List.size_toArray,hb.length];exact LSm.range_all bs
  rw[e]
  exact⟨.bl _,H,I.kept (t':=tk) (LSm.kept_iter hk),rfl,q⟩
end
def Tc(z:Str):It:=⟨λi _=>i<z.length,λi H x H'=>H'=H/\∃c,z.cps.toList[i]?=some c/\x=.str ⟨#[c]⟩,λi _=>z.length<=i⟩
section
variable {X:Cx}{tg:Expr}
theorem sM{P:Program}{w:World}{K:PySem.W.Frag}{x:Str}{px:Pos}(z:Str)(it:Addr)(St:Nat->Heap->Prop)(cl:∀i h,St i h->∃o,h.get? it=some o/\∀v,o.data≠.cell v)
  (fr:∀i h h',St i h->(∀o,h.get? it=some o->h'.get? it=some o)->St i h') (sf:∀(A:Around) (i:Nat) (s:Shared) (Q:Value->Shared->Prop) (E:Value->Shared->Prop),St i s.heap->Q (.ref it) s->wpAny (model P w) A (pyIter (.ref it)) Q E s)
  (W:∀A:Around,A.handled=none->Walks P w A it [it] [it] z.cps.size (SignAt z) St):Turn P w K (.Name x px) (Tc z) [it] it (λi h=>St i h/\i<=z.length) where
 mem:=by simp
 obj:=λi h st b hb=>by
  have e:b=it:=by simpa using hb
  subst e
  exact cl i h st.1
 keep:=λi h h' st k=>⟨fr i h h' st.1 λo e=>k it (by simp) o e,st.2⟩
 item:=by
  intro X hP hw hK hc i pins s Z H E I hf st hg
  subst hP hw hK
  obtain⟨f0,f1,f2,f3,f4,f5⟩:=hf it (by simp)
  refine(W X.A (I.ok.hd hc)).item i s _ E hg st.1 λv h' tk hP st' hk=>?_
  obtain⟨c,u,e1,rfl⟩:=hP
  refine⟨_,rfl,?_⟩
  show wpAny _ _ (pure ()) _ _ _
  refine wpAny_pure ⟨.str ⟨#[c]⟩,H,I.turned (t':=tk) (λb o hb e=>hk b o (by simpa using hb) e) f0 f1 f3 f4 f5,⟨u,rfl⟩,⟨rfl,c,by simpa using e1,rfl⟩,⟨st',hg⟩,λb hb=>(hf b hb).1⟩
 done:=by
  intro X hP hw hK hc i pins s Z H E I hf st hg
  subst hP hw hK
  obtain⟨f0,f1,f2,f3,f4,f5⟩:=hf it (by simp)
  have e:i=z.cps.size:=Nat.le_antisymm st.2 hg
  subst e
  exact(W X.A (I.ok.hd hc)).done s _ E st.1 λh' tk hk=>⟨rfl,I.turned (t':=tk) (λb o hb e=>hk b o (by simpa using hb) e) f0 f1 f3 f4 f5⟩
 self:=λA i s Q E st h=>sf A i s Q E st.1 h
def TL(te:TE):TI:=λZ H R=>te Z H λx H1=>∃z:Str,x=.str z/\R (Tc z) H1
theorem N8{e:Expr}{te:TE}{x:Str}{px:Pos}(he:PE X e te):PI X (.Name x px) e (TL te):=by
 intro pins s Z H R I h
 refine cU (he pins s Z H _ I h) λv s1  hZ=>?_
 obtain⟨y,H1,I1,r1,q1⟩:=hZ
 obtain⟨z,rfl,q⟩:=q1
 obtain⟨t,rfl⟩:=r1
 have fin:∀(o:Obj) (St:Nat->Heap->Prop),Turn X.prog X.w X.K (.Name x px) (Tc z) [s1.heap.objs.size] s1.heap.objs.size St->St 0 (s1.heap.push o)->T8 X pins Z (.Name x px) R (.ref s1.heap.objs.size) { s1 with heap:=s1.heap.push o }:=λo St T st=>by
  refine⟨s1.heap.objs.size,[s1.heap.objs.size],_,_,H1,rfl,I1.kept (t':=s1.toks) λb o e=>Heap.get?_push_of_some _ e,T,st,λb hb=>?_,q⟩
  have e:b=s1.heap.objs.size:=by simpa using hb
  subst e
  exact I1.Ae (Nat.le_refl _) (I1.hok.fresh (Nat.le_refl _))
 have cl:∀ty (i:Nat) (h:Heap),h.IsStrIter s1.heap.objs.size ty z t i->∃o,h.get? s1.heap.objs.size=some o/\∀v,o.data≠.cell v:=λty i h st=>by
  obtain⟨o,e,c,d⟩:=st
  exact⟨o,e,λv q=>by rw[d] at q;cases q⟩
 have fr:∀ty (i:Nat) (h h':Heap),h.IsStrIter s1.heap.objs.size ty z t i->(∀o,h.get? s1.heap.objs.size=some o->h'.get? s1.heap.objs.size=some o)->h'.IsStrIter s1.heap.objs.size ty z t i:=λty i h h' st k=>by
  obtain⟨o,e,r⟩:=st
  exact⟨o,k o e,r⟩
 cases ha:z.cps.all (· < 128)
 ·exact wpAny_pyIter_wide ha (fin _ _ (sM z _ _ (cl _) (fr _) (λA i s Q E st h=>wpAny_pyIter_striter_wide st h) (λA hA=>Walks.strWide hA _ z t)) ⟨⟨_,Heap.get?_push_size _ rfl,rfl,rfl⟩,Nat.zero_le _⟩)
 ·exact wpAny_pyIter_ascii ha (fin _ _ (sM z _ _ (cl _) (fr _) (λA i s Q E st h=>wpAny_pyIter_striter_ascii st h) (λA hA=>Walks.strAscii hA _ z t)) ⟨⟨_,Heap.get?_push_size _ rfl,rfl,rfl⟩,Nat.zero_le _⟩)
def TV(K:PySem.W.Frag)(a:Addr):It :=
 ⟨λi H=>∃xs x,bg K H a xs/\xs[i]?=some x,λi H x H'=>∃p v,H p=none/\x=.ref p/\H'=upd H p (.tup [.int i,v])/\∀xs,bg K H a xs->xs[i]?=some v,λi H=>∃xs,bg K H a xs/\xs.length<=i⟩
theorem AK{P:Program}{w:World}{K:PySem.W.Frag}{elts:List Expr}{x1}{pos:Pos}(a e it:Addr)(hne:e≠it):Turn P w K (.Tuple elts x1 pos) (TV K a) [e,it] e (λi h=>∃old,IsEnum h e it i old/\h.IsListIter it a i) where
 mem:=by simp
 obj:=λi h st b hb=>by
  obtain⟨old,st,si⟩:=st
  rcases List.mem_cons.mp hb with z|z
  ·subst z
   exact⟨_,st,λv q=>by cases q⟩
  ·have e:b=it:=by simpa using z
   subst e
   obtain⟨o,e,c,d⟩:=si
   exact⟨o,e,λv q=>by rw[d] at q;cases q⟩
 keep:=λi h h' st k=>by
  obtain⟨old,st,si⟩:=st
  exact⟨old,k e (by simp) _ st,si.at λo q=>k it (by simp) o q⟩
 item:=by
  intro X hP hw hK hc i pins s Z H E I hf st hg
  subst hP hw hK
  obtain⟨old,st,si⟩:=st
  obtain⟨xs,x,hq,hx⟩:=hg
  obtain⟨its,rv,p,hz⟩:=I.list hq
  obtain⟨u,hu,ru⟩:=rv.get hx
  have f:=hf e (by simp)
  have g:=hf it (by simp)
  refine wpAny_pyNext_enum_item st si p.isList (x:=u) (by simpa using hu) hne λh1 eo si1 ht hsz hk=>?_
  refine⟨_,rfl,wpAny_letOwnedTupleGo_enum (s:={ s with heap:=h1,toks:=s.toks+1 }) eo λh2 en sb=>?_⟩
  have hs1:e≠s.heap.objs.size:=Nat.ne_of_lt (Heap.lt_size st)
  have hs2:it≠s.heap.objs.size:=by obtain⟨o,q,_⟩:=si;exact Nat.ne_of_lt (Heap.lt_size q)
  have k2:∀b o,b≠e->b≠it->s.heap.get? b=some o->h2.get? b=some o:=λb o n1 n2 q=>(sb.2 b n1).trans (hk b o n1 n2 q)
  have fresh:=I.hok.fresh (Nat.le_refl s.heap.objs.size)
  have I1:Inv X pins Z (upd H s.heap.objs.size (.tup [.int i,x])) { s with heap:=h2,toks:=s.toks+1 }:=by
   refine I.step (g':=s.gens) (d':=s.drawn) (ch:=[e,it]) (λb hb=>?_) (λb o _ _ hc q _=>?_) (λb o _ _ hc q _=>?_) (λb o hc q n=>?_) (λb o hc q=>?_) (λb ys q=>?_) (λb o ys q=>?_) (λb ps q=>?_) (λm hm=>?_) (λb u' q=>?_) I.bare
   ·rcases List.mem_cons.mp hb with z|z
    ·rw[z];exact⟨f.2.2.2.1,f.2.1,f.2.2.2.2.1,f.2.2.2.2.2⟩
    ·have z:b=it:=by simpa using z
     rw[z];exact⟨g.2.2.2.1,g.2.1,g.2.2.2.2.1,g.2.2.2.2.2⟩
   ·exact k2 b o (λz=>hc (by simp[z])) (λz=>hc (by simp[z])) q
   ·exact⟨o.slots,k2 b o (λz=>hc (by simp[z])) (λz=>hc (by simp[z])) q⟩
   ·rw[ak (Nat.ne_of_lt (Heap.lt_size q))];exact n
   ·exact⟨o,k2 b o (λz=>hc (by simp[z])) (λz=>hc (by simp[z])) q⟩
   ·rw[ak (au q fresh)];exact q
   ·rw[ak (au q fresh)];exact q
   ·exact⟨#[],by rw[ak (au q fresh),q];simp⟩
   ·obtain⟨o,es,ep,ho,r⟩:=hm
    exact⟨o,es,ep,k2 _ o (Ne.symm f.2.1) (Ne.symm g.2.1) ho,r⟩
   ·by_cases hb:b=s.heap.objs.size
    ·subst hb
     rw[af] at q;cases q
     refine⟨by show 2<=sizeLine;decide,[_,u],.cons ⟨_,rfl⟩ (.cons ru .nil),⟨_,(sb.2 _ (Ne.symm hs1)).trans ht,rfl,_,rfl⟩⟩
    ·rw[ak hb] at q
     refine(I.hok b u' q).stay (λc v hc' r=>k2 c v ?_ ?_ r) (λc r=>by rw[ak (au r fresh)];exact r) λc ys r=>by rw[ak (au r fresh)];exact r
     ·rcases hc' with z|z
      ·rw[z];exact au q f.1
      ·exact au z f.1
     ·rcases hc' with z|z
      ·rw[z];exact au q g.1
      ·exact au z g.1
  refine⟨.ref s.heap.objs.size,_,I1,rfl,⟨_,x,fresh,rfl,rfl,λys hy=>by rw[I.mY hy hq];exact hx⟩,⟨_,en,?_⟩,λb hb=>?_⟩
  ·obtain⟨o,q,r⟩:=si1
   exact⟨o,(sb.2 it (Ne.symm hne)).trans q,r⟩
  ·have hb':=(hf b hb).1
   rcases List.mem_cons.mp hb with z|z
   ·rw[ak (by rw[z];exact hs1)];exact hb'
   ·have z:b=it:=by simpa using z
    rw[ak (by rw[z];exact hs2)];exact hb'
 done:=by
  intro X hP hw hK hc i pins s Z H E I hf st hg
  subst hP hw hK
  obtain⟨old,st,si⟩:=st
  obtain⟨xs,hq,hx⟩:=hg
  obtain⟨its,rv,p,hz⟩:=I.list hq
  obtain⟨f0,f1,f2,f3,f4,f5⟩:=hf it (by simp)
  have hl:=rv.length
  exact wpAny_pyNext_enum_end (I.ok.hd hc) st si p.isList (by simp;lia) λh' eb=>⟨rfl,I.turned (t':=s.toks) (λb o hb e=>eb b o hb e) f0 f1 f3 f4 f5⟩
 self:=λ_ _ _ _ _ st h=>by
  obtain⟨old,st,si⟩:=st
  exact wpAny_pyIter_enum st h
def Sa(K:PySem.W.Frag)(ta:TA):TI:=λZ H R=>ta Z H λvs H1=>∃a xs,vs=[.ref a]/\bg K H1 a xs/\R (TV K a) H1
theorem zO {a:Expr} {ta:TA} {p pos tp:Pos} {elts:List Expr} {x1} (hg:Gl X "enumerate") (hm:X.mg "enumerate" = none) (ha:PA X [a] ta) (hs:autoParam (starEach [a] X.env=[(false,eval a X.env)]) L2.Y3._auto_1) :
  PI X (.Tuple elts x1 tp) (.Call (.Name "enumerate" p) [a] [] pos) (Sa X.K ta):=by
 intro pins s Z H R I h
 refine Call_ (kh I hg hm (show bootBuiltins "enumerate" = some (.type "enumerate") by decide +kernel) (PyProof.Rows.callWith_type1 (cU (ha pos pins s Z H _ I h) λus s1 hY=>?_) hs rfl))
 obtain⟨vs,H1,I1,r1,q1⟩:=hY
 obtain⟨l,xs,rfl,hq,q⟩:=q1
 obtain⟨u,rfl,ru⟩:=r1.one
 cases ru
 obtain⟨its,rv,pl,hz⟩:=I1.list hq
 refine call_enumerate_list pl.isList λh' he hi hsz hk=>?_
 refine wpAny_pyIter_enum (s:={ s1 with heap:=h' }) he ?_
 refine⟨s1.heap.objs.size+1,[s1.heap.objs.size+1,s1.heap.objs.size],_,_,H1,rfl,I1.kept (t':=s1.toks) hk,AK l _ _ (Nat.succ_ne_self _),⟨_,he,hi⟩,λb hb=>?_,q⟩
 have hb':s1.heap.objs.size<=b:=by
  rcases List.mem_cons.mp hb with z|z
  ·rw[z];exact Nat.le_succ _
  ·have z:b=s1.heap.objs.size:=by simpa using z
   rw[z];exact Nat.le_refl _
 exact I1.Ae hb' (I1.hok.fresh hb')
end
theorem jL{x y:Str}(h:x.cps.toList=y.cps.toList):x=y:=by
 obtain⟨a⟩:=x
 obtain⟨b⟩:=y
 have:a=b:=Array.toList_inj.mp h
 rw[this]
theorem dX(x y:Str):(x++y).cps.toList=x.cps.toList++y.cps.toList:=by
 show (x.cps++y.cps).toList=_
 simp
def bM(c:Nat):List (List Nat)->List Nat
 | []=>[]
 | [x]=>x
 |x::y::r=>x++c::bM c (y::r)
theorem eN(c:Nat):∀ps:List Str,(Str.join ⟨#[c]⟩ ps).cps.toList=bM c (ps.map λp=>p.cps.toList)
 | []=>rfl
 | [x]=>rfl
 |x::y::r=>by
  show (x++⟨#[c]⟩++Str.join ⟨#[c]⟩ (y::r)).cps.toList=x.cps.toList++c::bM c ((y::r).map λp=>p.cps.toList)
  rw[dX,dX,eN c (y::r)]
  simp
theorem z6{c:Nat}:∀{a b r s:List Nat},c∉a->c∉b->a++c::r=b++c::s->a=b/\r=s
 | [],[],r,s,_,_,h=>⟨rfl,by simpa using h⟩
 | [],y::b,r,s,_,hb,h=>by
  simp at h
  exact absurd (by simp[h.1]) hb
 |x::a,[],r,s,ha,_,h=>by
  simp at h
  exact absurd (by simp[h.1]) ha
 |x::a,y::b,r,s,ha,hb,h=>by
  simp only[List.cons_append,List.cons.injEq] at h
  obtain⟨e1,e2⟩:=z6 (λz=>ha (List.mem_cons_of_mem _ z)) (λz=>hb (List.mem_cons_of_mem _ z)) h.2
  exact⟨by rw[h.1,e1],e2⟩
theorem sP{c:Nat}:∀{ps qs:List (List Nat)},ps≠[]->qs≠[]->(∀p∈ps,c∉p)->(∀q∈qs,c∉q)->bM c ps=bM c qs->ps=qs
 | [],_,h,_,_,_,_=>absurd rfl h
 |_::_,[],_,h,_,_,_=>absurd rfl h
 | [x],[y],_,_,_,_,h=>by simp only[bM] at h;rw[h]
 | [x],y::z::r,_,_,hx,_,h=>by
  simp only[bM] at h
  exact absurd (by rw[h];simp) (hx x (by simp))
 |x::z::r,[y],_,_,_,hy,h=>by
  simp only[bM] at h
  exact absurd (by rw[← h];simp) (hy y (by simp))
 |x::x2::r,y::y2::s,_,_,hx,hy,h=>by
  simp only[bM] at h
  obtain⟨e1,e2⟩:=z6 (hx x (by simp)) (hy y (by simp)) h
  have:=sP (ps:=x2::r) (qs:=y2::s) (by simp) (by simp) (λp hp=>hx p (List.mem_cons_of_mem _ hp)) (λq hq=>hy q (List.mem_cons_of_mem _ hq)) e2
  rw[e1,this]
theorem mz{c:Nat}{ps:List Str}(hn:ps≠[])(hf:∀p∈ps,c∉p.cps.toList):PySem.Txt.split (Str.join ⟨#[c]⟩ ps) ⟨#[c]⟩=ps:=by
 have h1:=PySem.StrLaws.join_split (Str.join ⟨#[c]⟩ ps) ⟨#[c]⟩
 have h2:=PySem.StrLaws.split_free (Str.join ⟨#[c]⟩ ps) c
 have h3:=PyProof.Rows.split_pos (Str.join ⟨#[c]⟩ ps) ⟨#[c]⟩
 generalize PySem.Txt.split (Str.join ⟨#[c]⟩ ps) ⟨#[c]⟩=qs at h1 h2 h3
 have h4:=congrArg (λx:Str=>x.cps.toList) h1
 simp only[eN] at h4
 have inj:∀{a b:List Str},(a.map λp=>p.cps.toList)=(b.map λp=>p.cps.toList)->a=b:=by
  intro a
  induction a with
  |nil=>intro b h;cases b with
   |nil=>rfl
   |cons _ _=>cases h
  |cons x r ih=>
   intro b h
   cases b with
   |nil=>cases h
   |cons y s=>
    simp only[List.map_cons,List.cons.injEq] at h
    rw[jL h.1,ih h.2]
 refine inj (sP (c:=c) ?_ ?_ ?_ ?_ h4)
 ·intro z
  have:=congrArg List.length z
  simp at this
  rw[this] at h3
  simp at h3
 ·intro z
  have:=congrArg List.length z
  simp at this
  exact hn this
 ·intro p hp
  obtain⟨q,hq,rfl⟩:=List.mem_map.mp hp
  exact h2 q hq
 ·intro p hp
  obtain⟨q,hq,rfl⟩:=List.mem_map.mp hp
  exact hf q hq
def kH(c d:Nat)(l:List Nat):List Nat:=l.map λx=>if x=c then d else x
theorem nH{c d:Nat}:∀{l:List Nat},c∉l->kH c d l=l
 | [],_=>rfl
 |x::r,h=>by
  unfold kH
  rw[List.map_cons,if_neg (λz=>h (by simp[z]))]
  congr 1
  exact nH λz=>h (List.mem_cons_of_mem _ z)
theorem sG{c d:Nat}:∀{ps:List (List Nat)},(∀p∈ps,c∉p)->kH c d (bM c ps)=bM d ps
 | [],_=>rfl
 | [x],h=>nH (h x (by simp))
 |x::y::r,h=>by
  simp only[bM]
  have e1:kH c d (x++c::bM c (y::r))=kH c d x++d::kH c d (bM c (y::r)):=by simp[kH]
  rw[e1,nH (h x (by simp)),sG (ps:=y::r) λp hp=>h p (List.mem_cons_of_mem _ hp)]
theorem kF(x:Str)(c d:Nat):(PySem.Txt.replace x ⟨#[c]⟩ ⟨#[d]⟩).cps.toList=kH c d x.cps.toList:=by
 rw[PySem.StrLaws.replace_one,eN]
 have h1:=congrArg (λx:Str=>x.cps.toList) (PySem.StrLaws.join_split x ⟨#[c]⟩)
 simp only[eN] at h1
 conv=>rhs;rw[← h1]
 rw[sG]
 intro p hp
 obtain⟨q,hq,rfl⟩:=List.mem_map.mp hp
 exact PySem.StrLaws.split_free x c q hq
theorem A3{c d:Nat}{l:List Nat}(h:d∉l):kH d c (kH c d l)=l:=by
 induction l with
 |nil=>rfl
 |cons x r ih=>
  have hx:x≠d:=λz=>h (by simp[z])
  have ih':=ih λz=>h (List.mem_cons_of_mem _ z)
  unfold kH at *
  simp only[List.map_cons]
  rw[ih']
  by_cases e:x=c
  ·subst e;simp
  ·rw[if_neg e,if_neg hx]
theorem SA{α:Type}{t:Sem α}{Q Q':α->Shared->Prop}{M:Model}{A:Around}{E E':Value->Shared->Prop}{s:Shared}(h:wpAny M A t Q E s)(hQ:∀a s,Q a s->Q' a s)(hE:∀a s,E a s->E' a s):wpAny M A t Q' E' s:=wpAny_mono h hQ hE
section
variable {X:Cx}{o e:Expr}{to te:TE}{apos cpos pos p1 p2 p3 p4 p5:Pos}{j1 j2 j3:Nat}
def z9(y z:Str):V->Hp->VK->Prop:=λx H Q=>∃a:Str,x=.str a/\a.length+(a.length+1)*z.length<=16777216/\Q (.str (PySem.Txt.replace a y z)) H
theorem sQ{y z:Str}(hyz:(y == z)=false){pins:List (Addr×Obj)}{s:Shared}{Z:St}{H:Hp}{Q:VK}(I:Inv X pins Z H s)
  (ho:wpAny (model X.prog X.w) X.A (eval o X.env) (λu s'=>1<=s'.toks/\EP X pins Z (λx H1=>z9 y z x H1 Q) u s') X.xe s)
  (hbase:autoParam (attributeBase o "replace" X.env (eval o X.env)=eval o X.env) L2.Y3._auto_1) (hline:autoParam ((apos.endLine == cpos.line)=true) L2.Y3._auto_1) :
  wpAny (model X.prog X.w) X.A (eval (.Call (.Attribute o "replace" apos) [.Constant (.str y) j1 p1,.Constant (.str z) j2 p2] [] cpos) X.env) (EP X pins Z Q) X.xe s:=by
 refine wpAny_Call_method_late hbase rfl hline rfl (cU ho λv s1  hZ=>?_)
 obtain⟨hk,x,H1,I1,r1,q1⟩:=hZ
 obtain⟨a,rfl,hz,q⟩:=q1
 obtain⟨t,rfl⟩:=r1
 refine⟨"str","str.replace",F.plainAttrs_str,F.slot_str_replace,F.type_str_replace,typeIs_str _ _ _,(λ_ e=>nomatch e),?_⟩
 refine Calls.callWith_builtin rfl (Calls.evalArgs_plain ?_)
 refine Calls.spliced_cons (Calls.Constant_str (k:=j1) (pos:=p1) (Calls.spliced_cons (Calls.Constant_str (k:=j2) (pos:=p2) (Calls.spliced_nil ?_))))
 exact SC.replace (u:=s1.toks) (v:=s1.toks+1) (Nat.ne_of_gt hk) (Nat.succ_ne_zero _) GL hyz hz λt' k=>⟨.str _,H1,I1.tok _,⟨t',rfl⟩,q⟩
theorem yq{y z:Str}{k:Int}(hyz:(y == z)=false)(he:PE X e te)
  (hbase:autoParam (attributeBase (.Subscript e (.Slice (some (.Constant (.int k) j3 p4)) none none p3) p5) "replace" X.env (eval (.Subscript e (.Slice (some (.Constant (.int k) j3 p4)) none none p3) p5) X.env)=eval (.Subscript e (.Slice (some (.Constant (.int k) j3 p4)) none none p3) p5) X.env) L2.Y3._auto_1)
  (hline:autoParam ((apos.endLine == cpos.line)=true) L2.Y3._auto_1) :
  PE X (.Call (.Attribute (.Subscript e (.Slice (some (.Constant (.int k) j3 p4)) none none p3) p5) "replace" apos) [.Constant (.str y) j1 p1,.Constant (.str z) j2 p2] [] cpos) (λZ H Q=>te Z H λx H1=>∃w:Str,x=.str w/\w.length<=sizeLine/\z9 y z (.str (PySem.Txt.slice w (some k) none)) H1 Q):=by
 intro pins s Z H Q I h
 refine sQ hyz I ?_ hbase hline
 refine Subscript_ (cU (he pins s Z H _ I h) λv s1  hZ=>?_)
 obtain⟨x,H1,I1,r1,w,hx,hw,q1⟩:=hZ
 subst hx
 obtain⟨t,rfl⟩:=r1
 refine wpAny_Slice ?_
 rw[evalPart_some]
 refine wpAny_Constant_int ?_
 rw[evalPart_none]
 refine wpAny_pure ?_
 refine wpAny_pure ?_
 have I2:Inv X pins Z H1 { s1 with toks:=s1.toks+1 }:=I1.tok _
 have I4:Inv X pins Z H1 { s1 with toks:=s1.toks+1,heap:=s1.heap.push { cls:=.type "slice",data:=.fields #[.int k s1.toks,.none,.none] } }:=I2.kept (t':=s1.toks+1) λb ob q=>Heap.get?_push_of_some _ q
 obtain⟨T,id,hT,ht,hg⟩:=mj (X:=X) pins { s1 with toks:=s1.toks+1,heap:=s1.heap.push { cls:=.type "slice",data:=.fields #[.int k s1.toks,.none,.none] } } Z H1 (.str w) (.str w t) (.int k s1.toks) .none (some k) none s1.heap.objs.size (λx H1=>z9 y z x H1 Q) I4 ⟨t,rfl⟩ (Heap.IsSliceOf.new ..) (.int k _) .none ⟨w,rfl,hw,q1⟩
 have fin:=tail_any (value:=e) (slice:=.Slice (some (.Constant (.int k) j3 p4)) none none p3) (ops:=[.ref s1.heap.objs.size,.str w t]) ht hT hg (by with_unfolding_all rfl)
 exact SA (wpAny_toks_of (n:=1) (show 1<=s1.toks+1 by lia) fin) (λ_ _ q=>q) λ_ _ q=>q.2
theorem vN {q y z:Str} (hyz:(y == z)=false) (ho:PE X o to) (hbase:autoParam (attributeBase o "replace" X.env (eval o X.env)=eval o X.env) L2.Y3._auto_1) (hline:autoParam ((apos.endLine == cpos.line)=true) L2.Y3._auto_1) :
  PE X (.BinOp (.Constant (.str q) j3 p3) .Add (.Call (.Attribute o "replace" apos) [.Constant (.str y) j1 p1,.Constant (.str z) j2 p2] [] cpos) pos)
   (λZ H Q=>to Z H λx H1=>z9 y z x H1 λv H2=>∃b:Str,v=.str b/\q.length+b.length<=sizeLine/\Q (.str (q++b)) H2):=by
 intro pins s Z H Q I h
 refine wpAny_BinOp (Calls.Constant_str ?_)
 have I2:Inv X pins Z H { s with toks:=s.toks+1 }:=I.tok _
 refine cU (sQ (j1:=j1) (j2:=j2) (p1:=p1) (p2:=p2) (apos:=apos) (cpos:=cpos) hyz I2 (Q:=λv H2=>∃b:Str,v=.str b/\q.length+b.length<=sizeLine/\Q (.str (q++b)) H2)
  (SA (wpAny_toks_of (n:=1) (show 1<=s.toks+1 by lia) (ho pins _ Z H _ I2 h)) (λ_ _ q=>q) λ_ _ q=>q.2) hbase hline) λu s2 ⟨x,H2,I3,r,b,hx,hz,q2⟩=>?_
 subst hx
 obtain⟨t,rfl⟩:=r
 exact add_str (λt' tk=>⟨.str (q++b),H2,I3.tok _,⟨_,rfl⟩,q2⟩) hz
end
section
variable {X:Cx}
theorem gc {x:Str} {v:V} {pos:Pos} (hg:Gl X x) (h:∃u,X.mg x=some u/\RelV v u) (hd:autoParam ((x == ("__debug__":Str))=false) L2.Y1._auto_1):PE X (.Name x pos) (tC v):=by
 obtain⟨u,e,r⟩:=h
 exact mQ hg e r hd
theorem Gq:∀{x:V},iT x=true->Bd x x=true
 |.cW,_=>rfl
 |.bl b,_=>by simp[Bd]
 |.int b,_=>by simp[Bd]
 |.str b,_=>by simp[Bd]
theorem E4{caps:List (Str×Nat)}{z:Str}{te:TE}{Z:St}{H:Hp}{Q:VK}(Pv:Nat->List V->Hp->Prop)(h0:Pv 0 [] H)(hn:z.length<sizeLine)
  (hs:∀i c ys H,z.cps.toList[i]?=some c->ys.length=i->Pv i ys H->te (lq caps Z++[some (.str ⟨#[c]⟩)]) H λy H2=>∃m',m'<z.length-i/\m'=z.length-(i+1)/\i+1<=z.length/\(ys++[y]).length=i+1/\Pv (i+1) (ys++[y]) H2) (hd:∀ys H,ys.length=z.length->Pv z.length ys H->∀D,H D=none->Q (.ref D) (upd H D (.lst ys))) :
  vX (Tc z) caps te Z H Q:=by
 refine⟨λi m ys H=>m=z.length-i/\i<=z.length/\ys.length=i/\Pv i ys H,⟨z.length,by simp,Nat.zero_le _,rfl,h0⟩,?_⟩
 rintro i m ys H ⟨rfl,hi,hl,p⟩
 by_cases hlt:i<z.length
 ·refine .inr ⟨hlt,by lia,λx H' y=>?_⟩
  obtain⟨e,c,e1,rfl⟩:=y
  subst e
  exact hs i c ys _ e1 hl p
 ·have e:i=z.length:=by lia
  subst e
  exact .inl ⟨Nat.le_refl _,hd ys H hl p⟩
theorem tQ{K:PySem.W.Frag}{a:Addr}{xs:List V}{g:TG}{tb:TS}{D:Ends}{Z:St}{H:Hp}(Pv:Nat->St->Hp->Prop)(h0:Pv 0 Z H)(hl:∀i Z H,i<=xs.length->Pv i Z H->bg K H a xs)
  (hs:∀i x p Z H,xs[i]?=some x->H p=none->Pv i Z H->g (.ref p) Z (upd H p (.tup [.int i,x])) λZ2 H2=>tb { D with nx:=Pv (i+1),ct:=Pv (i+1),bk:=D.nx } Z2 H2) (hd:∀Z H,Pv xs.length Z H->D.nx Z H):Ai (TV K a) g tb D Z H:=by
 refine⟨λi m Z H=>m=xs.length-i/\i<=xs.length/\Pv i Z H,⟨xs.length,by simp,Nat.zero_le _,h0⟩,?_⟩
 rintro i m Z H ⟨rfl,hi,p⟩
 have q:=hl i Z H hi p
 by_cases hlt:i<xs.length
 ·refine .inr ⟨⟨xs,xs[i],q,by simp[hlt]⟩,Pv (i+1),λZ' H' p'=>⟨xs.length-(i+1),by lia,rfl,hlt,p'⟩,λx H' y=>?_⟩
  obtain⟨pp,v,h1,rfl,rfl,h2⟩:=y
  exact hs i v pp Z H (h2 xs q) h1 p
 ·have e:i=xs.length:=by lia
  subst e
  exact .inl ⟨⟨xs,q,Nat.le_refl _⟩,hd Z H p⟩
end
def gw(H H':Hp)(p:Addr):Prop:=∀b o,H b=some o->b≠p->H' b=some o
theorem gw.refl(H:Hp)(p:Addr):gw H H p:=λ_ _ h _=>h
theorem gw.trans{H H1 H2:Hp}{p:Addr}(a:gw H H1 p)(b:gw H1 H2 p):gw H H2 p:=λc o h n=>b c o (a c o h n) n
theorem gw.same{H H1 H2:Hp}{p:Addr}(a:gw H H1 p)(b:aj H1 H2):gw H H2 p:=λc o h n=>b c o (a c o h n)
theorem aj.GO{H H1 H2:Hp}{p:Addr}(a:aj H H1)(b:gw H1 H2 p):gw H H2 p:=λc o h n=>b c o (a c o h) n
theorem gw.upd{H:Hp}{p:Addr}{o:HO}:gw H (L2.upd H p o) p:=λb u h n=>by rw[ak n];exact h
section
variable {X:Cx}
theorem CM{sc csc:Scope}{N:List Str}{elt iter:Expr}{x:Str}{px pos ppos:Pos}{caps:List (Str×Nat)}{wi:TI}{te:TE}(ck:uh sc csc N x caps)(hi:PI X (.Name x px) iter wi)
  (he:∀C s2 H2 fp,PE (dW X (caps.map (·.1)++[x]) csc C s2 H2 fp) elt te) (hc:X.calm=true) (hsc:X.env.scope=sc) (hXN:X.N=N) (hs:∀x,foldedSetIterable iter X.env x=pure x)
  {pins:List (Addr×Obj)} {s:Shared} {Z:St} {H:Hp} {Q:VK} (I:Inv X pins Z H s) (h:Bh caps wi te Z H Q) (use:Option (Value->Sem Unit)) (QQ:Value->Shared->Prop)
  (fin:∀(s2:Shared) (H2:Hp) (D C:Addr) (ys:List V) (H':Hp) (s4:Shared) (m:Str->Option Value),Inv X pins Z H2 s2->s2.heap.objs.size<=C->s2.heap.objs.size<=D->D≠C->s4.heap.Ns C m->
   (∀h',Heap.SameBut C s4.heap h'->Inv X pins Z (upd H' D (.lst ys)) { s4 with heap:=h' })->H' C=none->Q (.ref D) (upd H' D (.lst ys))->
   compPost (model X.prog X.w) X.A X.xe use QQ (.ref D) C (.ok .next) s4) :
  wpAny (model X.prog X.w) X.A (comprehension (.ListComp elt [⟨.Name x px,iter,[],0⟩] csc pos) csc X.env ppos (newList []) false (eval iter X.env) use) QQ X.xe s:=by
 subst hsc hXN
 have cellsOk:∀p∈csc.names,p.2=.free->∃c,X.env.cells.lookup p.1=some c:=λp hp e=>I.ok.has p.1 (.inl (ck.free p hp e))
 refine wpAny_comprehension_free (use:=use) rfl hs (lD cellsOk) ck.kind ck.loc (cU (hi pins s Z H _ I h) λv s1 h1=>cU h1 λitv s2 h2=>?_)
 obtain⟨it,fp,tn,J,H2,e,I2,T,st2,f2,W,⟨m0,w0⟩,turn⟩:=h2
 subst e
 refine wpAny_newObj_type (wpAny_newFunctionEnv ck.cell (by intro y hy;simp at hy) (λh4 hns4 hsb4=>?_) ck.kind)
 dsimp only at hns4 hsb4 ⊢
 generalize hD:s2.heap.objs.size=D at hns4 hsb4 ⊢
 generalize hH2:s2.heap.push { cls:=.type "list",dict:=none,data:=.seq ([]:List Value).toArray }=G at hns4 hsb4 ⊢
 have hGs:G.objs.size=D+1:=by rw[← hH2,Heap.size_push,hD]
 rw[hGs] at hns4 hsb4 ⊢
 have lt2:∀b o,s2.heap.get? b=some o->b<D:=λb o e=>hD ▸ Heap.lt_size e
 have old:∀b o,s2.heap.get? b=some o->b≠D+1/\b≠D:=λb o e=>⟨IB (lt2 b o e),JH (lt2 b o e)⟩
 have leD:s2.heap.objs.size<=D:=Nat.le_of_eq hD
 have leD1:s2.heap.objs.size<=D+1:=Nat.le_succ_of_le leD
 have keep4:∀b o,s2.heap.get? b=some o->h4.get? b=some o:=λb o e=>hsb4.extBut b o (old b o e).1 (Heap.get?_push_of_some _ (hH2 ▸ Heap.get?_push_of_some _ e))
 have hDo:h4.get? D=some { cls:=.type "list",data:=.seq ([]:List Value).toArray 0 }:=by
  refine hsb4.extBut D _ GL (Heap.get?_push_of_some _ ?_)
  rw[← hH2,← hD]
  exact Heap.get?_push_size _ rfl
 have fps:∀b∈fp,b<s2.heap.objs.size:=λb hb=>by
  obtain⟨o,e,_⟩:=T.obj _ _ st2 b hb
  exact Heap.lt_size e
 have I4:∀t4,Inv (dW X (caps.map (·.1)++[x]) csc (D+1) s2 H2 fp) [] (lq caps Z++[none]) H2 { s2 with heap:=h4,toks:=t4 }:=λt4=>rm (m0:=λx=>[].reverse.lookup x) I2 ck f2 fps leD1 keep4 hns4
 have cellsLt:∀y c,(fK X.env csc.names []).lookup y=some c->c<D:=λy c e=>by
  obtain⟨v,o,ho,_⟩:=I2.cell y c (iJ _ _ cellsOk (λy c h=>by simp at h) y c e)
  exact lt2 c o ho
 have fsLt:∀b∈frs X.stack,b<D:=λb hb=>by
  obtain⟨_,o,ho,_⟩:=I2.stack.mem hb
  exact lt2 b o ho
 have fpC:∀{pl:List (Addr×Obj)} {H':Hp},(∀p∈pl,p.1=D)->(∀b∈fp,H' b=none)->∀b∈fp,rN (dW X (caps.map (·.1)++[x]) csc (D+1) s2 H2 fp) pl H' b:=λ{pl H'} hpl hn b hb=>by
  have hb':b<D:=hD ▸ fps b hb
  refine⟨hn b hb,IB hb',?_,.inl hb,λy c e=>?_,λp hp=>?_⟩
  ·intro z
   rcases List.mem_cons.mp (I2.pO b z) with e|e
   ·exact(f2 b hb).2.1 e
   ·exact(f2 b hb).2.2.1 e
  ·exact(f2 b hb).2.2.2.2.1 y c (iJ _ _ cellsOk (λy c h=>by simp at h) y c e)
  ·have:p.1=D:=hpl p (by simpa using hp)
   rw[this];exact λz=>JH hb' z.symm
 have loop:∀t4,codeAny (model X.prog X.w) X.A (.compLoop (.ListComp elt [⟨.Name x px,iter,[],0⟩] csc pos) 0 (.ref it) (.ref D) (compEnvC csc (fK X.env csc.names []) (D+1) X.env))
   (compPost (model X.prog X.w) X.A X.xe use QQ (.ref D) (D+1)) { s2 with heap:=h4,toks:=t4 }:=by
  intro t4
  refine oq (λn s'=>∃(i:Nat) (ys:List V) (its:List Value) (k:Nat) (Z':St) (H':Hp),Inv (dW X (caps.map (·.1)++[x]) csc (D+1) s2 H2 fp) [(D,{ cls:=.type "list",data:=.seq its.toArray k })] Z' H' s'/\tn i s'.heap/\(∀b∈fp,H' b=none)/\Vals ys its/\ys.length<=sizeLine/\W i n ys H'/\(∃z,Z'=lq caps Z++[z])) ?_ m0 ?_
  ·rintro n s3 ⟨i,ys,its,k,Z3,H3,I3,st3,fr3,hv,hz,w3,z3,rfl⟩
   have pl1:∀p∈[((D,{ cls:=.type "list",data:=.seq its.toArray k }):Addr×Obj)],p.1=D:=λp hp=>by rw[List.mem_singleton.mp hp]
   rcases turn i n ys H3 w3 with ⟨stop,qn⟩|⟨go,hlt,step⟩
   ·refine wpAny_mono (T.done (dW X (caps.map (·.1)++[x]) csc (D+1) s2 H2 fp) rfl rfl rfl hc i _ s3 _ H3 (λ_ _=>False) I3 (fpC pl1 fr3) st3 stop) (λr s4 hY=>?_) λ_ _ f=>f.elim
    obtain⟨hr,I4'⟩:=hY
    subst hr
    obtain⟨m,hn,_⟩:=id I4'.loc
    have pD:=I4'.pin (D,{ cls:=.type "list",data:=.seq its.toArray k }) (by simp)
    exact fin s2 H2 D (D+1) ys H3 s4 m I2 leD1 leD GL hn (λh' hs'=>sW I2 I4' f2 leD1 leD GL hs' hv hz pD.1 pD.2.1) I4'.free (qn D pD.2.1)
   ·refine wpAny_mono (T.item (dW X (caps.map (·.1)++[x]) csc (D+1) s2 H2 fp) rfl rfl rfl hc i _ s3 _ H3 (λ_ _=>False) I3 (fpC pl1 fr3) st3 go) (λr s4 hY=>?_) λ_ _ f=>f.elim
    obtain⟨u,hr,h4'⟩:=hY
    subst hr
    refine wpAny_mono h4' (λ_ s4 hY=>?_) λ_ _ f=>f.elim
    obtain⟨xv,H5,I5,r5,y5,st5,fr5⟩:=hY
    have I5':=I5.pinned (fpC pl1 fr5) (T.obj _ _ st5)
    have hiN:(caps.map (·.1)++[x])[caps.length]?=some x:=by rw[List.getElem?_append_right (by simp)];simp
    refine wpAny_mono (oY (X:=dW X (caps.map (·.1)++[x]) csc (D+1) s2 H2 fp) (i:=caps.length) ck.nd hiN (.inl (lookup_relabel_local ck.tg)) (.inr (lookup_relabel_local ck.tg)) _ s4 _ H5 xv u _ I5' r5 (show oz caps.length xv _ H5 (λZ6 H6=>Z6=lq caps Z++[some xv]/\H6=H5) from ⟨?_,rfl⟩)) (λ_ s6 ⟨Z6,H6,I6,hZ,hH⟩=>?_) λ_ _ f=>f.elim
    ·rw[List.set_append_right _ _ (by rw[ir];exact Nat.le_refl _),ir,Nat.sub_self];rfl
    subst hZ hH
    refine wpAny_mono (he (D+1) s2 H2 fp _ s6 _ H6 _ I6 (step xv H6 y5)) (λw7 s7 hY=>?_) λ_ _ f=>f.elim
    obtain⟨y,H7,I7,r7,m',hm,w8⟩:=hY
    have pD:=I7.pin (D,{ cls:=.type "list",data:=.seq its.toArray k }) (by simp)
    have hll:=hv.length
    refine call_meets F.slot_list_append ⟨_,pD.1,rfl⟩ F.entry_list_append (F.args_list_append_2 _ _) (PySem.list_append D its.toArray k w7 (by rw[List.size_toArray];lia)) ⟨pD.1,?_⟩
    have q:=PySem.IsL.update pD.1 (·.push w7)
    have hpush:its.toArray.push w7=(its++[w7]).toArray:=by simp
    rw[hpush] at q
    obtain⟨k',q⟩:∃k',(s7.heap.update D (Obj.mapSeq (·.push w7))).get? D=some { cls:=.type "list",data:=.seq (its++[w7]).toArray k' }:=⟨_,q⟩
    have I7u:Inv (dW X (caps.map (·.1)++[x]) csc (D+1) s2 H2 fp) (kJ fp s4.heap) _ H7 s7:=I7.gR λp hp=>I7.pin p (List.mem_append_right _ (List.mem_append_right _ hp))
    have pfp:∀p∈kJ fp s4.heap,p.1<D:=λp hp=>hD ▸ fps p.1 (nU hp).1
    have I8:=I7u.turned (h':=s7.heap.update D (Obj.mapSeq (·.push w7))) (t':=s7.toks) (it:=D) (λb o hb e=>(Heap.get?_update_other s7.heap _ (Ne.symm hb)).trans e) pD.2.1 GL (.inr leD) (λy c e=>JH (cellsLt y c e)) (λp hp=>JH (pfp p (by simpa using hp)))
    refine⟨m',hm,i+1,ys++[y],its++[w7],k',_,H7,I8.gR λp hp=>?_,T.keep _ _ _ st5 λb hb o e=>(I8.pin (b,o) (List.mem_append_right _ (gK hb e))).1,λb hb=>?_,hv.append (.cons r7 .nil),?_,w8,_,rfl⟩
    ·rw[List.mem_singleton.mp hp]
     exact⟨q,pD.2.1,pD.2.2.1,pD.2.2.2.1,λv=>by simp⟩
    ·obtain⟨o,e,d⟩:=T.obj _ _ st5 b hb
     exact(I8.pin (b,o) (List.mem_append_right _ (gK hb e))).2.1
    ·rw[List.length_append,List.length_singleton];lia
  ·refine⟨0,[],[],0,_,H2,(I4 t4).gR λp hp=>?_,T.keep _ _ _ st2 λb hb o e=>keep4 b o e,λb hb=>(f2 b hb).1,.nil,Nat.zero_le _,w0,_,rfl⟩
   rw[List.mem_singleton.mp hp]
   refine⟨hDo,I2.hok.fresh leD,GL,λz=>absurd (fsLt D z) (Nat.lt_irrefl _),λv=>by simp⟩
 exact codeAny_compStart_list (loop _) (T.self _ 0 _ _ _ (T.keep _ _ _ st2 λb hb o e=>keep4 b o e) (loop _))
theorem ue{i:Nat}{y:Str}{sc csc:Scope}{N:List Str}{elt iter:Expr}{x:Str}{px pos pos' spos:Pos}{caps:List (Str×Nat)}{wi:TI}{te:TE}(hN:X.N.Nodup)(hiy:X.N[i]?=some y)(hy:Loc X.env.scope y)(ck:uh sc csc N x caps)(hi:PI X (.Name x px) iter wi)
  (he:∀C s2 H2 fp,PE (dW X (caps.map (·.1)++[x]) csc C s2 H2 fp) elt te) (hc:autoParam (X.calm=true) L2.Y3._auto_1) (hsc:autoParam (X.env.scope=sc) L2.Y3._auto_1) (hXN:autoParam (X.N=N) L2.Y3._auto_1) (hs:autoParam (∀x,foldedSetIterable iter X.env x=pure x) L2.Y2._auto_1)
  (hsw:autoParam (swapsWith (.ListComp elt [⟨.Name x px,iter,[],0⟩] csc pos) (some (.Name y pos')) spos.line X.env=pure true) L2.Y3._auto_1) (hf:autoParam (X.fn y=true∨X.env.scope.names.lookup y=some .local) L2.Y0._auto_1) :
  PS X (.Assign [.Name y pos'] (.ListComp elt [⟨.Name x px,iter,[],0⟩] csc pos) spos) (Gj (Bh caps wi te) (oz i)):=by
 intro pins s Z H D I h
 rw[exec_Assign_Name_used _ _ _ _ hsw]
 refine wpAny_bind (wpAny_standAt (wpAny_bind ?_))
 show wpAny _ X.A (do let _ ← comprehension (.ListComp elt [⟨.Name x px,iter,[],0⟩] csc pos) csc X.env _ (newList []) false (eval iter X.env) (some (assign (.Name y pos') X.env))) _ _ s
 refine wpAny_bind (wpAny_mono (CM ck hi he hc hsc hXN hs I h (some (assign (.Name y pos') X.env)) (λ_ s'=>SP X pins D .next s') ?_) (λ_ s' hq=>wpAny_pure (wpAny_pure hq)) λ_ _ e=>e)
 intro s2 H2 Dl C ys H' s4 m I2 leC leD nDC hns hI hfC q
 have I0:Inv X pins Z (upd H' Dl (.lst ys)) s4:=hI s4.heap (Heap.SameBut.refl _ _)
 have hCD:C≠Dl:=Ne.symm nDC
 have hHC:upd H' Dl (.lst ys) C=none:=by rw[ak hCD];exact hfC
 have hCL:C≠X.env.locals:=λz=>by have:=I2.lt;rw[← z] at this;exact absurd this (Nat.not_lt.mpr leC)
 have hCfs:C∉X.fs:=I2.QS leC
 have pinlt:∀p∈X.pn++pins,p.1≠C:=λp hp z=>by
  have:=(I2.pin p hp).1
  have:=Heap.lt_size this
  rw[z] at this
  exact absurd this (Nat.not_lt.mpr leC)
 have celllt:∀z c,X.env.cells.lookup z=some c->c≠C:=λz c e w=>by
  obtain⟨v,o,ho,_⟩:=I2.cell z c e
  have:=Heap.lt_size ho
  rw[w] at this
  exact absurd this (Nat.not_lt.mpr leC)
 obtain⟨oC,es,ep,eC,dC,rC⟩:=id hns
 have I1:Inv X (pins++[(C,oC)]) Z (upd H' Dl (.lst ys)) s4:=I0.gR λp hp=>by
  rcases List.mem_append.mp hp with hp|hp
  ·exact I0.pin p (List.mem_append_right _ hp)
  ·rw[List.mem_singleton.mp hp]
   exact⟨eC,hHC,hCL,hCfs,λv z=>by rw[dC] at z;cases z⟩
 refine cU (oY (i:=i) (pos:=pos') hN hiy hy hf (pins++[(C,oC)]) s4 Z _ (.ref Dl) (.ref Dl) D.nx I1 rfl q) λ_ s5  hZ=>?_
 obtain⟨Z5,H5,I5,q5⟩:=hZ
 have pC:=I5.pin (C,oC) (by simp)
 refine⟨m,⟨oC,es,ep,pC.1,dC,rC⟩,λh' hs'=>?_⟩
 have I6:Inv X pins Z5 H5 s5:=I5.gR λp hp=>I5.pin p (List.mem_append_right _ (List.mem_append_left _ hp))
 exact⟨Z5,H5,I6.turned (h':=h') (t':=s5.toks) (it:=C) (λb o hb e=>(hs'.2 b hb).trans e) pC.2.1 hCL (.inr (Nat.le_trans I2.sz leC)) celllt pinlt,q5⟩
theorem jE{K:PySem.W.Frag}{e:Expr}{ta:TE}{f:Str}{pos:Pos}(he:PE X e ta)(hb:attributeBase e f X.env (eval e X.env)=eval e X.env)(hK:autoParam (X.K=K) L2.Y3._auto_1):PE X (.Attribute e f pos) (Qf K ta f):=by
 subst hK;exact aK he hb
theorem wK{K:PySem.W.Frag}(hK:X.K=K):Rm X (Hy K):=by subst hK;exact aL
end
section
variable {X:Cx}
def strsOf:List Expr->Option (List Str)
 | []=>some []
 |e::r=>match e with
  |.Constant (.str x) _ _=>(strsOf r).map (x :: ·)
  |_=>none
theorem ug:∀{es:List Expr} {xs:List Str},strsOf es=some xs->PA X es (λ_ H Q=>Q (xs.map V.str) H)
 | [],xs,h=>by
  have e:xs=[]:=(Option.some.inj h).symm
  subst e
  exact ai
 |e::r,xs,h=>by
  unfold strsOf at h
  split at h
  ·rename_i x j p
   obtain⟨ys,h1,h2⟩:=Option.map_eq_some_iff.mp h
   subst h2
   exact aa (te:=tC (.str x)) (t:=λ_ H Q=>Q (ys.map V.str) H) az (ug h1) rfl
  ·cases h
end
section
variable {X:Cx}{pins:List (Addr×Obj)}{Z:St}{H:Hp}{s:Shared}
def nX(xs ys:List V):Prop:=∀x∈xs,∀y∈ys,iT x=true/\iT y=true/\Bd x y=decide (x=y)
theorem oF{xs ys:List V}{is js:List Value}{A:Around}(p:nX xs ys)(r1:Vals xs is)(r2:Vals ys js) :
  ∀j (h1:j<is.toArray.size) (h2:j<js.toArray.size),SeqAt.EqAt A s is.toArray[j] js.toArray[j] ((λj=>decide (xs[j]?=ys[j]?)) j):=by
 intro j h1 h2
 have l1:=r1.length
 have l2:=r2.length
 have j1:j<xs.length:=by simpa [l1] using h1
 have j2:j<ys.length:=by simpa [l2] using h2
 have e1:=List.getElem?_eq_getElem j1
 have e2:=List.getElem?_eq_getElem j2
 obtain⟨u1,g1,q1⟩:=r1.get e1
 obtain⟨u2,g2,q2⟩:=r2.get e2
 have g1':is.toArray[j]=u1:=by simpa [List.getElem?_eq_some_iff] using (List.getElem?_eq_some_iff.mp g1).2
 have g2':js.toArray[j]=u2:=by simpa [List.getElem?_eq_some_iff] using (List.getElem?_eq_some_iff.mp g2).2
 rw[g1',g2']
 obtain⟨f1,f2,f3⟩:=p _ (List.getElem_mem j1) _ (List.getElem_mem j2)
 have:=yi (A:=A) (s:=s) q1 q2 f1 f2
 rw[f3] at this
 have e:decide (xs[j]?=ys[j]?)=decide (xs[j]=ys[j]):=by rw[e1,e2];simp
 show SeqAt.EqAt A s u1 u2 (decide (xs[j]?=ys[j]?))
 rw[e]
 exact this
theorem vR{xs ys:List V}(h:xs.length=ys.length):((List.range xs.length).all λj=>decide (xs[j]?=ys[j]?))=decide (xs=ys):=by
 rw[Bool.eq_iff_iff,List.all_eq_true,decide_eq_true_eq]
 constructor
 ·intro z
  refine List.ext_getElem? λj=>?_
  by_cases hj:j<xs.length
  ·simpa using z j (List.mem_range.mpr hj)
  ·rw[List.getElem?_eq_none (by lia),List.getElem?_eq_none (by lia)]
 ·intro z j _
  rw[z];simp
def QH(K:PySem.W.Frag):R2:=λx y H Q=>∃a b xs ys,x=.ref a/\y=.ref b/\bg K H a xs/\bg K H b ys/\nX xs ys/\Q (.bl (decide (xs=ys))) H
def Rv(K:PySem.W.Frag):R2:=λx y H Q=>∃a b xs ys,x=.ref a/\y=.ref b/\bg K H a xs/\bg K H b ys/\nX xs ys/\Q (.bl (!decide (xs=ys))) H
theorem Iv(hu:X.A.units<cLine):lA X (compareOp .Eq) (QH X.K):=by
 intro pins s Z H x y v u Q I rx ry h
 obtain⟨a,b,xs,ys,rfl,rfl,ha,hb,hp,q⟩:=h
 cases rx
 cases ry
 obtain⟨is,r1,p1,_⟩:=I.list ha
 obtain⟨js,r2,p2,_⟩:=I.list hb
 obtain⟨o1,n1,e1,c1,_,d1⟩:=p1
 obtain⟨o2,n2,e2,c2,_,d2⟩:=p2
 have l1:=r1.length
 have l2:=r2.length
 by_cases hl:xs.length=ys.length
 ·refine PySem.SeqAt.eq_listAt (e:=λj=>decide (xs[j]?=ys[j]?)) ⟨o1,e1,c1,n1,d1⟩ ⟨o2,e2,c2,n2,d2⟩ (by simp[← l1,← l2,hl]) hu (oF hp r1 r2) ?_
  have z:is.toArray.size=xs.length:=by simp[← l1]
  rw[z,vR hl]
  exact⟨.bl _,H,I,rfl,q⟩
 ·refine PySem.SeqAt.eq_list_lengthsAt ⟨o1,e1,c1,n1,d1⟩ ⟨o2,e2,c2,n2,d2⟩ (by simpa [← l1,← l2] using hl) hu ?_
  rw[decide_eq_false (λz=>hl (by rw[z]))] at q
  exact⟨.bl false,H,I,rfl,q⟩
theorem t6(hu:X.A.units<cLine):lA X (compareOp .NotEq) (Rv X.K):=by
 intro pins s Z H x y v u Q I rx ry h
 obtain⟨a,b,xs,ys,rfl,rfl,ha,hb,hp,q⟩:=h
 cases rx
 cases ry
 obtain⟨is,r1,p1,_⟩:=I.list ha
 obtain⟨js,r2,p2,_⟩:=I.list hb
 obtain⟨o1,n1,e1,c1,_,d1⟩:=p1
 obtain⟨o2,n2,e2,c2,_,d2⟩:=p2
 have l1:=r1.length
 have l2:=r2.length
 by_cases hl:xs.length=ys.length
 ·refine PySem.SeqAt.RcNeAt.lists (e:=λj=>decide (xs[j]?=ys[j]?)) ⟨o1,e1,c1,n1,d1⟩ ⟨o2,e2,c2,n2,d2⟩ (by simp[← l1,← l2,hl]) hu (oF hp r1 r2) _ _ _ _ ?_
  have z:is.toArray.size=xs.length:=by simp[← l1]
  rw[z,vR hl]
  exact⟨.bl _,H,I,rfl,q⟩
 ·refine PySem.SeqAt.RcNeAt.lists_lengths ⟨o1,e1,c1,n1,d1⟩ ⟨o2,e2,c2,n2,d2⟩ (by simpa [← l1,← l2] using hl) hu _ _ _ _ ?_
  rw[decide_eq_false (λz=>hl (by rw[z]))] at q
  exact⟨.bl true,H,I,rfl,q⟩
theorem xO{α β:Type}(f:α->Int)(g:β->Int)(xs:List α)(ys:List β):nX (xs.map λx=>V.int (f x)) (ys.map λy=>V.int (g y)):=by
 intro x hx y hy
 obtain⟨a,_,rfl⟩:=List.mem_map.mp hx
 obtain⟨b,_,rfl⟩:=List.mem_map.mp hy
 refine⟨rfl,rfl,?_⟩
 show (f a == g b)=_
 rw[Bool.eq_iff_iff]
 simp
theorem lW(xs ys:List Str):nX (xs.map V.str) (ys.map V.str):=by
 intro x hx y hy
 obtain⟨a,_,rfl⟩:=List.mem_map.mp hx
 obtain⟨b,_,rfl⟩:=List.mem_map.mp hy
 refine⟨rfl,rfl,?_⟩
 show (a == b)=_
 rw[Bool.eq_iff_iff]
 simp
end
section
variable {M:Model}{A:Around}{E:Value->Shared->Prop}{s:Shared}{base:Heap}{env:Env}{outer:List Env}{L e:Addr}
end
section
variable {M:Model}{A:Around}{E:Value->Shared->Prop}{s:Shared}{base:Heap}{env:Env}{outer:List Env}{L e C T:Addr}{d:Option Addr}
end
theorem cL.there{P:Program}{w:World}{H:Hp}{h:Heap}{a:Addr}{o:HO}(x:cL P w H h a o):∃ob,h.get? a=some ob:=by
 induction o with
 |lst xs=>obtain⟨_,_,_,_,e⟩:=x;exact⟨_,e⟩
 |tup xs=>obtain⟨_,_,_,p⟩:=x;obtain⟨ob,e,_⟩:=p;exact⟨ob,e⟩
 |dK kvs=>obtain⟨_,_,_,_,o,_,_,e,_⟩:=x;exact⟨o,e⟩
 |dT kvs=>obtain⟨_,_,_,_,o,_,_,e,_⟩:=x;exact⟨o,e⟩
 |set S n=>obtain⟨o,_,_,_,e,_⟩:=x;exact⟨o,e⟩
 |ins C dx fs=>obtain⟨_,_,_,e,_⟩:=x;exact⟨_,e⟩
 |own y=>exact x
 |xd fs=>obtain⟨_,⟨o,_,_,e,_⟩,_⟩:=x;exact⟨o,e⟩
 |met f y=>exact⟨_,x⟩
 |S6 lo hi=>obtain⟨_,_,_,e⟩:=x;exact⟨_,e⟩
 |jy o u _=>exact⟨o,x.1⟩
 |JK ps=>exact⟨_,x⟩
 |ext φ=>exact x.2.1
theorem k6.new{P:Program}{w:World}{H:Hp}{h:Heap}{a:Addr}(k:k6 P w H h)(e:h.get? a=none):H a=none:=by
 cases q:H a with
 |none=>rfl
 |some o=>
  obtain⟨ob,q2⟩:=(k a o q).there
  rw[e] at q2;cases q2
section
variable {P:Program}{w:World}{K:PySem.W.Frag}{mg:Str->Option Value}{base:Heap}{N:List Str}{qual:Str}{scope:Scope}{f:Addr}{cd:Value}{A:Around}{outer:List Env}{s:Shared}{H:Hp}{E:XK}
end
section
variable {X:Cx}{pins:List (Addr×Obj)}{Z:St}{H:Hp}{s:Shared}{h':Heap}
end
section
variable {P:Program}{w:World}{K:PySem.W.Frag}{mg:Str->Option Value}{base:Heap}{N:List Str}{qual:Str}{scope:Scope}{f:Addr}{cd:Value}{A:Around}{outer:List Env}{s:Shared}{H:Hp}{E:XK}
end
section
variable {M:Model}{A:Around}{E:Value->Shared->Prop}
end
section
variable {X:Cx}{pins pins':List (Addr×Obj)}{Z:St}{H:Hp}{s:Shared}
end
section
variable {X:Cx}{pins:List (Addr×Obj)}{Z:St}{H:Hp}{s:Shared}{h2:Heap}{e C T T2:Addr}{d:Option Addr}
end
section
variable {X:Cx}
end
section
variable {X:Cx}{CX:xr}{k:Nat}{f C:Addr}{fd:FuncData}{ps:List Str}{sp:Sp}{dvs:List V}{ds:List Value}{x m:Str}{p pos apos:Pos}{e o:Expr}{es:List Expr}{ta:TE}{t:TA}
end
section
variable {P:Program}{w:World}{K:PySem.W.Frag}{mg:Str->Option Value}{base:Heap}
end
end L2
namespace L2
open PySem PySem.Spec PyProof.Rows PySem.W
section
variable {prog:Program}{w:World}{A:Around}{E:Value->Shared->Prop}{s:Shared}{K:Frag}{x C:Addr}{ox:Obj}{od:Option Obj}{name:Str}
end
section
variable {prog:Program}{w:World}{A:Around}{E:Value->Shared->Prop}{h:Heap}{g:Array GenState}{d:Drawn}{t:Nat}{os:OsState}{K:Frag}{C fI:Addr}{oI:Obj}{bm:List Value}{Nn:Addr}{mN:Str->Option Value}{rest:List Value}
end
section
variable {prog:Program}{w:World}{A:Around}{E:Value->Shared->Prop}{s:Shared}{K:Frag}{e C:Addr}{oe:Obj}{od:Option Obj}{bm:List Value}{Nn:Addr}{mN:Str->Option Value}{name:Str}{v:Value}{vs:Array Value}
end
section
variable {X:Cx}{pins:List (Addr×Obj)}{Z:St}{H:Hp}{s:Shared}{e C dx:Addr}{d:Option Addr}{fs:List (Str×V)}{f:Str}{A:Around}{E:Value->Shared->Prop}
end
section
variable {X:Cx}{o value ex:Expr}{f:Str}{pos pos':Pos}{ta tv:TE}
end
section
variable {P:Program}{w:World}{K:PySem.W.Frag}{mg:Str->Option Value}{base:Heap}{N:List Str}{qual:Str}{scope:Scope}{f:Addr}{cd:Value}{A:Around}{outer:List Env}{s:Shared}{H:Hp}{E:XK}
end
section
variable {P:Program}{w:World}{K:Frag}{mg:Str->Option Value}{base:Heap}{CX:xr}{k:Nat}{f:Addr}{fd:FuncData}{ps:List Str}{sp:Sp}
end
section
variable {X:Cx}{CX:xr}{k:Nat}{f:Addr}{fd:FuncData}{ps:List Str}{sp:Sp}{x:Str}{p pos:Pos}{e:Expr}{es:List Expr}{t:TA}{E:XK}
end
section
variable {X:Cx}{pins:List (Addr×Obj)}{Z:St}{H:Hp}{s:Shared}{e C:Addr}{d:Option Addr}{A:Around}{E:Value->Shared->Prop}
end
section
variable {X:Cx}{T:Str}{tp apos pos:Pos}{e1:Expr}{es:List Expr}{t:TA}{D:Addr}
end
end L2
namespace L2
open PySem PySem.Spec PyProof.Rows
section
variable {X:Cx}{pins:List (Addr×Obj)}{Z:St}{H:Hp}{s:Shared}
end
section
variable {X:Cx}{pins:List (Addr×Obj)}{Z:St}{H:Hp}{s:Shared}
end
def nV(K:PySem.W.Frag)(H:Hp):Nat->V->V->Prop
 |0,x,y=>x=y/\(iT x=true∨∃a,x=.ref a)
 |n+1,x,y=>(x=y/\(iT x=true∨∃a,x=.ref a))∨∃a b xs ys,x=.ref a/\y=.ref b/\((bg K H a xs/\bg K H b ys)∨(dO K H a xs/\dO K H b ys))/\xs.length=ys.length/\∀(j:Nat) (x y:V),xs[j]?=some x->ys[j]?=some y->nV K H n x y
section
variable {X:Cx}{pins:List (Addr×Obj)}{Z:St}{H:Hp}{s:Shared}
theorem m7{n:Nat}{xs ys:List V}{is js:List Value}{A:Around}(ih:∀(x y:V) (u v:Value),RelV x u->RelV y v->nV X.K H n x y->SeqAt.EqAt A s u v true)(r1:Vals xs is)(r2:Vals ys js)(h:∀(j:Nat) (x y:V),xs[j]?=some x->ys[j]?=some y->nV X.K H n x y) :
  ∀j (h1:j<is.toArray.size) (h2:j<js.toArray.size),SeqAt.EqAt A s is.toArray[j] js.toArray[j] ((λ_=>true) j):=by
 intro j h1 h2
 have l1:=r1.length
 have l2:=r2.length
 have j1:j<xs.length:=by simpa [l1] using h1
 have j2:j<ys.length:=by simpa [l2] using h2
 obtain⟨u1,g1,q1⟩:=r1.get (List.getElem?_eq_getElem j1)
 obtain⟨u2,g2,q2⟩:=r2.get (List.getElem?_eq_getElem j2)
 have g1':is.toArray[j]=u1:=by simpa [List.getElem?_eq_some_iff] using (List.getElem?_eq_some_iff.mp g1).2
 have g2':js.toArray[j]=u2:=by simpa [List.getElem?_eq_some_iff] using (List.getElem?_eq_some_iff.mp g2).2
 rw[g1',g2']
 exact ih _ _ _ _ q1 q2 (h j _ _ (List.getElem?_eq_getElem j1) (List.getElem?_eq_getElem j2))
theorem zX{A:Around}{x:V}{u v:Value}(rx:RelV x u)(ry:RelV x v)(h:iT x=true∨∃a,x=.ref a):SeqAt.EqAt A s u v true:=by
 rcases h with f|⟨a,rfl⟩
 ·have:=yi (A:=A) (s:=s) rx ry f f
  rwa [Gq f] at this
 ·cases rx
  cases ry
  exact SeqAt.EqAt.same _
theorem tP(I:Inv X pins Z H s):∀(n:Nat) (A:Around) (x y:V) (u v:Value),A.units+n<cLine->RelV x u->RelV y v->nV X.K H n x y->SeqAt.EqAt A s u v true
 |0,A,x,y,u,v,_,rx,ry,⟨e,f⟩=>by
  subst e
  exact zX rx ry f
 |n+1,A,x,y,u,v,hu,rx,ry,h=>by
  rcases h with ⟨e,f⟩|⟨a,b,xs,ys,rfl,rfl,hs,hl,hj⟩
  ·subst e
   exact zX rx ry f
  ·cases rx
   cases ry
   by_cases ne:a=b
   ·subst ne;exact SeqAt.EqAt.same _
   have ih:=λx y u v=>tP I n A.in1 x y u v (by show A.units+1+n<cLine;lia)
   rcases hs with ⟨h1,h2⟩|⟨h1,h2⟩
   ·obtain⟨is,r1,p1,_⟩:=I.list h1
    obtain⟨js,r2,p2,_⟩:=I.list h2
    obtain⟨o1,n1,e1,c1,_,d1⟩:=p1
    obtain⟨o2,n2,e2,c2,_,d2⟩:=p2
    have sz:is.toArray.size=js.toArray.size:=by simp[← r1.length,← r2.length,hl]
    have:=SeqAt.EqAt.of_refs ne (SeqAt.RcAt.lists ⟨o1,e1,c1,n1,d1⟩ ⟨o2,e2,c2,n2,d2⟩ sz (by lia) (m7 ih r1 r2 hj))
    have z:((List.range is.toArray.size).all λ_=>true)=true:=List.all_eq_true.mpr λ_ _=>rfl
    rwa [z] at this
   ·obtain⟨is,r1,p1,_⟩:=I.tuple h1
    obtain⟨js,r2,p2,_⟩:=I.tuple h2
    obtain⟨o1,e1,c1,n1,d1⟩:=p1
    obtain⟨o2,e2,c2,n2,d2⟩:=p2
    have:=SeqAt.EqAt.of_refs ne (SeqAt.RcAt.tuples ⟨o1,e1,c1,n1,d1⟩ ⟨o2,e2,c2,n2,d2⟩ (by lia) (m7 ih r1 r2 hj))
    have z:(((List.range (min is.toArray.size js.toArray.size)).all λ_=>true) && is.toArray.size == js.toArray.size)=true:=by simp[← r1.length,← r2.length,hl]
    rwa [z] at this
end
end L2
namespace PySem
namespace F
theorem AB:typeLookup (.type "list_reverseiterator") "__len__" = pure none:=by rw[typeLookup_type,builtinLookup_eq_fast];kernel_rfl
theorem Gx:typeLookup (.type "list_reverseiterator") "__length_hint__" = pure (some (.builtin "list_reverseiterator.__length_hint__")):=by rw[typeLookup_type,builtinLookup_eq_fast];kernel_rfl
end F
section
variable {prog:Program}{w:World}{A:Around}{s:Shared}{R:Result->Shared->Prop}
variable {I:Addr}{fp wr:List Addr}{G:Array GenState->Array GenState->Prop}{n:Nat}{P:Nat->Value->Prop}{St:Nat->Shared->Prop}
theorem yg (W:WalksS prog w A.in1 I fp wr G n P St) (hT:∀i s,St i s->s.TypeIs (.ref I) "list_reverseiterator") (S:Addr) (res:Value) (c₀:Nat) (hst:St 0 s) (hSf:S∉fp) (hI:I∈fp)
  (hS:s.heap.get? S=some { cls:=.type "list",data:=.seq #[] c₀ })
  (hR:∀s' acc' c',Moved (S::wr) G s s'->s'.heap.get? S=some { cls:=.type "list",dict:=none,data:=.seq acc' c',slots:=#[] }->ItemsOf P acc' n->R (.ok (.ret res)) s') (hn:n<=sizeLine) :
  wpAny (model prog w) A.in1 (Builtin.List.listExtendWith (.ref S) (.ref I) res)
   (λfin s'=>match fin with | .done f=>R (.ok f) s' | .again c'=>c'.quiet=true/\codeAny (model prog w) A c' R s') (λe s'=>R (.error e) s') s:=by
 have hSI:S≠I:=λe=>hSf (e ▸ hI)
 unfold Builtin.List.listExtendWith
 refine wpAny_bind (wpAny_typeOf (hT 0 _ hst) ?_)
 have h1:Builtin.List.listSameRef (.ref S) (.ref I)=false:=by simp[Builtin.List.listSameRef,hSI]
 rw[if_neg (by rw[h1];decide)]
 refine wpAny_bind (W.self 0 _ _ _ hst ?_)
 refine wpAny_bind (wpAny_holding ?_)
 unfold Builtin.List.listLengthHint
 refine wpAny_bind (wpAny_specialOf (hT 0 _ hst) F.AB ?_)
 show wpAny _ A.in1 (specialOf (Value.ref I) (Str.ofString "__length_hint__") >>= _) _ _ _
 refine wpAny_bind (wpAny_specialOf (hT 0 _ hst) F.Gx ?_)
 (generalize hid:("list_reverseiterator.__length_hint__" : String)=id0;(fail_if_success (clear hid id0));wp_delta;rw[show splitId id0=some ("list_reverseiterator","__length_hint__") from by subst hid;decide +kernel];subst hid)
 refine wpAny_bind (wpAny_isInstance (b:=true) (hT 0 _ hst) (by rw[isSubtype_type];kernel_rfl) ?_)
 refine wpAny_pure ?_
 rw[if_neg (by decide)]
 refine wpAny_pure ⟨plainId_quiet F.plain_extend_loop _,codeAny_extend_loopS W hn _ hSf _ n 0 _ _ _ rfl (Nat.zero_le _) hst hS (ItemsOf.nil P) λs' acc' c' hm hS' hacc=>?_⟩
 exact hR s' acc' c' hm hS' hacc
theorem Em (W:WalksS prog w A.in1 I fp wr G n P St) (hT:∀i s,St i s->s.TypeIs (.ref I) "list_reverseiterator") (S:Addr) (hst:St 0 s) (hSf:S∉fp) (hI:I∈fp)
  (hS:s.heap.get? S=some { cls:=.type "list",data:=.seq #[] })
  (hR:∀s' acc' c',Moved (S::wr) G s s'->s'.heap.get? S=some { cls:=.type "list",dict:=none,data:=.seq acc' c',slots:=#[] }->ItemsOf P acc' n->R (.ok (.ret .none)) s') (hn:n<=sizeLine) :
  wpAny (model prog w) A.in1 (Builtin.«list.__init__» ⟨[.ref S,.ref I],[]⟩)
   (λfin s'=>match fin with | .done f=>R (.ok f) s' | .again c'=>c'.quiet=true/\codeAny (model prog w) A c' R s') (λe s'=>R (.error e) s') s:=by
 show wpAny _ A.in1 (Builtin.List.listItems (.ref S) >>= λold=>Builtin.List.listUpdate (.ref S) (λ_=>#[]) >>= λ_=>letGo old.toList.reverse >>= λ_=>Builtin.List.listExtendWith (.ref S) (.ref I) .none) _ _ s
 refine wpAny_bind ?_
 unfold Builtin.List.listItems
 refine wpAny_bind (wpAny_seqItems hS rfl (wpAny_pure ?_))
 show wpAny _ A.in1 (updateSeq S (λ_=>#[]) >>= λ_=>letGo (#[]:Array Value).toList.reverse >>= λ_=>Builtin.List.listExtendWith (.ref S) (.ref I) .none) _ _ s
 refine wpAny_bind (wpAny_updateSeq hS rfl ?_)
 have hS₂:=Heap.get?_update_self (Obj.mapSeq (λ_=>(#[]:Array Value))) hS rfl
 have oth:∀b o,b≠S->s.heap.get? b=some o->(s.heap.update S (Obj.mapSeq (λ_=>(#[]:Array Value)))).get? b=some o :=
  λb o hb e=>(Heap.get?_update_other _ _ (Ne.symm hb)).trans e
 refine wpAny_bind (wpAny_letGo ?_)
 refine yg (hn:=hn) W hT S .none _ (W.frame 0 s _ s.toks hst (Nat.le_refl _) λb hb o e=>oth b o (λh=>hSf (h ▸ hb)) e) hSf hI hS₂ λs' acc' c' hm hS' hacc=>?_
 exact hR s' acc' c' (Moved.trans W.gtrans ((Moved.refl W.grefl).then_heap (Nat.le_refl _) λb o hb e=>oth b o (λh=>hb (h ▸ List.mem_cons_self)) e) hm) hS' hacc
end
section
variable {prog:Program}{w:World}{A:Around}{E:Value->Shared->Prop}{s:Shared}
theorem rW{I l:Addr}{items:Array Value}{Q:Value->Shared->Prop}(hh:A.handled=none)(hne:l≠I)(hi:s.heap.IsRevIter I l ((items.size:Int)-1))(hl:s.heap.IsList l items)(hn:items.size<=sizeLine)
  (hQ:∀h' tk acc' c',(∀b o,b≠I->s.heap.get? b=some o->h'.get? b=some o)->h'.get? s.heap.objs.size=some { cls:=.type "list",dict:=none,data:=.seq acc' c',slots:=#[] }->
   ItemsOf (λi v=>items[items.size-1-i]?=some v) acc' items.size->Q (.ref s.heap.objs.size) { s with heap:=h',toks:=tk }) :
  wpAny (model prog w) A (call (.type "list") [.ref I]) Q E s:=by
 have W:=(Walks.listRev (prog:=prog) (w:=w) (A:=A.in1.in1) hh I l hne items).toS
 have lI:I<s.heap.objs.size:=by obtain⟨_,e,_⟩:=hi;exact Heap.lt_size e
 have ll:l<s.heap.objs.size:=by obtain⟨_,e,_⟩:=hl;exact Heap.lt_size e
 have hSf:s.heap.objs.size∉[I,l]:=λz=>by
  rcases List.mem_cons.mp z with e|e
  ·exact Nat.ne_of_gt lI e
  ·exact Nat.ne_of_gt ll (List.mem_singleton.mp e)
 have hst:(0:Nat)<=items.size/\s.heap.IsRevIter I l ((items.size:Int)-1-((0:Nat):Int))/\s.heap.IsList l items:=⟨Nat.zero_le _,by simpa using hi,hl⟩
 refine callType_codes (Q₁:=λobj s₁=>obj=.ref s.heap.objs.size/\s₁ = { s with heap:=s.heap.push { cls:=.type "list",data:=.seq #[] } }) F.called_list (F.typeCall_list_1 _) F.entry_list_init
  (code_list_new _ ⟨rfl,rfl⟩) λobj s₁ h₁=>?_
 obtain⟨rfl,rfl⟩:=h₁
 have hS:(s.heap.push { cls:=.type "list",data:=.seq #[] }).get? s.heap.objs.size=some { cls:=.type "list",data:=.seq #[] }:=Heap.get?_push_size _ rfl
 refine⟨⟨_,hS,rfl⟩,F.args_list_init_2 _ _,Em (A:=A.in1) (hn:=hn) W (λi s st=>st.2.1.typeIs) _ (W.frame 0 s _ s.toks hst (Nat.le_refl _) λb _ o e=>Heap.get?_push_of_some _ e) hSf (by simp) hS λs' acc' c' hm hS' hacc=>?_⟩
 rw[Moved.eq_with hm]
 refine⟨rfl,hQ s'.heap s'.toks acc' c' (λb o hb e=>?_) hS' hacc⟩
 refine hm.heap b o (λhmem=>?_) (Heap.get?_push_of_some _ e)
 rcases List.mem_cons.mp hmem with z|z
 ·exact absurd (Heap.lt_size e) (by rw[z];exact Nat.lt_irrefl _)
 ·exact hb (List.mem_singleton.mp z)
end
end PySem
namespace L2
open PySem PySem.Spec PyProof.Rows
theorem Inv.GP{X:Cx}{pins:List (Addr×Obj)}{Z:St}{H:Hp}{s:Shared}{h':Heap}{t':Nat}{ch:List Addr}(I:Inv X pins Z H s)(k:∀b o,b∉ch->s.heap.get? b=some o->h'.get? b=some o)(hn:∀b∈ch,H b=none)
  (hL:∀b∈ch,b≠X.env.locals) (h1:∀b∈ch,b∈X.ex∨X.s₀.heap.objs.size<=b) (h2:∀b∈ch,∀x c,X.env.cells.lookup x=some c->c≠b) (h3:∀b∈ch,∀p∈X.pn++pins,p.1≠b) :
  Inv X pins Z H { s with heap:=h',toks:=t' }:=by
 have nit:∀b u,H b=some u->b∉ch:=λb u e z=>by rw[hn b z] at e;cases e
 refine I.step (g':=s.gens) (d':=s.drawn) (ch:=ch) (λb hb=>⟨h1 b hb,hL b hb,h2 b hb,h3 b hb⟩) (λb o _ _ hc e _=>k b o hc e) (λb o _ _ hc e _=>⟨o.slots,k b o hc e⟩) (λ_ _ _ _ n=>n)
  (λb o hc e=>⟨o,k b o hc e⟩) (λ_ _ e=>e) (λ_ _ _ e=>e) (λb ps e=>⟨#[],by rw[e];simp⟩) (λm hm=>?_) (λb u e=>?_) I.bare
 ·obtain⟨o,es,ep,ho,r⟩:=hm
  exact⟨o,es,ep,k _ o (λz=>hL _ z rfl) ho,r⟩
 ·refine(I.hok b u e).stay (λc v hc q=>k c v ?_ q) (λ_ q=>q) λ_ _ q=>q
  rcases hc with z|z
  ·rw[z];exact nit b u e
  ·exact nit c _ z
def TX(K:PySem.W.Frag)(a b:Addr):It :=
 ⟨λi H=>∃xs ys x y,bg K H a xs/\bg K H b ys/\xs[i]?=some x/\ys[i]?=some y,
  λi H x H'=>∃p v u,H p=none/\x=.ref p/\H'=upd H p (.tup [v,u])/\(∀xs,bg K H a xs->xs[i]?=some v)/\∀ys,bg K H b ys->ys[i]?=some u,
  λi H=>∃xs ys,bg K H a xs/\bg K H b ys/\(xs.length<=i∨ys.length<=i)⟩
theorem ET{P:Program}{w:World}{K:PySem.W.Frag}{elts:List Expr}{x1}{pos:Pos}(a b z TI TO i1 i2:Addr)(D:ZipApart z TI TO i1 i2 a b) :
  Turn P w K (.Tuple elts x1 pos) (TX K a b) [z,TI,TO,i1,i2] z (λi h=>∃v u,IsZip h z TI TO .none/\IsPair h TI (.ref i1) (.ref i2)/\IsPair h TO v u/\h.IsListIter i1 a i/\h.IsListIter i2 b i) where
 mem:=by simp
 obj:=λi h st c hc=>by
  obtain⟨v,u,hz,hI,hO,h1,h2⟩:=st
  simp only[List.mem_cons,List.not_mem_nil,or_false] at hc
  rcases hc with e|e|e|e|e
  ·subst e;exact⟨_,hz,λv q=>by cases q⟩
  ·subst e;exact⟨_,hI,λv q=>by cases q⟩
  ·subst e;exact⟨_,hO,λv q=>by cases q⟩
  ·subst e;obtain⟨o,e,c,d⟩:=h1;exact⟨o,e,λv q=>by rw[d] at q;cases q⟩
  ·subst e;obtain⟨o,e,c,d⟩:=h2;exact⟨o,e,λv q=>by rw[d] at q;cases q⟩
 keep:=λi h h' st k=>by
  obtain⟨v,u,hz,hI,hO,h1,h2⟩:=st
  exact⟨v,u,k z (by simp) _ hz,k TI (by simp) _ hI,k TO (by simp) _ hO,h1.at λo q=>k i1 (by simp) o q,h2.at λo q=>k i2 (by simp) o q⟩
 item:=by
  intro X hP hw hK hc i pins s Z H E I hf st hg
  subst hP hw hK
  obtain⟨v0,u0,hz,hI,hO,h1,h2⟩:=st
  obtain⟨xs,ys,x,y,hq1,hq2,hx,hy⟩:=hg
  obtain⟨is,r1,p1,z1⟩:=I.list hq1
  obtain⟨js,r2,p2,z2⟩:=I.list hq2
  obtain⟨u,hu,ru⟩:=r1.get hx
  obtain⟨v,hv,rv⟩:=r2.get hy
  have fz:=hf z (by simp)
  have fI:=hf TI (by simp)
  have fO:=hf TO (by simp)
  have f1:=hf i1 (by simp)
  have f2:=hf i2 (by simp)
  refine wpAny_pyNext_zip_item D hz hI hO h1 h2 p1.isList p2.isList (x:=u) (y:=v) (by simpa using hu) (by simpa using hv) λg1 gz gO ga gb gT hsz hk=>?_
  refine⟨_,rfl,wpAny_letOwnedTupleGo_zip (s:={ s with heap:=g1 }) gz λg2 en sb=>?_⟩
  have lz:z≠s.heap.objs.size:=Nat.ne_of_lt (Heap.lt_size hz)
  have lI:TI≠s.heap.objs.size:=Nat.ne_of_lt (Heap.lt_size hI)
  have lO:TO≠s.heap.objs.size:=Nat.ne_of_lt (Heap.lt_size hO)
  have l1:i1≠s.heap.objs.size:=by obtain⟨o,q,_⟩:=h1;exact Nat.ne_of_lt (Heap.lt_size q)
  have l2:i2≠s.heap.objs.size:=by obtain⟨o,q,_⟩:=h2;exact Nat.ne_of_lt (Heap.lt_size q)
  have k2:∀c o,c∉[z,TI,TO,i1,i2]->s.heap.get? c=some o->g2.get? c=some o:=λc o n q=>by
   simp only[List.mem_cons,List.not_mem_nil,or_false,not_or] at n
   exact(sb.2 c n.1).trans (hk c o n.1 n.2.2.1 n.2.2.2.1 n.2.2.2.2 q)
  have fresh:=I.hok.fresh (Nat.le_refl s.heap.objs.size)
  have I1:Inv X pins Z (upd H s.heap.objs.size (.tup [x,y])) { s with heap:=g2 }:=by
   refine I.step (g':=s.gens) (d':=s.drawn) (t':=s.toks) (ch:=[z,TI,TO,i1,i2]) (λb hb=>?_) (λb o _ _ hc q _=>?_) (λb o _ _ hc q _=>?_) (λb o hc q n=>?_) (λb o hc q=>?_) (λb ys q=>?_) (λb o ys q=>?_) (λb ps q=>?_) (λm hm=>?_) (λb u' q=>?_) I.bare
   ·have f:=hf b hb
    exact⟨f.2.2.2.1,f.2.1,f.2.2.2.2.1,f.2.2.2.2.2⟩
   ·exact k2 b o hc q
   ·exact⟨o.slots,k2 b o hc q⟩
   ·rw[ak (Nat.ne_of_lt (Heap.lt_size q))];exact n
   ·exact⟨o,k2 b o hc q⟩
   ·rw[ak (au q fresh)];exact q
   ·rw[ak (au q fresh)];exact q
   ·exact⟨#[],by rw[ak (au q fresh),q];simp⟩
   ·obtain⟨o,es,ep,ho,r⟩:=hm
    refine⟨o,es,ep,k2 _ o (λn=>?_) ho,r⟩
    exact(hf _ n).2.1 rfl
   ·by_cases hb:b=s.heap.objs.size
    ·subst hb
     rw[af] at q;cases q
     refine⟨by show 2<=sizeLine;decide,[u,v],.cons ru (.cons rv .nil),⟨_,(sb.2 _ (Ne.symm lz)).trans gT,rfl,_,rfl⟩⟩
    ·rw[ak hb] at q
     refine(I.hok b u' q).stay (λc v hc' r=>k2 c v (λn=>?_) r) (λc r=>by rw[ak (au r fresh)];exact r) λc ys r=>by rw[ak (au r fresh)];exact r
     have n0:=(hf c n).1
     rcases hc' with e|e
     ·rw[e] at n0;rw[n0] at q;cases q
     ·rw[n0] at e;cases e
  refine⟨.ref s.heap.objs.size,_,I1,rfl,⟨_,x,y,fresh,rfl,rfl,λzs hs=>by rw[I.mY hs hq1];exact hx,λzs hs=>by rw[I.mY hs hq2];exact hy⟩,⟨u,v,en,?_,?_,?_,?_⟩,λc hc=>?_⟩
  ·exact(sb.2 TI D.TIz).trans (hk _ _ D.TIz D.TITO D.TIi1 D.TIi2 hI)
  ·exact(sb.2 TO D.TOz).trans gO
  ·obtain⟨o,q,r⟩:=ga
   exact⟨o,(sb.2 i1 D.i1z).trans q,r⟩
  ·obtain⟨o,q,r⟩:=gb
   exact⟨o,(sb.2 i2 D.i2z).trans q,r⟩
  ·have hb':=(hf c hc).1
   simp only[List.mem_cons,List.not_mem_nil,or_false] at hc
   rw[ak]
   ·exact hb'
   ·rcases hc with e|e|e|e|e <;> rw[e] <;> assumption
 done:=by
  intro X hP hw hK hc i pins s Z H E I hf st hg
  subst hP hw hK
  obtain⟨v0,u0,hz,hI,hO,h1,h2⟩:=st
  obtain⟨xs,ys,hq1,hq2,hx⟩:=hg
  obtain⟨is,r1,p1,z1⟩:=I.list hq1
  obtain⟨js,r2,p2,z2⟩:=I.list hq2
  have e1:=r1.length
  have e2:=r2.length
  refine wpAny_pyNext_zip_end (I.ok.hd hc) D hz hI hO h1 h2 p1.isList p2.isList (by rcases hx with h|h;· left;simp;lia
                                                                                    ·right;simp;lia) λh' eb=>⟨rfl,?_⟩
  refine I.GP (t':=s.toks) (ch:=[z,TI,TO,i1,i2]) (λb o hb e=>?_) (λb hb=>(hf b hb).1) (λb hb=>(hf b hb).2.1) (λb hb=>(hf b hb).2.2.2.1) (λb hb=>(hf b hb).2.2.2.2.1) λb hb=>(hf b hb).2.2.2.2.2
  simp only[List.mem_cons,List.not_mem_nil,or_false,not_or] at hb
  exact eb b o hb.1 hb.2.2.1 hb.2.2.2.1 hb.2.2.2.2 e
 self:=λ_ _ _ _ _ st h=>by
  obtain⟨v,u,hz,hI,hO,h1,h2⟩:=st
  exact wpAny_pyIter_zip hz h
theorem Av{n l m:Nat}(h:l<n)(h':m<n):ZipApart (n+4) (n+2) (n+3) n (n+1) l m:=by
 constructor <;> (intro e;have e:(_:Nat)=_:=e;lia)
section
variable {X:Cx}
def Uh(K:PySem.W.Frag)(ta:TA):TI:=λZ H R=>ta Z H λvs H1=>∃a b xs ys,vs=[.ref a,.ref b]/\bg K H1 a xs/\bg K H1 b ys/\R (TX K a b) H1
theorem Oa {a b:Expr} {ta:TA} {p pos tp:Pos} {elts:List Expr} {x1} (hg:Gl X "zip") (hm:X.mg "zip" = none) (ha:PA X [a,b] ta) (hs:autoParam (starEach [a,b] X.env=(false,eval a X.env)::starEach [b] X.env) L2.Y3._auto_1) (hs2:autoParam ((backTo pos (starEach [b] X.env)).any (·.1)=false) L2.Y3._auto_1) :
  PI X (.Tuple elts x1 tp) (.Call (.Name "zip" p) [a,b] [] pos) (Uh X.K ta):=by
 intro pins s Z H R I h
 refine Call_ (kh I hg hm (show bootBuiltins "zip" = some (.type "zip") by decide +kernel) (PyProof.Rows.callWith_type1 (cU (ha pos pins s Z H _ I h) λus s1 hY=>?_) hs hs2))
 obtain⟨vs,H1,I1,r1,q1⟩:=hY
 obtain⟨l,m,xs,ys,rfl,hq1,hq2,q⟩:=q1
 obtain⟨u,v,rfl,ru,rv⟩:=r1.two
 cases ru
 cases rv
 obtain⟨is,_,p1,_⟩:=I1.list hq1
 obtain⟨js,_,p2,_⟩:=I1.list hq2
 refine call_zip_2 p1.isList p2.isList λh' hz hI hO h1 h2 hsz hk=>?_
 refine wpAny_pyIter_zip (s:={ s1 with heap:=h' }) hz ?_
 have ll:l<s1.heap.objs.size:=by obtain⟨_,e,_⟩:=p1.isList;exact Heap.lt_size e
 have lm:m<s1.heap.objs.size:=by obtain⟨_,e,_⟩:=p2.isList;exact Heap.lt_size e
 refine⟨s1.heap.objs.size+4,[s1.heap.objs.size+4,s1.heap.objs.size+2,s1.heap.objs.size+3,s1.heap.objs.size,s1.heap.objs.size+1],_,_,H1,rfl,I1.kept (t':=s1.toks) hk,ET l m _ _ _ _ _ (Av ll lm),⟨_,_,hz,hI,hO,h1,h2⟩,λb hb=>?_,q⟩
 have hb':s1.heap.objs.size<=b:=by
  simp only[List.mem_cons,List.not_mem_nil,or_false] at hb
  rcases hb with e|e|e|e|e <;> rw[e]
  ·exact Nat.le_add_right _ _
  ·exact Nat.le_add_right _ _
  ·exact Nat.le_add_right _ _
  ·exact Nat.le_refl _
  ·exact Nat.le_add_right _ _
 exact I1.Ae hb' (I1.hok.fresh hb')
theorem Bk{K:PySem.W.Frag}{a b:Addr}{xs ys:List V}{g:TG}{tb:TS}{D:Ends}{Z:St}{H:Hp}(Pv:Nat->St->Hp->Prop)(h0:Pv 0 Z H)(hl:∀i Z H,i<=xs.length->i<=ys.length->Pv i Z H->bg K H a xs/\bg K H b ys)
  (hs:∀i x y p Z H,xs[i]?=some x->ys[i]?=some y->H p=none->Pv i Z H->g (.ref p) Z (upd H p (.tup [x,y])) λZ2 H2=>tb { D with nx:=Pv (i+1),ct:=Pv (i+1),bk:=D.nx } Z2 H2)
  (hd:∀i Z H,(i=xs.length∨i=ys.length)->i<=xs.length->i<=ys.length->Pv i Z H->D.nx Z H):Ai (TX K a b) g tb D Z H:=by
 refine⟨λi m Z H=>m=xs.length-i/\i<=xs.length/\i<=ys.length/\Pv i Z H,⟨xs.length,by simp,Nat.zero_le _,Nat.zero_le _,h0⟩,?_⟩
 rintro i m Z H ⟨rfl,hi,hj,p⟩
 obtain⟨q1,q2⟩:=hl i Z H hi hj p
 by_cases h1:i<xs.length
 ·by_cases h2:i<ys.length
  ·refine .inr ⟨⟨xs,ys,xs[i],ys[i],q1,q2,by simp[h1],by simp[h2]⟩,Pv (i+1),λZ' H' p'=>⟨xs.length-(i+1),by lia,rfl,h1,h2,p'⟩,λx H' y=>?_⟩
   obtain⟨pp,v,u,e1,rfl,rfl,e2,e3⟩:=y
   exact hs i v u pp Z H (e2 xs q1) (e3 ys q2) e1 p
  ·exact .inl ⟨⟨xs,ys,q1,q2,.inr (by lia)⟩,hd i Z H (.inr (by lia)) hi hj p⟩
 ·exact .inl ⟨⟨xs,ys,q1,q2,.inl (by lia)⟩,hd i Z H (.inl (by lia)) hi hj p⟩
theorem BN{xs:List V}{is:List Value}{acc:Array Value}(r:Vals xs is)(hi:ItemsOf (λi v=>is.toArray[is.toArray.size-1-i]?=some v) acc is.toArray.size):Vals xs.reverse acc.toList:=by
 have e:acc.toList=is.reverse:=by
  apply List.ext_getElem?
  intro i
  have hz:acc.size=is.length:=by have:=hi.1;simpa using this
  by_cases hlt:i<is.length
  ·have hi':i<acc.size:=by rw[hz];exact hlt
   have h2:=hi.2 i acc[i] (by simp[hi'])
   rw[List.getElem?_reverse hlt]
   have h2:is[is.length-1-i]?=some acc[i]:=by simpa using h2
   rw[h2]
   simp[hi']
  ·rw[List.getElem?_eq_none (by simp;lia),List.getElem?_eq_none (by simp;lia)]
 rw[e]
 clear e hi
 induction r with
 |nil=>exact .nil
 |cons h t ih=>
  rw[List.reverse_cons,List.reverse_cons]
  exact ih.append (.cons h .nil)
def DI(K:PySem.W.Frag)(ta:TA):TE:=λZ H Q=>ta Z H λvs H1=>∃l xs,vs=[.ref l]/\bg K H1 l xs/\∀r,H1 r=none->Q (.ref r) (upd H1 r (.lst xs.reverse))
theorem pK {a:Expr} {ta:TA} {p pos p2 pos2:Pos} (hc:X.calm=true) (hg:Gl X "list") (hm:X.mg "list" = none) (hg2:Gl X "reversed") (hm2:X.mg "reversed" = none) (ha:PA X [a] ta)
  (hs:autoParam (starEach [.Call (.Name "reversed" p2) [a] [] pos2] X.env=[(false,eval (.Call (.Name "reversed" p2) [a] [] pos2) X.env)]) L2.Y3._auto_1) (hs2:autoParam (starEach [a] X.env=[(false,eval a X.env)]) L2.Y3._auto_1) :
  PE X (.Call (.Name "list" p) [.Call (.Name "reversed" p2) [a] [] pos2] [] pos) (DI X.K ta):=by
 intro pins s Z H Q I h
 refine Call_ (kh I hg hm (show bootBuiltins "list" = some (.type "list") by decide +kernel) (PyProof.Rows.callWith_type1 ?_ hs rfl))
 rw[hs]
 show wpAny _ _ (spliced [(false,eval (.Call (.Name "reversed" p2) [a] [] pos2) X.env)]) _ _ s
 refine Calls.spliced_cons ?_
 refine Call_ (kh I hg2 hm2 (show bootBuiltins "reversed" = some (.type "reversed") by decide +kernel) (PyProof.Rows.callWith_type1 (cU (ha pos2 pins s Z H _ I h) λus s1 hY=>?_) hs2 rfl))
 obtain⟨vs,H1,I1,r1,q1⟩:=hY
 obtain⟨l,xs,rfl,hq,q⟩:=q1
 obtain⟨u,rfl,ru⟩:=r1.one
 cases ru
 obtain⟨is,rv,pl,hz⟩:=I1.list hq
 refine call_reversed_list pl.isList (Calls.spliced_nil ?_)
 have ll:l<s1.heap.objs.size:=by obtain⟨_,e,_⟩:=pl.isList;exact Heap.lt_size e
 refine rW (I.ok.hd hc) (Nat.ne_of_lt ll) ⟨_,Heap.get?_push_size _ rfl,rfl,rfl⟩ (pl.isList.push _) (by have:=rv.length;simp;lia) λh' tk acc c kp e hi=>?_
 have sz:(s1.heap.push (revObj l ((is.toArray.size:Int)-1))).objs.size=s1.heap.objs.size+1:=Heap.size_push ..
 have hlen:xs.length<=sizeLine:=hz
 have k2:∀b u,s1.heap.get? b=some u->h'.get? b=some u:=λb u eb=>kp b u (Nat.ne_of_lt (Heap.lt_size eb)) (Heap.get?_push_of_some _ eb)
 have hp:s1.heap.objs.size<=(s1.heap.push (revObj l ((is.toArray.size:Int)-1))).objs.size:=by rw[sz];exact Nat.le_add_right _ _
 refine⟨.ref _,_,I1.laid (t':=tk) (o:=.lst xs.reverse) k2 hp (show cL X.prog X.w _ h' _ (.lst xs.reverse) from ⟨by rw[List.length_reverse];exact hlen,acc.toList,c,BN rv hi,by simpa using e⟩),rfl,q _ (I1.hok.fresh hp)⟩
end
end L2
namespace L2
open PySem PySem.Spec PyProof.Rows
section
variable {X:Cx}{e v1 v2:Expr}{es:List Expr}{te:TE}{pos:Pos}
variable {t:TF}
end
end L2
namespace L2
open PySem PySem.Spec PyProof.Rows PySem.W
section
variable {X:Cx}
end
end L2
namespace L2
open PySem PySem.Spec PyProof.Rows
section
variable {X:Cx}
end
end L2
namespace L2
open PySem PySem.Spec PyProof.Rows
section
variable {X:Cx}
end
theorem hu4{A:Around}{k:Nat}(hr:fS k A):A.units+4<cLine:=Nat.lt_of_le_of_lt (Nat.add_le_add_left (by decide:4<=64) _) hr.units
end L2
namespace L2
open PySem PySem.Spec PyProof.Rows
section
variable {X:Cx}
end
end L2
namespace L2
open PySem PySem.Spec PyProof.Rows
variable {X:Cx}
end L2
namespace L2
open PySem PySem.Spec PyProof.Rows
section
variable {prog:Program}{w:World}{A:Around}{E:Value->Shared->Prop}{s:Shared}
set_option maxRecDepth 100000 in
end
section
variable {X:Cx}
end
end L2
namespace HT
open PySem PyProof.Rows
def dH:List Int->List Int->Bool
 | [],[]=>false
 | [],_::_=>false
 |_::_,[]=>true
 |x::xs,y::ys=>if x=y then dH xs ys else decide (x>y)
theorem gA(x y:Int)(xs ys:List Int):dH (x::xs) (y::ys)=if x=y then dH xs ys else decide (x>y):=rfl
theorem rK:dH [] []=false:=rfl
theorem pS(y:Int)(ys:List Int):dH [] (y::ys)=false:=rfl
theorem rE(x:Int)(xs:List Int):dH (x::xs) []=true:=rfl
theorem BY(A:Around)(s:Shared)(a:Int)(t:Tok)(c:Int)(u:Tok)(prog:Program)(w:World)(E:Value->Shared->Prop)(Q:Value->Shared->Prop)(h:Q (.bool (decide (a>c))) s) :
  wpAny (model prog w) A (richCompare .Gt (.int a t) (.int c u)) Q E s :=
 (PyProof.Rows.gt_int h:wpAny (model prog w) A (compareOp .Gt (.int a t) (.int c u)) Q E s)
section
open PySem.SeqAt
open PySem.AutoSeq1 (wpAny_loadPart')
open PySem.MeetsSeq PySem.MeetsSeq2 PySem.MeetsSeq3
theorem rQ(l b:Addr)(items items2:Array Value)(n n2:Nat)(dd dd2:Option Addr)(sl sl2:Array (Option Value))(ns ms:List Int)(hi:IntsAre items.toList ns)(hj:IntsAre items2.toList ms) :
  Meets (Builtin.«tuple.__gt__» ⟨[.ref l,.ref b],[]⟩)
   (λ_ R s=>s.heap.get? l=some { cls:=.type "tuple",dict:=dd,data:=.seq items n,slots:=sl }/\s.heap.get? b=some { cls:=.type "tuple",dict:=dd2,data:=.seq items2 n2,slots:=sl2 }/\
    R (.ok (.ret (.bool (dH ns ms)))) s) :=
 .of_wp λprog w A R s h=>by
  obtain⟨hp,g,d,tk,os⟩:=s;obtain⟨hl,hb,h⟩:=h
  have f2:=AutoSeq1.sub_tuple_tuple
  have z1:items.size=ns.length:=by rw[← hi.length];simp
  have z2:items2.size=ms.length:=by rw[← hj.length];simp
  wp_walk using wpAny_loadPart' hl,wpAny_loadPart' hb,wpAny_forIn_list _ (λrest b s'=>b.1=none/\s'=⟨hp,g,d,tk,os⟩/\∃(vs ws:List Value) (ns' ms':List Int),rest=vs.zip ws/\
   IntsAre vs ns'/\IntsAre ws ms'/\ns'.length+items2.size=ms'.length+items.size/\R (.ok (.ret (.bool (dH ns' ms')))) ⟨hp,g,d,tk,os⟩) _
  case turn=>
   rintro⟨y,x⟩ rest b s' ⟨hb',rfl,vs,ws,ns',ms',hz,hvi,hwi,hlen,hR⟩
   cases hvi with
   |nil=>rw[List.zip_nil_left] at hz;cases hz
   |cons a t hvi'=>
    cases hwi with
    |nil=>rw[List.zip_nil_right] at hz;cases hz
    |cons c u hwi'=>
     rw[List.zip_cons_cons] at hz
     injection hz with hyx hrest
     injection hyx with hy hx
     subst hy hx
     rw[gA] at hR
     simp only[List.length_cons] at hlen
     obtain⟨e,he,hiff⟩:=rA A.in1 ⟨hp,g,d,tk,os⟩ a t c u
     refine wpAny_bind (he prog w _ _ ?_)
     cases e with
     |true=>
      rw[if_pos (hiff.mp rfl)] at hR
      wp_walk
      exact⟨rfl,rfl,_,_,_,_,hrest,hvi',hwi',by lia,hR⟩
     |false=>
      rw[if_neg (λq=>absurd (hiff.mpr q) Bool.false_ne_true)] at hR
      have hri:=BY A.in1 ⟨hp,g,d,tk,os⟩ a t c u prog w
      wp_walk using hri
      exact⟨_,rfl,by simpa using hR⟩
  case fin=>
   rintro⟨b1,b2⟩ s' ⟨hb',rfl,vs,ws,ns',ms',hz,hvi,hwi,hlen,hR⟩
   simp only at hb'
   subst hb'
   have hv:dH ns' ms'=decide (items2.size<items.size):=by
    cases hvi with
    |nil=>
     cases hwi with
     |nil=>
      simp only[List.length_nil] at hlen
      rw[rK]
      exact(decide_eq_false (by lia)).symm
     |cons c u hw=>
      simp only[List.length_nil,List.length_cons] at hlen
      rw[pS]
      exact(decide_eq_false (by lia)).symm
    |cons a t hv=>
     cases hwi with
     |nil=>
      simp only[List.length_nil,List.length_cons] at hlen
      rw[rE]
      exact(decide_eq_true (by lia)).symm
     |cons c u hw=>
      rw[List.zip_cons_cons] at hz
      cases hz
   rw[hv] at hR
   wp_walk
   exact⟨_,rfl,by simpa [Builtin.Tuple.tupleCompareSizes] using hR⟩
  case h=>
   exact⟨rfl,rfl,items.toList,items2.toList,ns,ms,rfl,hi,hj,by lia,h⟩
end
section
variable {prog:Program}{w:World}{A:Around}{E:Value->Shared->Prop}{s:Shared}
theorem w5{l b:Addr}{items items2:Array Value}{ns ms:List Int}{Q:Value->Shared->Prop}(hl:IsTup s.heap l items)(hb:IsTup s.heap b items2)(hi:IntsAre items.toList ns)(hj:IntsAre items2.toList ms)
  (hu:A.units<cLine) (h:Q (.bool (dH ns ms)) s):wpAny (model prog w) A (compareOp .Gt (.ref l) (.ref b)) Q E s:=by
 obtain⟨⟨cls,dd,data,sl⟩,ho,hc,n,hd⟩:=id hl
 obtain⟨⟨cls2,dd2,data2,sl2⟩,ho2,hc2,n2,hd2⟩:=id hb
 simp only at hc hd hc2 hd2
 subst hc hd hc2 hd2
 exact richCompare_meets_room (op:=.Gt) ⟨_,ho,rfl⟩ ⟨_,ho2,rfl⟩ PySem.F.slot_tuple_gt PySem.F.entry_tuple_gt (PySem.F.args_tuple_gt_2 _ _) (rQ l b items items2 n n2 dd dd2 sl sl2 ns ms hi hj)
  ⟨ho,ho2,show Value.bool (dH ns ms)≠Value.notImplemented/\Q (.bool (dH ns ms)) s from ⟨(λx=>nomatch x),h⟩⟩ hu
end
end HT
namespace L2
open PySem PySem.Spec PyProof.Rows
variable {X:Cx}
theorem jk:∀{ns:List Int} {us:List Value},Vals (ns.map V.int) us->PyProof.Rows.IntsAre us ns
 | [],_,.nil=>.nil
 |n::ns,_,.cons h t=>by
  obtain⟨k,rfl⟩:=h
  exact .cons _ _ (jk t)
def SQ(K:PySem.W.Frag):R2:=λx y H Q=>∃a b ns ms,x=.ref a/\y=.ref b/\dO K H a (ns.map V.int)/\dO K H b (ms.map V.int)/\Q (.bl (HT.dH ns ms)) H
theorem HW(hu:X.A.units<cLine):lA X (compareOp .Gt) (SQ X.K):=by
 intro pins s Z H x y v u Q I rx ry h
 obtain⟨a,b,ns,ms,rfl,rfl,ha,hb,q⟩:=h
 cases rx
 cases ry
 obtain⟨is,r1,p1,_⟩:=I.tuple ha
 obtain⟨js,r2,p2,_⟩:=I.tuple hb
 exact HT.w5 p1 p2 (jk (by simpa using r1)) (jk (by simpa using r2)) hu ⟨.bl _,H,I,rfl,q⟩
end L2
namespace HT
open PySem PyProof.Rows
def lexLe:List Int->List Int->Bool
 | [],[]=>true
 | [],_::_=>true
 |_::_,[]=>false
 |x::xs,y::ys=>if x=y then lexLe xs ys else decide (x<=y)
theorem yf(x y:Int)(xs ys:List Int):lexLe (x::xs) (y::ys)=if x=y then lexLe xs ys else decide (x<=y):=rfl
theorem rH:lexLe [] []=true:=rfl
theorem pV(y:Int)(ys:List Int):lexLe [] (y::ys)=true:=rfl
theorem pL(x:Int)(xs:List Int):lexLe (x::xs) []=false:=rfl
theorem Cb(A:Around)(s:Shared)(a:Int)(t:Tok)(c:Int)(u:Tok)(prog:Program)(w:World)(E:Value->Shared->Prop)(Q:Value->Shared->Prop)(h:Q (.bool (decide (a<=c))) s) :
  wpAny (model prog w) A (richCompare .LtE (.int a t) (.int c u)) Q E s :=
 (PyProof.Rows.le_int h:wpAny (model prog w) A (compareOp .LtE (.int a t) (.int c u)) Q E s)
section
open PySem.SeqAt
open PySem.AutoSeq1 (wpAny_loadPart')
open PySem.MeetsSeq PySem.MeetsSeq2 PySem.MeetsSeq3
theorem rS(l b:Addr)(items items2:Array Value)(n n2:Nat)(dd dd2:Option Addr)(sl sl2:Array (Option Value))(ns ms:List Int)(hi:IntsAre items.toList ns)(hj:IntsAre items2.toList ms) :
  Meets (Builtin.«tuple.__le__» ⟨[.ref l,.ref b],[]⟩)
   (λ_ R s=>s.heap.get? l=some { cls:=.type "tuple",dict:=dd,data:=.seq items n,slots:=sl }/\s.heap.get? b=some { cls:=.type "tuple",dict:=dd2,data:=.seq items2 n2,slots:=sl2 }/\
    R (.ok (.ret (.bool (lexLe ns ms)))) s) :=
 .of_wp λprog w A R s h=>by
  obtain⟨hp,g,d,tk,os⟩:=s;obtain⟨hl,hb,h⟩:=h
  have f2:=AutoSeq1.sub_tuple_tuple
  have z1:items.size=ns.length:=by rw[← hi.length];simp
  have z2:items2.size=ms.length:=by rw[← hj.length];simp
  wp_walk using wpAny_loadPart' hl,wpAny_loadPart' hb,wpAny_forIn_list _ (λrest b s'=>b.1=none/\s'=⟨hp,g,d,tk,os⟩/\∃(vs ws:List Value) (ns' ms':List Int),rest=vs.zip ws/\
   IntsAre vs ns'/\IntsAre ws ms'/\ns'.length+items2.size=ms'.length+items.size/\R (.ok (.ret (.bool (lexLe ns' ms')))) ⟨hp,g,d,tk,os⟩) _
  case turn=>
   rintro⟨y,x⟩ rest b s' ⟨hb',rfl,vs,ws,ns',ms',hz,hvi,hwi,hlen,hR⟩
   cases hvi with
   |nil=>rw[List.zip_nil_left] at hz;cases hz
   |cons a t hvi'=>
    cases hwi with
    |nil=>rw[List.zip_nil_right] at hz;cases hz
    |cons c u hwi'=>
     rw[List.zip_cons_cons] at hz
     injection hz with hyx hrest
     injection hyx with hy hx
     subst hy hx
     rw[yf] at hR
     simp only[List.length_cons] at hlen
     obtain⟨e,he,hiff⟩:=rA A.in1 ⟨hp,g,d,tk,os⟩ a t c u
     refine wpAny_bind (he prog w _ _ ?_)
     cases e with
     |true=>
      rw[if_pos (hiff.mp rfl)] at hR
      wp_walk
      exact⟨rfl,rfl,_,_,_,_,hrest,hvi',hwi',by lia,hR⟩
     |false=>
      rw[if_neg (λq=>absurd (hiff.mpr q) Bool.false_ne_true)] at hR
      have hri:=Cb A.in1 ⟨hp,g,d,tk,os⟩ a t c u prog w
      wp_walk using hri
      exact⟨_,rfl,by simpa using hR⟩
  case fin=>
   rintro⟨b1,b2⟩ s' ⟨hb',rfl,vs,ws,ns',ms',hz,hvi,hwi,hlen,hR⟩
   simp only at hb'
   subst hb'
   have hv:lexLe ns' ms'=decide (items.size<=items2.size):=by
    cases hvi with
    |nil=>
     cases hwi with
     |nil=>
      simp only[List.length_nil] at hlen
      rw[rH]
      exact(decide_eq_true (by lia)).symm
     |cons c u hw=>
      simp only[List.length_nil,List.length_cons] at hlen
      rw[pV]
      exact(decide_eq_true (by lia)).symm
    |cons a t hv=>
     cases hwi with
     |nil=>
      simp only[List.length_nil,List.length_cons] at hlen
      rw[pL]
      exact(decide_eq_false (by lia)).symm
     |cons c u hw=>
      rw[List.zip_cons_cons] at hz
      cases hz
   rw[hv] at hR
   wp_walk
   exact⟨_,rfl,by simpa [Builtin.Tuple.tupleCompareSizes] using hR⟩
  case h=>
   exact⟨rfl,rfl,items.toList,items2.toList,ns,ms,rfl,hi,hj,by lia,h⟩
end
section
variable {prog:Program}{w:World}{A:Around}{E:Value->Shared->Prop}{s:Shared}
theorem yx{l b:Addr}{items items2:Array Value}{ns ms:List Int}{Q:Value->Shared->Prop}(hl:IsTup s.heap l items)(hb:IsTup s.heap b items2)(hi:IntsAre items.toList ns)(hj:IntsAre items2.toList ms)
  (hu:A.units<cLine) (h:Q (.bool (lexLe ns ms)) s):wpAny (model prog w) A (compareOp .LtE (.ref l) (.ref b)) Q E s:=by
 obtain⟨⟨cls,dd,data,sl⟩,ho,hc,n,hd⟩:=id hl
 obtain⟨⟨cls2,dd2,data2,sl2⟩,ho2,hc2,n2,hd2⟩:=id hb
 simp only at hc hd hc2 hd2
 subst hc hd hc2 hd2
 exact richCompare_meets_room (op:=.LtE) ⟨_,ho,rfl⟩ ⟨_,ho2,rfl⟩ PySem.F.slot_tuple_le PySem.F.entry_tuple_le (PySem.F.args_tuple_le_2 _ _) (rS l b items items2 n n2 dd dd2 sl sl2 ns ms hi hj)
  ⟨ho,ho2,show Value.bool (lexLe ns ms)≠Value.notImplemented/\Q (.bool (lexLe ns ms)) s from ⟨(λx=>nomatch x),h⟩⟩ hu
end
end HT
namespace L2
open PySem PySem.Spec PyProof.Rows
variable {X:Cx}
def RL(K:PySem.W.Frag):R2:=λx y H Q=>∃a b ns ms,x=.ref a/\y=.ref b/\dO K H a (ns.map V.int)/\dO K H b (ms.map V.int)/\Q (.bl (HT.lexLe ns ms)) H
theorem z0(hu:X.A.units<cLine):lA X (compareOp .LtE) (RL X.K):=by
 intro pins s Z H x y v u Q I rx ry h
 obtain⟨a,b,ns,ms,rfl,rfl,ha,hb,q⟩:=h
 cases rx
 cases ry
 obtain⟨is,r1,p1,_⟩:=I.tuple ha
 obtain⟨js,r2,p2,_⟩:=I.tuple hb
 exact HT.yx p1 p2 (jk (by simpa using r1)) (jk (by simpa using r2)) hu ⟨.bl _,H,I,rfl,q⟩
end L2
namespace L2
open PySem PySem.Spec PyProof.Rows
section
variable {X:Cx}
theorem qM:ic X (.type "dict") (λxs H Q=>∃a kvs,xs=[V.ref a]/\H a=some (.dK kvs)/\∀p,H p=none->Q (.ref p) (upd H p (.dK kvs))):=by
 intro pins s Z H xs us Q I r h
 obtain⟨a,kvs,rfl,ha,q⟩:=h
 obtain⟨u,rfl,ru⟩:=vals1 r
 cases ru
 exact BC I (.inl ha) λp s' hp I'=>⟨.ref p,_,I',rfl,q p hp⟩
end
end L2
namespace L2
open PySem PySem.Spec PyProof.Rows
theorem qj:typeLookup (.type "list") "keys" = pure none:=by rw[typeLookup_type,builtinLookup_eq_fast];kernel_rfl
theorem mh{prog:Program}{w:World}{A:Around}{E:Value->Shared->Prop}{s:Shared}{a:Addr}{o:Obj}{xs:Array Value}{k:Nat}{name:Str}{Q:Option Value->Shared->Prop}
  (hx:s.heap.get? a=some o) (hc:o.cls=.type "list") (hdat:o.data=.seq xs k) (hd:o.dict=none) (hmiss:typeLookup (.type "list") name=pure none) (hname:(["__module__","__name__","__qualname__","__doc__","__annotations__"]:List Str).contains name=false) (hA:A.handled=none)
  (h:∀h' tk,(∀b o,s.heap.get? b=some o->h'.get? b=some o)->Q none { s with heap:=h',toks:=tk }) (hsz:name.length+100<=sizeLine:=by size_fits) :
  wpAny (model prog w) A (getAttr? (.ref a) name) Q E s:=by
 obtain⟨c,dct,dat,sl⟩:=o
 simp only at hc hdat hd
 subst hc hdat hd
 obtain⟨hp,g,d,tk,os⟩:=s
 have hT:∀tk',(⟨hp,g,d,tk',os⟩:Shared).TypeIs (.ref a) "list" := λ_=>⟨_,hx,rfl⟩
 have f1:=sub_AttributeError
 have f3:=F.slot_list_getattribute.lookup
 have f4:=F.slot_list_getattribute.bind (.ref a)
 have f5:=am_list_getattr_none
 unfold getAttr? getAttrBy? getAttrBy
 repeat (any_goals (first | assumption | exact hT _ | ((with_reducible show wpAny _ _ (call (Value.builtin "list.__getattribute__") _ _) _ _ _);refine call_meets F.slot_list_getattribute (hT _) am_entry_list_getattribute (F.args_list_getattribute_2 _ _) (meets_getattribute_miss_list a xs k sl name _ hmiss hname hsz) ⟨hx,hA,λh' tk' e hx'=>?_⟩) | wp_step))
 obtain⟨t',u',he⟩:=hx'.there
 show wpAny _ _ (getattributeRaised _ _ _ _ _ _ _) _ _ _
 unfold getattributeRaised
 repeat (any_goals (first | assumption | wp_step))
 exact h _ _ hx'.of.keeps
theorem fY:entryFor table "dict.update.loop" = some Builtin.«dict.update.loop»:=entryFor_of_tree (by kernel_rfl)
theorem cZ:plainId "dict.update.loop" = true:=by decide +kernel
section
variable {prog:Program}{w:World}{κ:Type}[DecidableEq κ]{knd:KeyKind prog w κ}{A:Around}{R:Result->Shared->Prop}
theorem yd(vs:List (κ×Value))(k:κ)(v:Value):(stored vs k v).length<=vs.length+1:=by
 unfold stored
 split
 ·simp
 ·simp
theorem xF(vs:List (κ×Value)):∀rs:List (κ×Value),(merged vs rs).length<=vs.length+rs.length:=λrs=>by
 induction rs generalizing vs with
 |nil=>exact Nat.le_refl _
 |cons kv r ih=>
  have h1:=ih (stored vs kv.1 kv.2)
  have h2:=yd vs kv.1 kv.2
  show (merged (stored vs kv.1 kv.2) r).length<=vs.length+(r.length+1)
  lia
theorem A7(hh:A.in1.handled=none){D it l:Addr}{items:Array Value}{rs:List (κ×Value)}(hn:items.size=rs.length)(hb:rs.length<=1000)
  (d1:it≠D) (d2:l≠D) (d3:l≠it) :
  ∀(k i:Nat) (s:Shared),items.size-i=k->i<=items.size->s.heap.IsListIter it l i->s.heap.IsList l items->
   (∀(j:Nat) (u:Value) (kv:κ×Value),items[j]?=some u->rs[j]?=some kv->∃p a,u=.ref p/\p≠D/\p≠it/\s.heap.IsTuple p #[a,kv.2]/\knd.is kv.1 a=true)->
   s.heap.DictOf knd D (merged [] (rs.take i))->
   (∀s',s'.heap.DictOf knd D (merged [] rs)->(∀b o,b≠D->b≠it->s.heap.get? b=some o->s'.heap.get? b=some o)->s'.gens=s.gens->s'.drawn=s.drawn->s'.os=s.os->R (.ok (.ret .none)) s')->
   codeAny (model prog w) A (.builtin "dict.update.loop" ⟨[.ref D,.ref it,rawInt (i:Int),.none],[]⟩) R s:=by
 intro k
 induction k with
 |zero=>
  intro i s hk hi hit hl hp hd hR
  have hin:i=items.size:=by lia
  refine codeAny_builtin fY ?_
  rw[Around.under_plainId cZ _]
  show wpAny _ A.in1 (pyNext (.ref it) >>= _) _ _ s
  refine wpAny_bind (wpAny_pyNext_list_end hh hit hl (by rw[hin];simp) λh' hs=>?_)
  show wpAny _ A.in1 (Builtin.Dict.addKeywords D [] >>= _) _ _ _
  refine wpAny_bind (wpAny_pure ?_)
  show wpAny _ A.in1 (ret Value.none) _ _ _
  refine wpAny_pure (hR { s with heap:=h' } ?_ (λb o _ h2 e=>hs b o h2 e) rfl rfl rfl)
  rw[hin,hn,List.take_length] at hd
  exact hd.extBut hs (Ne.symm d1)
 |succ k ih=>
  intro i s hk hi hit hl hp hd hR
  have hlt:i<items.size:=by lia
  have hx:items[i]?=some items[i]:=by simp[hlt]
  have hkv:rs[i]?=some rs[i]:=List.getElem?_eq_getElem (by lia)
  refine codeAny_builtin fY ?_
  rw[Around.under_plainId cZ _]
  show wpAny _ A.in1 (pyNext (.ref it) >>= _) _ _ s
  refine wpAny_bind (wpAny_pyNext_list_item hit hl hx λh' hit' hs=>?_)
  obtain⟨p,a,ep,pD,pI,tp,ha⟩:=hp i _ _ hx hkv
  rw[ep]
  have tp':h'.IsTuple p #[a,(rs[i]).2]:=by
   obtain⟨o,e,c,n,d⟩:=tp
   exact⟨o,(hs.2 p pI).trans e,c,n,d⟩
  have hd':h'.DictOf knd D (merged [] (rs.take i)):=hd.sameBut hs (Ne.symm d1)
  obtain⟨o,e,c,n,d⟩:=id tp'
  show wpAny _ A.in1 (holding [Value.ref p] _ >>= _) _ _ _
  refine wpAny_bind (wpAny_holding ?_)
  refine wpAny_bind ?_
  unfold Builtin.Dict.pairItems
  refine wpAny_tryCatch ?_
  refine wpAny_bind (wpAny_typeOf (T:="tuple") ⟨o,e,c⟩ ?_)
  rw[if_pos (by decide)]
  unfold seqItems?
  refine wpAny_bind (wpAny_bind (wpAny_load e ?_))
  rw[d]
  refine wpAny_pure (wpAny_pure ?_)
  show wpAny _ _ (holding [a,(rs[i]).2] (dictSet D a (rs[i]).2)) _ _ _
  refine wpAny_holding ?_
  have hsz:(merged [] (rs.take i):List (κ×Value)).length<=sizeLine:=by
   have:=xF [] (rs.take i)
   rw[List.length_take] at this
   simp only[List.length_nil] at this
   have z:=sizeLine_eq
   lia
  refine wpAny_dictSet_pairs (s:={ s with heap:=h' }) (hsz:=hsz) ha hd' λh2 hd2 hs2=>?_
  show wpAny _ A.in1 (again (.builtin "dict.update.loop" ⟨[.ref D,.ref it,rawInt ((i:Int)+1),.none],[]⟩)) _ _ _
  refine wpAny_pure ⟨plainId_quiet cZ _,?_⟩
  have ei:((i:Int)+1)=((i+1:Nat):Int):=by lia
  rw[ei]
  refine ih (i+1) _ (by lia) hlt ?_ ?_ ?_ ?_ ?_
  ·obtain⟨o,e,r⟩:=hit'
   exact⟨o,(hs2.2 it d1).trans e,r⟩
  ·obtain⟨o,e,r⟩:=hl
   exact⟨o,(hs2.2 l d2).trans ((hs.2 l d3).trans e),r⟩
  ·intro j u kv h1 h2
   obtain⟨p',a',q1,q2,q3,⟨o,e,r⟩,q5⟩:=hp j u kv h1 h2
   exact⟨p',a',q1,q2,q3,⟨o,(hs2.2 p' q2).trans ((hs.2 p' q3).trans e),r⟩,q5⟩
  ·rw[merged_take_succ _ _ _ _ hkv]
   exact hd2
  ·intro s' q1 q2 q3 q4 q5
   exact hR s' q1 (λb o n1 n2 e=>q2 b o n1 n2 ((hs2.2 b n1).trans ((hs.2 b n2).trans e))) q3 q4 q5
end
section
variable {prog:Program}{w:World}{κ:Type}[DecidableEq κ]{knd:KeyKind prog w κ}{A:Around}{E:Value->Shared->Prop}{s:Shared}
theorem oR {l:Addr} {items:Array Value} {m:Nat} {rs:List (κ×Value)} {Q:Value->Shared->Prop} (hh:A.handled=none) (ho:s.heap.get? l=some { cls:=.type "list",data:=.seq items m })
  (hn:items.size=rs.length) (hb:rs.length<=1000)
  (hp:∀(j:Nat) (u:Value) (kv:κ×Value),items[j]?=some u->rs[j]?=some kv->∃p a,u=.ref p/\s.heap.IsTuple p #[a,kv.2]/\knd.is kv.1 a=true)
  (h:∀h' tk,h'.DictOf knd s.heap.objs.size (merged [] rs)->(∀b o,s.heap.get? b=some o->h'.get? b=some o)->Q (.ref s.heap.objs.size) { s with heap:=h',toks:=tk }) :
  wpAny (model prog w) A (call (.type "dict") [.ref l]) Q E s:=by
 refine callType_codes (Q₁:=λobj s₁=>obj=.ref s.heap.objs.size/\s₁ = { s with heap:=s.heap.push { cls:=.type "dict",data:=.dict #[] } }) F.kt_called_dict (F.kt_typeCall_dict_1 _) F.entry_dict_init (kt_code_dict_new _ ⟨rfl,rfl⟩) ?_
 rintro obj s₁ ⟨rfl,rfl⟩
 have hnew:(s.heap.push { cls:=.type "dict",data:=.dict #[] }).DictOf knd s.heap.objs.size []:=Heap.DictOf.new s.heap
 have hlD:l<s.heap.objs.size:=Heap.lt_size ho
 have hl1:(s.heap.push { cls:=.type "dict",data:=.dict #[] }).get? l=some { cls:=.type "list",data:=.seq items m }:=Heap.get?_push_of_some _ ho
 refine⟨hnew.typeIs,F.args_dict_init_2 _ _,?_⟩
 unfold Builtin.«dict.__init__»
 refine wpAny_bind ?_
 unfold Builtin.Dict.selfAndRest
 refine wpAny_bind (wpAny_notOrdered_dict hnew.typeIs ?_)
 show wpAny _ _ (pure (s.heap.objs.size,[Value.ref l])) _ _ _
 refine wpAny_pure ?_
 show wpAny _ _ (Builtin.Dict.updateFrom "dict.__init__" s.heap.objs.size (.ref l) [] .none) _ _ _
 unfold Builtin.Dict.updateFrom
 refine wpAny_bind (wpAny_typeOf (T:="list") ⟨_,hl1,rfl⟩ ?_)
 rw[if_pos (by decide)]
 refine wpAny_bind (mh (s:={ s with heap:=s.heap.push { cls:=.type "dict",data:=.dict #[] } }) hl1 rfl rfl rfl qj (by decide) (by simp[hh]) (λh1 t1 k1=>?_))
 rw[if_pos (show (none:Option Value).isNone=true from rfl)]
 refine wpAny_bind (wpAny_rule ?_)
 have hl2:=k1 _ _ hl1
 have hD2:h1.DictOf knd s.heap.objs.size []:=by
  obtain⟨o,es,ep,e,r⟩:=hnew
  exact⟨o,es,ep,k1 _ _ e,r⟩
 have big:s.heap.objs.size<h1.objs.size:=by
  obtain⟨o,es,ep,e,r⟩:=hD2
  exact Heap.lt_size e
 refine wpAny_bind (wpAny_pyIter_list (s:={ s with heap:=h1,toks:=t1 }) ⟨_,hl2,rfl,m,rfl⟩ ?_)
 refine wpAny_pure ⟨plainId_quiet cZ _,?_⟩
 refine A7 (knd:=knd) (by simp[hh]) hn hb (D:=s.heap.objs.size) (it:=h1.objs.size) (l:=l) (Nat.ne_of_gt big) (Nat.ne_of_lt hlD) (Nat.ne_of_lt (Nat.lt_trans hlD big)) items.size 0 _ (by lia) (Nat.zero_le _) ⟨_,Heap.get?_push_size _ rfl,rfl,rfl⟩ ⟨_,Heap.get?_push_of_some _ hl2,rfl,m,rfl⟩ ?_ ?_ ?_
 ·intro j u kv e1 e2
  obtain⟨p,a,q1,⟨o,q2,q3⟩,q4⟩:=hp j u kv e1 e2
  have lp:p<s.heap.objs.size:=Heap.lt_size q2
  exact⟨p,a,q1,Nat.ne_of_lt lp,Nat.ne_of_lt (Nat.lt_trans lp big),⟨o,Heap.get?_push_of_some _ (k1 _ _ (Heap.get?_push_of_some _ q2)),q3⟩,q4⟩
 ·exact hD2.push _
 ·intro s' q1 q2 q3 q4 q5
  obtain⟨h',g',d',tk',os'⟩:=s'
  cases q3
  cases q4
  cases q5
  exact⟨rfl,h h' tk' q1 (λb o e=>q2 b o (Nat.ne_of_lt (Heap.lt_size e)) (Nat.ne_of_lt (Nat.lt_trans (Heap.lt_size e) big)) (Heap.get?_push_of_some _ (k1 _ _ (Heap.get?_push_of_some _ e))))⟩
end
section
theorem wB{P:Program}{w:World}{H:Hp}{h:Heap}(ok:k6 P w H h):∀(ps:List Addr) (kvs:List (Key×V)),ps.length=kvs.length->(∀(i:Nat) p kv,ps[i]?=some p->kvs[i]?=some kv->H p=some (.tup [kV kv.1,kv.2]))->
  ∃rs:List (Key×Value),KV kvs rs/\∀(i:Nat) p kv,ps[i]?=some p->rs[i]?=some kv->∃a,h.IsTuple p #[a,kv.2]/\(b7 P w).is kv.1 a=true
 | [],[],_,_=>⟨[],.nil,λi p kv e _=>by simp at e⟩
 |p::ps,kv::kvs,hl,hp=>by
  obtain⟨rs,r1,r2⟩:=wB ok ps kvs (by simpa using hl) (λi q kv' e1 e2=>hp (i+1) q kv' (by simpa using e1) (by simpa using e2))
  obtain⟨_,its,rv,tp⟩:=(show cL P w H h p (.tup [kV kv.1,kv.2]) from ok p _ (hp 0 p kv rfl rfl))
  cases rv with
  |cons e1 rv=>cases rv with
   |cons e2 rv=>
    cases rv
    rename_i a b
    refine⟨(kv.1,b)::rs,.cons ⟨rfl,e2⟩ r1,λi q kv' h1 h2=>?_⟩
    cases i with
    |zero=>
     simp only[List.getElem?_cons_zero,Option.some.injEq] at h1 h2
     subst h1 h2
     exact⟨a,tp,mH e1⟩
    |succ i=>exact r2 i q kv' (by simpa using h1) (by simpa using h2)
 | [],_::_,hl,_=>by simp at hl
 |_::_,[],hl,_=>by simp at hl
variable {X:Cx}
def OX:List V->Hp->VK->Prop:=λxs H Q=>∃(l:Addr) (ps:List Addr) (kvs:List (Key×V)),xs=[V.ref l]/\H l=some (.lst (ps.map V.ref))/\(ps.length=kvs.length/\∀(i:Nat) p kv,ps[i]?=some p->kvs[i]?=some kv->H p=some (.tup [kV kv.1,kv.2]))/\kvs.length<=1000/\
 ∀d,H d=none->Q (.ref d) (upd H d (.dK (iP [] kvs)))
theorem mD (hc:X.calm=true):ic X (.type "dict") OX:=by
 intro pins s Z H xs us Q I r h
 obtain⟨l,ps,kvs,rfl,hl,⟨hlen,hps⟩,hb,q⟩:=h
 obtain⟨u,rfl,ru⟩:=vals1 r
 cases ru
 obtain⟨hz,its,n,rv,ho⟩:=(show cL X.prog X.w H s.heap l (.lst (ps.map V.ref)) from I.hok l _ hl)
 obtain⟨rs,rk,hrs⟩:=wB I.hok ps kvs hlen hps
 have l1:=rv.length
 have l2:=rk.length
 rw[List.length_map] at l1
 have z:=sizeLine_eq
 refine oR (knd:=b7 X.prog X.w) (items:=its.toArray) (rs:=rs) (I.ok.hd hc) ho (by simp;lia) (by lia) (λj v kv e1 e2=>?_) λh' tk hd hk=>?_
 ·have e1:its[j]?=some v:=by simpa using e1
  have hj:j<ps.length:=by rw[l1];exact(List.getElem?_eq_some_iff.mp e1).1
  have ep:ps[j]?=some ps[j]:=List.getElem?_eq_getElem hj
  obtain⟨v',g1,g2⟩:=rv.get (i:=j) (x:=V.ref ps[j]) (by rw[List.getElem?_map,ep];rfl)
  rw[e1] at g1
  cases g1
  cases (show v=Value.ref ps[j] from g2)
  obtain⟨a,t1,t2⟩:=hrs j _ _ ep e2
  exact⟨_,a,rfl,t1,t2⟩
 ·have hz:(iP [] kvs).length<=sizeLine:=by
   have h1:=je kvs []
   rw[List.length_nil] at h1
   lia
  exact⟨.ref s.heap.objs.size,_,I.laid (t':=tk) hk (Nat.le_refl _) (qD hz (beq_eq_false_iff_ne.mpr (Ne.symm (Nat.ne_of_lt I.big))) (rk.merge .nil) hd),rfl,q _ (I.hok.fresh (Nat.le_refl _))⟩
end
end L2
namespace L2
open PySem PySem.Spec PyProof.Rows
section
variable {X:Cx}{pins:List (Addr×Obj)}{Z:St}{H:Hp}{s:Shared}{a:Addr}{kvs:List (Key×V)}{o:Obj}
def ve(H:Hp)(a:Addr):Prop:=∀o u,H a≠some (.jy o u)
theorem Inv.freeze(I:Inv X pins Z H s)(e:H a=some (.dK kvs))(ho:s.heap.get? a=some o):Inv X pins Z (upd H a (.jy o (.dK kvs))) s:=by
 have nb:∀{b u},H b=some u->u≠.dK kvs->b≠a:=λ{b u} q n z=>by rw[z,e] at q;cases q;exact n rfl
 have nn:∀{b},H b=none->b≠a:=λ{b} q z=>by rw[z,e] at q;cases q
 refine I.step (g':=s.gens) (d':=s.drawn) (t':=s.toks) (ch:=[]) (H':=upd H a (.jy o (.dK kvs))) (h':=s.heap) (λb hb=>by cases hb) (λb o n _ _ e _=>e) (λb o n _ _ e _=>⟨o.slots,e⟩) (λb o _ _ n=>by rw[ak (nn n)];exact n) (λb o _ e=>⟨o,e⟩) (λb xs q=>by rw[ak (nb q (by intro z;cases z))];exact q) (λb o u q=>by rw[ak (nb q (by intro z;cases z))];exact q) (λb ps q=>⟨#[],by rw[ak (nb q (by intro z;cases z)),q];simp⟩) (λm hm=>hm) (λb u q=>?_) I.bare
 by_cases z:b=a
 ·rw[z,af] at q
  cases q
  rw[z]
  exact⟨ho,I.hok a _ e⟩
 ·rw[ak z] at q
  exact(I.hok b u q).stay (λc v _ q=>q) (λc hc=>by rw[ak (nb hc (by intro z;cases z))];exact hc) (λc xs hc=>by rw[ak (nb hc (by intro z;cases z))];exact hc)
theorem Inv.SM(I:Inv X pins Z H s)(e:H a=some (.dK kvs)):ve X.H₀ a:=λo u q=>by
 have:=I.base.oN a o u q
 rw[e] at this;cases this
theorem Inv.SI(I:Inv X pins Z H s)(e:H a=some (.jy o (.dK kvs)))(nf:ve X.H₀ a):Inv X pins Z (upd H a (.dK kvs)) s:=by
 have nb:∀{b u},H b=some u->u≠.jy o (.dK kvs)->b≠a:=λ{b u} q n z=>by rw[z,e] at q;cases q;exact n rfl
 have nn:∀{b},H b=none->b≠a:=λ{b} q z=>by rw[z,e] at q;cases q
 refine⟨I.ok,I.os,I.bare,⟨I.base.keep,I.base.slot,λb ob q n hx=>?_,I.base.there,λb xs q=>?_,λb ob u q=>?_,λb ps q=>?_⟩,I.loc,I.cell,?_,λx c q=>?_,λp hp=>?_,λb u q=>?_,I.len⟩
 ·have:=I.base.free b ob q n hx
  rw[ak (nn this)];exact this
 ·have:=I.base.tups b xs q
  rw[ak (nb this (by intro z;cases z))];exact this
 ·have:=I.base.oN b ob u q
  rw[ak (λz=>nf ob u (by rw[← z];exact q))];exact this
 ·obtain⟨more,q2⟩:=I.base.rV b ps q
  exact⟨more,by rw[ak (nb q2 (by intro z;cases z))];exact q2⟩
 ·rw[ak (nn I.free)];exact I.free
 ·rw[ak (nn (I.jR x c q))];exact I.jR x c q
 ·obtain⟨p1,p2,p3⟩:=I.pin p hp
  exact⟨p1,by rw[ak (nn p2)];exact p2,p3⟩
 ·by_cases z:b=a
  ·rw[z,af] at q
   cases q
   rw[z]
   exact(I.hok a _ e).2
  ·rw[ak z] at q
   exact(I.hok b u q).stay (λc v _ q=>q) (λc hc=>by rw[ak (nb hc (by intro z;cases z))];exact hc) (λc xs hc=>by rw[ak (nb hc (by intro z;cases z))];exact hc)
end
def S8(a:Addr)(o:Obj)(kvs:List (Key×V)):It :=
 ⟨λi H=>H a=some (.jy o (.dK kvs))/\i<kvs.length,λi H x H'=>H'=H/\∃kv,kvs[i]?=some kv/\x=kV kv.1,λi H=>H a=some (.jy o (.dK kvs))/\kvs.length<=i⟩
theorem Dz{P:Program}{w:World}{k:Key}{u:Value}(h:(b7 P w).is k u=true):RelV (kV k) u:=by
 rcases c6 h with ⟨i,t,rfl,rfl⟩|⟨x,t,rfl,rfl⟩
 ·exact⟨t,rfl⟩
 ·exact⟨t,rfl⟩
theorem A4{P:Program}{w:World}{K:PySem.W.Frag}{tg:Expr}{es:Array DictEntry}{ep:Nat}(a it:Addr)(o:Obj)(kvs:List (Key×V))(hne:a≠it)(hd:o.data=.dict es ep):Turn P w K tg (S8 a o kvs) [it] it (λi h=>h.IsKeyIter it a i kvs.length ep) where
 mem:=by simp
 obj:=λi h st b hb=>by
  have e:b=it:=by simpa using hb
  subst e
  obtain⟨o,e,c,d⟩:=st
  exact⟨o,e,λv z=>by rw[d] at z;cases z⟩
 keep:=λi h h' st k=>st.at λo e=>k it (by simp) o e
 item:=by
  intro X hP hw hK hc i pins s Z H E I hf st hg
  subst hP hw hK
  obtain⟨hq,hi⟩:=hg
  obtain⟨ho,z,hs,vs,rel,dd⟩:=(show cL X.prog X.w H s.heap a (.jy o (.dK kvs)) from I.hok a _ hq)
  obtain⟨f0,f1,f2,f3,f4,f5⟩:=hf it (by simp)
  have hl:=rel.length
  have da:s.heap.DictAt (b7 X.prog X.w) a vs ep:=by
   obtain⟨o',es',ep',e',c',d',r'⟩:=dd
   rw[ho] at e'
   cases e'
   rw[hd] at d'
   cases d'
   exact⟨o,es,ho,c',hd,r'⟩
  have W:=Walks.dictKeys (prog:=X.prog) (w:=X.w) (knd:=b7 X.prog X.w) (I.ok.hd hc) it a hne vs ep
  refine W.item i s _ _ (by lia) ⟨by rw[← hl];exact st,da⟩ λv h' tk hv st' kk=>?_
  obtain⟨k,x,e1,e2⟩:=hv
  have I1:Inv X pins Z H { s with heap:=h',toks:=tk }:=I.turned (λb o hb e=>kk b o (by simpa using hb) e) f0 f1 f3 f4 f5
  obtain⟨oi,ei,ci,di⟩:=id st'.1
  have hkv:kvs[i]?=some kvs[i]:=List.getElem?_eq_getElem hi
  have ek:kvs[i].1=k:=by
   have:=congrArg (λl:List Key=>l[i]?) rel.keys
   simp only[List.getElem?_map,hkv,e1,Option.map_some] at this
   exact Option.some.inj this
  exact⟨v,rfl,BH (s:={ s with heap:=h',toks:=tk }) ei ci di (by decide) ⟨kV kvs[i].1,H,I1,by rw[ek];exact Dz e2,⟨rfl,_,hkv,rfl⟩,by rw[hl];exact st'.1,λb hb=>(hf b hb).1⟩⟩
 done:=by
  intro X hP hw hK hc i pins s Z H E I hf st hg
  subst hP hw hK
  obtain⟨hq,hi⟩:=hg
  obtain⟨ho,z,hs,vs,rel,dd⟩:=(show cL X.prog X.w H s.heap a (.jy o (.dK kvs)) from I.hok a _ hq)
  obtain⟨f0,f1,f2,f3,f4,f5⟩:=hf it (by simp)
  have hl:=rel.length
  have da:s.heap.DictAt (b7 X.prog X.w) a vs ep:=by
   obtain⟨o',es',ep',e',c',d',r'⟩:=dd
   rw[ho] at e'
   cases e'
   rw[hd] at d'
   cases d'
   exact⟨o,es,ho,c',hd,r'⟩
  refine wpAny_pyNext_dict_end (I.ok.hd hc) (by rw[← hl];exact st) da (by simp;lia) λh' eb=>⟨rfl,I.turned (t':=s.toks) (λb o hb e=>eb b o hb e) f0 f1 f3 f4 f5⟩
 self:=λ_ _ _ _ _ st h=>wpAny_pyIter_keyiter st h
section
variable {X:Cx}{tg:Expr}
def Q8(H0:Hp)(tl:TE):TI:=λZ H R=>tl Z H λx H1=>∃a kvs,x=.ref a/\H1 a=some (.dK kvs)/\∀o,ve H0 a->R (S8 a o kvs) (upd H1 a (.jy o (.dK kvs)))
theorem uu{l:Expr}{tl:TE}(hl:PE X l tl):PI X tg l (Q8 X.H₀ tl):=by
 intro pins s Z H R I h
 refine cU (hl pins s Z H _ I h) λv s1  hZ=>?_
 obtain⟨x,H1,I1,r1,q1⟩:=hZ
 obtain⟨a,kvs,e,hq,q⟩:=q1
 subst e
 cases r1
 obtain⟨z,hs,vs,rel,dd⟩:=lJ I1.hok hq
 obtain⟨o,es,ep,eo,c,d,r⟩:=dd
 refine wpAny_pyIter_dict (knd:=b7 X.prog X.w) (kvs:=vs) hs ⟨o,es,eo,c,d,r⟩ ?_
 have I2:=I1.freeze hq eo
 have ne:a≠s1.heap.objs.size:=Nat.ne_of_lt (Heap.lt_size eo)
 refine⟨s1.heap.objs.size,[s1.heap.objs.size],_,_,_,rfl,I2.kept (t':=s1.toks) λb o e=>Heap.get?_push_of_some _ e,A4 a _ o kvs ne d,⟨_,Heap.get?_push_size _ rfl,rfl,by rw[rel.length];rfl⟩,λb hb=>?_,q o (I1.SM hq)⟩
 have e:b=s1.heap.objs.size:=by simpa using hb
 subst e
 exact I2.Ae (Nat.le_refl _) (I2.hok.fresh (Nat.le_refl _))
def QN(H0:Hp)(te:TE):TE:=λZ H Q=>te Z H λv H'=>∃a o kvs,H' a=some (.jy o (.dK kvs))/\ve H0 a/\Q v (upd H' a (.dK kvs))
theorem zw{e:Expr}{te:TE}(h:PE X e te):PE X e (QN X.H₀ te):=λpins s Z H Q I q=>
 cU (h pins s Z H _ I q) λv s1 ⟨x,H1,I1,r1,a,o,kvs,q1,q2,q3⟩=>⟨x,_,I1.SI q1 q2,r1,q3⟩
def RU(H0:Hp)(ts:TS):TS:=λD Z H=>ts { D with nx:=λZ' H'=>∃a o kvs,H' a=some (.jy o (.dK kvs))/\ve H0 a/\D.nx Z' (upd H' a (.dK kvs)) } Z H
theorem Ie{st:Stmt}{ts:TS}(h:PS X st ts):PS X st (RU X.H₀ ts):=λpins s Z H D I q=>
 cU (h pins s Z H _ I q) λf s1 r=>by
  cases f with
  |next=>
   obtain⟨Z',H',I',a,o,kvs,q1,q2,q3⟩:=r
   exact⟨Z',_,I'.SI q1 q2,q3⟩
  |_=>exact r
end
theorem r9{a:Addr}{o:Obj}{kvs:List (Key×V)}{caps:List (Str×Nat)}{te:TE}{Z:St}{H:Hp}{Q:VK}(Pv:Nat->List V->Hp->Prop)(h0:Pv 0 [] H)(hn:kvs.length<sizeLine)
  (hq:∀i ys H,i<=kvs.length->Pv i ys H->H a=some (.jy o (.dK kvs)))
  (hs:∀i kv ys H,kvs[i]?=some kv->ys.length=i->Pv i ys H->te (lq caps Z++[some (kV kv.1)]) H λy H2=>∃m',m'<kvs.length-i/\m'=kvs.length-(i+1)/\i+1<=kvs.length/\(ys++[y]).length=i+1/\Pv (i+1) (ys++[y]) H2) (hd:∀ys H,ys.length=kvs.length->Pv kvs.length ys H->∀D,H D=none->Q (.ref D) (upd H D (.lst ys))) :
  vX (S8 a o kvs) caps te Z H Q:=by
 refine⟨λi m ys H=>m=kvs.length-i/\i<=kvs.length/\ys.length=i/\Pv i ys H,⟨kvs.length,by simp,Nat.zero_le _,rfl,h0⟩,?_⟩
 rintro i m ys H ⟨rfl,hi,hl,p⟩
 have q:=hq i ys H hi p
 by_cases hlt:i<kvs.length
 ·refine .inr ⟨⟨q,hlt⟩,by lia,λx H' y=>?_⟩
  obtain⟨e,kv,y1,y2⟩:=y
  subst e y2
  exact hs i kv ys _ y1 hl p
 ·have e:i=kvs.length:=by lia
  subst e
  exact .inl ⟨⟨q,Nat.le_refl _⟩,hd ys H hl p⟩
theorem AA{a:Addr}{o:Obj}{kvs:List (Key×V)}{g:TG}{tb:TS}{D:Ends}{Z:St}{H:Hp}(Pv:Nat->St->Hp->Prop)(h0:Pv 0 Z H)(hl:∀i Z H,i<=kvs.length->Pv i Z H->H a=some (.jy o (.dK kvs)))
  (hs:∀i kv Z H,kvs[i]?=some kv->Pv i Z H->g (kV kv.1) Z H λZ2 H2=>tb { D with nx:=Pv (i+1),ct:=Pv (i+1),bk:=D.nx } Z2 H2) (hd:∀Z H,Pv kvs.length Z H->D.nx Z H):Ai (S8 a o kvs) g tb D Z H:=by
 refine⟨λi m Z H=>m=kvs.length-i/\i<=kvs.length/\Pv i Z H,⟨kvs.length,by simp,Nat.zero_le _,h0⟩,?_⟩
 rintro i m Z H ⟨rfl,hi,p⟩
 have q:=hl i Z H hi p
 by_cases hlt:i<kvs.length
 ·refine .inr ⟨⟨q,hlt⟩,Pv (i+1),λZ' H' p'=>⟨kvs.length-(i+1),by lia,rfl,hlt,p'⟩,λx H' y=>?_⟩
  obtain⟨e,kv,y1,y2⟩:=y
  subst e y2
  exact hs i kv _ _ y1 p
 ·have e:i=kvs.length:=by lia
  subst e
  exact .inl ⟨⟨q,Nat.le_refl _⟩,hd Z H p⟩
end L2
namespace L2
open PySem PySem.Spec PyProof.Rows
theorem yG:W.kas_sort 2=W.KasT.ask 1 0 (λb=>W.KasT.ret (if b=true then #[1,0] else #[0,1])):=by
 show W.KasT.ask 1 0 _=_
 congr 1
 funext b
 cases b <;> rfl
section
variable {X:Cx}
def P7(K:PySem.W.Frag):List V->Hp->VK->Prop:=λxs H Q=>∃(p a b:Addr) (x1 y1 x2 y2:Int),xs=[.ref p]/\bg K H p [.ref a,.ref b]/\dO K H a [.int x1,.int y1]/\dO K H b [.int x2,.int y2]/\
 ∀l,H l=none->Q (.ref l) (upd H l (.lst (if HT.dH [x1,y1] [x2,y2]=true then [.ref b,.ref a] else [.ref a,.ref b])))
theorem uL:ic X (.builtin "sorted") (P7 X.K):=by
 intro pins s Z H xs us Q I r h
 obtain⟨p,a,b,x1,y1,x2,y2,rfl,hp,ha,hb,q⟩:=h
 obtain⟨u,rfl,rx⟩:=vals1 r
 cases rx
 obtain⟨its,r',pl,hz⟩:=I.list hp
 obtain⟨ta,ra,pa,_⟩:=I.tuple ha
 obtain⟨tb,rb,pb,_⟩:=I.tuple hb
 cases r' with
 |cons e1 r1=>cases r1 with
  |cons e2 r2=>
   cases r2
   cases e1
   cases e2
   cases ra with
   |cons f1 s1=>cases s1 with
    |cons f2 s2=>
     cases s2
     obtain⟨t1,rfl⟩:=f1
     obtain⟨t2,rfl⟩:=f2
     cases rb with
     |cons g1 w1=>cases w1 with
      |cons g2 w2=>
       cases w2
       obtain⟨t3,rfl⟩:=g1
       obtain⟨t4,rfl⟩:=g2
       obtain⟨oa,ea,ca,na,da⟩:=pa
       obtain⟨ob,eb,cb,nb,db⟩:=pb
       obtain⟨m,hns,_⟩:=id I.loc
       have nL:∀{c o xs n},s.heap.get? c=some o->o.data=Data.seq xs n->c≠X.env.locals:=λ{c o xs n} e d z=>by
        obtain⟨oL,es,ep,eL,dL,_⟩:=hns
        rw[z,eL] at e
        cases e
        rw[dL] at d
        cases d
       refine W.kat_sorted (h₀:=Att.jc s.heap) (L:=X.env.locals) (m:=m) (news:=kZ (Att.jc s.heap) s.heap X.env.locals) (Att.yT hns) qy pl.isList (show 2<=2 by decide) (show 2<64 by decide) (λD e1 h' F N hlt=>?_)
       have kp:∀c o,c≠X.env.locals->s.heap.get? c=some o->h'.get? c=some o:=λc o n e=>(N (c,o) (List.mem_cons_of_mem _ (e9 n (Att.eV _ _) e))).1
       have ea':=kp _ _ (nL ea da) ea
       have eb':=kp _ _ (nL eb db) eb
       refine W.kat_kind (fs:=[.int x1 t1,.int x2 t3]) (T:=.type "int") (.cons ea' ca da rfl (.cons eb' cb db rfl .nil)) (show 0<2 by decide) (λv hv=>?_) rfl ?_
       ·have:∃z t,v=Value.int z t:=by
         simp only[List.mem_cons,List.not_mem_nil,or_false] at hv
         rcases hv with rfl|rfl <;> exact⟨_,_,rfl⟩
        obtain⟨z,t,rfl⟩:=this
        exact λA' Q' E' s' _ h=>wpAny_pure h
       show W.KasT.kasWp _ (W.kas_sort 2) _ _
       rw[yG]
       have fin:∀gt:Bool,gt=HT.dH [x1,y1] [x2,y2]->W.KasFin (Att.jc s.heap) X.env.locals m D e1 (List.map (λi=>[Value.ref a,Value.ref b].getD i Value.none) (if gt=true then #[1,0] else #[0,1]:Array Nat).toList) (λs3=>EP X pins Z Q (Value.ref D) s3) { s with heap:=h' }:=λgt hgt=>by
        have nD:=(N (D,_) (List.mem_cons_self ..)).2.1
        have hD0:s.heap.get? D=none:=by
         cases e:s.heap.get? D with
         |none=>rfl
         |some o=>exact absurd (hlt (D,o) (e9 nD (Att.eV _ _) e)) (Nat.lt_irrefl _)
        refine W.KasFin.intro F N (W.UpdF.head λq hq=>Nat.ne_of_lt (hlt q hq)) (λh2 c F2 N2=>?_)
        have kp2:∀c o,c≠X.env.locals->s.heap.get? c=some o->h2.get? c=some o:=λc o n e=>(N2 (c,o) (List.mem_cons_of_mem _ (e9 n (Att.eV _ _) e))).1
        have eD:=(N2 (D,_) (List.mem_cons_self ..)).1
        have fD:H D=none:=I.hok.new hD0
        have eout:List.map (λi=>[Value.ref a,Value.ref b].getD i Value.none) (if gt=true then #[1,0] else #[0,1]:Array Nat).toList=if gt=true then [Value.ref b,Value.ref a] else [Value.ref a,Value.ref b]:=by cases gt <;> rfl
        rw[eout] at eD
        have hv:Vals (if HT.dH [x1,y1] [x2,y2]=true then [V.ref b,.ref a] else [.ref a,.ref b]) (if gt=true then [Value.ref b,Value.ref a] else [Value.ref a,Value.ref b]):=by
         rw[← hgt]
         cases gt
         ·exact .cons rfl (.cons rfl .nil)
         ·exact .cons rfl (.cons rfl .nil)
        have hlen:(if HT.dH [x1,y1] [x2,y2]=true then [V.ref b,.ref a] else [.ref a,.ref b]).length<=sizeLine:=by split <;> (show 2<=sizeLine;decide)
        have nDb:∀{b u},H b=some u->b≠D:=λ{b u} e z=>by rw[z,fD] at e;cases e
        refine(λI2=>?_) (I.step (g':=s.gens) (d':=s.drawn) (t':=s.toks) (ch:=[]) (H':=upd H D (.lst (if HT.dH [x1,y1] [x2,y2]=true then [V.ref b,.ref a] else [.ref a,.ref b]))) (h':=h2) (λb hb=>by cases hb) (λb o n _ _ e _=>kp2 b o n e) (λb o n _ _ e _=>⟨o.slots,kp2 b o n e⟩) (λb o _ e n=>?_) (λb o _ e=>?_) (λb xs e=>by rw[ak (nDb e)];exact e) (λb o u e=>by rw[ak (nDb e)];exact e) (λb ps e=>⟨#[],by rw[ak (nDb e),e];simp⟩) (λm' hm'=>?_) (λb u e=>?_) I.bare)
        ·exact⟨.ref D,_,I2,rfl,q D fD⟩
        ·rw[ak (λz=>?_)];exact n
         rw[z] at e
         rw[hD0] at e;cases e
        ·by_cases z:b=X.env.locals
         ·obtain⟨oL,es,ep,eL,_⟩:=F2.ns
          exact⟨oL,by rw[z];exact eL⟩
         ·exact⟨o,kp2 b o z e⟩
        ·have em:m'=m:=by
          obtain⟨o1,es1,ep1,a1,d1,_,r1⟩:=hm'
          obtain⟨o2,es2,ep2,a2,d2,_,r2⟩:=hns
          rw[a1] at a2
          cases a2
          rw[d1] at d2
          cases d2
          funext n
          rw[← r1,← r2]
         rw[em];exact F2.ns
        ·by_cases z:b=D
         ·rw[z,af] at e
          cases e
          rw[z]
          exact⟨hlen,_,c,hv,eD⟩
         ·rw[ak z] at e
          refine(I.hok b u e).stay (λc v hc q=>kp2 c v (λy=>?_) q) (λc hc=>by rw[ak (nDb hc)];exact hc) (λc xs hc=>by rw[ak (nDb hc)];exact hc)
          have fL:=I.free
          rcases hc with hc|hc
          ·rw[← hc,y,fL] at e;cases e
          ·rw[y,fL] at hc;cases hc
       refine W.kat_lt eb' db ea' da ?_
       refine W.kat_cons (wpAny_eqBool_int (W.kat_go (λe=>W.kat_yes (W.kat_cons (wpAny_eqBool_int (W.kat_go (λe2=>W.kat_yes (W.kat_nil ?_)) (λe2=>W.kat_no (W.kat_one _ _ (P.lt_int ?_))))))) (λe=>W.kat_no (oneLt_int ?_))))
       ·have e:(x2 == x1)=true:=e
        have e2:(y2 == y1)=true:=e2
        have z1:=eq_of_beq e
        have z2:=eq_of_beq e2
        exact fin false (by rw[z1,z2,HT.gA,if_pos rfl,HT.gA,if_pos rfl];rfl)
       ·have e:(x2 == x1)=true:=e
        have e2:(y2 == y1)=false:=e2
        have z1:=eq_of_beq e
        have z2:¬ y1=y2:=λz=>by rw[z] at e2;simp at e2
        exact fin (decide (y2<y1)) (by rw[z1,HT.gA,if_pos rfl,HT.gA,if_neg z2])
       ·have e:(x2 == x1)=false:=e
        have z1:¬ x1=x2:=λz=>by rw[z] at e;simp at e
        exact fin (decide (x2<x1)) (by rw[HT.gA,if_neg z1])
end
end L2
namespace L2
open PySem PySem.Spec PyProof.Rows
theorem o5:∀{xs:List V} {us:List Value},xs.length=us.length->(∀(j:Nat) x u,xs[j]?=some x->us[j]?=some u->RelV x u)->Vals xs us
 | [],[],_,_=>.nil
 |x::xs,u::us,hl,h=>.cons (h 0 x u rfl rfl) (o5 (by simpa using hl) λj y v e1 e2=>h (j+1) y v (by simpa using e1) (by simpa using e2))
 | [],_::_,hl,_=>by simp at hl
 |_::_,[],hl,_=>by simp at hl
section
variable {X:Cx}
theorem xy (hc:X.calm=true):ic X (.type "list") (λxs H Q=>∃(a:Addr) (kvs:List (Key×V)),xs=[V.ref a]/\H a=some (.dK kvs)/\∀l,H l=none->Q (.ref l) (upd H l (.lst (kvs.map λkv=>kV kv.1)))):=by
 intro pins s Z H xs us Q I r h
 obtain⟨a,kvs,rfl,ha,q⟩:=h
 obtain⟨u,rfl,ru⟩:=vals1 r
 cases ru
 obtain⟨z,hd,vs,rel,dd⟩:=lJ I.hok ha
 obtain⟨o,es,ep,eo,c,d,r'⟩:=dd
 have hl:=rel.length
 refine W.kdl_call (W.kdl_dict (knd:=b7 X.prog X.w) (kvs:=vs) (ep:=ep) hd) (I.ok.hd hc) ⟨o,es,eo,c,d,r'⟩ (by rw[← hl];exact z) λh' tk acc' c' hk hD hacc=>?_
 have hv:Vals (kvs.map λkv=>kV kv.1) acc'.toList:=by
  refine o5 (by have:=hacc.1;simp only[List.length_map,Array.length_toList];lia) λj x u e1 e2=>?_
  obtain⟨k,y,f1,f2⟩:=hacc.2 j u (by rw[← Array.getElem?_toList];exact e2)
  rw[List.getElem?_map] at e1
  obtain⟨kv,g1,rfl⟩:=Option.map_eq_some_iff.mp e1
  have:=congrArg (λl:List Key=>l[j]?) rel.keys
  simp only[List.getElem?_map,g1,f1,Option.map_some] at this
  rw[Option.some.inj this]
  exact Dz f2
 exact⟨.ref s.heap.objs.size,_,I.laid (t':=tk) hk (Nat.le_refl _) (show cL X.prog X.w _ h' _ (.lst (kvs.map λkv=>kV kv.1)) from ⟨by rw[List.length_map];exact z,acc'.toList,c',hv,by rw[Array.toArray_toList];exact hD⟩),rfl,q _ (I.hok.fresh (Nat.le_refl _))⟩
end
def HL{α:Type}(lt:Nat->Nat->Bool):W.KasT α->α
 |.ret a=>a
 |.ask i j k=>HL lt (k (lt i j))
def d9{α:Type}(n:Nat)(P:α->Prop):W.KasT α->Prop
 |.ret a=>P a
 |.ask i j k=>i<n/\j<n/\∀b,d9 n P (k b)
theorem d9.ev{α:Type}{n:Nat}{P:α->Prop}{lt:Nat->Nat->Bool}:∀{t:W.KasT α},d9 n P t->P (HL lt t)
 |.ret _,h=>h
 |.ask i j k,h=>d9.ev (t:=k (lt i j)) (h.2.2 _)
theorem d9.bind{α β:Type}{n:Nat}{P:α->Prop}{P':β->Prop}{f:α->W.KasT β}:∀{t:W.KasT α},d9 n P t->(∀a,P a->d9 n P' (f a))->d9 n P' (t.bind f)
 |.ret _,h,g=>g _ h
 |.ask _ _ k,h,g=>⟨h.1,h.2.1,λb=>d9.bind (t:=k b) (h.2.2 b) g⟩
def eT(n:Nat)(p:Array Nat):Prop:=p.toList.Perm (List.range n)
theorem eT.lt{n:Nat}{p:Array Nat}(h:eT n p)(hn:0<n)(k:Nat):p.getD k 0<n:=by
 by_cases hk:k<p.size
 ·have e:p.getD k 0=p[k]:=by simp[Array.getD,hk]
  rw[e]
  have:p[k]∈p.toList:=by simp
  exact List.mem_range.mp (h.mem_iff.mp this)
 ·have e:p.getD k 0=0:=by simp[Array.getD,hk]
  rw[e];exact hn
theorem eT.to{n:Nat}{p q:Array Nat}(h:eT n p)(e:q.Perm p):eT n q:=(Array.perm_iff_toList_perm.mp e).trans h
theorem qw{n:Nat}(hn:0<n){p:Array Nat}(h:eT n p):∀(f m:Nat),d9 n (λ_=>True) (W.kas_asc p f m)
 |0,_=>trivial
 |f+1,m=>⟨h.lt hn _,h.lt hn _,λb=>by
  cases b with
  |true=>exact trivial
  |false=>exact qw hn h f (m+1)⟩
theorem kM{n:Nat}{p:Array Nat}(h:eT n p)(i j:Nat):eT n (W.kas_rev p i j):=h.to (mirror_perm _ _ _ _)
theorem kX{n:Nat}(hn:0<n):∀(f:Nat) (p:Array Nat) (m q:Nat),eT n p->d9 n (λr=>eT n r.1) (W.kas_desc f p m q)
 |0,_,_,_,h=>h
 |f+1,p,m,q,h=>⟨h.lt hn _,h.lt hn _,λb=>by
  cases b with
  |true=>
   show d9 n _ (if q>0 then W.kas_desc f (W.kas_rev p (m-(q+1)) m) (m+1) 0 else W.kas_desc f p (m+1) 0)
   split
   ·exact kX hn f _ _ _ (kM h _ _)
   ·exact kX hn f _ _ _ h
  |false=>exact⟨h.lt hn _,h.lt hn _,λd=>by
    cases d with
    |true=>exact h
    |false=>exact kX hn f _ _ _ h⟩⟩
theorem rY{n:Nat}(hn:0<n)(m k:Nat){p:Array Nat}(h:eT n p):d9 n (λr=>eT n r.2) (W.kas_tail3 m k p) :=
 d9.bind (qw hn (kM h 0 m) _ _) λ_ _=>kM h 0 m
theorem lB{n:Nat}(hn:0<n)(m k:Nat){p:Array Nat}(h:eT n p):d9 n (λr=>eT n r.2) (W.kas_descPart m k p) :=
 d9.bind (kX hn _ _ _ _ h) λr hr=>by
  split
  ·exact rY hn _ _ (kM hr _ _)
  ·exact rY hn _ _ hr
theorem yp{n:Nat}(hn:0<n)(k:Nat){p:Array Nat}(h:eT n p):d9 n (λr=>eT n r.2) (W.kas_count k p) :=
 d9.bind (qw hn h _ _) λm _=>by
  split
  ·exact h
  ·split
   ·exact⟨h.lt hn _,h.lt hn _,λb=>by
     cases b with
     |true=>exact h
     |false=>exact lB hn _ _ (kM h _ _)⟩
   ·exact lB hn _ _ h
theorem lR{n:Nat}(hn:0<n){p:Array Nat}(h:eT n p)(k:Nat):∀(f l r:Nat),d9 n (λ_=>True) (W.kas_place p k f l r)
 |0,_,_=>trivial
 |f+1,l,r=>by
  show d9 n _ (if l ≥ r then _ else _)
  split
  ·exact trivial
  ·exact⟨h.lt hn _,h.lt hn _,λb=>by
    cases b with
    |true=>exact lR hn h k f _ _
    |false=>exact lR hn h k f _ _⟩
theorem vA{n:Nat}(hn:0<n):∀(f:Nat) (p:Array Nat) (k:Nat),eT n p->d9 n (eT n) (W.kas_bin f p k)
 |0,_,_,h=>h
 |f+1,p,k,h=>d9.bind (lR hn h k _ _ _) λl _=>vA hn f _ _ (h.to (bubble_perm _ _ _))
theorem nC{n:Nat}(hn:0<n):d9 n (eT n) (W.kas_sort n) :=
 d9.bind (yp hn n (p:=List.toArray (List.range n)) (by show (List.toArray (List.range n)).toList.Perm _;rw[List.toList_toArray])) λr hr=>by
  split
  ·exact vA hn _ _ _ hr
  ·exact hr
def Hv (names:List Str) (i j:Nat):Bool:=decide ((names.getD i "").cps.toList<(names.getD j "").cps.toList)
def dD (names:List Str):List Str:=if names.length<2 then names else (HL (Hv names) (W.kas_sort names.length)).toList.map λi=>names.getD i ""
theorem dR(names:List Str):(dD names).Perm names:=by
 unfold dD
 split
 ·exact .refl _
 ·have h:eT names.length (HL (Hv names) (W.kas_sort names.length)):=(nC (by lia)).ev
  have h2:((HL (Hv names) (W.kas_sort names.length)).toList.map λi=>names.getD i "").Perm ((List.range names.length).map λi=>names.getD i ""):=h.map _
  have e:((List.range names.length).map λi=>names.getD i "")=names:=by
   refine List.ext_getElem? λj=>?_
   rw[List.getElem?_map]
   by_cases hj:j<names.length
   ·rw[List.getElem?_range hj]
    simp[hj]
   ·rw[List.getElem?_eq_none (by rw[List.length_range];lia),List.getElem?_eq_none (by lia)]
    rfl
  rw[e] at h2
  exact h2
section
variable {prog:Program}{w:World}{A:Around}{E:Value->Shared->Prop}
theorem FQ{α:Type}{vs:List Value}{names:List Str}(hv:∀(j:Nat) x,names[j]?=some x->∃t,vs[j]?=some (Value.str x t)){P:α->Prop}:∀{t:W.KasT α} {Q:α->Shared->Prop} {s:Shared},d9 names.length P t->Q (HL (Hv names) t) s->t.kasWp (W.kas_ask prog w A oneType' vs) Q s
 |.ret _,_,_,_,h=>h
 |.ask i j k,Q,s,g,h=>by
  obtain⟨g1,g2,g3⟩:=g
  have ei:names[i]?=some names[i]:=List.getElem?_eq_getElem g1
  have ej:names[j]?=some names[j]:=List.getElem?_eq_getElem g2
  obtain⟨t1,f1⟩:=hv i _ ei
  obtain⟨t2,f2⟩:=hv j _ ej
  show wpAny _ _ (keyLt' oneType' (vs.getD i Value.none) (vs.getD j Value.none)) _ _ s
  rw[List.getD_eq_getElem?_getD,List.getD_eq_getElem?_getD,f1,f2]
  refine W.kas_lt_str ?_
  have e:decide ((names[i]).cps.toList<(names[j]).cps.toList)=Hv names i j:=by
   unfold Hv
   rw[List.getD_eq_getElem?_getD,List.getD_eq_getElem?_getD,ei,ej]
   rfl
  rw[e]
  exact FQ hv (g3 _) h
theorem yE {s:Shared} {a:Addr} {vs:List Value} {n:Nat} {P:PySem.Fin->Shared->Prop} (ho:s.heap.get? a=some (seqObj "list" vs.toArray n)) (h2:vs.length<2)
  (h:∀h' c,h'.get? a=some (seqObj "list" vs.toArray c)->(∀b o,b≠a->s.heap.get? b=some o->h'.get? b=some o)->P (.done (.ret .none)) { s with heap:=h' }) :
  wpAny (model prog w) A (Builtin.«list.sort» ⟨[.ref a],[]⟩) P E s:=by
 have s1:=Heap.SameBut.update s.heap a (Obj.mapSeq λ_=>(#[]:Array Value))
 obtain⟨e1,ho1⟩:∃e1,(s.heap.update a (Obj.mapSeq λ_=>(#[]:Array Value))).get? a=some (seqObj "list" #[] e1):=⟨_,get?_update_seq ho λ_=>#[]⟩
 have zs:vs.length<=sizeLine:=by rw[sizeLine_eq];lia
 rw[list_sort_plain]
 refine wpAny_bind (listItems_at ho rfl ?_)
 refine wpAny_bind (listUpdate_at ho rfl ?_ (by rw[List.size_toArray];lia) (Nat.zero_le _))
 refine wpAny_bind (seqEpoch_at ho1 rfl ?_)
 refine wpAny_bind (wpAny_newTuple ?_ (by show vs.length<=_;exact zs))
 refine wpAny_bind (wpAny_newList ?_ (Nat.zero_le _))
 refine wpAny_holding ?_
 dsimp only
 have hn2:vs.toArray.size<2:=by rw[List.size_toArray];exact h2
 rw[if_pos hn2,if_pos hn2]
 refine wpAny_bind (wpAny_pure ?_)
 refine wpAny_bind (wpAny_pure ?_)
 have ho2:=Heap.get?_push_of_some (seqObj "list" #[] 0) (Heap.get?_push_of_some (seqObj "tuple" vs.toArray 0) ho1)
 refine wpAny_bind (seqEpoch_at ho2 rfl ?_)
 have eo:(arrOf (SortSt.mk' general' (vs.toArray.zip vs.toArray) #[] 7 none)).map (·.2)=vs.toArray:=by
  show (vs.toArray.zip vs.toArray).map (·.2)=vs.toArray
  apply Array.toList_inj.mp
  rw[Array.toList_map,Array.toList_zip]
  simp[List.map_snd_zip]
 dsimp only
 rw[eo]
 refine wpAny_bind (listUpdate_at ho2 rfl ?_ (Nat.zero_le _) (by rw[List.size_toArray];lia))
 show wpAny _ _ (if _ then _ else _) _ _ _
 simp only[bne_self_eq_false,Bool.false_eq_true,if_false]
 obtain⟨c2,hc2⟩:∃c2,((((s.heap.update a (Obj.mapSeq λ_=>(#[]:Array Value))).push (seqObj "tuple" vs.toArray 0)).push (seqObj "list" #[] 0)).update a (Obj.mapSeq λ_=>vs.toArray)).get? a=some (seqObj "list" vs.toArray c2):=⟨_,get?_update_seq ho2 λ_=>vs.toArray⟩
 refine wpAny_pure (h _ c2 hc2 λb o hb e=>?_)
 exact((Heap.SameBut.update _ a _).2 b hb).trans (Heap.get?_push_of_some _ (Heap.get?_push_of_some _ ((s1.2 b hb).trans e)))
end
section
variable {X:Cx}
theorem Inv.AY{pins:List (Addr×Obj)}{Z:St}{H:Hp}{s:Shared}{h2:Heap}{m:Str->Option Value}{t':Nat}{D:Addr}{ys:List V}(I:Inv X pins Z H s)(hns:s.heap.Ns X.env.locals m)(F2:h2.Ns X.env.locals m)(kp2:∀c o,c≠X.env.locals->s.heap.get? c=some o->h2.get? c=some o)
  (hD0:s.heap.get? D=none) (new:∀H',cL X.prog X.w H' h2 D (.lst ys)):Inv X pins Z (upd H D (.lst ys)) { s with heap:=h2,toks:=t' }:=by
 have fD:H D=none:=I.hok.new hD0
 have nDb:∀{b u},H b=some u->b≠D:=λ{b u} e z=>by rw[z,fD] at e;cases e
 refine I.step (g':=s.gens) (d':=s.drawn) (t':=t') (ch:=[]) (H':=upd H D (.lst ys)) (h':=h2) (λb hb=>by cases hb) (λb o n _ _ e _=>kp2 b o n e) (λb o n _ _ e _=>⟨o.slots,kp2 b o n e⟩) (λb o _ e n=>?_) (λb o _ e=>?_) (λb xs e=>by rw[ak (nDb e)];exact e) (λb o u e=>by rw[ak (nDb e)];exact e) (λb ps e=>⟨#[],by rw[ak (nDb e),e];simp⟩) (λm' hm'=>?_) (λb u e=>?_) I.bare
 ·rw[ak (λz=>?_)];exact n
  rw[z] at e
  rw[hD0] at e;cases e
 ·by_cases z:b=X.env.locals
  ·obtain⟨oL,es,ep,eL,_⟩:=F2
   exact⟨oL,by rw[z];exact eL⟩
  ·exact⟨o,kp2 b o z e⟩
 ·have em:m'=m:=by
   obtain⟨o1,es1,ep1,a1,d1,_,r1⟩:=hm'
   obtain⟨o2,es2,ep2,a2,d2,_,r2⟩:=hns
   rw[a1] at a2
   cases a2
   rw[d1] at d2
   cases d2
   funext n
   rw[← r1,← r2]
  rw[em];exact F2
 ·by_cases z:b=D
  ·rw[z,af] at e
   cases e
   rw[z]
   exact new _
  ·rw[ak z] at e
   refine(I.hok b u e).stay (λc v hc q=>kp2 c v (λy=>?_) q) (λc hc=>by rw[ak (nDb hc)];exact hc) (λc xs hc=>by rw[ak (nDb hc)];exact hc)
   have fL:=I.free
   rcases hc with hc|hc
   ·rw[← hc,y,fL] at e;cases e
   ·rw[y,fL] at hc;cases hc
def Om:List V->Hp->VK->Prop:=λxs H Q=>∃(a:Addr) (kvs:List (Key×V)) (names:List Str),xs=[.ref a]/\H a=some (.dK kvs)/\kvs.map (·.1)=names.map Sum.inr/\names.length<64/\∀l,H l=none->Q (.ref l) (upd H l (.lst ((dD names).map V.str)))
theorem ni (hc:X.calm=true):ic X (.builtin "sorted") Om:=by
 intro pins s Z H xs us Q I r h
 obtain⟨a,kvs,names,rfl,ha,hk,hn,q⟩:=h
 obtain⟨u,rfl,ru⟩:=vals1 r
 cases ru
 obtain⟨z,hd,vs,rel,dd⟩:=lJ I.hok ha
 obtain⟨o,es,ep,eo,c,d,r'⟩:=dd
 have hl:=rel.length
 have hnl:names.length=kvs.length:=by have:=congrArg List.length hk;simpa using this.symm
 obtain⟨m,hns,_⟩:=id I.loc
 refine W.kdu_sorted (h₀:=Att.jc s.heap) (L:=X.env.locals) (m:=m) (news:=kZ (Att.jc s.heap) s.heap X.env.locals) (W.kdl_dict (knd:=b7 X.prog X.w) (kvs:=vs) (ep:=ep) hd) (I.ok.hd hc) (Att.yT hns) qy ⟨o,es,eo,c,d,r'⟩ (by rw[← hl];exact z) λD h' tk ws F N hlt hwl hP=>?_
 have hw:∀(j:Nat) x,names[j]?=some x->∃t,ws[j]?=some (Value.str x t):=λj x e=>by
  have hj:=(List.getElem?_eq_some_iff.mp e).1
  have hj2:j<ws.length:=by lia
  have ew:ws[j]?=some ws[j]:=List.getElem?_eq_getElem hj2
  obtain⟨k,y,f1,f2⟩:=hP j _ ew
  have:=congrArg (λl:List Key=>l[j]?) (hk.symm.trans rel.keys)
  simp only[List.getElem?_map,e,f1,Option.map_some] at this
  have ek:(Sum.inr x:Key)=k:=Option.some.inj this
  subst ek
  obtain⟨t,ht⟩:=(show ∃t,ws[j]=Value.str x t from Dz f2)
  exact⟨t,by rw[ew,ht]⟩
 have hwm:∀v∈ws,∃x t,v=Value.str x t:=λv hv=>by
  obtain⟨j,hj⟩:=List.mem_iff_getElem?.mp hv
  have hj1:=(List.getElem?_eq_some_iff.mp hj).1
  have e:names[j]?=some (names[j]'(by lia)):=List.getElem?_eq_getElem _
  obtain⟨t,ht⟩:=hw j _ e
  rw[hj] at ht
  exact⟨_,t,Option.some.inj ht⟩
 have nD:=(N (D,_) (List.mem_cons_self ..)).2.1
 have hD0:s.heap.get? D=none:=by
  cases e:s.heap.get? D with
  |none=>rfl
  |some o=>exact absurd (hlt (D,o) (e9 nD (Att.eV _ _) e)) (Nat.lt_irrefl _)
 have hz:((dD names).map V.str).length<=sizeLine:=by
  rw[List.length_map,(dR names).length_eq,sizeLine_eq];lia
 have fin:∀(h2:Heap) (out:List Value) (c2:Nat),h2.Ns X.env.locals m->(∀c o,c≠X.env.locals->s.heap.get? c=some o->h2.get? c=some o)->h2.get? D=some (seqObj "list" out.toArray c2)->Vals ((dD names).map V.str) out->EP X pins Z Q (Value.ref D) { s with heap:=h2,toks:=tk }:=λh2 out c2 f1 f2 f3 f4=>
  ⟨.ref D,_,I.AY hns f1 f2 hD0 (λH'=>⟨hz,out,c2,f4,f3⟩),rfl,q D (I.hok.new hD0)⟩
 by_cases h2:ws.length<2
 ·have hD:=(N (D,_) (List.mem_cons_self ..)).1
  refine wpAny_call_entry slot_list_sort ⟨_,hD,rfl⟩ entry_list_sort (yE (s:={ s with heap:=h',toks:=tk }) hD h2 λh3 c3 g1 g2=>⟨_,rfl,?_⟩) (args_list_sort _)
  refine fin h3 ws c3 (F.ns.at' λoo e=>g2 _ _ (Ne.symm nD) e) (λcc oo n e=>?_) g1 ?_
  ·have e1:=(N (cc,oo) (List.mem_cons_of_mem _ (e9 n (Att.eV _ _) e))).1
   exact g2 _ _ (λy=>by rw[y,hD0] at e;cases e) e1
  ·have es:dD names=names:=by unfold dD;rw[if_pos (by lia)]
   rw[es]
   refine o5 (by rw[List.length_map];lia) λj x u e1 e2=>?_
   rw[List.getElem?_map] at e1
   obtain⟨y,g3,rfl⟩:=Option.map_eq_some_iff.mp e1
   obtain⟨t,ht⟩:=hw j y g3
   rw[e2] at ht
   exact⟨t,Option.some.inj ht⟩
 ·have he:names.length=ws.length:=by lia
  refine W.kas_lsort (s:={ s with heap:=h',toks:=tk }) (T:=.type "str") (vs:=ws) F N (W.UpdF.head λqq hq=>Nat.ne_of_lt (hlt qq hq)) (by simp) (by lia) (by lia) (λe1 h _ _ v hv=>?_) (by decide) (λe1 h3 F3 N3=>?_)
  ·obtain⟨x,t,rfl⟩:=hwm v hv
   exact λA' Q' E' s' _ h=>wpAny_pure h
  ·rw[← he]
   refine FQ (P:=eT names.length) hw (nC (by lia)) ?_
   have hp:eT names.length (HL (Hv names) (W.kas_sort names.length)):=(nC (by lia)).ev
   refine W.KasFin.intro F3 N3 (W.UpdF.head λqq hq=>Nat.ne_of_lt (hlt qq hq)) (λh4 c4 F4 N4=>?_)
   refine fin h4 _ c4 F4.ns (λcc oo n e=>(N4 (cc,oo) (List.mem_cons_of_mem _ (e9 n (Att.eV _ _) e))).1) (N4 (D,_) (List.mem_cons_self ..)).1 ?_
   have es:dD names=(HL (Hv names) (W.kas_sort names.length)).toList.map λi=>names.getD i "" := by unfold dD;rw[if_neg (by lia)]
   rw[es]
   refine o5 (by simp) λj x u e1 e2=>?_
   rw[List.getElem?_map,List.getElem?_map] at e1
   rw[List.getElem?_map] at e2
   cases g:(HL (Hv names) (W.kas_sort names.length)).toList[j]? with
   |none=>rw[g] at e2;cases e2
   |some i=>
    rw[g] at e1 e2
    have hi:i<names.length:=List.mem_range.mp (hp.mem_iff.mp (List.mem_of_getElem? g))
    have ei:names[i]?=some names[i]:=List.getElem?_eq_getElem hi
    obtain⟨t,ht⟩:=hw i _ ei
    simp only[Option.map_some,Option.some.injEq] at e1 e2
    rw[List.getD_eq_getElem?_getD,ei] at e1
    rw[List.getD_eq_getElem?_getD,ht] at e2
    subst e1 e2
    exact⟨t,rfl⟩
end
end L2
namespace L2
open PySem PySem.Spec PyProof.Rows
section
variable {X:Cx}
theorem zq{pins:List (Addr×Obj)}{Z:St}{H:Hp}{s:Shared}{A:Around}(I:Inv X pins Z H s)(hu:A.units+1<cLine){kb:List (Key×V)}{vb:List (Key×Value)}(rb:KV kb vb) :
  ∀{ka:List (Key×V)} {va:List (Key×Value)},KV ka va->(∀kv∈ka,∃v',dU kb kv.1=some v'/\nV X.K H 1 kv.2 v')->W.KeqHits A s vb va true:=by
 intro ka va r
 unfold KV at r
 induction r with
 |nil=>intro _;exact .nil
 | @cons p q ps qs h t ih=>
  intro hh
  obtain⟨v',e1,e2⟩:=hh p (List.mem_cons_self ..)
  obtain⟨w',hw,rw'⟩:=jm.some_of (v:=v') (o:=valueAt vb p.1) (by rw[← e1];exact rb.val p.1)
  obtain⟨qk,qv⟩:=q
  have ek:p.1=qk:=h.1
  subst ek
  exact W.KeqHits.hit (e:=true) (b:=true) hw (tP I 1 A _ _ _ _ hu h.2 rw' e2) (ih λkv hk=>hh kv (List.mem_cons_of_mem _ hk))
def yR(K:PySem.W.Frag)(H:Hp)(a b:Addr):Prop:=∃ka kb:List (Key×V),H a=some (.dK ka)/\H b=some (.dK kb)/\ka.length=kb.length/\∀kv∈ka,∃v',dU kb kv.1=some v'/\nV K H 1 kv.2 v'
def SH(K:PySem.W.Frag):R2:=λx y H Q=>∃a b,x=.ref a/\y=.ref b/\yR K H a b/\Q (.bl true) H
def Sv(K:PySem.W.Frag):R2:=λx y H Q=>∃a b,x=.ref a/\y=.ref b/\yR K H a b/\Q (.bl false) H
theorem II(hu:X.A.units+4<cLine):lA X (compareOp .Eq) (SH X.K):=by
 intro pins s Z H x y v u Q I rx ry h
 obtain⟨a,b,rfl,rfl,⟨ka,kb,ha,hb,hl,hh⟩,q⟩:=h
 cases rx
 cases ry
 obtain⟨z1,m1,va,r1,d1⟩:=lJ I.hok ha
 obtain⟨z2,m2,vb,r2,d2⟩:=lJ I.hok hb
 have el:(va.length == vb.length && true)=true:=by rw[← r1.length,← r2.length,hl];simp
 refine W.keq_eq (r:=true) m1 m2 d1 d2 (by lia) (λ_=>zq I (by show X.A.units+1+1<cLine;lia) r2 r1 hh) ?_
 rw[el]
 exact⟨.bl true,H,I,rfl,q⟩
theorem HS(hu:X.A.units+4<cLine):lA X (compareOp .NotEq) (Sv X.K):=by
 intro pins s Z H x y v u Q I rx ry h
 obtain⟨a,b,rfl,rfl,⟨ka,kb,ha,hb,hl,hh⟩,q⟩:=h
 cases rx
 cases ry
 obtain⟨z1,m1,va,r1,d1⟩:=lJ I.hok ha
 obtain⟨z2,m2,vb,r2,d2⟩:=lJ I.hok hb
 have el:(!(va.length == vb.length && true))=false:=by rw[← r1.length,← r2.length,hl];simp
 refine W.keq_ne (r:=true) m1 m2 d1 d2 (by lia) (λ_=>zq I (by show X.A.units+1+1<cLine;lia) r2 r1 hh) ?_
 rw[el]
 exact⟨.bl false,H,I,rfl,q⟩
def Rw(a b:Str):Nat:=(Builtin.Str.occurrences a b 0 a.length (a.length+1)).length
def MV:V->List V->Hp->VK->Prop:=λx vs H Q=>∃a b,x=.str a/\vs=[.str b]/\Q (.int (Rw a b)) H
theorem Dq:Qc X "str.count" MV:=by
 intro pins s Z H x vs v us Q I rx rv h
 obtain⟨a,b,rfl,rfl,q⟩:=h
 obtain⟨t,rfl⟩:=rx
 obtain⟨u,rfl,ru⟩:=rv.one
 obtain⟨t1,rfl⟩:=ru
 exact call_gives F.slot_str_count (typeIs_str _ _ _) F.entry_str_count (F.args_str_count_2 _ _) (gives_str_count a b t t1) ⟨.int _,H,I.tok _,⟨_,rfl⟩,q⟩
end
end L2
namespace L2
open PySem PySem.Spec PyProof.Rows
section
variable {X:Cx}
theorem Inv.M3{pins:List (Addr×Obj)}{Z:St}{H:Hp}{s:Shared}{h':Heap}{m:Str->Option Value}{t':Nat}(I:Inv X pins Z H s)(hns:s.heap.Ns X.env.locals m)(F:h'.Ns X.env.locals m)(kp:∀c o,c≠X.env.locals->s.heap.get? c=some o->h'.get? c=some o):Inv X pins Z H { s with heap:=h',toks:=t' }:=by
 refine I.step (g':=s.gens) (d':=s.drawn) (t':=t') (ch:=[]) (H':=H) (h':=h') (λb hb=>by cases hb) (λb o n _ _ e _=>kp b o n e) (λb o n _ _ e _=>⟨o.slots,kp b o n e⟩) (λb o _ e n=>n) (λb o _ e=>?_) (λb xs e=>e) (λb o u e=>e) (λb ps e=>⟨#[],by rw[e];simp⟩) (λm' hm'=>?_) (λb u e=>?_) I.bare
 ·by_cases z:b=X.env.locals
  ·obtain⟨oL,es,ep,eL,_⟩:=F
   exact⟨oL,by rw[z];exact eL⟩
  ·exact⟨o,kp b o z e⟩
 ·have em:m'=m:=by
   obtain⟨o1,es1,ep1,a1,d1,_,r1⟩:=hm'
   obtain⟨o2,es2,ep2,a2,d2,_,r2⟩:=hns
   rw[a1] at a2
   cases a2
   rw[d1] at d2
   cases d2
   funext n
   rw[← r1,← r2]
  rw[em];exact F
 ·refine(I.hok b u e).stay (λc v hc q=>kp c v (λy=>?_) q) (λc hc=>hc) (λc xs hc=>hc)
  have fL:=I.free
  rcases hc with hc|hc
  ·rw[← hc,y,fL] at e;cases e
  ·rw[y,fL] at hc;cases hc
theorem zg:∀{ns:List Int} {vs:List Value},Vals (ns.map V.int) vs->IntsAre vs ns
 | [],_,.nil=>.nil
 |n::ns,_,.cons r h=>by
  obtain⟨t,rfl⟩:=r
  exact .cons n t (zg h)
theorem De (hc:X.calm=true):ic X (.builtin "sum") (λxs H Q=>∃(p:Addr) (ns:List Int),xs=[.ref p]/\bg X.K H p (ns.map V.int)/\Q (.int ns.sum) H):=by
 intro pins s Z H xs us Q I r h
 obtain⟨p,ns,rfl,hp,q⟩:=h
 obtain⟨u,rfl,rx⟩:=vals1 r
 cases rx
 obtain⟨its,r',pl,hz⟩:=I.list hp
 obtain⟨m,hns,_⟩:=id I.loc
 refine LSm.sum_ints (h₀:=Att.jc s.heap) (L:=X.env.locals) (m:=m) (news:=kZ (Att.jc s.heap) s.heap X.env.locals) (Att.yT hns) qy (I.ok.hd hc) pl.isList (zg r') (λh' tk t' F N=>?_)
 exact⟨.int ns.sum,H,I.M3 (t':=tk) hns F.ns (λc o n e=>(N (c,o) (e9 n (Att.eV _ _) e)).1),⟨_,rfl⟩,q⟩
end
end L2
namespace L2
open PySem PySem.Spec PyProof.Rows
section
variable {X:Cx}{a b:PySem.Expr}{ta tb:TE}{pos:Pos}{rest:List PySem.Expr}
theorem Pj{d:V}(ha:PE X a ta)(hb:PE X (.BoolOp .Or (b::rest) pos) (λ_ H Q=>Q d H)):PE X (.BoolOp .Or (a::b::rest) pos) (λZ H Q=>ta Z H λx H1=>∃y,(∃k,Hz X.K x H1 k/\y=if k=true then x else d)/\Q y H1):=by
 intro pins s Z H Q I h
 refine BoolOp_or (cU (ha pins s Z H _ I h) λv s1  hZ=>?_)
 obtain⟨x,H1,I1,r1,q1⟩:=hZ
 obtain⟨y,⟨k,hk,rfl⟩,q1⟩:=q1
 refine cU (CQ pins s1 Z H1 x v (λc H2=>c=k/\H2=H1) I1 r1 ⟨k,hk,rfl,rfl⟩) λc s2 z=>?_
 obtain⟨H2,I2,e1,e2⟩:=z
 subst e1
 subst e2
 cases c with
 |false=>exact hb pins s2 Z H2 Q I2 q1
 |true=>exact⟨x,H2,I2,r1,q1⟩
end
end L2
namespace L2
open PySem
theorem fS.m{j k:Nat}{A:Around}(r:fS k A)(h:autoParam (j<=k) L2.Y1._auto_1):fS j A:=r.mono h
theorem cS{X:Cx}(i:Nat){x:Str}{e:Expr}{te:TE}{pos' pos:Pos}{P:List Str}{sc:Scope}(S:aC X.N P sc)(he:PE X e te)(hi:autoParam (X.N[i]?=some x) L2.Y3._auto_1)(hx:autoParam (Loc X.env.scope x) L2.Y4._auto_1)(hs:autoParam (swapsWith e (some (.Name x pos')) pos.line X.env=pure false) L2.Y3._auto_1)(hf:autoParam (X.fn x=true∨X.env.scope.names.lookup x=some .local) L2.Y0._auto_1):PS X (.Assign [.Name x pos'] e pos) (Gj te (oz i)):=uz S.nd hi hx he hs hf
theorem oO{X:Cx}(i:Nat){x:Str}{pos:Pos}{P:List Str}{sc:Scope}(S:aC X.N P sc)(hi:autoParam (X.N[i]?=some x) L2.Y3._auto_1)(hx:autoParam (Loc X.env.scope x) L2.Y4._auto_1)(hf:autoParam (X.fn x=true∨X.env.scope.names.lookup x=some .local) L2.Y0._auto_1):PG X (.Name x pos) (oz i):=oY S.nd hi hx hf
end L2
namespace K62
open PySem L2
set_option hygiene false
local macro_rules | `(tactic| walk_at "i")=>`(tactic| refine ⟨rfl,λ_ _ _ _ hr=>zl ?_⟩)
local macro_rules | `(tactic| walk_at "0")=>`(tactic| (intro _ _ _ _ _ _ us hl;obtain rfl:=ls0 hl;rfl))
local macro_rules | `(tactic| walk_at "1")=>`(tactic| (intro _ _ _ _ _ _ us hl;obtain ⟨_,rfl⟩:=ls1 hl;rfl))
local macro_rules | `(tactic| walk_at "2")=>`(tactic| (intro _ _ _ _ _ _ us hl;obtain ⟨_,_,rfl⟩:=KI hl;rfl))
local macro_rules | `(tactic| walk_at "3")=>`(tactic| (intro _ _ _ _ _ _ us hl;obtain ⟨_,_,_,rfl⟩:=ls3 hl;rfl))
local macro_rules | `(tactic| walk_at "4")=>`(tactic| (intro _ _ _ _ _ _ us hl;obtain ⟨_,_,_,_,rfl⟩:=ls4 hl;rfl))
local macro_rules | `(tactic| walk_at "5")=>`(tactic| (intro _ _ _ _ _ _ us hl;obtain ⟨_,_,_,_,_,rfl⟩:=ls5 hl;rfl))
local macro_rules | `(tactic| walk_at "6")=>`(tactic| (intro _ _ _ _ _ _ us hl;obtain ⟨_,_,_,_,_,_,rfl⟩:=ls6 hl;rfl))
local macro_rules | `(tactic| left)=>`(tactic| walk_at "u")
local macro_rules | `(tactic| walk_at "sc")=>`(tactic| exact ⟨rfl,rfl,rfl,by decide +kernel,rfl,by decide +kernel,by decide +kernel⟩)
noncomputable def top(i:Nat):Stmt:=PySem.Challenge.pw_tintrow_k62_marks_of_a_hand.main.body.getD i (.Pass ⟨0,0,0,0⟩)
noncomputable abbrev ac1 (i j:Nat):Stmt:=inClass (top i) j
theorem NG:aC ["word"] ["word"] (av (top 11)):=by walk_at "sc"
theorem Na:aC ["self","pattern","colour","deed","goal","fold"] ["self","pattern","colour","deed","goal","fold"] (av (ac1 12 0)):=by walk_at "sc"
theorem PV:aC ["self","name","colour","rules"] ["self","name","colour","rules"] (av (ac1 13 0)):=by walk_at "sc"
theorem Qj:aC ["self","modes"] ["self","modes"] (av (ac1 14 0)):=by walk_at "sc"
theorem Oo:aC ["rules"] ["rules"] (av (top 15)):=by walk_at "sc"
theorem Ol:aC ["mode"] ["mode"] (av (top 16)):=by walk_at "sc"
theorem NZ:aC ["rule"] ["rule"] (av (top 17)):=by walk_at "sc"
theorem N7:aC ["self"] ["self"] (av (ac1 19 1)):=by walk_at "sc"
theorem O6:aC ["self","text"] ["self","text"] (av (ac1 20 0)):=by walk_at "sc"
theorem MX:aC ["self","row","at"] ["self","row","at"] (av (ac1 20 1)):=by walk_at "sc"
theorem Mr:aC ["self"] ["self"] (av (ac1 20 2)):=by walk_at "sc"
theorem OE:aC ["self","signs"] ["self","signs"] (av (ac1 21 0)):=by walk_at "sc"
theorem MB:aC ["self","row","at"] ["self","row","at"] (av (ac1 21 1)):=by walk_at "sc"
theorem MO:aC ["self"] ["self"] (av (ac1 21 2)):=by walk_at "sc"
theorem Pp:aC ["self","signs"] ["self","signs"] (av (ac1 22 0)):=by walk_at "sc"
theorem Qp:aC ["self","row","at"] ["self","row","at"] (av (ac1 22 1)):=by walk_at "sc"
theorem Pf:aC ["self"] ["self"] (av (ac1 22 2)):=by walk_at "sc"
theorem PM:aC ["self","signs"] ["self","signs"] (av (ac1 23 0)):=by walk_at "sc"
theorem yI:aC ["self","row","at","end"] ["self","row","at"] (av (ac1 23 1)):=by walk_at "sc"
theorem NB:aC ["self"] ["self"] (av (ac1 23 2)):=by walk_at "sc"
theorem Ry:aC ["self","row","at"] ["self","row","at"] (av (ac1 24 0)):=by walk_at "sc"
theorem Q2:aC ["self"] ["self"] (av (ac1 24 1)):=by walk_at "sc"
theorem M5:aC ["self","row","at"] ["self","row","at"] (av (ac1 25 0)):=by walk_at "sc"
theorem NK:aC ["self","row","at"] ["self","row","at"] (av (ac1 26 0)):=by walk_at "sc"
theorem yS:aC ["rules","mode","row","at","number","rule"] ["rules","mode","row","at"] (av (top 29)):=by walk_at "sc"
theorem OY:aC ["modes","rule"] ["modes","rule"] (av (top 30)):=by walk_at "sc"
theorem Bv:aC ["rules","found"] ["rules"] (av (top 31)):=by walk_at "sc"
theorem pY:aC ["rules","row","first","ring"] ["rules"] (av (top 32)):=by walk_at "sc"
theorem Ql:aC [] [] (av (top 33)):=by walk_at "sc"
theorem qz:aC ["rules","first","row","ring","modes","rule"] ["rules","first","row"] (av (top 34)):=by walk_at "sc"
theorem xR:aC ["rules","mode","row","number","rule"] ["rules","mode","row"] (av (top 35)):=by walk_at "sc"
theorem j9:aC ["rules","modes","row","on","tints","marks","at","mode","number","rule"] ["rules","modes","row"] (av (top 37)):=by walk_at "sc"
theorem FP:aC ["self","rules","modes","row","told"] ["self","rules","modes","row"] (av (ac1 39 0)):=by walk_at "sc"
theorem Mv:aC ["self","rules","rows"] ["self","rules","rows"] (av (ac1 40 0)):=by walk_at "sc"
theorem Qu:aC ["self"] ["self"] (av (ac1 40 1)):=by walk_at "sc"
theorem T7:aC ["self","row"] ["self","row"] (av (ac1 40 2)):=by walk_at "sc"
theorem Ul:aC ["self","row"] ["self","row"] (av (ac1 40 3)):=by walk_at "sc"
theorem Uq:aC ["self","row"] ["self","row"] (av (ac1 40 4)):=by walk_at "sc"
theorem nW:aC ["self","row","many","rows","taken","ahead","back","first","changed"] ["self","row","many","rows"] (av (ac1 40 5)):=by walk_at "sc"
theorem Eo:aC ["self","row","at","text","signs"] ["self","row","at","text"] (av (ac1 40 6)):=by walk_at "sc"
theorem FU:aC ["self","row","at","row2","at2","left"] ["self","row","at","row2","at2"] (av (ac1 40 7)):=by walk_at "sc"
theorem qJ:aC ["self","modes","rows","gone_rows","row","gone"] ["self","modes","rows"] (av (ac1 40 9)):=by walk_at "sc"
theorem wZ:aC ["self","row","at"] ["self","row"] (av (ac1 40 10)):=by walk_at "sc"
theorem Mt:aC ["self","row"] ["self","row"] (av (ac1 40 11)):=by walk_at "sc"
theorem T9:aC ["self","row"] ["self","row"] (av (ac1 40 12)):=by walk_at "sc"
theorem NY:aC ["self","row"] ["self","row"] (av (ac1 40 13)):=by walk_at "sc"
theorem P1:aC ["self","row","at"] ["self","row","at"] (av (ac1 40 14)):=by walk_at "sc"
theorem Nj:aC ["self","row","at","row2","at2"] ["self","row","at","row2","at2"] (av (ac1 40 15)):=by walk_at "sc"
theorem Nq:aC ["self","row","many"] ["self","row","many"] (av (ac1 40 16)):=by walk_at "sc"
theorem p6:aC ["some","others","many","one","other"] ["some","others"] (av (top 41)):=by walk_at "sc"
theorem ND:aC ["some","others"] ["some","others"] (av (top 42)):=by walk_at "sc"
theorem Pe:aC ["self","row","taken","given","places"] ["self","row","taken","given","places"] (av (ac1 44 0)):=by walk_at "sc"
theorem Qh:aC ["self","rules","rows"] ["self","rules","rows"] (av (ac1 45 0)):=by walk_at "sc"
theorem Pu:aC ["self"] ["self"] (av (ac1 45 1)):=by walk_at "sc"
theorem Qm:aC ["self"] ["self"] (av (ac1 45 3)):=by walk_at "sc"
theorem Er:aC ["self","name","row","at","places"] ["self","name","row","at"] (av (ac1 45 4)):=by walk_at "sc"
theorem Fz:aC ["self","name","places"] ["self","name"] (av (ac1 45 5)):=by walk_at "sc"
theorem yQ:aC ["self","row","at","text","ahead","count"] ["self","row","at","text"] (av (ac1 45 6)):=by walk_at "sc"
theorem xE:aC ["self","row","at","row2","at2","ahead","count"] ["self","row","at","row2","at2"] (av (ac1 45 7)):=by walk_at "sc"
theorem GG:aC ["self","row","taken","many","given"] ["self","row","taken","many"] (av (ac1 45 8)):=by walk_at "sc"
theorem um:aC ["place","first","text","pieces","more","begin"] ["place","first","text"] (av (top 46)):=by walk_at "sc"
theorem Nu:aC ["place","first","second"] ["place","first","second"] (av (top 47)):=by walk_at "sc"
theorem Rf:aC ["self","row","text"] ["self","row","text"] (av (ac1 55 0)):=by walk_at "sc"
theorem R1:aC ["self"] ["self"] (av (ac1 55 1)):=by walk_at "sc"
theorem QX:aC ["self"] ["self"] (av (ac1 55 2)):=by walk_at "sc"
theorem SW:aC ["self","good"] ["self","good"] (av (ac1 55 3)):=by walk_at "sc"
theorem Jq:aC ["self","good","word"] ["self","good"] (av (ac1 55 4)):=by walk_at "sc"
theorem RP:aC ["self","words"] ["self","words"] (av (ac1 55 5)):=by walk_at "sc"
theorem Sz:aC ["self"] ["self"] (av (ac1 55 6)):=by walk_at "sc"
theorem Je:aC ["self","word"] ["self"] (av (ac1 55 7)):=by walk_at "sc"
theorem jD:aC ["text","rows","numbers","modes","nowhere","number","row","cursor","rules"] ["text"] (av (top 56)):=by walk_at "sc"
theorem ur:aC ["rows","numbers","row","words"] ["rows"] (av (top 57)):=by walk_at "sc"
theorem xu:aC ["cursor","modes","name","colour"] ["cursor","modes"] (av (top 58)):=by walk_at "sc"
theorem nG:aC ["cursor","numbers","nowhere","pattern","colour","deed","goal","fold"] ["cursor","numbers","nowhere"] (av (top 59)):=by walk_at "sc"
theorem xJ:aC ["cursor","kind","signs"] ["cursor"] (av (top 60)):=by walk_at "sc"
theorem xA:aC ["cursor","numbers","nowhere","place","name"] ["cursor","numbers","nowhere"] (av (top 61)):=by walk_at "sc"
theorem t7:aC ["_law_script","_law_k","_law_many","_law_cell","_law_left","_law_seed"] ["_law_script","_law_k","_law_many"] (av (top 63)):=by walk_at "sc"
theorem gB:aC ["_law_script","_law_some","_law_c","_law_way","_law_base","_law_deep","_law_quoted","_law_modes_here","_law_word"] ["_law_script"] (av (top 64)):=by walk_at "sc"
theorem gx:aC ["_law_modes_here","_law_texts","_law_name","_law_colour","_law_rules","_law_kind","_law_arg","_law_paint","_law_deed_here","_law_goal","_law_fold","_law_words"] ["_law_modes_here"] (av (top 65)):=by walk_at "sc"
theorem Px:aC ["_law_rows","_law_spot_here"] ["_law_rows","_law_spot_here"] (av (top 66)):=by walk_at "sc"
theorem uq:aC ["_law_rows","_law_flat_here","_law_row_here"] ["_law_rows","_law_flat_here"] (av (top 67)):=by walk_at "sc"
theorem gM:aC ["_law_rows","_law_spots","_law_first","_law_last","_law_text","_law_begin","_law_end","_law_whole","_law_now","_law_found","_law_name","_law_flat_here"] ["_law_rows","_law_spots","_law_first","_law_last","_law_text"] (av (top 68)):=by walk_at "sc"
theorem Gz:aC ["_law_script","_law_k","_law_signs"] ["_law_script","_law_k"] (av (top 69)):=by walk_at "sc"
theorem DY:aC ["_law_script","_law_k","_law_rows"] ["_law_script","_law_k"] (av (top 70)):=by walk_at "sc"
theorem Fy:aC ["_law_script","_law_k","_law_rows","_law_row_here"] ["_law_script","_law_k","_law_rows"] (av (top 71)):=by walk_at "sc"
theorem iK:aC ["_law_script","_law_k","_law_scribe","_law_kept","_law_rows","_law_way","_law_first","_law_name","_law_text","_law_now","_law_spots","_law_pair"] ["_law_script","_law_k","_law_scribe","_law_kept"] (av (top 72)):=by walk_at "sc"
theorem xU:aC ["_law_scribe","_law_kept","_law_marks","_law_rows"] ["_law_scribe","_law_kept"] (av (top 73)):=by walk_at "sc"
theorem n8:aC ["_law_script","_law_rows","_law_handed","_law_scribe","_law_kept","_law_k"] ["_law_script"] (av (top 74)):=by walk_at "sc"
set_option genInjectivity false in
structure fE where
 iM:Addr
 dN:Addr
 iY:Addr
 gC:Addr
 jo:Addr
 c7:Addr
 gJ:Addr
 kg:Addr
 gp:Addr
 jX:Addr
 cj:Addr
 aX:Addr
 fu:Addr
 aG:Addr
 cV:Addr
 DU:Addr
 Ma:FuncData
 Dv:Addr
 LJ:FuncData
 EI:Addr
 JR:FuncData
 Fe:Addr
 LZ:FuncData
 Co:Addr
 LA:FuncData
 CL:Addr
 JW:FuncData
 Df:Addr
 Js:FuncData
 tV:Addr
 zK:FuncData
 D5:Addr
 JG:FuncData
 zV:Addr
 Ep:FuncData
 zJ:Addr
 CJ:FuncData
 FO:Addr
 Ky:FuncData
 zQ:Addr
 Dt:FuncData
 zf:Addr
 ED:FuncData
 F0:Addr
 KN:FuncData
 zU:Addr
 Bx:FuncData
 zW:Addr
 CB:FuncData
 EB:Addr
 Kv:FuncData
 zD:Addr
 B9:FuncData
 zZ:Addr
 D7:FuncData
 Iu:Addr
 PD:FuncData
 Ij:Addr
 My:FuncData
 z8:Addr
 FY:FuncData
 yX:Addr
 GK:FuncData
 DB:Addr
 K9:FuncData
 DJ:Addr
 LG:FuncData
 GI:Addr
 L1:FuncData
 F6:Addr
 JJ:FuncData
 CN:Addr
 IY:FuncData
 Dg:Addr
 K3:FuncData
 EL:Addr
 LK:FuncData
 C0:Addr
 K7:FuncData
 Fv:Addr
 Jv:FuncData
 EF:Addr
 KJ:FuncData
 DO:Addr
 J9:FuncData
 KP:Addr
 QB:FuncData
 J7:Addr
 Rp:FuncData
 Ml:Addr
 Su:FuncData
 Cs:Addr
 Km:FuncData
 BF:Addr
 LI:FuncData
 Gw:Addr
 JB:FuncData
 Bt:Addr
 Jl:FuncData
 BK:Addr
 JD:FuncData
 BW:Addr
 Jy:FuncData
 Lq:Addr
 QJ:FuncData
 BR:Addr
 L4:FuncData
 EV:Addr
 K4:FuncData
 DC:Addr
 LP:FuncData
 Ck:Addr
 Ks:FuncData
 Bm:Addr
 Lo:FuncData
 BL:Addr
 Jp:FuncData
 CC:Addr
 KW:FuncData
 En:Addr
 JO:FuncData
 FJ:Addr
 KY:FuncData
 BJ:Addr
 Lm:FuncData
 GC:Addr
 Kx:FuncData
 B7:Addr
 Kp:FuncData
 Gk:Addr
 Ly:FuncData
 DT:Addr
 Mm:FuncData
 DE:Addr
 JT:FuncData
 Cj:Addr
 Mh:FuncData
 Fj:Addr
 Lw:FuncData
 Ov:Addr
 Sy:FuncData
 Of:Addr
 RC:FuncData
 Og:Addr
 QZ:FuncData
 MD:Addr
 RB:FuncData
 Od:Addr
 QE:FuncData
 O9:Addr
 Sx:FuncData
 OU:Addr
 Rr:FuncData
 Ox:Addr
 RA:FuncData
 E8:Addr
 Mj:FuncData
 FW:Addr
 JM:FuncData
 ER:Addr
 KG:FuncData
 CG:Addr
 JU:FuncData
 F1:Addr
 IW:FuncData
 Ci:Addr
 Lg:FuncData
 GD:Addr
 Ll:FuncData
 Cf:Addr
 LD:FuncData
 Bj:Addr
 L3:FuncData
 Gd:Addr
 KA:FuncData
 C8:Addr
 Jf:FuncData
 F9:Addr
 Jx:FuncData
 FN:Addr
 L7:FuncData
 Cq:Addr
 Kg:FuncData
 Fw:Addr
 JI:FuncData
 B8:Addr
 KU:FuncData
 E5:Addr
 Kq:FuncData
 jO:Addr
 o7:Addr
 uO:Addr
 pq:Addr
structure Txt(K:W.Frag)(mg:Str->Option Value)(t:fE):Prop where
 wL:mg "Rule" = some (.ref t.iM)
 wu:mg "Mode" = some (.ref t.dN)
 tK:mg "Rules" = some (.ref t.iY)
 Gg:mg "Word" = some (.ref t.gC)
 HF:mg "One" = some (.ref t.jo)
 wN:mg "Without" = some (.ref t.c7)
 Ey:mg "Many" = some (.ref t.gJ)
 Ia:mg "Any" = some (.ref t.kg)
 AD:mg "Still" = some (.ref t.gp)
 IA:mg "End" = some (.ref t.jX)
 om:mg "GoneRow" = some (.ref t.cj)
 xx:mg "Tinted" = some (.ref t.aX)
 Eh:mg "Deed" = some (.ref t.fu)
 xP:mg "Scribe" = some (.ref t.aG)
 yk:mg "Cursor" = some (.ref t.cV)
 CK:dh K "__init__" "Rule.__init__" (ac1 12 0) t.Dv t.LJ
 DK:dh K "__init__" "Mode.__init__" (ac1 13 0) t.EI t.JR
 FD:dh K "__init__" "Rules.__init__" (ac1 14 0) t.Fe t.LZ
 Gr:dh K "eats" "Pattern.eats" (ac1 19 1) t.tV t.zK
 Jc:dh K "__init__" "Word.__init__" (ac1 20 0) t.D5 t.JG
 Lh:dh K "eaten" "Word.eaten" (ac1 20 1) t.zV t.Ep
 LF:dh K "eats" "Word.eats" (ac1 20 2) t.zJ t.CJ
 JF:dh K "__init__" "One.__init__" (ac1 21 0) t.FO t.Ky
 Le:dh K "eaten" "One.eaten" (ac1 21 1) t.zQ t.Dt
 JS:dh K "eats" "One.eats" (ac1 21 2) t.zf t.ED
 Kn:dh K "__init__" "Without.__init__" (ac1 22 0) t.F0 t.KN
 JC:dh K "eaten" "Without.eaten" (ac1 22 1) t.zU t.Bx
 JQ:dh K "eats" "Without.eats" (ac1 22 2) t.zW t.CB
 Jg:dh K "__init__" "Many.__init__" (ac1 23 0) t.EB t.Kv
 JE:dh K "eaten" "Many.eaten" (ac1 23 1) t.zD t.B9
 KR:dh K "eats" "Many.eats" (ac1 23 2) t.zZ t.D7
 Sb:dh K "eaten" "Any.eaten" (ac1 24 0) t.Iu t.PD
 RH:dh K "eats" "Any.eats" (ac1 24 1) t.Ij t.My
 Kc:dh K "eaten" "Still.eaten" (ac1 25 0) t.z8 t.FY
 L8:dh K "eaten" "End.eaten" (ac1 26 0) t.yX t.GK
 Dp:dh K "__init__" "GoneRow.__init__" (ac1 39 0) t.Fv t.Jv
 Mq:dh K "__init__" "Tinted.__init__" (ac1 40 0) t.EF t.KJ
 qX:dh K "rows" "Tinted.rows" (ac1 40 1) t.DO t.J9
 F_q43:dh K "begin" "Tinted.begin" (ac1 40 2) t.KP t.QB
 F_q45:dh K "colours" "Tinted.colours" (ac1 40 3) t.J7 t.Rp
 F_q50:dh K "marks" "Tinted.marks" (ac1 40 4) t.Ml t.Su
 Ds:dh K "change" "Tinted.change" (ac1 40 5) t.Cs t.Km
 J8:dh K "put" "Tinted.put" (ac1 40 6) t.BF t.LI
 LR:dh K "cut" "Tinted.cut" (ac1 40 7) t.Gw t.JB
 DG:dh K "go_over" "Tinted.go_over" (ac1 40 9) t.Bt t.Jl
 Jt:dh K "go_on" "Tinted.go_on" (ac1 40 10) t.BK t.JD
 yW:dh K "modes_ahead" "Tinted.modes_ahead" (ac1 40 11) t.BW t.Jy
 F_q49:dh K "gone_row" "Tinted.gone_row" (ac1 40 12) t.Lq t.QJ
 KC:dh K "ask_row" "Tinted.ask_row" (ac1 40 13) t.BR t.L4
 vq:dh K "ask_place" "Tinted.ask_place" (ac1 40 14) t.EV t.K4
 Jw:dh K "ask_places" "Tinted.ask_places" (ac1 40 15) t.DC t.LP
 LX:dh K "ask_taken" "Tinted.ask_taken" (ac1 40 16) t.Ck t.Ks
 Kw:dh K "__init__" "Deed.__init__" (ac1 44 0) t.CC t.KW
 LY:dh K "__init__" "Scribe.__init__" (ac1 45 0) t.En t.JO
 Dc:dh K "text" "Scribe.text" (ac1 45 1) t.FJ t.KY
 DM:dh K "marks" "Scribe.marks" (ac1 45 3) t.BJ t.Lm
 Jr:dh K "set_mark" "Scribe.set_mark" (ac1 45 4) t.GC t.Kx
 Lj:dh K "drop_mark" "Scribe.drop_mark" (ac1 45 5) t.B7 t.Kp
 Lz:dh K "put" "Scribe.put" (ac1 45 6) t.Gk t.Ly
 K6:dh K "cut" "Scribe.cut" (ac1 45 7) t.DT t.Mm
 EW:dh K "keep" "Scribe.keep" (ac1 45 8) t.DE t.JT
 Q6:dh K "__init__" "Cursor.__init__" (ac1 55 0) t.Ov t.Sy
 Ef:dh K "more" "Cursor.more" (ac1 55 1) t.Of t.RC
 vW:dh K "peek" "Cursor.peek" (ac1 55 2) t.Og t.QZ
 xq:dh K "ask" "Cursor.ask" (ac1 55 3) t.MD t.RB
 Ih:dh K "take" "Cursor.take" (ac1 55 4) t.Od t.QE
 Gb:dh K "take_choice" "Cursor.take_choice" (ac1 55 5) t.O9 t.Sx
 Br:dh K "take_name" "Cursor.take_name" (ac1 55 6) t.OU t.Rr
 QY:dh K "take_signs" "Cursor.take_signs" (ac1 55 7) t.Ox t.RA
 vm:dh K "is_name" "is_name" (top 11) t.DU t.Ma
 BA:mg "is_name" = some (.ref t.DU)
 FE:dh K "copied_rules" "copied_rules" (top 15) t.Co t.LA
 Ow:mg "copied_rules" = some (.ref t.Co)
 EJ:dh K "copied_mode" "copied_mode" (top 16) t.CL t.JW
 Mw:mg "copied_mode" = some (.ref t.CL)
 Dy:dh K "copied_rule" "copied_rule" (top 17) t.Df t.Js
 Pb:mg "copied_rule" = some (.ref t.Df)
 vH:dh K "first_rule" "first_rule" (top 29) t.DB t.K9
 Cy:mg "first_rule" = some (.ref t.DB)
 vG:dh K "do_deed" "do_deed" (top 30) t.DJ t.LG
 F8:mg "do_deed" = some (.ref t.DJ)
 Dk:dh K "ask_rings" "ask_rings" (top 31) t.GI t.L1
 ML:mg "ask_rings" = some (.ref t.GI)
 Du:dh K "ring_of" "ring_of" (top 32) t.F6 t.JJ
 P5:mg "ring_of" = some (.ref t.F6)
 Fc:dh K "short_rows" "short_rows" (top 33) t.CN t.IY
 Ni:mg "short_rows" = some (.ref t.CN)
 vF:dh K "ring_from" "ring_from" (top 34) t.Dg t.K3
 Cd:mg "ring_from" = some (.ref t.Dg)
 vM:dh K "idle_rule" "idle_rule" (top 35) t.EL t.LK
 EG:mg "idle_rule" = some (.ref t.EL)
 Ei:dh K "gone_over" "gone_over" (top 37) t.C0 t.K7
 Qk:mg "gone_over" = some (.ref t.C0)
 vJ:dh K "same_ahead" "same_ahead" (top 41) t.Bm t.Lo
 D4:mg "same_ahead" = some (.ref t.Bm)
 DA:dh K "same_back" "same_back" (top 42) t.BL t.Jp
 OR:mg "same_back" = some (.ref t.BL)
 FL:dh K "place_put" "place_put" (top 46) t.Cj t.Mh
 OV:mg "place_put" = some (.ref t.Cj)
 EE:dh K "place_cut" "place_cut" (top 47) t.Fj t.Lw
 PF:mg "place_cut" = some (.ref t.Fj)
 BU:dh K "read_rules" "read_rules" (top 56) t.E8 t.Mj
 P4:mg "read_rules" = some (.ref t.E8)
 C6:dh K "mode_numbers" "mode_numbers" (top 57) t.FW t.JM
 Pc:mg "mode_numbers" = some (.ref t.FW)
 EY:dh K "read_mode" "read_mode" (top 58) t.ER t.KG
 OW:mg "read_mode" = some (.ref t.ER)
 Dw:dh K "read_rule" "read_rule" (top 59) t.CG t.JU
 Nh:mg "read_rule" = some (.ref t.CG)
 DS:dh K "read_pattern" "read_pattern" (top 60) t.F1 t.IW
 O3:mg "read_pattern" = some (.ref t.F1)
 EH:dh K "read_goal" "read_goal" (top 61) t.Ci t.Lg
 PL:mg "read_goal" = some (.ref t.Ci)
 dZ:dh K "_law_draw" "_law_draw" (top 63) t.GD t.Ll
 iy:mg "_law_draw" = some (.ref t.GD)
 Fb:dh K "_law_modes" "_law_modes" (top 64) t.Cf t.LD
 PZ:mg "_law_modes" = some (.ref t.Cf)
 Ge:dh K "_law_rules_text" "_law_rules_text" (top 65) t.Bj t.L3
 Oc:mg "_law_rules_text" = some (.ref t.Bj)
 p9:dh K "_law_flat" "_law_flat" (top 66) t.Gd t.KA
 yj:mg "_law_flat" = some (.ref t.Gd)
 DX:dh K "_law_spot" "_law_spot" (top 67) t.C8 t.Jf
 NS:mg "_law_spot" = some (.ref t.C8)
 v8:dh K "_law_moved" "_law_moved" (top 68) t.F9 t.Jx
 Ea:mg "_law_moved" = some (.ref t.F9)
 wA:dh K "_law_row" "_law_row" (top 69) t.FN t.L7
 DW:mg "_law_row" = some (.ref t.FN)
 Dm:dh K "_law_piece" "_law_piece" (top 70) t.Cq t.Kg
 MT:mg "_law_piece" = some (.ref t.Cq)
 wH:dh K "_law_place" "_law_place" (top 71) t.Fw t.JI
 BZ:mg "_law_place" = some (.ref t.Fw)
 CA:dh K "_law_deed" "_law_deed" (top 72) t.B8 t.KU
 MA:mg "_law_deed" = some (.ref t.B8)
 vn:dh K "_law_is_told" "_law_is_told" (top 73) t.E5 t.Kq
 ES:mg "_law_is_told" = some (.ref t.E5)
 oW:mO K t.gC
 Hr:Mk K t.gC t.D5
 ji:bT K t.gC "wanted"
 Sn:Meth K t.gC "eaten" t.zV
 QC:Meth K t.gC "eats" t.zJ
 xV:mO K t.jo
 Qt:Mk K t.jo t.FO
 ow:bT K t.jo "signs"
 R5:Meth K t.jo "eaten" t.zQ
 RZ:Meth K t.jo "eats" t.zf
 mC:mO K t.c7
 xN:Mk K t.c7 t.F0
 jW:bT K t.c7 "signs"
 RY:Meth K t.c7 "eaten" t.zU
 Se:Meth K t.c7 "eats" t.zW
 tY:mO K t.gJ
 G5:Mk K t.gJ t.EB
 nj:bT K t.gJ "signs"
 QG:Meth K t.gJ "eaten" t.zD
 Ro:Meth K t.gJ "eats" t.zZ
 O7:mO K t.kg
 Ph:So K t.kg
 Ug:Meth K t.kg "eaten" t.Iu
 T4:Meth K t.kg "eats" t.Ij
 DZ:mO K t.gp
 BO:So K t.gp
 S4:Meth K t.gp "eaten" t.z8
 uI:Meth K t.gp "eats" t.tV
 M9:mO K t.jX
 Ob:So K t.jX
 RD:Meth K t.jX "eaten" t.yX
 xg:Meth K t.jX "eats" t.tV
 cG:mO K t.iM
 zM:Mk K t.iM t.Dv
 eK:bT K t.iM "pattern"
 jf:bT K t.iM "colour"
 fP:bT K t.iM "deed"
 i7:bT K t.iM "goal"
 i0:bT K t.iM "fold"
 fk:mO K t.dN
 zx:Mk K t.dN t.EI
 iX:bT K t.dN "name"
 ja:bT K t.dN "colour"
 ff:bT K t.dN "rules"
 gW:mO K t.iY
 v7:Mk K t.iY t.Fe
 c5:bT K t.iY "modes"
 aV:mO K t.cV
 AQ:Mk K t.cV t.Ov
 mJ:bT K t.cV "row"
 iR:bT K t.cV "words"
 ia:bT K t.cV "at"
 GS:Meth K t.cV "more" t.Of
 yL:Meth K t.cV "peek" t.Og
 Au:Meth K t.cV "ask" t.MD
 Qe:Meth K t.cV "take" t.Od
 Hs:Meth K t.cV "take_choice" t.O9
 GY:Meth K t.cV "take_name" t.OU
 Uj:Meth K t.cV "take_signs" t.Ox
 cC:mO K t.cj
 qm:Mk K t.cj t.Fv
 cQ:bT K t.cj "signs"
 jl:bT K t.cj "before"
 oS:bT K t.cj "tints"
 gG:bT K t.cj "behind"
 n6:bT K t.cj "folded"
 aQ:mO K t.aX
 Al:Mk K t.aX t.EF
 iL:bT K t.aX "rules"
 aT:bT K t.aX "gone_rows"
 tS:Meth K t.aX "rows" t.DO
 m_q43:Meth K t.aX "begin" t.KP
 m_q45:Meth K t.aX "colours" t.J7
 m_q50:Meth K t.aX "marks" t.Ml
 Jz:Meth K t.aX "change" t.Cs
 Rx:Meth K t.aX "put" t.BF
 Rk:Meth K t.aX "cut" t.Gw
 Ka:Meth K t.aX "go_over" t.Bt
 S5:Meth K t.aX "go_on" t.BK
 CH:Meth K t.aX "modes_ahead" t.BW
 m_q49:Meth K t.aX "gone_row" t.Lq
 RN:Meth K t.aX "ask_row" t.BR
 zL:Meth K t.aX "ask_place" t.EV
 QK:Meth K t.aX "ask_places" t.DC
 Rz:Meth K t.aX "ask_taken" t.Ck
 mX:mO K t.fu
 IV:Mk K t.fu t.CC
 yU:bT K t.fu "row"
 uf:bT K t.fu "taken"
 tX:bT K t.fu "given"
 k8:bT K t.fu "places_ahead"
 jY:bT K t.fu "places_behind"
 aY:mO K t.aG
 AH:Mk K t.aG t.En
 cF:bT K t.aG "tinted"
 bA:bT K t.aG "places"
 lH:bT K t.aG "done"
 jS:bT K t.aG "undone"
 Ja:Meth K t.aG "text" t.FJ
 KQ:Meth K t.aG "marks" t.BJ
 Q3:Meth K t.aG "set_mark" t.GC
 QW:Meth K t.aG "drop_mark" t.B7
 Ss:Meth K t.aG "put" t.Gk
 RG:Meth K t.aG "cut" t.DT
 J4:Meth K t.aG "keep" t.DE
 ct:W.takesIn K (.builtin "object.__class__")=some true
 Il:W.findIn K (.ref t.gC) "__class__" = some (some (.builtin "object.__class__"))
 Hq:W.mroIn K t.gC (.type "object")=some true
 N1:W.findIn K (.ref t.jo) "__class__" = some (some (.builtin "object.__class__"))
 Nz:W.mroIn K t.jo (.type "object")=some true
 yr:W.findIn K (.ref t.c7) "__class__" = some (some (.builtin "object.__class__"))
 yc:W.mroIn K t.c7 (.type "object")=some true
 G3:W.findIn K (.ref t.gJ) "__class__" = some (some (.builtin "object.__class__"))
 IE:W.mroIn K t.gJ (.type "object")=some true
 PR:W.findIn K (.ref t.kg) "__class__" = some (some (.builtin "object.__class__"))
 MN:W.mroIn K t.kg (.type "object")=some true
 Gp:W.findIn K (.ref t.gp) "__class__" = some (some (.builtin "object.__class__"))
 BQ:W.mroIn K t.gp (.type "object")=some true
 NT:W.findIn K (.ref t.jX) "__class__" = some (some (.builtin "object.__class__"))
 OQ:W.mroIn K t.jX (.type "object")=some true
 uS:∃u,mg "LETTERS" = some u/\RelV (.str "abcdefghijklmnopqrstuvwxyz") u
 nY:∃u,mg "LONGEST_NAME" = some u/\RelV (.int 8) u
 kN:∃u,mg "START" = some u/\RelV (.int 0) u
 Ag:∃u,mg "SIGNS" = some u/\RelV (.str " !\"#$&'()*+,-./0123456789:;<=>?@ABCDEFGHIJKLMNOPQRSTUVWXYZ[\\]^_`abcdefghijklmnopqrstuvwxyz{|}~") u
 qK:∃u,mg "MOST_MODES" = some u/\RelV (.int 12) u
 qC:∃u,mg "MOST_RULES" = some u/\RelV (.int 12) u
 uw:mg "PATTERNS" = some (.ref t.jO)
 vU:∀H,dO K H t.jO [.str "word",.str "one",.str "none",.str "many",.str "any",.str "still",.str "end"]
 A8:mg "DEEDS" = some (.ref t.o7)
 FI:∀H,dO K H t.o7 [.str "stay",.str "push",.str "pop",.str "into"]
 AO:mg "GOING" = some (.ref t.uO)
 EZ:∀H,dO K H t.uO [.str "push",.str "into"]
 Ba:mg "FOLDS" = some (.ref t.pq)
 B0:∀H,dO K H t.pq [.str "open",.str "close"]
 SE:mg "all" = none
 nP:mg "dict" = none
 ou:mg "enumerate" = none
 za:mg "int" = none
 mP:mg "isinstance" = none
 cy:mg "len" = none
 jI:mg "list" = none
 QL:mg "max" = none
 kW:mg "range" = none
 qF:mg "reversed" = none
 pX:mg "sorted" = none
 RJ:mg "sum" = none
 SK:mg "zip" = none
theorem ls0:∀{us:List Value},us.length=0->us=[]
 | [],_=>rfl
theorem lsS{us:List Value}{n:Nat}(h:us.length=n+1):∃a t,us=a::t/\t.length=n:=by
 cases us with
 |nil=>cases h
 |cons a t=>exact⟨a,t,rfl,Nat.succ.inj h⟩
theorem lsN{us:List Value}(h:us.length=0):us=[]:=List.length_eq_zero_iff.mp h
theorem ls1{us:List Value}(h:us.length=1):∃a0,us=[a0]:=by
 obtain⟨a0,t0,rfl,h0⟩:=lsS h
 cases lsN h0
 exact⟨a0,rfl⟩
theorem KI:∀{us:List Value},us.length=2->∃a0 a1,us=[a0,a1]
 | [a0,a1],_=>⟨a0,a1,rfl⟩
theorem ls3{us:List Value}(h:us.length=3):∃a0 a1 a2,us=[a0,a1,a2]:=by
 obtain⟨a0,t0,rfl,h0⟩:=lsS h
 obtain⟨a1,t1,rfl,h1⟩:=lsS h0
 obtain⟨a2,t2,rfl,h2⟩:=lsS h1
 cases lsN h2
 exact⟨a0,a1,a2,rfl⟩
theorem ls4{us:List Value}(h:us.length=4):∃a0 a1 a2 a3,us=[a0,a1,a2,a3]:=by
 obtain⟨a0,t0,rfl,h0⟩:=lsS h
 obtain⟨a1,t1,rfl,h1⟩:=lsS h0
 obtain⟨a2,t2,rfl,h2⟩:=lsS h1
 obtain⟨a3,t3,rfl,h3⟩:=lsS h2
 cases lsN h3
 exact⟨a0,a1,a2,a3,rfl⟩
theorem ls5{us:List Value}(h:us.length=5):∃a0 a1 a2 a3 a4,us=[a0,a1,a2,a3,a4]:=by
 obtain⟨a0,t0,rfl,h0⟩:=lsS h
 obtain⟨a1,t1,rfl,h1⟩:=lsS h0
 obtain⟨a2,t2,rfl,h2⟩:=lsS h1
 obtain⟨a3,t3,rfl,h3⟩:=lsS h2
 obtain⟨a4,t4,rfl,h4⟩:=lsS h3
 cases lsN h4
 exact⟨a0,a1,a2,a3,a4,rfl⟩
theorem ls6{us:List Value}(h:us.length=6):∃a0 a1 a2 a3 a4 a5,us=[a0,a1,a2,a3,a4,a5]:=by
 obtain⟨a0,t0,rfl,h0⟩:=lsS h
 obtain⟨a1,t1,rfl,h1⟩:=lsS h0
 obtain⟨a2,t2,rfl,h2⟩:=lsS h1
 obtain⟨a3,t3,rfl,h3⟩:=lsS h2
 obtain⟨a4,t4,rfl,h4⟩:=lsS h3
 obtain⟨a5,t5,rfl,h5⟩:=lsS h4
 cases lsN h5
 exact⟨a0,a1,a2,a3,a4,a5,rfl⟩
section
variable {P:Program}{w:World}{K:W.Frag}{mg:Str->Option Value}{base:Heap}{t:fE}
end
local macro_rules | `(tactic| walk_at "rd")=>`(tactic| simp only [$[$("QT Gj tIf JY tB QA Tj Ed BV HE tC L2.start rI Jd oz QV R8 tOr Sq Rb S3 tUn rU rEq rNe TQ OT RO Hy SO S0 B5 Bq Ko Gh LV tBM Sl R3 ipI Jm TZ Ji tSl Sw J5 zP rJoin vI wU Gf NC lq Option.join_some Option.join_none if_true if_false Bool.false_eq_true List.map_cons List.map_nil List.length_cons List.length_nil List.replicate List.cons_append List.nil_append List.append_nil List.getElem?_cons_zero List.getElem?_cons_succ List.set_cons_zero List.set_cons_succ Option.some.injEq exists_eq_left' exists_eq_left V.int.injEq V.str.injEq V.ref.injEq V.bl.injEq List.cons.injEq and_true true_and and_assoc exists_and_left exists_eq exists_const".splitOn.toArray.map (Lean.mkIdent ·.toName)):ident],*])
local macro_rules | `(tactic| walk_at "ck")=>`(tactic| exact ⟨by decide +kernel,rfl,by decide +kernel,by decide +kernel,by decide +kernel,by decide +kernel,by decide +kernel⟩)
section
variable {P:Program}{w:World}{K:PySem.W.Frag}{mg:Str->Option Value}{base:Heap}{t:fE}
def isName (z:Str):Bool:=decide (1<=z.length) && decide (z.length<=8) && z.cps.toList.all λc=>decide (c∈(Str.ofString "abcdefghijklmnopqrstuvwxyz").cps.toList)
noncomputable def Cr:Sp:=λvs H Q _=>∃z:Str,vs=[.str z]/\z.length<=100000/\∀H',aj H H'->Q (.bl (isName z)) H'
theorem D6 (T:Txt K mg t):bD P w K mg base dw 1 t.DU t.Ma ["word"] Cr:=by
 refine T.vm.m NG λvs H Q E h=>?_
 ·obtain⟨z,rfl,hz,q⟩:=h
  walk_at "i"
  refine aS (λZ' H'=>Z'=[some (.str z)]/\H'=H/\1<=z.length/\z.length<=8) (bK (PW.pt (jV (aE ie (aN bz (by rfl) T.cy (by decide +kernel) (aa (pv 0) ai)) aq (aI _)) (jF (aE gZ (aN bz (by rfl) T.cy (by decide +kernel) (aa (pv 0) ai)) (gc rfl T.nY) (aI _))))) aA aA) ?_ ?_
  ·walk_at "rd"
   refine⟨b9 (by lia),fq (λh=>?_) (λh=>?_)⟩
   ·refine ay (aJ lF) ?_
    have:=q H (aj.refl H)
    rw[isName,decide_eq_false (by lia)] at this
    exact this
   ·refine⟨b9 (by lia),fq (λh=>?_) (λh=>bG ⟨rfl,rfl,by lia,by lia⟩)⟩
    refine ay (aJ lF) ?_
    have:=q H (aj.refl H)
    rw[isName,decide_eq_false (p:=z.length<=8) (by lia),Bool.and_false] at this
    exact this
  rintro Z' H' ⟨rfl,e,h1,h2⟩
  rw[e]
  clear e H'
  refine ay (aJ (aN (AL rfl) (by rfl) T.SE (by decide +kernel) (aa (gi (sc:=av (top 11)) (N:=["word"]) (x:="sign") (caps:=[]) (by walk_at "ck") (N8 (pv 0)) (λ_ _ _ _=>(fj nT (pv 0) (gc rfl T.uS) rfl))) ai))) ?_
  refine⟨_,rfl,z,rfl,E4 (λi ys H2=>H2=H/\ys=(z.cps.toList.take i).map λc=>V.bl (decide (c∈(Str.ofString "abcdefghijklmnopqrstuvwxyz").cps.toList))) ⟨rfl,rfl⟩ (dQ (by lia)) ?_ ?_⟩
  ·rintro i c ys H2 hc hl ⟨rfl,rfl⟩
   have hi:i<z.length:=by
    have:=(List.getElem?_eq_some_iff.mp hc).1
    simpa [Str.length] using this
   refine⟨_,rfl,_,_,rfl,rfl,?_⟩
   rw[PySem.StrLaws.found_one]
   refine cP hi hl ⟨rfl,?_⟩
   rw[List.take_succ,hc,List.map_append]
   rfl
  ·rintro ys H2 hl ⟨rfl,rfl⟩ D hD
   refine⟨D,(z.cps.toList.map λc=>decide (c∈(Str.ofString "abcdefghijklmnopqrstuvwxyz").cps.toList)),rfl,bg.of (by rw[af,List.take_of_length_le (by simp[Str.length]),List.map_map];rfl),?_⟩
   have:=q _ (aj.upd (o:=.lst (((z.cps.toList.take z.length)).map λc=>V.bl (decide (c∈(Str.ofString "abcdefghijklmnopqrstuvwxyz").cps.toList)))) hD)
   rw[isName,decide_eq_true h1,decide_eq_true h2] at this
   rw[List.all_map]
   exact this
def cf (row:Int) (lw:Addr) (i:Nat):List (Str×V):=[("row",.int row),("words",.ref lw),("at",.int i)]
structure mF(t:fE)(H:Hp)(p dx lw:Addr)(row:Int)(ws:List Str)(i:Nat):Prop where
 ob:H p=some (.ins t.cV dx (cf row lw i))
 ls:H lw=some (.lst (ws.map V.str))
 sz:ws.length<=1000/\∀w∈ws,w.length<=100000
theorem mF.ne{H:Hp}{p dx lw:Addr}{row:Int}{ws:List Str}{i:Nat}(c:mF t H p dx lw row ws i):p≠lw:=bL c.ob c.ls (by intro z;cases z)
theorem mF.same{H H':Hp}{p dx lw:Addr}{row:Int}{ws:List Str}{i:Nat}(c:mF t H p dx lw row ws i)(s:aj H H'):mF t H' p dx lw row ws i:=⟨s _ _ c.ob,s _ _ c.ls,c.sz⟩
def pk (ws:List Str) (i:Nat):Str:=ws.getD i ""
theorem JL{ws:List Str}{i:Nat}(h:i<ws.length):pk ws i=ws[i]:=by simp[pk,h]
theorem JP {ws:List Str} {i:Nat} (h:ws.length<=i):pk ws i = "" := by
 unfold pk
 rw[List.getD_eq_getElem?_getD,List.getElem?_eq_none h]
 rfl
theorem mF.pkl{H:Hp}{p dx lw:Addr}{row:Int}{ws:List Str}{i:Nat}(c:mF t H p dx lw row ws i):(pk ws i).length<=100000:=by
 by_cases h:i<ws.length
 ·rw[JL h];exact c.sz.2 _ (List.getElem_mem h)
 ·rw[JP (by lia)];decide
noncomputable def IF(t:fE):Sp:=λvs H Q _=>∃(p dx:Addr) (row:Int) (text:Str),vs=[.ref p,.int row,.str text]/\H p=some (.ins t.cV dx [])/\text.length<=100000/\(PySem.Txt.split text ⟨#[32]⟩).length<=1000/\
 ∀lw H',H lw=none->mF t H' p dx lw row (PySem.Txt.split text ⟨#[32]⟩) 0->gw H H' p->Q .cW H'
theorem Si (T:Txt K mg t):bD P w K mg base dw 1 t.Ov t.Sy ["self","row","text"] (IF t):=by
 refine T.Q6.m Rf λvs H Q E h=>?_
 ·obtain⟨p,dx,row,text,rfl,hp,hz,hn,q⟩:=h
  walk_at "i"
  refine ao (bW (pv 0) (pv 1) rfl) ⟨_,rfl,_,rfl,p,_,dx,[],rfl,hp,T.aV,T.mJ,by decide,?_⟩
  refine ao (bW (pv 0) (dG F.plainAttrs_str F.slot_str_split F.type_str_split jq (pv 2) (aa az ai)) rfl) ?_
  refine⟨_,rfl,rfl,_,_,rfl,rfl,by decide,b9 (by lia),λlw hl=>⟨_,rfl,p,_,dx,[("row",.int row)],rfl,?_,T.aV,T.iR,by show 1<1000;decide,?_⟩⟩
  ·rw[ak (au af hl)];exact af
  have npl:p≠lw:=au af hl
  refine ay (bW (pv 0) aq rfl) ⟨_,rfl,p,_,dx,[("row",.int row),("words",.ref lw)],rfl,af,T.aV,T.ia,by show 2<1000;decide,?_⟩
  have hl0:H lw=none:=by rw[ak (Ne.symm npl)] at hl;exact hl
  refine q lw _ hl0 ⟨af,?_,hn,λw hw=>Nat.le_trans (PyProof.Rows.part_short hw) hz⟩ λb o hb nb=>?_
  ·rw[ak (Ne.symm npl),ak (Ne.symm npl),af];rfl
  ·rw[ak nb,ak nb,ak (au hb hl0),ak nb];exact hb
noncomputable def NV(t:fE):Sp:=λvs H Q _=>∃(p dx lw:Addr) (row:Int) (ws:List Str) (i:Nat),vs=[.ref p]/\mF t H p dx lw row ws i/\Q (.bl (decide (i<ws.length))) H
theorem zB (T:Txt K mg t):bD P w K mg base dw 1 t.Of t.RC ["self"] (NV t):=by
 refine T.Ef.m R1 λvs H Q E h=>?_
 ·obtain⟨p,dx,lw,row,ws,i,rfl,C,q⟩:=h
  walk_at "i"
  refine ay (aJ (fj ie (aK (pv 0) rfl) (aN bh (by rfl) T.cy (by decide +kernel) (aa (aK (pv 0) rfl) ai)) (aI _))) ?_
  simp only[OT,QA,Tj,Ed,BV]
  refine GQ rfl C.ob T.aV T.ia rfl ?_
  refine GQ rfl C.ob T.aV T.iR rfl ?_
  refine⟨_,_,rfl,.inl (bg.of C.ls),_,_,rfl,rfl,?_⟩
  rw[List.length_map]
  have e:decide ((i:Int)<(ws.length:Int))=decide (i<ws.length):=by simp
  show Q (.bl (decide ((i:Int)<(ws.length:Int)))) H
  rw[e]
  exact q
noncomputable def Oq(t:fE):Sp:=λvs H Q _=>∃(p dx lw:Addr) (row:Int) (ws:List Str) (i:Nat),vs=[.ref p]/\mF t H p dx lw row ws i/\Q (.str (pk ws i)) H
theorem rq (T:Txt K mg t):bD P w K mg base dw 2 t.Og t.QZ ["self"] (Oq t):=by
 refine T.vW.m QX λvs H Q E h=>?_
 ·obtain⟨p,dx,lw,row,ws,i,rfl,C,q⟩:=h
  walk_at "i"
  refine ay (aJ (cN (iB (bN (pv 0) T.aV T.GS (zB T) hr.m (T.Ef.binds (by walk_at "1")) .nil aF)) (aR aL (aK (pv 0) rfl) (aK (pv 0) rfl) (λ_ _=>rfl)) az)) ?_
  refine⟨_,rfl,p,dx,_,rfl,C.ob,rfl,p,dx,lw,row,ws,i,rfl,C,_,rfl,fq (λh=>?_) (λh=>?_)⟩
  ·refine GQ rfl C.ob T.aV T.iR rfl ?_
   refine GQ rfl C.ob T.aV T.ia rfl ?_
   refine⟨_,_,_,.str (pk ws i),rfl,rfl,bg.of C.ls,aH ?_,q⟩
   rw[List.getElem?_map,List.getElem?_eq_getElem h,JL h]
   rfl
  ·rw[JP (by lia)] at q
   exact q
noncomputable def Rn:Sp:=λvs H Q _=>∃p:V,vs=[p,.bl true]/\Q .cW H
theorem tO (T:Txt K mg t):bD P w K mg base dw 1 t.MD t.RB ["self","good"] Rn:=by
 refine T.xq.m SW λvs H Q E h=>?_
 ·obtain⟨p,rfl,q⟩:=h
  walk_at "i"
  refine ay (bK (jb (iB (pv 1))) aA aA) ⟨_,rfl,true,rfl,lQ (bG q)⟩
noncomputable def PB(t:fE):Sp:=λvs H Q _=>∃(p dx lw:Addr) (row:Int) (ws:List Str) (i:Nat),vs=[.ref p,.bl true]/\mF t H p dx lw row ws i/\∀H',mF t H' p dx lw row ws (i+1)->gw H H' p->Q (.str (pk ws i)) H'
theorem Bu (T:Txt K mg t):bD P w K mg base dw 3 t.Od t.QE ["self","good"] (PB t):=by
 refine T.Ih.m Jq λvs H Q E h=>?_
 ·obtain⟨p,dx,lw,row,ws,i,rfl,C,q⟩:=h
  walk_at "i"
  refine ao (bx (bF (pv 0) T.aV T.Au (tO T) hr.m (T.xq.binds (by walk_at "2")) .nil aF (aa (pv 1) ai))) ⟨_,rfl,p,dx,_,rfl,C.ob,rfl,_,rfl,_,rfl,?_⟩
  refine ao (cS 2 Jq (bN (pv 0) T.aV T.yL (rq T) hr.m (T.vW.binds (by walk_at "1")) .nil aF)) ⟨_,rfl,p,dx,_,rfl,C.ob,rfl,p,dx,lw,row,ws,i,rfl,C,?_⟩
  refine ao (AM (pv 0) aq MY) ⟨_,rfl,p,_,dx,_,_,rfl,C.ob,T.aV,T.ia,rfl,?_⟩
  refine⟨_,_,rfl,rfl,dx,_,C.ob,by show 3<1000;decide,?_⟩
  refine ay (aJ (pv 2)) ⟨_,rfl,?_⟩
  have C':mF t (upd H p (.ins t.cV dx (cf row lw (i+1)))) p dx lw row ws (i+1):=⟨af,by rw[ak (Ne.symm C.ne)];exact C.ls,C.sz⟩
  exact q _ C' gw.upd
noncomputable def Cc(K:PySem.W.Frag)(t:fE):Sp:=λvs H Q _=>∃(p dx lw c:Addr) (cs:List Str) (row:Int) (ws:List Str) (i:Nat),vs=[.ref p,.ref c]/\mF t H p dx lw row ws i/\dO K H c (cs.map V.str)/\pk ws i∈cs/\∀H',mF t H' p dx lw row ws (i+1)->gw H H' p->Q (.str (pk ws i)) H'
theorem pJ{x:Str}{cs:List Str}:Oh (.str x) (cs.map V.str)=decide (x∈cs):=by
 unfold Oh
 rw[List.any_map,Bool.eq_iff_iff,List.any_eq_true,decide_eq_true_eq]
 constructor
 ·rintro⟨y,hy,e⟩
  have:(y == x)=true:=e
  rw[← eq_of_beq this];exact hy
 ·intro h
  exact⟨x,h,by show (x == x)=true;simp⟩
theorem sI{cs:List Str}:(cs.map V.str).all iT=true:=by
 rw[List.all_map,List.all_eq_true]
 intro _ _
 rfl
theorem zu (T:Txt K mg t):bD P w K mg base dw 4 t.O9 t.Sx ["self","words"] (Cc K t):=by
 refine T.Gb.m RP λvs H Q E h=>?_
 ·obtain⟨p,dx,lw,c,cs,row,ws,i,rfl,C,hc,hin,q⟩:=h
  walk_at "i"
  refine ay (aJ (bF (pv 0) T.aV T.Qe (Bu T) hr.m (T.Ih.binds (by walk_at "2")) .nil aF (aa (fj tT (bN (pv 0) T.aV T.yL (rq T) hr.m (T.vW.binds (by walk_at "1")) .nil aF) (pv 1) rfl) ai))) ?_
  refine⟨_,rfl,p,dx,_,rfl,C.ob,rfl,?_⟩
  refine⟨_,rfl,p,dx,_,rfl,C.ob,rfl,p,dx,lw,row,ws,i,rfl,C,_,rfl,_,_,rfl,.inr hc,rfl,sI,?_⟩
  rw[pJ,decide_eq_true hin]
  exact⟨p,dx,lw,row,ws,i,rfl,C,q⟩
noncomputable def Qx(t:fE):Sp:=λvs H Q _=>∃(p dx lw:Addr) (row:Int) (ws:List Str) (i:Nat),vs=[.ref p]/\mF t H p dx lw row ws i/\isName (pk ws i)=true/\∀H',mF t H' p dx lw row ws (i+1)->gw H H' p->Q (.str (pk ws i)) H'
theorem Ab (T:Txt K mg t):bD P w K mg base dw 4 t.OU t.Rr ["self"] (Qx t):=by
 refine T.Br.m Sz λvs H Q E h=>?_
 ·obtain⟨p,dx,lw,row,ws,i,rfl,C,hin,q⟩:=h
  walk_at "i"
  refine ay (aJ (bF (pv 0) T.aV T.Qe (Bu T) hr.m (T.Ih.binds (by walk_at "2")) .nil aF (aa (aW (D6 T) hr.m rfl T.BA T.vm.kp (T.vm.binds (by walk_at "1")) .nil aF (aa (bN (pv 0) T.aV T.yL (rq T) hr.m (T.vW.binds (by walk_at "1")) .nil aF) ai)) ai))) ?_
  refine⟨_,rfl,p,dx,_,rfl,C.ob,rfl,?_⟩
  refine⟨_,rfl,p,dx,_,rfl,C.ob,rfl,p,dx,lw,row,ws,i,rfl,C,pk ws i,rfl,C.pkl,λH1 s1=>?_⟩
  rw[hin]
  exact⟨p,dx,lw,row,ws,i,rfl,C.same s1,λH2 C2 a2=>q H2 C2 (s1.GO a2)⟩
def jh (z:Str):Str:="'" ++ PySem.Txt.replace z " " "_"
theorem gI(z:Str):(jh z).cps.toList=39::kH 32 95 z.cps.toList:=by
 unfold jh
 rw[dX,show ((" ":Str))=⟨#[32]⟩ from by decide +kernel,show (("_":Str))=⟨#[95]⟩ from by decide +kernel,kF]
 rfl
noncomputable def Hl(t:fE):Sp:=λvs H Q _=>∃(p dx lw:Addr) (row:Int) (ws:List Str) (i:Nat) (z:Str),vs=[.ref p]/\mF t H p dx lw row ws i/\pk ws i=jh z/\1<=z.length/\z.length<=1000/\95∉z.cps.toList/\∀H',mF t H' p dx lw row ws (i+1)->gw H H' p->Q (.str z) H'
theorem P8{w:Str}(h:1<=w.length):(PySem.Txt.slice w (some 1) none).cps.toList=w.cps.toList.drop 1:=by
 rw[PyProof.Rows.slice_from_eq (b:=(w.length:Int)) (by decide) (by lia) rfl]
 show (w.cps.toList.drop 1).take _=_
 refine List.take_of_length_le ?_
 rw[List.length_drop,Array.length_toList]
 show w.length-1<=_
 lia
theorem Sf (T:Txt K mg t):bD P w K mg base dw 4 t.Ox t.RA ["self"] (Hl t):=by
 refine T.QY.m Je λvs H Q E h=>?_
 ·obtain⟨p,dx,lw,row,ws,i,z,rfl,C,hw,hz1,hz2,hz3,q⟩:=h
  walk_at "i"
  have hlen:(jh z).length=z.length+1:=by
   have:=congrArg List.length (gI z)
   simpa [Str.length,kH] using this
  refine ao (cS 1 Je (bN (pv 0) T.aV T.yL (rq T) hr.m (T.vW.binds (by walk_at "1")) .nil aF)) ⟨_,rfl,p,dx,_,rfl,C.ob,rfl,p,dx,lw,row,ws,i,rfl,C,?_⟩
  rw[hw]
  refine ao (bx (bF (pv 0) T.aV T.Qe (Bu T) hr.m (T.Ih.binds (by walk_at "2")) .nil aF (aa (D3 (fj gZ (aN bz (by rfl) T.cy (by decide +kernel) (aa (pv 1) ai)) aq (aI _)) (yK (dG F.plainAttrs_str F.slot_str_startswith F.type_str_startswith wW (pv 1) (aa az ai)))) ai))) ?_
  refine⟨_,rfl,p,dx,_,rfl,C.ob,rfl,?_⟩
  refine⟨_,rfl,_,rfl,b9 (by lia),_,_,rfl,rfl,_,rfl,?_⟩
  rw[decide_eq_true (by lia),if_pos rfl]
  refine⟨_,rfl,rfl,_,_,rfl,rfl,?_⟩
  have hst:(decide (0+("'":Str).length<=(jh z).length) && Builtin.Str.subAt (jh z) "'" 0)=true:=by
   have e1:("'":Str).length=1:=by decide +kernel
   rw[Bool.and_eq_true,decide_eq_true_eq,e1]
   refine⟨by lia,?_⟩
   unfold Builtin.Str.subAt
   rw[beq_iff_eq,← Array.toList_inj,e1]
   have e2:=gI z
   simp only[Array.toList_extract,List.extract_eq_take_drop,e2]
   rfl
  rw[hst]
  refine⟨p,dx,lw,row,ws,i,rfl,C,λH1 C1 a1=>?_⟩
  refine ay (aJ (yq (by decide +kernel) (pv 1))) ⟨_,rfl,_,rfl,b9 (by lia),_,rfl,?_,?_⟩
  ·have h1:(PySem.Txt.slice (jh z) (some 1) none).length<=1001:=Nat.le_trans (PySem.Txt.slice_le _ _ _) (by lia)
   have h2:(" ":Str).length=1:=by decide +kernel
   rw[h2]
   lia
  ·have e:PySem.Txt.replace (PySem.Txt.slice (jh z) (some 1) none) "_" " " = z:=by
    refine jL ?_
    rw[show ((" ":Str))=⟨#[32]⟩ from by decide +kernel,show (("_":Str))=⟨#[95]⟩ from by decide +kernel,kF,P8 (by lia),gI]
    exact A3 hz3
   rw[e]
   exact q H1 C1 a1
end
local macro_rules | `(tactic| walk_at "u")=>`(tactic| first | rfl | decide | exact Or.inl rfl | exact Or.inr rfl | exact Or.inr (Or.inl rfl) | exact Or.inr (Or.inr rfl) | assumption | (intro _;rfl) | exact vt _ (by decide) (by decide))
section
variable {P:Program}{w:World}{K:PySem.W.Frag}{mg:Str->Option Value}{base:Heap}{t:fE}
def kj(sg:List Nat):List Nat->Nat
 | []=>0
 |c::r=>if c∈sg then 1+kj sg r else 0
def fJ(sort signs row:Str)(i:Nat):V :=
 if sort = "end" then (if i=row.length then .int 0 else .cW)
 else if sort = "word" then (if (row.cps.toList.drop i).take signs.length=signs.cps.toList then .int signs.length else .cW)
 else match row.cps.toList[i]? with
  |none=>.cW
  |some c=>
   if sort = "any" ∨ sort = "still" then .int (if sort = "any" then 1 else 0)
   else if sort = "none" then (if c∈signs.cps.toList then .cW else .int 1)
   else if c∈signs.cps.toList then .int (if sort = "many" then 1+kj signs.cps.toList (row.cps.toList.drop (i+1)) else 1) else .cW
theorem getL{row:Str}{i:Nat}:row.cps.toList.length=row.length:=by simp[Str.length]
theorem strAt{row:Str}{i:Int}(h0:0<=i)(h1:i<row.length):∃c,row.cps.toList[i.toNat]?=some c/\rO row.cps.toList i=some c:=F7 _ h0 (by rw[getL (i:=0)];exact h1)
noncomputable def n9(C:Addr)(fl:Str->List (Str×V))(sort:Str):Sp:=λvs H Q _=>∃(p dx:Addr) (signs row:Str) (i:Nat),vs=[.ref p,.str row,.int i]/\H p=some (.ins C dx (fl signs))/\signs.length<=1000/\row.length<=1000/\i<=row.length/\Q (fJ sort signs row i) H
noncomputable def mE(b:Bool):Sp:=λvs H Q _=>∃p:V,vs=[p]/\Q (.bl b) H
noncomputable def uy(C:Addr)(f:Str):Sp:=λvs H Q _=>∃(p dx:Addr) (z:Str),vs=[.ref p,.str z]/\H p=some (.ins C dx [])/\Q .cW (upd H p (.ins C dx [(f,.str z)]))
theorem Qd (T:Txt K mg t):bD P w K mg base dw 1 t.D5 t.JG ["self","text"] (uy t.gC "wanted"):=by
 refine T.Jc.m O6 λvs H Q E h=>?_
 ·obtain⟨p,dx,z,rfl,hp,q⟩:=h
  walk_at "i"
  refine ay (bW (pv 0) (pv 1) rfl) ?_
  exact⟨_,rfl,_,rfl,p,_,dx,[],rfl,hp,T.oW,T.ji,by decide,q⟩
theorem ON (T:Txt K mg t):bD P w K mg base dw 1 t.FO t.Ky ["self","signs"] (uy t.jo "signs"):=by
 refine T.JF.m OE λvs H Q E h=>?_
 ·obtain⟨p,dx,z,rfl,hp,q⟩:=h
  walk_at "i"
  refine ay (bW (pv 0) (pv 1) rfl) ?_
  exact⟨_,rfl,_,rfl,p,_,dx,[],rfl,hp,T.xV,T.ow,by decide,q⟩
theorem MM (T:Txt K mg t):bD P w K mg base dw 1 t.F0 t.KN ["self","signs"] (uy t.c7 "signs"):=by
 refine T.Kn.m Pp λvs H Q E h=>?_
 ·obtain⟨p,dx,z,rfl,hp,q⟩:=h
  walk_at "i"
  refine ay (bW (pv 0) (pv 1) rfl) ?_
  exact⟨_,rfl,_,rfl,p,_,dx,[],rfl,hp,T.mC,T.jW,by decide,q⟩
theorem Pa (T:Txt K mg t):bD P w K mg base dw 1 t.EB t.Kv ["self","signs"] (uy t.gJ "signs"):=by
 refine T.Jg.m PM λvs H Q E h=>?_
 ·obtain⟨p,dx,z,rfl,hp,q⟩:=h
  walk_at "i"
  refine ay (bW (pv 0) (pv 1) rfl) ?_
  exact⟨_,rfl,_,rfl,p,_,dx,[],rfl,hp,T.tY,T.nj,by decide,q⟩
theorem CV (T:Txt K mg t):bD P w K mg base dw 1 t.tV t.zK ["self"] (mE false):=by
 refine T.Gr.m N7 λvs H Q E h=>?_
 ·obtain⟨p,rfl,q⟩:=h
  walk_at "i"
  exact ay (aJ lF) q
theorem Nk (T:Txt K mg t):bD P w K mg base dw 1 t.zJ t.CJ ["self"] (mE true):=by
 refine T.LF.m Mr λvs H Q E h=>?_
 ·obtain⟨p,rfl,q⟩:=h
  walk_at "i"
  exact ay (aJ lF) q
theorem Pq (T:Txt K mg t):bD P w K mg base dw 1 t.zf t.ED ["self"] (mE true):=by
 refine T.JS.m MO λvs H Q E h=>?_
 ·obtain⟨p,rfl,q⟩:=h
  walk_at "i"
  exact ay (aJ lF) q
theorem OI (T:Txt K mg t):bD P w K mg base dw 1 t.zW t.CB ["self"] (mE true):=by
 refine T.JQ.m Pf λvs H Q E h=>?_
 ·obtain⟨p,rfl,q⟩:=h
  walk_at "i"
  exact ay (aJ lF) q
theorem MG (T:Txt K mg t):bD P w K mg base dw 1 t.zZ t.D7 ["self"] (mE true):=by
 refine T.KR.m NB λvs H Q E h=>?_
 ·obtain⟨p,rfl,q⟩:=h
  walk_at "i"
  exact ay (aJ lF) q
theorem RM (T:Txt K mg t):bD P w K mg base dw 1 t.Ij t.My ["self"] (mE true):=by
 refine T.RH.m Q2 λvs H Q E h=>?_
 ·obtain⟨p,rfl,q⟩:=h
  walk_at "i"
  exact ay (aJ lF) q
theorem Aw{row sg:Str}{i:Nat}(hi:i<=row.length):(decide (fromIndex row.length (i:Int)+sg.length<=row.length) && Builtin.Str.subAt row sg (fromIndex row.length (i:Int)))=decide ((row.cps.toList.drop i).take sg.length=sg.cps.toList):=by
 have e:fromIndex row.length (i:Int)=i:=by unfold fromIndex;rw[if_neg (by lia)];lia
 rw[e]
 have e2:Builtin.Str.subAt row sg i=decide ((row.cps.toList.drop i).take sg.length=sg.cps.toList):=by
  unfold Builtin.Str.subAt
  rw[Bool.eq_iff_iff,beq_iff_eq,decide_eq_true_eq]
  rw[← Array.toList_inj]
  simp[Array.toList_extract,List.extract_eq_take_drop]
 rw[e2,Bool.eq_iff_iff,Bool.and_eq_true,decide_eq_true_eq,decide_eq_true_eq]
 refine⟨λz=>z.2,λz=>⟨?_,z⟩⟩
 have:=congrArg List.length z
 rw[List.length_take,List.length_drop,getL (i:=0),getL (i:=0)] at this
 lia
theorem P6 (T:Txt K mg t):bD P w K mg base dw 1 t.zV t.Ep ["self","row","at"] (n9 t.gC (λz=>[("wanted",.str z)]) "word"):=by
 refine T.Lh.m MX λvs H Q E h=>?_
 ·obtain⟨p,dx,sg,row,i,rfl,hp,hs,hw,hi,q⟩:=h
  walk_at "i"
  refine ay (aJ (cN (iB (dG F.plainAttrs_str F.slot_str_startswith F.type_str_startswith yz (pv 1) (aa (aK (pv 0) rfl) (aa (pv 2) ai)))) (aN bz (by rfl) T.cy (by decide +kernel) (aa (aK (pv 0) rfl) ai)) bX)) ?_
  rw[fJ,if_neg (by decide),if_pos rfl] at q
  refine⟨_,rfl,rfl,_,rfl,p,_,dx,_,_,rfl,hp,T.oW,T.ji,rfl,_,rfl,_,_,_,rfl,rfl,_,rfl,?_⟩
  rw[Aw hi]
  refine fq (λh=>?_) (λh=>?_)
  ·rw[if_pos h] at q
   exact⟨_,rfl,p,_,dx,_,_,rfl,hp,T.oW,T.ji,rfl,_,rfl,b9 (by lia),q⟩
  ·rw[if_neg h] at q
   exact q
theorem gQ {sort sg row:Str} {i c:Nat} (h1:sort ≠ "end") (h2:sort ≠ "word") (e:row.cps.toList[i]?=some c):fJ sort sg row i=if sort = "any" ∨ sort = "still" then .int (if sort = "any" then 1 else 0)
   else if sort = "none" then (if c∈sg.cps.toList then .cW else .int 1)
   else if c∈sg.cps.toList then .int (if sort = "many" then 1+kj sg.cps.toList (row.cps.toList.drop (i+1)) else 1) else .cW:=by
 rw[fJ,if_neg h1,if_neg h2,e]
theorem iU {sort sg row:Str} {i:Nat} (h1:sort ≠ "end") (h2:sort ≠ "word") (h:row.length<=i):fJ sort sg row i=.cW:=by
 rw[fJ,if_neg h1,if_neg h2,List.getElem?_eq_none (by rw[getL (i:=0)];exact h)]
theorem Ou (T:Txt K mg t):bD P w K mg base dw 1 t.zQ t.Dt ["self","row","at"] (n9 t.jo (λz=>[("signs",.str z)]) "one"):=by
 refine T.Le.m MB λvs H Q E h=>?_
 ·obtain⟨p,dx,sg,row,i,rfl,hp,hs,hw,hi,q⟩:=h
  walk_at "i"
  refine ay (aJ (cN (PW.pt (iz (aE ie (pv 2) (aN bz (by rfl) T.cy (by decide +kernel) (aa (pv 1) ai)) (aI _)) (fV (aE nT (aR uE (pv 1) (pv 2) (λ_ _=>rfl)) (aK (pv 0) rfl) rfl)))) aq bX)) ?_
  walk_at "rd"
  refine⟨b9 (by lia),fq (λh=>?_) (λh=>?_)⟩
  ·obtain⟨c,e1,e2⟩:=strAt (row:=row) (i:=(i:Int)) (by lia) h
   rw[Int.toNat_natCast] at e1
   refine⟨b9 (by lia),c,e2,⟨_,rfl,_,_,_,_,_,rfl,hp,T.xV,T.ow,rfl,⟨sg,rfl,?_⟩⟩⟩
   rw[PySem.StrLaws.found_one]
   rw[gQ (by decide) (by decide) e1,if_neg (by decide),if_neg (by decide)] at q
   refine fq (λh=>?_) (λh=>?_)
   ·rw[if_pos h,if_neg (by decide)] at q
    exact q
   ·rw[if_neg h] at q
    exact q
  ·rw[iU (by decide) (by decide) (by lia)] at q
   exact q
theorem NL (T:Txt K mg t):bD P w K mg base dw 1 t.zU t.Bx ["self","row","at"] (n9 t.c7 (λz=>[("signs",.str z)]) "none"):=by
 refine T.JC.m Qp λvs H Q E h=>?_
 ·obtain⟨p,dx,sg,row,i,rfl,hp,hs,hw,hi,q⟩:=h
  walk_at "i"
  refine ay (aJ (cN (PW.pt (iz (aE ie (pv 2) (aN bz (by rfl) T.cy (by decide +kernel) (aa (pv 1) ai)) (aI _)) (fV (aE uP (aR uE (pv 1) (pv 2) (λ_ _=>rfl)) (aK (pv 0) rfl) rfl)))) aq bX)) ?_
  walk_at "rd"
  refine⟨b9 (by lia),fq (λh=>?_) (λh=>?_)⟩
  ·obtain⟨c,e1,e2⟩:=strAt (row:=row) (i:=(i:Int)) (by lia) h
   rw[Int.toNat_natCast] at e1
   refine⟨b9 (by lia),c,e2,⟨_,rfl,_,_,_,_,_,rfl,hp,T.mC,T.jW,rfl,⟨sg,rfl,?_⟩⟩⟩
   rw[PySem.StrLaws.found_one]
   rw[gQ (by decide) (by decide) e1,if_neg (by decide),if_pos rfl] at q
   refine qS (λh=>?_) (λh=>?_)
   ·rw[if_neg h] at q
    exact q
   ·rw[if_pos h] at q
    exact q
  ·rw[iU (by decide) (by decide) (by lia)] at q
   exact q
theorem SG (T:Txt K mg t):bD P w K mg base dw 1 t.Iu t.PD ["self","row","at"] (n9 t.kg (λz=>[]) "any"):=by
 refine T.Sb.m Ry λvs H Q E h=>?_
 ·obtain⟨p,dx,sg,row,i,rfl,hp,hs,hw,hi,q⟩:=h
  walk_at "i"
  refine ay (aJ (cN (aE ie (pv 2) (aN bz (by rfl) T.cy (by decide +kernel) (aa (pv 1) ai)) (aI _)) aq bX)) ?_
  walk_at "rd"
  refine⟨b9 (by lia),fq (λh=>?_) (λh=>?_)⟩
  ·obtain⟨c,e1,e2⟩:=strAt (row:=row) (i:=(i:Int)) (by lia) h
   rw[Int.toNat_natCast] at e1
   rw[gQ (by decide) (by decide) e1,if_pos (by decide),if_pos rfl] at q
   exact q
  ·rw[iU (by decide) (by decide) (by lia)] at q
   exact q
theorem Pz (T:Txt K mg t):bD P w K mg base dw 1 t.z8 t.FY ["self","row","at"] (n9 t.gp (λz=>[]) "still"):=by
 refine T.Kc.m M5 λvs H Q E h=>?_
 ·obtain⟨p,dx,sg,row,i,rfl,hp,hs,hw,hi,q⟩:=h
  walk_at "i"
  refine ay (aJ (cN (aE ie (pv 2) (aN bz (by rfl) T.cy (by decide +kernel) (aa (pv 1) ai)) (aI _)) aq bX)) ?_
  walk_at "rd"
  refine⟨b9 (by lia),fq (λh=>?_) (λh=>?_)⟩
  ·obtain⟨c,e1,e2⟩:=strAt (row:=row) (i:=(i:Int)) (by lia) h
   rw[Int.toNat_natCast] at e1
   rw[gQ (by decide) (by decide) e1,if_pos (by decide),if_neg (by decide)] at q
   exact q
  ·rw[iU (by decide) (by decide) (by lia)] at q
   exact q
theorem MH (T:Txt K mg t):bD P w K mg base dw 1 t.yX t.GK ["self","row","at"] (n9 t.jX (λz=>[]) "end"):=by
 refine T.L8.m NK λvs H Q E h=>?_
 ·obtain⟨p,dx,sg,row,i,rfl,hp,hs,hw,hi,q⟩:=h
  walk_at "i"
  refine ay (aJ (cN (aE ez (pv 2) (aN bz (by rfl) T.cy (by decide +kernel) (aa (pv 1) ai)) (aI _)) aq bX)) ?_
  walk_at "rd"
  rw[fJ,if_pos rfl] at q
  refine⟨b9 (by lia),rfl,fq (λh=>?_) (λh=>?_)⟩
  ·rw[if_pos (by lia)] at q
   exact q
  ·rw[if_neg (by lia)] at q
   exact q
theorem wc{sg l:List Nat}{j c:Nat}(e:l[j]?=some c):kj sg (l.drop j)=if c∈sg then 1+kj sg (l.drop (j+1)) else 0:=by
 have hdrop:l.drop j=c::l.drop (j+1):=by
  rw[List.drop_eq_getElem?_toList_append,e];rfl
 rw[hdrop,kj]
theorem M4 (T:Txt K mg t):bD P w K mg base dw 1 t.zD t.B9 ["self","row","at"] (n9 t.gJ (λz=>[("signs",.str z)]) "many"):=by
 refine T.JE.m yI λvs H Q E h=>?_
 ·obtain⟨p,dx,sg,row,i,rfl,hp,hs,hw,hi,q⟩:=h
  walk_at "i"
  have q':Q (if 0<kj sg.cps.toList (row.cps.toList.drop i) then .int (kj sg.cps.toList (row.cps.toList.drop i)) else .cW) H:=by
   by_cases h:i<row.length
   ·obtain⟨c,e1,e2⟩:=strAt (row:=row) (i:=(i:Int)) (by lia) (by lia)
    rw[Int.toNat_natCast] at e1
    rw[gQ (by decide) (by decide) e1,if_neg (by decide),if_neg (by decide),if_pos rfl] at q
    rw[wc e1]
    by_cases h2:c∈sg.cps.toList
    ·rw[if_pos h2] at q ⊢
     rw[if_pos (by lia)]
     exact q
    ·rw[if_neg h2] at q ⊢
     exact q
   ·rw[iU (by decide) (by decide) (by lia)] at q
    have:row.cps.toList.drop i=[]:=List.drop_eq_nil_of_le (by rw[getL (i:=0)];lia)
    rw[this]
    exact q
  refine ao (cS 3 yI (pv 2)) ?_
  walk_at "rd"
  refine aS (λZ' H'=>H'=H/\Z'=[some (.ref p),some (.str row),some (.int i),some (.int ((i:Int)+kj sg.cps.toList (row.cps.toList.drop i)))]) (jZ PassesOwn.never (PW.pt (iz (aE ie (pv 3) (aN bz (by rfl) T.cy (by decide +kernel) (aa (pv 1) ai)) (aI _)) (fV (aE nT (aR uE (pv 1) (pv 3) (λ_ _=>rfl)) (aK (pv 0) rfl) rfl)))) aA) ?_ ?_
  ·refine⟨λm Z' H'=>∃j:Nat,Z'=[some (.ref p),some (.str row),some (.int i),some (.int (j:Int))]/\H'=H/\j<=row.length/\m=row.length-j/\i+kj sg.cps.toList (row.cps.toList.drop i)=j+kj sg.cps.toList (row.cps.toList.drop j),⟨_,i,rfl,rfl,hi,rfl,rfl⟩,?_⟩
   rintro m Z' H' ⟨j,rfl,e,hj,rfl,hr⟩
   rw[e]
   clear e H'
   walk_at "rd"
   refine⟨b9 (by lia),fq (λh=>?_) (λh=>?_)⟩
   ·obtain⟨c,e1,e2⟩:=strAt (row:=row) (i:=(j:Int)) (by lia) h
    rw[Int.toNat_natCast] at e1
    rw[wc (j:=j) e1] at hr
    refine⟨b9 (by lia),c,e2,⟨_,rfl,_,_,_,_,_,rfl,hp,T.tY,T.nj,rfl,⟨sg,rfl,?_⟩⟩⟩
    rw[PySem.StrLaws.found_one]
    refine fq (λh2=>?_) (λh2=>?_)
    ·rw[if_pos h2] at hr
     refine⟨_,λZ' H' z=>z,ay (xZ (i:=3) yI.nd rfl (Or.inl rfl) aq yu) ?_⟩
     walk_at "rd"
     exact⟨row.length-(j+1),by lia,j+1,by simp,by lia,rfl,by lia⟩
    ·rw[if_neg h2] at hr
     refine⟨rfl,?_⟩
     rw[show (i:Int)+(kj sg.cps.toList (row.cps.toList.drop i):Nat)=(j:Int) by lia]
   ·have:row.cps.toList.drop j=[]:=List.drop_eq_nil_of_le (by rw[getL (i:=0)];lia)
    rw[this,kj] at hr
    lia
  rintro Z' H' ⟨e,rfl⟩
  rw[e]
  clear e H'
  refine ay (aJ (cN (aE gZ (pv 3) (pv 2) (aI _)) (aM eu (pv 3) (pv 2)) bX)) ?_
  walk_at "rd"
  refine fq (λh=>?_) (λh=>?_)
  ·rw[if_pos (by lia)] at q'
   rw[show (i:Int)+(kj sg.cps.toList (row.cps.toList.drop i):Nat)-i=kj sg.cps.toList (row.cps.toList.drop i) by lia]
   exact q'
  ·rw[if_neg (by lia)] at q'
   exact q'
theorem lY(sort sg row:Str)(i:Nat):(∃n:Int,fJ sort sg row i=.int n)∨fJ sort sg row i=.cW:=by
 unfold fJ
 repeat' split
 all_goals first | exact .inl ⟨_,rfl⟩ | exact .inr rfl
def bJ (sort:Str):Bool:=!decide (sort = "still" ∨ sort = "end")
structure vd(P:Program)(w:World)(K:PySem.W.Frag)(mg:Str->Option Value)(base:Heap)(C fe fs:Addr)(de ds:FuncData)(sort:Str)(fl:Str->List (Str×V)):Prop where
 cl:mO K C
 me:Meth K C "eaten" fe
 ms:Meth K C "eats" fs
 ne:∀z,(fl z).lookup ("eaten":Str)=none
 ns:∀z,(fl z).lookup ("eats":Str)=none
 ge:bD P w K mg base dw 1 fe de ["self","row","at"] (n9 C fl sort)
 be:Binds K de ["self","row","at"] []
 gs:bD P w K mg base dw 1 fs ds ["self"] (mE (bJ sort))
 bs:Binds K ds ["self"] []
 ty:PySem.W.findIn K (.ref C) "__class__" = some (some (.builtin "object.__class__"))
 mr:PySem.W.mroIn K C (.type "object")=some true
theorem IQ (T:Txt K mg t):vd P w K mg base t.gC t.zV t.zJ t.Ep t.CJ "word" (λz=>[("wanted",.str z)]) :=
 ⟨T.oW,T.Sn,T.QC,λ_=>by rfl,λ_=>by rfl,P6 T,T.Lh.binds (by walk_at "3"),by rw[show bJ "word" = true by decide +kernel];exact Nk T,T.LF.binds (by walk_at "1"),T.Il,T.Hq⟩
theorem Nt (T:Txt K mg t):vd P w K mg base t.jo t.zQ t.zf t.Dt t.ED "one" (λz=>[("signs",.str z)]) :=
 ⟨T.xV,T.R5,T.RZ,λ_=>by rfl,λ_=>by rfl,Ou T,T.Le.binds (by walk_at "3"),by rw[show bJ "one" = true by decide +kernel];exact Pq T,T.JS.binds (by walk_at "1"),T.N1,T.Nz⟩
theorem yt (T:Txt K mg t):vd P w K mg base t.c7 t.zU t.zW t.Bx t.CB "none" (λz=>[("signs",.str z)]) :=
 ⟨T.mC,T.RY,T.Se,λ_=>by rfl,λ_=>by rfl,NL T,T.JC.binds (by walk_at "3"),by rw[show bJ "none" = true by decide +kernel];exact OI T,T.JQ.binds (by walk_at "1"),T.yr,T.yc⟩
theorem Iw (T:Txt K mg t):vd P w K mg base t.gJ t.zD t.zZ t.B9 t.D7 "many" (λz=>[("signs",.str z)]) :=
 ⟨T.tY,T.QG,T.Ro,λ_=>by rfl,λ_=>by rfl,M4 T,T.JE.binds (by walk_at "3"),by rw[show bJ "many" = true by decide +kernel];exact MG T,T.KR.binds (by walk_at "1"),T.G3,T.IE⟩
theorem OZ (T:Txt K mg t):vd P w K mg base t.kg t.Iu t.Ij t.PD t.My "any" (λz=>[]) :=
 ⟨T.O7,T.Ug,T.T4,λ_=>by rfl,λ_=>by rfl,SG T,T.Sb.binds (by walk_at "3"),by rw[show bJ "any" = true by decide +kernel];exact RM T,T.RH.binds (by walk_at "1"),T.PR,T.MN⟩
theorem FF (T:Txt K mg t):vd P w K mg base t.gp t.z8 t.tV t.FY t.zK "still" (λz=>[]) :=
 ⟨T.DZ,T.S4,T.uI,λ_=>by rfl,λ_=>by rfl,Pz T,T.Kc.binds (by walk_at "3"),by rw[show bJ "still" = false by decide +kernel];exact CV T,T.Gr.binds (by walk_at "1"),T.Gp,T.BQ⟩
theorem Oj (T:Txt K mg t):vd P w K mg base t.jX t.yX t.tV t.GK t.zK "end" (λz=>[]) :=
 ⟨T.M9,T.RD,T.xg,λ_=>by rfl,λ_=>by rfl,MH T,T.L8.binds (by walk_at "3"),by rw[show bJ "end" = false by decide +kernel];exact CV T,T.Gr.binds (by walk_at "1"),T.NT,T.OQ⟩
structure aZ where
 sort:Str
 signs:Str
 aU:Str
 bq:Str
 goal:Option Nat
 fold:Str
structure aD where
 name:Str
 aU:Str
 rules:List aZ
abbrev sorts:List Str:=["word","one","none","many","any","still","end"]
abbrev bare (s:Str):Prop:=s = "any" ∨ s = "still" ∨ s = "end"
def iC (t:fE) (s:Str):Addr:=if s = "any" then t.kg else if s = "still" then t.gp else if s = "end" then t.jX else if s = "word" then t.gC else if s = "one" then t.jo else if s = "none" then t.c7 else t.gJ
def ly (s z:Str):List (Str×V):=if bare s then [] else if s = "word" then [("wanted",.str z)] else [("signs",.str z)]
theorem zb:iC t "any" = t.kg:=by rw[iC,if_pos rfl]
theorem tU:iC t "still" = t.gp:=by rw[iC,if_neg (by decide),if_pos rfl]
theorem zH:iC t "end" = t.jX:=by rw[iC,if_neg (by decide),if_neg (by decide),if_pos rfl]
theorem vj:iC t "word" = t.gC:=by rw[iC,if_neg (by decide),if_neg (by decide),if_neg (by decide),if_pos rfl]
theorem zE:iC t "one" = t.jo:=by rw[iC,if_neg (by decide),if_neg (by decide),if_neg (by decide),if_neg (by decide),if_pos rfl]
theorem vC:iC t "none" = t.c7:=by rw[iC,if_neg (by decide),if_neg (by decide),if_neg (by decide),if_neg (by decide),if_neg (by decide),if_pos rfl]
theorem vz:iC t "many" = t.gJ:=by rw[iC,if_neg (by decide),if_neg (by decide),if_neg (by decide),if_neg (by decide),if_neg (by decide),if_neg (by decide)]
theorem Bo:ly "any" = λ_=>[]:=by funext z;rw[ly,if_pos (by decide)]
theorem vP:ly "still" = λ_=>[]:=by funext z;rw[ly,if_pos (by decide)]
theorem GA:ly "end" = λ_=>[]:=by funext z;rw[ly,if_pos (by decide)]
theorem z5:ly "word" = λz=>([("wanted",.str z)]:List (Str×V)):=by funext z;rw[ly,if_neg (by decide),if_pos rfl]
theorem tu {s:Str} (h:¬ bare s) (h2:s ≠ "word"):ly s=λz=>([("signs",.str z)]:List (Str×V)):=by funext z;rw[ly,if_neg h,if_neg h2]
theorem fR {s:Str} (h:s∈sorts):s = "word" ∨ s = "one" ∨ s = "none" ∨ s = "many" ∨ s = "any" ∨ s = "still" ∨ s = "end" := by simpa using h
theorem Ht(T:Txt K mg t){s:Str}(h:s∈sorts):∃fe fs de ds,vd P w K mg base (iC t s) fe fs de ds s (ly s):=by
 rcases fR h with rfl|rfl|rfl|rfl|rfl|rfl|rfl
 ·rw[vj,z5];exact⟨_,_,_,_,IQ T⟩
 ·rw[zE,tu (by decide) (by decide)];exact⟨_,_,_,_,Nt T⟩
 ·rw[vC,tu (by decide) (by decide)];exact⟨_,_,_,_,yt T⟩
 ·rw[vz,tu (by decide) (by decide)];exact⟨_,_,_,_,Iw T⟩
 ·rw[zb,Bo];exact⟨_,_,_,_,OZ T⟩
 ·rw[tU,vP];exact⟨_,_,_,_,FF T⟩
 ·rw[zH,GA];exact⟨_,_,_,_,Oj T⟩
def jQ(t:fE)(H:Hp)(p:Addr)(s z:Str):Prop:=∃dx,H p=some (.ins (iC t s) dx (ly s z))
def jw:Option Nat->V
 |none=>.cW
 |some g=>.int g
def rf (p:Addr) (R:aZ):List (Str×V):=[("pattern",.ref p),("colour",.str R.aU),("deed",.str R.bq),("goal",jw R.goal),("fold",.str R.fold)]
def mf (M:aD) (l:Addr):List (Str×V):=[("name",.str M.name),("colour",.str M.aU),("rules",.ref l)]
def dB(t:fE)(H:Hp)(r:Addr)(R:aZ):Prop:=∃dx p,H r=some (.ins t.iM dx (rf p R))/\jQ t H p R.sort R.signs
theorem jQ.same{H H':Hp}{p:Addr}{s z:Str}(h:jQ t H p s z)(e:aj H H'):jQ t H' p s z:=by
 obtain⟨dx,x⟩:=h
 exact⟨dx,e _ _ x⟩
theorem dB.same{H H':Hp}{r:Addr}{R:aZ}(h:dB t H r R)(e:aj H H'):dB t H' r R:=by
 obtain⟨dx,p,x,y⟩:=h
 exact⟨dx,p,e _ _ x,y.same e⟩
def bI{α β:Type}(R:α->β->Prop)(as:List α)(bs:List β):Prop:=as.length=bs.length/\∀(i:Nat) a b,as[i]?=some a->bs[i]?=some b->R a b
theorem bI.nil{α β:Type}{R:α->β->Prop}:bI R [] []:=⟨rfl,λi a b h=>by simp at h⟩
theorem bI.mono{α β:Type}{R S:α->β->Prop}{as:List α}{bs:List β}(h:bI R as bs)(f:∀a b,R a b->S a b):bI S as bs:=⟨h.1,λi a b x y=>f a b (h.2 i a b x y)⟩
theorem dc{α:Type}{as:List α}{a x:α}{i:Nat}(h:(as++[a])[i]?=some x):as[i]?=some x∨(i=as.length/\x=a):=by
 by_cases hi:i<as.length
 ·rw[List.getElem?_append_left hi] at h;exact .inl h
 ·rw[List.getElem?_append_right (by lia)] at h
  have:i-as.length=0:=by
   cases e:i-as.length with
   |zero=>rfl
   |succ n=>rw[e] at h;simp at h
  rw[this] at h
  simp at h
  exact .inr ⟨by lia,h.symm⟩
theorem bI.snoc{α β:Type}{R:α->β->Prop}{as:List α}{bs:List β}{a:α}{b:β}(h:bI R as bs)(r:R a b):bI R (as++[a]) (bs++[b]):=by
 refine⟨by simp[h.1],λi x y hx hy=>?_⟩
 have hl:=h.1
 rcases dc hx with h1|⟨e1,rfl⟩
 ·rcases dc hy with h2|⟨e2,rfl⟩
  ·exact h.2 i x y h1 h2
  ·have:=(List.getElem?_eq_some_iff.mp h1).1;lia
 ·rcases dc hy with h2|⟨e2,rfl⟩
  ·have:=(List.getElem?_eq_some_iff.mp h2).1;lia
  ·exact r
theorem bI.at{α β:Type}{R:α->β->Prop}{as:List α}{bs:List β}(h:bI R as bs){i:Nat}{b:β}(e:bs[i]?=some b):∃a,as[i]?=some a/\R a b:=by
 have hi:=(List.getElem?_eq_some_iff.mp e).1
 have hi2:i<as.length:=by rw[h.1];exact hi
 exact⟨as[i],List.getElem?_eq_getElem hi2,h.2 i _ _ (List.getElem?_eq_getElem hi2) e⟩
structure cH(t:fE)(H:Hp)(as ls:List Addr)(ms:List aD):Prop where
 la:as.length=ms.length
 ll:ls.length=ms.length
 nd:ls.Nodup
 ob:∀(i:Nat) a l m,as[i]?=some a->ls[i]?=some l->ms[i]?=some m->∃dx rs,H a=some (.ins t.dN dx (mf m l))/\H l=some (.lst (rs.map V.ref))/\bI (dB t H) rs m.rules
theorem cH.same{H H':Hp}{as ls:List Addr}{ms:List aD}(h:cH t H as ls ms)(e:aj H H'):cH t H' as ls ms :=
 ⟨h.la,h.ll,h.nd,λi a l m h1 h2 h3=>let ⟨dx,rs,x,y,z⟩:=h.ob i a l m h1 h2 h3;⟨dx,rs,e _ _ x,e _ _ y,z.mono λ_ _ r=>r.same e⟩⟩
def IsRules (t:fE) (H:Hp) (a:Addr) (ms:List aD):Prop:=∃dx lm as ls,H a=some (.ins t.iY dx [("modes",.ref lm)])/\H lm=some (.lst (as.map V.ref))/\cH t H as ls ms
theorem IsRules.same{H H':Hp}{a:Addr}{ms:List aD}(h:IsRules t H a ms)(e:aj H H'):IsRules t H' a ms:=by
 obtain⟨dx,lm,as,ls,x,y,z⟩:=h
 exact⟨dx,lm,as,ls,e _ _ x,e _ _ y,z.same e⟩
theorem fG{H:Hp}{x dx:Addr}{o1 o2 o3:HO}(h1:H x=none)(h2:H dx=none):aj H (upd (upd (upd H dx o1) x o2) x o3):=λb o e=>by
 rw[ak (au e h1),ak (au e h1),ak (au e h2)];exact e
theorem bZ{H:Hp}{x dx:Addr}{o1 o2:HO}(h1:H x=none)(h2:H dx=none):aj H (upd (upd H dx o1) x o2):=λb o e=>by
 rw[ak (au e h1),ak (au e h2)];exact e
noncomputable def G6(t:fE):Sp:=λvs H Q _=>∃(x dx p:Addr) (R:aZ),vs=[.ref x,.ref p,.str R.aU,.str R.bq,jw R.goal,.str R.fold]/\H x=some (.ins t.iM dx [])/\Q .cW (upd H x (.ins t.iM dx (rf p R)))
theorem CI (T:Txt K mg t):bD P w K mg base dw 1 t.Dv t.LJ ["self","pattern","colour","deed","goal","fold"] (G6 t):=by
 refine T.CK.m Na λvs H Q E h=>?_
 ·obtain⟨x,dx,p,R,rfl,hx,q⟩:=h
  walk_at "i"
  refine ao (bW (pv 0) (pv 1) rfl) ⟨_,rfl,_,rfl,x,_,dx,[],rfl,hx,T.cG,T.eK,by decide,?_⟩
  refine ao (bW (pv 0) (pv 2) rfl) ⟨_,rfl,_,rfl,x,_,dx,[("pattern",.ref p)],rfl,af,T.cG,T.jf,by show 1<1000;decide,?_⟩
  refine ao (bW (pv 0) (pv 3) rfl) ⟨_,rfl,_,rfl,x,_,dx,[("pattern",.ref p),("colour",.str R.aU)],rfl,af,T.cG,T.fP,by show 2<1000;decide,?_⟩
  refine ao (bW (pv 0) (pv 4) rfl) ⟨_,rfl,_,rfl,x,_,dx,[("pattern",.ref p),("colour",.str R.aU),("deed",.str R.bq)],rfl,af,T.cG,T.i7,by show 3<1000;decide,?_⟩
  refine ay (bW (pv 0) (pv 5) rfl) ⟨_,rfl,_,rfl,x,_,dx,[("pattern",.ref p),("colour",.str R.aU),("deed",.str R.bq),("goal",jw R.goal)],rfl,af,T.cG,T.i0,by show 4<1000;decide,?_⟩
  rw[eE,eE,eE,eE]
  exact q
noncomputable def IG(t:fE):Sp:=λvs H Q _=>∃(x dx l:Addr) (n c:Str) (rs:List V),vs=[.ref x,.str n,.str c,.ref l]/\H x=some (.ins t.dN dx [])/\H l=some (.lst rs)/\
 ∀l2 H',H l2=none->H' x=some (.ins t.dN dx (mf ⟨n,c,[]⟩ l2))->H' l2=some (.lst rs)->gw H H' x->Q .cW H'
theorem DF (T:Txt K mg t):bD P w K mg base dw 1 t.EI t.JR ["self","name","colour","rules"] (IG t):=by
 refine T.DK.m PV λvs H Q E h=>?_
 ·obtain⟨x,dx,l,n,c,rs,rfl,hx,hl,q⟩:=h
  walk_at "i"
  have nlx:l≠x:=bL hl hx (by intro z;cases z)
  refine ao (bW (pv 0) (pv 1) rfl) ⟨_,rfl,_,rfl,x,_,dx,[],rfl,hx,T.fk,T.iX,by decide,?_⟩
  refine ao (bW (pv 0) (pv 2) rfl) ⟨_,rfl,_,rfl,x,_,dx,[("name",.str n)],rfl,af,T.fk,T.ja,by show 1<1000;decide,?_⟩
  refine ay (bW (pv 0) (cJ iF (by rfl) T.jI (by decide +kernel) (aa (pv 3) ai)) rfl) ⟨_,rfl,l,rs,rfl,.inl (bg.of (by rw[ak nlx,ak nlx];exact hl)),λl2 hl2=>?_⟩
  have n2:x≠l2:=au af hl2
  have hl0:H l2=none:=by rw[ak (Ne.symm n2),ak (Ne.symm n2)] at hl2;exact hl2
  refine⟨_,rfl,x,_,dx,[("name",.str n),("colour",.str c)],rfl,by rw[ak n2];exact af,T.fk,T.ff,by show 2<1000;decide,?_⟩
  refine q l2 _ hl0 af (by rw[ak (Ne.symm n2)];exact af) λb o hb nb=>?_
  rw[ak nb,ak (au hb hl0),ak nb,ak nb];exact hb
noncomputable def Cz(t:fE):Sp:=λvs H Q _=>∃(x dx l:Addr) (rs:List V),vs=[.ref x,.ref l]/\H x=some (.ins t.iY dx [])/\H l=some (.lst rs)/\
 ∀l2 H',H l2=none->H' x=some (.ins t.iY dx [("modes",.ref l2)])->H' l2=some (.lst rs)->gw H H' x->Q .cW H'
theorem B6 (T:Txt K mg t):bD P w K mg base dw 1 t.Fe t.LZ ["self","modes"] (Cz t):=by
 refine T.FD.m Qj λvs H Q E h=>?_
 ·obtain⟨x,dx,l,rs,rfl,hx,hl,q⟩:=h
  walk_at "i"
  refine ay (bW (pv 0) (cJ iF (by rfl) T.jI (by decide +kernel) (aa (pv 1) ai)) rfl) ⟨_,rfl,l,rs,rfl,.inl (bg.of hl),λl2 hl2=>?_⟩
  have n2:x≠l2:=au hx hl2
  refine⟨_,rfl,x,_,dx,[],rfl,by rw[ak n2];exact hx,T.gW,T.c5,by decide,?_⟩
  refine q l2 _ hl2 af (by rw[ak (Ne.symm n2)];exact af) λb o hb nb=>?_
  rw[ak nb,ak (au hb hl2)];exact hb
abbrev cE(s z:Str):List Str:=if bare s then [s] else [s,jh z]
structure uK(s z:Str):Prop where
 sort:s∈sorts
 OF:bare s->z = ""
 sg:¬ bare s->1<=z.length/\z.length<=200/\95∉z.cps.toList/\10∉z.cps.toList
theorem drop_cons{α:Type}{ws:List α}{i:Nat}{x:α}{r:List α}(h:ws.drop i=x::r):ws[i]?=some x/\ws.drop (i+1)=r:=by
 constructor
 ·have:=congrArg (λl=>l[0]?) h
  simpa [List.getElem?_drop] using this
 ·rw[← List.drop_drop,h];rfl
theorem gU{ws:List Str}{i:Nat}{x:Str}{r:List Str}(h:ws.drop i=x::r):pk ws i=x:=by
 unfold pk
 rw[List.getD_eq_getElem?_getD,(drop_cons h).1]
 rfl
theorem HX{ws:List Str}{i:Nat}{x:Str}{r:List Str}(h:ws.drop i=x::r):i<ws.length:=(List.getElem?_eq_some_iff.mp (drop_cons h).1).1
theorem uT{ws:List Str}{i:Nat}(h:ws.drop i=[]):ws.length<=i:=List.drop_eq_nil_iff.mp h
noncomputable def Hh(t:fE):Sp:=λvs H Q _=>∃(p dx lw:Addr) (row:Int) (ws:List Str) (i:Nat) (s z:Str) (rest:List Str),vs=[.ref p]/\mF t H p dx lw row ws i/\ws.drop i=cE s z++rest/\uK s z/\
 ∀a H' j,jQ t H' a s z->mF t H' p dx lw row ws j->ws.drop j=rest->gw H H' p->Q (.ref a) H'
theorem Ms (T:Txt K mg t):bD P w K mg base dw 5 t.F1 t.IW ["cursor"] (Hh t):=by
 refine T.DS.m xJ λvs H Q E h=>?_
 ·obtain⟨p,dx,lw,row,ws,i,s,z,rest,rfl,C,hd,G,q⟩:=h
  walk_at "i"
  have hk:pk ws i=s:=by
   by_cases hb:bare s
   ·rw[cE,if_pos hb] at hd;exact gU hd
   ·rw[cE,if_neg hb] at hd;exact gU hd
  refine ao (cS 1 xJ (bF (pv 0) T.aV T.Hs (zu T) hr.m (T.Gb.binds (by walk_at "2")) .nil aF (aa (mQ rfl T.uw (v:=V.ref t.jO) rfl) ai))) ⟨_,rfl,p,dx,_,rfl,C.ob,rfl,p,dx,lw,t.jO,sorts,row,ws,i,rfl,C,T.vU _,by rw[hk];exact G.sort,λH1 C1 a1=>?_⟩
  rw[hk]
  refine ao (bK (aE ez (pv 1) az (aI _)) aA aA) ⟨_,rfl,rfl,_,rfl,fq (λh=>?_) (λh1=>bG ?_)⟩
  ·have h:=V.str.inj h
   subst h
   refine ay (aJ (qU T.Ph rfl T.Ia)) λx dx' nx ndx ne=>?_
   rw[cE,if_pos (by decide)] at hd
   exact q x _ (i+1) ⟨dx',by rw[zb,Bo];exact af⟩ (C1.same (bZ nx ndx)) (drop_cons hd).2 (a1.same (bZ nx ndx))
  refine ao (bK (aE ez (pv 1) az (aI _)) aA aA) ⟨_,rfl,rfl,_,rfl,fq (λh=>?_) (λh2=>bG ?_)⟩
  ·have h:=V.str.inj h
   subst h
   refine ay (aJ (qU T.BO rfl T.AD)) λx dx' nx ndx ne=>?_
   rw[cE,if_pos (by decide)] at hd
   exact q x _ (i+1) ⟨dx',by rw[tU,vP];exact af⟩ (C1.same (bZ nx ndx)) (drop_cons hd).2 (a1.same (bZ nx ndx))
  refine ao (bK (aE ez (pv 1) az (aI _)) aA aA) ⟨_,rfl,rfl,_,rfl,fq (λh=>?_) (λh3=>bG ?_)⟩
  ·have h:=V.str.inj h
   subst h
   refine ay (aJ (qU T.Ob rfl T.IA)) λx dx' nx ndx ne=>?_
   rw[cE,if_pos (by decide)] at hd
   exact q x _ (i+1) ⟨dx',by rw[zH,GA];exact af⟩ (C1.same (bZ nx ndx)) (drop_cons hd).2 (a1.same (bZ nx ndx))
  have nb:¬ bare s:=by
   rintro (e|e|e)
   ·exact h1 (by rw[e])
   ·exact h2 (by rw[e])
   ·exact h3 (by rw[e])
  rw[cE,if_neg nb] at hd
  have hd2:=(drop_cons hd).2
  obtain⟨z1,z2,z3,z4⟩:=G.sg nb
  refine ao (cS 2 xJ (bN (pv 0) T.aV T.Uj (Sf T) hr.m (T.QY.binds (by walk_at "1")) .nil aF)) ⟨_,rfl,p,dx,_,rfl,C1.ob,rfl,p,dx,lw,row,ws,i+1,z,rfl,C1,gU hd2,z1,by lia,z3,λH2 C2 a2=>?_⟩
  have hd3:=(drop_cons hd2).2
  have a3:=a1.trans a2
  refine ao (bK (aE ez (pv 1) az (aI _)) aA aA) ⟨_,rfl,rfl,_,rfl,fq (λh=>?_) (λh4=>bG ?_)⟩
  ·have h:=V.str.inj h
   subst h
   refine ay (aJ (dI T.Hr (Qd T) hr.m rfl T.Gg (T.Jc.binds (by walk_at "2")) .nil aF (aa (pv 2) ai))) ⟨_,rfl,λx dx' nx ndx ne=>⟨x,dx',z,rfl,af,rfl,?_⟩⟩
   exact q x _ (i+1+1) ⟨dx',by rw[vj,z5];exact af⟩ (C2.same (fG nx ndx)) hd3 (a3.same (fG nx ndx))
  refine ao (bK (aE ez (pv 1) az (aI _)) aA aA) ⟨_,rfl,rfl,_,rfl,fq (λh=>?_) (λh5=>bG ?_)⟩
  ·have h:=V.str.inj h
   subst h
   refine ay (aJ (dI T.Qt (ON T) hr.m rfl T.HF (T.JF.binds (by walk_at "2")) .nil aF (aa (pv 2) ai))) ⟨_,rfl,λx dx' nx ndx ne=>⟨x,dx',z,rfl,af,rfl,?_⟩⟩
   exact q x _ (i+1+1) ⟨dx',by rw[zE,tu nb (by decide)];exact af⟩ (C2.same (fG nx ndx)) hd3 (a3.same (fG nx ndx))
  refine ao (bK (aE ez (pv 1) az (aI _)) aA aA) ⟨_,rfl,rfl,_,rfl,fq (λh=>?_) (λh6=>bG ?_)⟩
  ·have h:=V.str.inj h
   subst h
   refine ay (aJ (dI T.xN (MM T) hr.m rfl T.wN (T.Kn.binds (by walk_at "2")) .nil aF (aa (pv 2) ai))) ⟨_,rfl,λx dx' nx ndx ne=>⟨x,dx',z,rfl,af,rfl,?_⟩⟩
   exact q x _ (i+1+1) ⟨dx',by rw[vC,tu nb (by decide)];exact af⟩ (C2.same (fG nx ndx)) hd3 (a3.same (fG nx ndx))
  have h:s = "many" := by
   rcases fR G.sort with e|e|e|e|e|e|e
   ·exact absurd (by rw[e]) h4
   ·exact absurd (by rw[e]) h5
   ·exact absurd (by rw[e]) h6
   ·exact e
   ·exact absurd (by rw[e]) h1
   ·exact absurd (by rw[e]) h2
   ·exact absurd (by rw[e]) h3
  subst h
  refine ay (aJ (dI T.G5 (Pa T) hr.m rfl T.Ey (T.Jg.binds (by walk_at "2")) .nil aF (aa (pv 2) ai))) ⟨_,rfl,λx dx' nx ndx ne=>⟨x,dx',z,rfl,af,rfl,?_⟩⟩
  exact q x _ (i+1+1) ⟨dx',by rw[vz,tu nb (by decide)];exact af⟩ (C2.same (fG nx ndx)) hd3 (a3.same (fG nx ndx))
noncomputable def Gy(t:fE):Sp:=λvs H Q _=>∃(p dx lw d:Addr) (nw:V) (row:Int) (ws:List Str) (i g:Nat) (kvs:List (Key×V)),vs=[.ref p,.ref d,nw]/\mF t H p dx lw row ws i/\H d=some (.dK kvs)/\isName (pk ws i)=true/\dU kvs (.inr (pk ws i))=some (.int g)/\
 ∀H',mF t H' p dx lw row ws (i+1)->gw H H' p->Q (.int g) H'
theorem MF (T:Txt K mg t):bD P w K mg base dw 5 t.Ci t.Lg ["cursor","numbers","nowhere"] (Gy t):=by
 refine T.EH.m xA λvs H Q E h=>?_
 ·obtain⟨p,dx,lw,d,nw,row,ws,i,g,kvs,rfl,C,hd,hn,hv,q⟩:=h
  walk_at "i"
  refine ao (cS 3 xA (bC (aa (aK (pv 0) rfl) (aa (aK (pv 0) rfl) ai)))) ?_
  refine⟨_,rfl,_,_,_,_,_,rfl,C.ob,T.aV,T.mJ,rfl,?_⟩
  refine⟨_,rfl,_,_,_,_,_,rfl,C.ob,T.aV,T.ia,rfl,?_⟩
  refine⟨by show 2<=sizeLine;decide,λpt hpt=>?_⟩
  have s1:aj H (upd H pt (.tup [.int row,.int i])):=aj.upd hpt
  have C1:=C.same s1
  refine ao (cS 4 xA (bN (pv 0) T.aV T.GY (Ab T) hr.m (T.Br.binds (by walk_at "1")) .nil aF)) ⟨_,rfl,p,dx,_,rfl,C1.ob,rfl,p,dx,lw,row,ws,i,rfl,C1,hn,λH2 C2 a2=>?_⟩
  have npd:d≠p:=bL hd C.ob (by intro z;cases z)
  have hd2:H2 d=some (.dK kvs):=a2 _ _ (s1 _ _ hd) npd
  refine ao (bK (xH (sV (cK hr) (pv 4) (pv 1))) aA aA) ⟨_,rfl,_,rfl,d,_,rfl,k9.k (k:=.inr (pk ws i)) hd2,_,rfl,?_⟩
  rw[hv]
  refine lQ (bG ?_)
  refine ay (aJ (Ec (cK hr) (pv 1) (pv 4) ⟨rfl,rfl,rfl,rfl⟩)) ⟨_,rfl,d,rfl,.inl ⟨kvs,.inl hd2⟩,_,rfl,_,k9.k (k:=.inr (pk ws i)) hd2,?_⟩
  rw[hv]
  exact q H2 C2 (s1.GO a2)
abbrev sJ:List Str:=["stay","push","pop","into"]
abbrev i6 (d:Str):Prop:=d = "push" ∨ d = "into"
def oh(names:List Str):Option Nat->List Str
 |some g=>[names.getD g ""]
 |none=>[]
theorem tL{names:List Str}{g:Option Nat}:(oh names g).length<=1:=by cases g <;> simp[oh]
def cO (names:List Str) (R:aZ):List Str:=cE R.sort R.signs++((if bJ R.sort=true then [R.aU] else [])++([R.bq]++(oh names R.goal++if R.fold = "" then [] else [R.fold])))
structure fc(names:List Str)(R:aZ):Prop where
 pat:uK R.sort R.signs
 col:bJ R.sort=true->isName R.aU=true
 Sd:bJ R.sort=false->R.aU = ""
 bq:R.bq∈sJ
 goal:i6 R.bq->∃g,R.goal=some g/\g<names.length
 Dd:¬ i6 R.bq->R.goal=none
 fold:R.fold = "" ∨ R.fold = "open" ∨ R.fold = "close"
def numsOf(names:List Str)(kvs:List (Key×V)):Prop:=∀(g:Nat) n,names[g]?=some n->dU kvs (.inr n)=some (.int g)
noncomputable def FA(t:fE):Sp:=λvs H Q _=>∃(p dx lw d:Addr) (nw:V) (row:Int) (ws:List Str) (kvs:List (Key×V)) (names:List Str) (R:aZ),vs=[.ref p,.ref d,nw]/\mF t H p dx lw row ws 0/\ws=cO names R/\H d=some (.dK kvs)/\numsOf names kvs/\
 (∀n∈names,isName n=true)/\fc names R/\∀r H',dB t H' r R->gw H H' p->Q (.ref r) H'
theorem jQ.GO{H H':Hp}{p a dx lw:Addr}{row:Int}{ws:List Str}{i:Nat}{s z:Str}(h:jQ t H a s z)(C:mF t H p dx lw row ws i)(e:gw H H' p):jQ t H' a s z:=by
 obtain⟨d,x⟩:=h
 refine⟨d,e _ _ x (bL x C.ob λq=>?_)⟩
 injection q with _ _ q
 unfold ly cf at q
 split at q
 ·cases q
 ·split at q <;> simp at q
theorem P9 (T:Txt K mg t):bD P w K mg base dw 6 t.CG t.JU ["cursor","numbers","nowhere"] (FA t):=by
 refine T.Dw.m nG λvs H Q E h=>?_
 ·obtain⟨p,dx,lw,d,nw,row,ws,kvs,names,R,rfl,C,hws,hd,hnum,hnm,G,q⟩:=h
  walk_at "i"
  have npd:d≠p:=bL hd C.ob (by intro z;cases z)
  obtain⟨fe,fs,de,ds,PK⟩:=Ht (P:=P) (w:=w) (base:=base) T G.pat.sort
  refine ao (cS 3 nG (aW (Ms T) hr.m rfl T.O3 T.DS.kp (T.DS.binds (by walk_at "1")) .nil aF (aa (pv 0) ai))) ⟨_,rfl,p,dx,lw,row,ws,0,R.sort,R.signs,_,rfl,C,by rw[List.drop_zero,hws,cO],G.pat,λpa H1 j1 hp1 C1 hd1 a1=>?_⟩
  refine aS (λZ' H'=>∃j,Z'=[some (.ref p),some (.ref d),some nw,some (.ref pa),some (.str R.aU),none,none,none]/\mF t H' p dx lw row ws j/\jQ t H' pa R.sort R.signs/\gw H H' p/\
   ws.drop j=R.bq::(oh names R.goal++if R.fold = "" then [] else [R.fold])) (cS 4 nG (cN (iB (bN (pv 3) PK.cl PK.ms PK.gs hr.m PK.bs .nil aF)) (bN (pv 0) T.aV T.GY (Ab T) hr.m (T.Br.binds (by walk_at "1")) .nil aF) az)) ?_ ?_
  ·obtain⟨dpa,hpa⟩:=hp1
   refine⟨_,rfl,pa,dpa,_,rfl,hpa,PK.ns _,_,rfl,_,rfl,Ti (λh=>?_) (λh=>?_)⟩
   ·rw[if_pos h] at hd1
    refine⟨_,rfl,p,dx,_,rfl,C1.ob,rfl,p,dx,lw,row,ws,j1,rfl,C1,by rw[gU hd1];exact G.col h,λH2 C2 a2=>?_⟩
    rw[gU hd1]
    exact⟨j1+1,rfl,C2,jQ.GO ⟨dpa,hpa⟩ C1 a2,a1.trans a2,(drop_cons hd1).2⟩
   ·rw[h,if_neg (by decide)] at hd1
    rw[G.Sd h]
    exact⟨j1,rfl,C1,⟨dpa,hpa⟩,a1,hd1⟩
  rintro Z' H2 ⟨j2,rfl,C2,hp2,a2,hd2⟩
  refine ao (cS 5 nG (bF (pv 0) T.aV T.Hs (zu T) hr.m (T.Gb.binds (by walk_at "2")) .nil aF (aa (mQ rfl T.A8 (v:=V.ref t.o7) rfl) ai))) ⟨_,rfl,p,dx,_,rfl,C2.ob,rfl,p,dx,lw,t.o7,sJ,row,ws,j2,rfl,C2,T.FI _,by rw[gU hd2];exact G.bq,λH3 C3 a3=>?_⟩
  rw[gU hd2]
  have hp3:=hp2.GO C2 a3
  have a3:=a2.trans a3
  have hd3:=(drop_cons hd2).2
  refine aS (λZ' H'=>∃j,Z'=[some (.ref p),some (.ref d),some nw,some (.ref pa),some (.str R.aU),some (.str R.bq),some (jw R.goal),none]/\mF t H' p dx lw row ws j/\jQ t H' pa R.sort R.signs/\gw H H' p/\
   ws.drop j=if R.fold = "" then [] else [R.fold]) (cS 6 nG (cN (aE tT (pv 5) (mQ rfl T.AO (v:=V.ref t.uO) rfl) rfl) (aW (MF T) hr.m rfl T.PL T.EH.kp (T.EH.binds (by walk_at "3")) .nil aF (aa (pv 0) (aa (pv 1) (aa (pv 2) ai)))) bX)) ?_ ?_
  ·refine⟨_,rfl,_,_,rfl,.inr (T.EZ _),rfl,rfl,_,rfl,?_⟩
   rw[show ([.str "push",.str "into"]:List V)=(["push","into"]:List Str).map V.str from rfl,pJ]
   refine fq (λh=>?_) (λh=>?_)
   ·have h:i6 R.bq:=by simpa using h
    obtain⟨g,eg,hg⟩:=G.goal h
    rw[eg] at hd3 ⊢
    have e:=gU hd3
    have hgn:names[g]?=some (names.getD g ""):=by simp[hg]
    have hv:=hnum g _ hgn
    have hin:isName (names.getD g "")=true:=hnm _ (List.mem_of_getElem? hgn)
    refine⟨_,rfl,_,rfl,_,rfl,p,dx,lw,d,nw,row,ws,j2+1,g,kvs,rfl,C3,a3 _ _ hd npd,by rw[e];exact hin,by rw[e];exact hv,λH4 C4 a4=>?_⟩
    exact⟨_,rfl,C4,hp3.GO C3 a4,a3.trans a4,(drop_cons hd3).2⟩
   ·have h:¬ i6 R.bq:=by simpa using h
    rw[G.Dd h] at hd3 ⊢
    exact⟨_,rfl,C3,hp3,a3,hd3⟩
  rintro Z' H4 ⟨j4,rfl,C4,hp4,a4,hd4⟩
  refine aS (λZ' H'=>∃j,Z'=[some (.ref p),some (.ref d),some nw,some (.ref pa),some (.str R.aU),some (.str R.bq),some (jw R.goal),some (.str R.fold)]/\mF t H' p dx lw row ws j/\jQ t H' pa R.sort R.signs/\gw H H' p/\
   ws.drop j=[]) (cS 7 nG (cN (iB (bN (pv 0) T.aV T.GS (zB T) hr.m (T.Ef.binds (by walk_at "1")) .nil aF)) (bF (pv 0) T.aV T.Hs (zu T) hr.m (T.Gb.binds (by walk_at "2")) .nil aF (aa (mQ rfl T.Ba (v:=V.ref t.pq) rfl) ai)) az)) ?_ ?_
  ·refine⟨_,rfl,p,dx,_,rfl,C4.ob,rfl,p,dx,lw,row,ws,j4,rfl,C4,_,rfl,fq (λh=>?_) (λh=>?_)⟩
   ·have hf:R.fold ≠ "" := λz=>by rw[if_pos z] at hd4;have:=uT hd4;lia
    rw[if_neg hf] at hd4
    refine⟨_,rfl,p,dx,_,rfl,C4.ob,rfl,p,dx,lw,t.pq,["open","close"],row,ws,j4,rfl,C4,T.B0 _,?_,λH5 C5 a5=>?_⟩
    ·rw[gU hd4]
     rcases G.fold with z|z|z
     ·exact absurd z hf
     ·rw[z];decide
     ·rw[z];decide
    ·rw[gU hd4]
     exact⟨_,rfl,C5,hp4.GO C4 a5,a4.trans a5,(drop_cons hd4).2⟩
   ·have hf:R.fold = "" := by
     by_cases z:R.fold = ""
     ·exact z
     ·rw[if_neg z] at hd4;exact absurd (HX hd4) h
    rw[if_pos hf] at hd4
    rw[hf]
    exact⟨_,rfl,C4,hp4,a4,hd4⟩
  rintro Z' H5 ⟨j5,rfl,C5,hp5,a5,hd5⟩
  have hj5:=uT hd5
  refine ao (bx (bF (pv 0) T.aV T.Au (tO T) hr.m (T.xq.binds (by walk_at "2")) .nil aF (aa (E9 (bN (pv 0) T.aV T.GS (zB T) hr.m (T.Ef.binds (by walk_at "1")) .nil aF)) ai))) ⟨_,rfl,p,dx,_,rfl,C5.ob,rfl,⟨_,rfl,p,dx,_,rfl,C5.ob,rfl,p,dx,lw,row,ws,j5,rfl,C5,_,rfl,?_⟩⟩
  rw[decide_eq_false (by lia)]
  refine⟨_,rfl,?_⟩
  refine ay (aJ (dI T.zM (CI T) hr.m rfl T.wL (T.CK.binds (by walk_at "6")) .nil aF (aa (pv 3) (aa (pv 4) (aa (pv 5) (aa (pv 6) (aa (pv 7) ai))))))) ⟨_,rfl,_,rfl,_,rfl,_,rfl,_,rfl,λx dx' nx ndx ne=>⟨x,dx',pa,R,rfl,af,rfl,?_⟩⟩
  exact q x _ ⟨dx',pa,af,hp5.same (fG nx ndx)⟩ (a5.same (fG nx ndx))
inductive Item where
 |mode (n c:Str)
 |rule (R:aZ)
def Item.words(names:List Str):Item->List Str
 |.mode n c=>["mode",n,c]
 |.rule R=>cO names R
def rowOf(names:List Str)(it:Item):Str:=Str.join ⟨#[32]⟩ (it.words names)
def iZ(R:aZ):List aD->List aD
 | []=>[]
 | [m]=>[{ m with rules:=m.rules++[R] }]
 |m::n::r=>m::iZ R (n::r)
def stepI(ms:List aD):Item->List aD
 |.mode n c=>ms++[⟨n,c,[]⟩]
 |.rule R=>iZ R ms
def foldI(its:List Item):List aD:=its.foldl stepI []
def wQ:Item->List Str
 |.mode n _=>[n]
 |.rule _=>[]
def namesOf(its:List Item):List Str:=its.flatMap wQ
structure fQ(its:List Item):Prop where
 ne:its≠[]
 mode:∀(i:Nat) n c,its[i]?=some (.mode n c)->isName n=true/\isName c=true/\(namesOf (its.take i)).length<12/\n∉namesOf (its.take i)
 rule:∀(i:Nat) R,its[i]?=some (.rule R)->fc (namesOf its) R/\∃ms m,foldI (its.take i)=ms++[m]/\m.rules.length<12
theorem jH(R:aZ)(m:aD):∀ms:List aD,iZ R (ms++[m])=ms++[{ m with rules:=m.rules++[R] }]
 | []=>rfl
 | [x]=>rfl
 |x::y::r=>by
  show x::iZ R (y::r++[m])=_
  rw[jH R m (y::r)]
  rfl
theorem lC(R:aZ):∀ms:List aD,(iZ R ms).map (·.name)=ms.map (·.name)
 | []=>rfl
 | [x]=>rfl
 |x::y::r=>by
  show x.name::(iZ R (y::r)).map (·.name)=_
  rw[lC R (y::r)]
  rfl
theorem take_snoc{α:Type}{l:List α}{i:Nat}{x:α}(h:l[i]?=some x):l.take (i+1)=l.take i++[x]:=by rw[List.take_succ,h];rfl
theorem qp(its:List Item)(it:Item):foldI (its++[it])=stepI (foldI its) it:=by unfold foldI;rw[List.foldl_append];rfl
theorem kC(a b:List Item):namesOf (a++b)=namesOf a++namesOf b:=by unfold namesOf;rw[List.flatMap_append]
theorem iS:∀(its:List Item) (ms:List aD),(its.foldl stepI ms).map (·.name)=ms.map (·.name)++namesOf its
 | [],ms=>by simp[namesOf]
 |.mode n c::r,ms=>by
  rw[List.foldl_cons,iS r]
  simp[stepI,namesOf,wQ]
 |.rule R::r,ms=>by
  rw[List.foldl_cons,iS r]
  simp[stepI,namesOf,wQ,lC]
theorem qH(its:List Item):(foldI its).map (·.name)=namesOf its:=by
 unfold foldI;rw[iS];rfl
structure jv(x:Str):Prop where
 b:32∉x.cps.toList
 n:10∉x.cps.toList
 l:x.length<=202
theorem br(x:Str):x.cps.toList.length=x.length:=by simp[Str.length]
theorem kQ{x:Str}(h:isName x=true):jv x:=by
 unfold isName at h
 simp only[Bool.and_eq_true,decide_eq_true_eq,List.all_eq_true] at h
 obtain⟨⟨h1,h2⟩,h3⟩:=h
 refine⟨λz=>?_,λz=>?_,by lia⟩
 ·exact absurd (h3 _ z) (by decide +kernel)
 ·exact absurd (h3 _ z) (by decide +kernel)
theorem vB{z:Str}(h:z.length<=200)(h2:10∉z.cps.toList):jv (jh z):=by
 refine⟨λy=>?_,λy=>?_,?_⟩
 ·rw[gI] at y
  rcases List.mem_cons.mp y with y|y
  ·exact absurd y (by decide)
  ·unfold kH at y
   obtain⟨c,_,e⟩:=List.mem_map.mp y
   split at e <;> lia
 ·rw[gI] at y
  rcases List.mem_cons.mp y with y|y
  ·exact absurd y (by decide)
  ·unfold kH at y
   obtain⟨c,hc,e⟩:=List.mem_map.mp y
   split at e
   ·lia
   ·exact h2 (e ▸ hc)
 ·have:=congrArg List.length (gI z)
  rw[br,List.length_cons,kH,List.length_map,br] at this
  lia
theorem kO {s:Str} (h:s∈sorts):jv s/\s ≠ "mode" := by
 rcases fR h with rfl|rfl|rfl|rfl|rfl|rfl|rfl <;> exact⟨⟨by decide +kernel,by decide +kernel,by decide +kernel⟩,by decide +kernel⟩
theorem AS{s z:Str}(G:uK s z):∀x∈cE s z,jv x:=by
 intro x hx
 unfold cE at hx
 split at hx
 ·rw[List.mem_singleton.mp hx];exact(kO G.sort).1
 ·rename_i hb
  obtain⟨z1,z2,z3,z4⟩:=G.sg hb
  rcases List.mem_cons.mp hx with e|e
  ·rw[e];exact(kO G.sort).1
  ·rw[List.mem_singleton.mp e];exact vB z2 z4
theorem qP{names:List Str}{R:aZ}(hn:∀n∈names,isName n=true)(G:fc names R):∀x∈cO names R,jv x:=by
 intro x hx
 unfold cO at hx
 simp only[List.mem_append] at hx
 rcases hx with hx|hx|hx|hx|hx
 ·exact AS G.pat x hx
 ·split at hx
  ·rename_i h;rw[List.mem_singleton.mp hx];exact kQ (G.col h)
  ·cases hx
 ·rw[List.mem_singleton.mp hx]
  have:=G.bq
  simp only[List.mem_cons,List.not_mem_nil,or_false] at this
  rcases this with e|e|e|e <;> rw[e] <;> exact⟨by decide +kernel,by decide +kernel,by decide +kernel⟩
 ·cases e:R.goal with
  |some g=>
   rw[e] at hx
   rw[List.mem_singleton.mp hx]
   have hg:g<names.length:=by
    by_cases h:i6 R.bq
    ·obtain⟨g',e',h'⟩:=G.goal h
     rw[e] at e';cases e';exact h'
    ·rw[G.Dd h] at e;cases e
   refine kQ (hn _ ?_)
   have:names.getD g "" = names[g]:=by simp[hg]
   rw[this];exact List.getElem_mem hg
  |none=>rw[e] at hx;cases hx
 ·split at hx
  ·cases hx
  ·rw[List.mem_singleton.mp hx]
   rcases G.fold with e|e|e <;> rw[e] <;> exact⟨by decide +kernel,by decide +kernel,by decide +kernel⟩
theorem yY{s z:Str}:1<=(cE s z).length/\(cE s z).length<=2:=by
 unfold cE
 split
 ·exact⟨by show 1<=1;decide,by show 1<=2;decide⟩
 ·exact⟨by show 1<=2;decide,by show 2<=2;decide⟩
theorem wm{names:List Str}{R:aZ}:1<=(cO names R).length/\(cO names R).length<=7:=by
 have h1:=yY (s:=R.sort) (z:=R.signs)
 have h2:(if bJ R.sort=true then [R.aU] else []).length<=1:=by split <;> simp
 have h3:=tL (names:=names) (g:=R.goal)
 have h4:(if R.fold = "" then [] else [R.fold]).length<=1:=by split <;> simp
 unfold cO
 simp only[List.length_append,List.length_cons,List.length_nil]
 lia
theorem qW{its:List Item}(G:fQ its):∀n∈namesOf its,isName n=true:=by
 intro n hn
 unfold namesOf at hn
 obtain⟨it,h1,h2⟩:=List.mem_flatMap.mp hn
 obtain⟨i,h3⟩:=List.mem_iff_getElem?.mp h1
 cases it with
 |mode a c=>
  have e:n=a:=List.mem_singleton.mp h2
  rw[e]
  exact(G.mode i a c h3).1
 |rule R=>cases h2
theorem pP{its:List Item}(G:fQ its){i:Nat}{it:Item}(h:its[i]?=some it):(∀x∈it.words (namesOf its),jv x)/\it.words (namesOf its)≠[]/\(it.words (namesOf its)).length<=7:=by
 cases it with
 |mode n c=>
  obtain⟨h1,h2,_⟩:=G.mode i n c h
  refine⟨λx hx=>?_,by simp[Item.words],by simp[Item.words]⟩
  simp only[Item.words,List.mem_cons,List.not_mem_nil,or_false] at hx
  rcases hx with e|e|e
  ·rw[e];exact⟨by decide +kernel,by decide +kernel,by decide +kernel⟩
  ·rw[e];exact kQ h1
  ·rw[e];exact kQ h2
 |rule R=>
  obtain⟨h1,_⟩:=G.rule i R h
  have hl:=wm (names:=namesOf its) (R:=R)
  exact⟨qP (qW G) h1,λz=>by simp only[Item.words] at z;rw[z] at hl;simp at hl,hl.2⟩
theorem sC{c d:Nat}(hcd:d≠c):∀{ps:List (List Nat)},(∀p∈ps,d∉p)->d∉bM c ps
 | [],_,z=>by cases z
 | [x],h,z=>h x (by simp) z
 |x::y::r,h,z=>by
  unfold bM at z
  rcases List.mem_append.mp z with z|z
  ·exact h x (by simp) z
  ·rcases List.mem_cons.mp z with z|z
   ·exact hcd z
   ·exact sC hcd (λp hp=>h p (List.mem_cons_of_mem _ hp)) z
theorem nM{c m:Nat}:∀{ps:List (List Nat)},(∀p∈ps,p.length<=m)->(bM c ps).length<=ps.length*(m+1)
 | [],_=>by simp[bM]
 | [x],h=>by have:=h x (by simp);simp[bM];lia
 |x::y::r,h=>by
  have h1:=h x (by simp)
  have h2:=nM (c:=c) (ps:=y::r) (λp hp=>h p (List.mem_cons_of_mem _ hp))
  unfold bM
  rw[List.length_append,List.length_cons,List.length_cons,Nat.succ_mul]
  lia
theorem kK{its:List Item}(G:fQ its){i:Nat}{it:Item}(h:its[i]?=some it):10∉(rowOf (namesOf its) it).cps.toList/\(rowOf (namesOf its) it).length<=1421/\PySem.Txt.split (rowOf (namesOf its) it) ⟨#[32]⟩=it.words (namesOf its):=by
 obtain⟨h1,h2,h3⟩:=pP G h
 refine⟨?_,?_,mz h2 λp hp=>(h1 p hp).b⟩
 ·unfold rowOf
  rw[eN]
  refine sC (by decide) λp hp=>?_
  obtain⟨x,hx,rfl⟩:=List.mem_map.mp hp
  exact(h1 x hx).n
 ·have h4:=nM (c:=32) (m:=202) (ps:=(it.words (namesOf its)).map λp=>p.cps.toList) (λp hp=>by
   obtain⟨x,hx,rfl⟩:=List.mem_map.mp hp
   rw[br];exact(h1 x hx).l)
  rw[← eN,br,List.length_map] at h4
  unfold rowOf
  lia
def rowsOf(its:List Item):List Str:=its.map (rowOf (namesOf its))
theorem o9{its:List Item}{i:Nat}{x:Str}(h:(rowsOf its)[i]?=some x):∃it,its[i]?=some it/\x=rowOf (namesOf its) it:=by
 unfold rowsOf at h
 rw[List.getElem?_map] at h
 obtain⟨it,h1,h2⟩:=Option.map_eq_some_iff.mp h
 exact⟨it,h1,h2.symm⟩
theorem xY{its:List Item}(G:fQ its):PySem.Txt.split (Str.join ⟨#[10]⟩ (rowsOf its)) ⟨#[10]⟩=rowsOf its:=by
 refine mz (by unfold rowsOf;simpa using G.ne) λp hp=>?_
 obtain⟨i,h⟩:=List.mem_iff_getElem?.mp hp
 obtain⟨it,h1,rfl⟩:=o9 h
 exact(kK G h1).1
theorem text_len{its:List Item}(G:fQ its)(hl:its.length<=200):(Str.join ⟨#[10]⟩ (rowsOf its)).length<=300000:=by
 have h4:=nM (c:=10) (m:=1421) (ps:=(rowsOf its).map λp=>p.cps.toList) (λp hp=>by
  obtain⟨x,hx,rfl⟩:=List.mem_map.mp hp
  obtain⟨i,h⟩:=List.mem_iff_getElem?.mp hx
  obtain⟨it,h1,rfl⟩:=o9 h
  rw[br];exact(kK G h1).2.1)
 rw[← eN,br,List.length_map,rowsOf,List.length_map] at h4
 unfold rowsOf
 lia
structure Nums(names:List Str)(kvs:List (Key×V)):Prop where
 has:numsOf names kvs
 not:∀n,n∉names->dU kvs (.inr n)=none
 len:kvs.length=names.length
theorem Nums.nil:Nums [] []:=⟨λg n h=>by simp at h,λ_ _=>rfl,rfl⟩
theorem Nums.put{names:List Str}{kvs:List (Key×V)}{n:Str}(N:Nums names kvs)(h:n∉names):Nums (names++[n]) (putK kvs (.inr n) (.int names.length)):=by
 refine⟨λg m e=>?_,λm hm=>?_,?_⟩
 ·rw[vE]
  rcases dc e with e|⟨e1,e2⟩
  ·have:m≠n:=λz=>h (z ▸ List.mem_of_getElem? e)
   rw[if_neg (λz=>this (Sum.inr.inj z))]
   exact N.has g m e
  ·rw[e2,if_pos rfl,e1]
 ·rw[vE,if_neg (λz=>hm (by rw[Sum.inr.inj z];simp))]
  exact N.not m λz=>hm (List.mem_append_left _ z)
 ·unfold putK
  rw[fX,N.not n h,if_neg (by decide),List.length_append,List.length_append,N.len]
  rfl
noncomputable def N6:Sp:=λvs H Q _=>∃(a:Addr) (its:List Item),vs=[.ref a]/\H a=some (.lst ((rowsOf its).map V.str))/\fQ its/\its.length<=200/\
 ∀d kvs H',H' d=some (.dK kvs)->Nums (namesOf its) kvs->aj H H'->Q (.ref d) H'
theorem qL {names:List Str} {R:aZ} (G:fc names R):∃x r,cO names R=x::r/\x ≠ "mode" := by
 unfold cO cE
 split
 ·exact⟨R.sort,_,rfl,(kO G.pat.sort).2⟩
 ·exact⟨R.sort,_,rfl,(kO G.pat.sort).2⟩
theorem NU (T:Txt K mg t):bD P w K mg base dw 1 t.FW t.JM ["rows"] N6:=by
 refine T.C6.m ur λvs H Q E h=>?_
 ·obtain⟨a,its,rfl,ha,G,hlen,q⟩:=h
  walk_at "i"
  have sp1:(" ":Str)=⟨#[32]⟩:=by decide +kernel
  refine ao (cS 1 ur m5) λd hd=>?_
  refine aS (λZ' H'=>∃x y kvs,Z'=[some (.ref a),some (.ref d),x,y]/\H' d=some (.dK kvs)/\Nums (namesOf its) kvs/\aj H H') (gn PassesOwn.never rfl (fF (pv 0)) (oO 2 ur) aA) ?_ ?_
  ·refine⟨_,rfl,a,rfl,⟨_,bg.of (by rw[ak (au ha hd)];exact ha)⟩,jn (xs:=(rowsOf its).map V.str) (λi Z' H'=>∃x y kvs,Z'=[some (.ref a),some (.ref d),x,y]/\H' d=some (.dK kvs)/\Nums (namesOf (its.take i)) kvs/\aj H H') ⟨_,_,[],rfl,af,Nums.nil,aj.upd hd⟩ ?_ ?_ ?_⟩
   ·rintro i Z' H' _ ⟨x,y,kvs,rfl,h1,h2,h3⟩
    exact bg.of (h3 _ _ ha)
   ·rintro i xv Z' H1 hx ⟨x,y,kvs,rfl,h1,h2,s1⟩
    rw[List.getElem?_map] at hx
    obtain⟨row,hrow,rfl⟩:=Option.map_eq_some_iff.mp hx
    obtain⟨it,hit,rfl⟩:=o9 hrow
    obtain⟨g1,g2,g3⟩:=kK G hit
    refine ao (cS 3 ur (dG F.plainAttrs_str F.slot_str_split F.type_str_split jq (pv 2) (aa az ai))) ⟨_,rfl,rfl,_,_,rfl,rfl,by decide,b9 (by lia),λlw hlw=>?_⟩
    rw[sp1,g3]
    have s2:aj H1 (upd H1 lw (.lst ((it.words (namesOf its)).map V.str))):=aj.upd hlw
    have hw:upd H1 lw (.lst ((it.words (namesOf its)).map V.str)) lw=some (.lst ((it.words (namesOf its)).map V.str)):=af
    have hd2:=s2 _ _ h1
    generalize upd H1 lw (.lst ((it.words (namesOf its)).map V.str))=H2 at s2 hw hd2
    cases it with
    |mode n c=>
     obtain⟨m1,m2,m3,m4⟩:=G.mode i n c hit
     refine ay (bK (PW.pt (iz (aE ez (aR aL (pv 3) aq (λ_ _=>rfl)) az (aI _)) (fV (aE gZ (aN bh (by rfl) T.cy (by decide +kernel) (aa (pv 3) ai)) aq (aI _))))) aA aA) ⟨_,rfl,_,_,_,_,rfl,rfl,bg.of hw,aH (j:=0) rfl,rfl,_,rfl,fq (λ_=>?_) (λh=>absurd rfl h)⟩
     refine⟨_,rfl,_,_,rfl,.inl (bg.of hw),_,_,rfl,rfl,_,rfl,fq (λ_=>?_) (λh=>absurd (by simp[Item.words]) h)⟩
     refine ay (iG (cK hr) (pv 1) (aR aL (pv 3) aq (λ_ _=>rfl)) (aN AR (by rfl) T.cy (by decide +kernel) (aa (pv 1) ai)) rfl) ⟨_,rfl,d,kvs,rfl,hd2,_,rfl,_,rfl,_,_,_,_,rfl,rfl,bg.of hw,aH (j:=1) rfl,d,_,rfl,nF.k (k:=.inr n) hd2 ?_,?_⟩
     ·rw[h2.len];exact dQ (by lia)
     ·refine⟨_,_,_,rfl,af,?_,λb o hb=>?_⟩
      ·rw[take_snoc hit,kC,h2.len]
       exact h2.put m4
      ·rw[ak (au hb hd)];exact s2 _ _ (s1 _ _ hb)
    |rule R=>
     obtain⟨r1,_⟩:=G.rule i R hit
     obtain⟨fw,fr,e1,e2⟩:=qL r1
     have hw':H2 lw=some (.lst (V.str fw::fr.map V.str)):=by rw[hw];simp only[Item.words];rw[e1];rfl
     refine ay (bK (PW.pt (iz (aE ez (aR aL (pv 3) aq (λ_ _=>rfl)) az (aI _)) (fV (aE gZ (aN bh (by rfl) T.cy (by decide +kernel) (aa (pv 3) ai)) aq (aI _))))) aA aA) ⟨_,rfl,_,_,_,_,rfl,rfl,bg.of hw',aH (j:=0) rfl,rfl,_,rfl,fq (λh=>absurd (V.str.inj h) e2) (λ_=>bG ?_)⟩
     refine⟨_,_,kvs,rfl,hd2,?_,s1.trans s2⟩
     rw[take_snoc hit,kC]
     show Nums (namesOf (its.take i)++[]) kvs
     rw[List.append_nil]
     exact h2
   ·rintro Z' H' ⟨x,y,kvs,rfl,h1,h2,h3⟩
    refine⟨x,y,kvs,rfl,h1,?_,h3⟩
    rw[List.length_map,rowsOf,List.length_map,List.take_length] at h2
    exact h2
  rintro Z' H' ⟨x,y,kvs,rfl,h1,h2,h3⟩
  exact ay (aJ (pv 1)) ⟨_,rfl,q d kvs H' h1 h2 h3⟩
abbrev Aa0(t:fE)(vs:List V)(H:Hp)(Q:VK)(p dx lw lm:Addr)(row:Int)(n c:Str)(as ls:List Addr)(ms:List aD):Prop:=H lm=some (.lst (as.map V.ref))/\cH t H as ls ms/\ms.length<12/\n∉ms.map (·.name)/\∀m l2 dm H',H' m=some (.ins t.dN dm (mf ⟨n,c,[]⟩ l2))->H' l2=some (.lst [])->H l2=none->gw H H' p->Q (.ref m) H'
abbrev ab9(t:fE)(vs:List V)(H:Hp)(Q:VK)(p dx lw lm:Addr)(row:Int)(n c:Str)(as ls:List Addr)(ms:List aD):Prop:=vs=[.ref p,.ref lm]/\mF t H p dx lw row ["mode",n,c] 0/\isName n=true/\isName c=true/\Aa0 t vs H Q p dx lw lm row n c as ls ms
noncomputable def GH (t:fE):Sp:=λvs H Q _=>∃p dx lw lm row n c as ls ms,ab9 t vs H Q p dx lw lm row n c as ls ms
theorem IM{H:Hp}{m dm l p dx lw:Addr}{M:aD}{row:Int}{ws:List Str}{i:Nat}(h:H m=some (.ins t.dN dm (mf M l)))(C:mF t H p dx lw row ws i):m≠p:=bL h C.ob λq=>by
 injection q with _ _ q
 unfold mf cf at q
 simp at q
theorem PJ (T:Txt K mg t):bD P w K mg base dw 5 t.ER t.KG ["cursor","modes"] (GH t):=by
 refine T.EY.m xu λvs H Q E h=>?_
 ·obtain⟨p,dx,lw,lm,row,n,c,as,ls,ms,rfl,C,hn,hc,hlm,hM,hl12,hnn,q⟩:=h
  walk_at "i"
  have nlp:lm≠p:=bL hlm C.ob (by intro z;cases z)
  refine ao (bx (bF (pv 0) T.aV T.Au (tO T) hr.m (T.xq.binds (by walk_at "2")) .nil aF (aa (fj ie (aN bh (by rfl) T.cy (by decide +kernel) (aa (pv 1) ai)) (gc rfl T.qK) (aI _)) ai))) ⟨_,rfl,p,dx,_,rfl,C.ob,rfl,_,rfl,_,_,rfl,.inl (bg.of hlm),_,_,rfl,rfl,?_⟩
  dsimp only
  rw[decide_eq_true (by rw[List.length_map,hM.la];lia)]
  refine⟨_,rfl,?_⟩
  refine ao (bx (bF (pv 0) T.aV T.Hs (zu T) hr.m (T.Gb.binds (by walk_at "2")) .nil aF (aa (bC (aa az ai)) ai))) ⟨_,rfl,p,dx,_,rfl,C.ob,rfl,by show 1<=sizeLine;decide,λpt hpt=>?_⟩
  have s1:aj H (upd H pt (.tup [.str "mode"])):=aj.upd hpt
  have C1:=C.same s1
  refine⟨p,dx,lw,pt,["mode"],row,_,0,rfl,C1,dO.of af,List.mem_singleton.mpr rfl,λH2 C2 a2=>?_⟩
  have a2:=s1.GO a2
  have hlm2:H2 lm=some (.lst (as.map V.ref)):=a2 _ _ hlm nlp
  refine ao (@bx _ _ _ _ (@bF _ _ _ _ _ _ _ _ _ _ _ _ _ _ _ _ _ _ _ _ (pv 0) T.aV T.Au (tO T) hr.m (T.xq.binds (by walk_at "2")) .nil aF (aa (@fj _ _ _ _ _ _ _ _ nq (@bN _ _ _ _ _ _ _ _ _ _ _ _ _ _ _ _ _ (pv 0) T.aV T.yL (rq T) hr.m (T.vW.binds (by walk_at "1")) .nil aF (by left)) (@gi _ (av (top 58)) _ ["cursor","modes","name","colour"] _ _ ("mode") _ _ [] _ _ (by walk_at "ck") (@fF _ _ _ _ (pv 1)) (λ_ _ _ _=>by exact(@jE _ K _ _ _ _ (pv 0) rfl (by left))) (by left) (by left) (by left) (by left)) rfl) ai (by left)) (by left) (by left) (by left)) (by left)) ?_
  refine⟨_,rfl,p,dx,_,rfl,C2.ob,rfl,⟨_,rfl,p,dx,_,rfl,C2.ob,rfl,p,dx,lw,row,_,0+1,rfl,C2,?_⟩⟩
  refine⟨_,rfl,lm,rfl,⟨_,bg.of hlm2⟩,gD (xs:=as.map V.ref) (λi ys H'=>H'=H2/\ys=((ms.map (·.name)).take i).map V.str) ⟨rfl,rfl⟩ (dQ (by rw[List.length_map,hM.la];lia)) ?_ ?_ ?_⟩
  ·rintro i ys H' _ ⟨rfl,_⟩
   exact bg.of hlm2
  ·rintro i xv ys H' hx hyl ⟨rfl,rfl⟩
   rw[List.getElem?_map] at hx
   obtain⟨a,ha,rfl⟩:=Option.map_eq_some_iff.mp hx
   have hi:i<as.length:=(List.getElem?_eq_some_iff.mp ha).1
   obtain⟨m,hm⟩:∃m,ms[i]?=some m:=⟨ms[i]'(by rw[← hM.la];exact hi),List.getElem?_eq_getElem _⟩
   obtain⟨l,hll⟩:∃l,ls[i]?=some l:=⟨ls[i]'(by rw[hM.ll,← hM.la];exact hi),List.getElem?_eq_getElem _⟩
   obtain⟨dm,rs,o1,o2,o3⟩:=hM.ob i a l m ha hll hm
   refine⟨_,rfl,a,t.dN,dm,_,_,rfl,a2 _ _ o1 (IM o1 C),T.fk,T.iX,rfl,?_⟩
   refine cP (by rw[List.length_map];exact hi) hyl ⟨rfl,?_⟩
   rw[take_snoc (l:=ms.map (·.name)) (x:=m.name) (by rw[List.getElem?_map,hm];rfl),List.map_append]
   rfl
  ·rintro ys H' hyl ⟨rfl,rfl⟩ D hD
   have hall:(ms.map (·.name)).take (as.map V.ref).length=ms.map (·.name):=List.take_of_length_le (by rw[List.length_map,List.length_map,hM.la];lia)
   rw[hall]
   have s3:aj H' (upd H' D (.lst ((ms.map (·.name)).map V.str))):=aj.upd hD
   have C3:=C2.same s3
   refine⟨D,_,rfl,.inl (bg.of af),rfl,sI,?_⟩
   rw[if_pos rfl,pJ,decide_eq_false (p:=pk ["mode",n,c] (0+1)∈ms.map (·.name)) hnn]
   refine⟨_,rfl,?_⟩
   refine ao (cS 2 xu (bN (pv 0) T.aV T.GY (Ab T) hr.m (T.Br.binds (by walk_at "1")) .nil aF)) ⟨_,rfl,p,dx,_,rfl,C3.ob,rfl,p,dx,lw,row,_,0+1,rfl,C3,hn,λH4 C4 a4=>?_⟩
   refine ao (cS 3 xu (bN (pv 0) T.aV T.GY (Ab T) hr.m (T.Br.binds (by walk_at "1")) .nil aF)) ⟨_,rfl,p,dx,_,rfl,C4.ob,rfl,p,dx,lw,row,_,0+1+1,rfl,C4,hc,λH5 C5 a5=>?_⟩
   have a5:=(a2.same s3).trans (a4.trans a5)
   refine ao (bx (bF (pv 0) T.aV T.Au (tO T) hr.m (T.xq.binds (by walk_at "2")) .nil aF (aa (E9 (bN (pv 0) T.aV T.GS (zB T) hr.m (T.Ef.binds (by walk_at "1")) .nil aF)) ai))) ⟨_,rfl,p,dx,_,rfl,C5.ob,rfl,⟨_,rfl,p,dx,_,rfl,C5.ob,rfl,p,dx,lw,row,_,0+1+1+1,rfl,C5,_,rfl,?_⟩⟩
   refine⟨_,rfl,?_⟩
   refine ay (aJ (dI T.zx (DF T) hr.m rfl T.wu (T.DK.binds (by walk_at "4")) .nil aF (aa (pv 2) (aa (pv 3) (aa (bP ai) ai))))) ⟨_,rfl,_,rfl,by show 0<=sizeLine;decide,λl1 hl1=>?_⟩
   intro x dm nx ndm ne
   have nl1:l1≠x:=au af nx
   have nl2:l1≠dm:=au af ndm
   refine⟨x,dm,l1,n,c,[],rfl,af,by rw[ak nl1,ak nl2];exact af,λl2 H6 h1 h2 h3 h4=>⟨rfl,?_⟩⟩
   have key:∀b o,H5 b=some o->b≠x/\b≠dm/\b≠l1:=λb o hb=>by
    have e1:b≠l1:=au hb hl1
    have hb':upd H5 l1 (.lst []) b=some o:=by rw[ak e1];exact hb
    exact⟨au hb' nx,au hb' ndm,e1⟩
   have hadv:∀b o,H5 b=some o->H6 b=some o:=λb o hb=>by
    obtain⟨k1,k2,k3⟩:=key b o hb
    refine h4 b o ?_ k1
    rw[ak k1,ak k2,ak k3];exact hb
   refine q x l2 dm H6 h2 h3 ?_ λb o hb nb=>hadv b o (a5 b o hb nb)
   cases e:H l2 with
   |none=>rfl
   |some o=>
    by_cases z:l2=p
    ·have h5:=hadv p _ C5.ob
     rw[z,h5] at h3
     cases h3
    ·have h5:=a5 _ _ e z
     obtain⟨k1,k2,k3⟩:=key _ _ h5
     rw[ak k1,ak k2,ak k3,h5] at h1
     cases h1
noncomputable def Nd(t:fE):Sp:=λvs H Q _=>∃(its:List Item),vs=[.str (Str.join ⟨#[10]⟩ (rowsOf its))]/\fQ its/\its.length<=200/\∀a H',IsRules t H' a (foldI its)->aj H H'->Q (.ref a) H'
theorem tW(its:List Item):(foldI its).length=(namesOf its).length:=by rw[← qH,List.length_map]
theorem gw.fresh{H H1 H2:Hp}{p:Addr}(s:aj H H1)(h:H p=none)(a:gw H1 H2 p):aj H H2:=λb o hb=>a b o (s b o hb) (au hb h)
theorem dB.nJ{H:Hp}{r l:Addr}{R:aZ}{xs:List V}{o:HO}(h:dB t H r R)(hl:H l=some (.lst xs)):dB t (upd H l o) r R:=by
 obtain⟨dx,p,x,⟨dp,y⟩⟩:=h
 exact⟨dx,p,by rw[ak (bL x hl (by intro z;cases z))];exact x,dp,by rw[ak (bL y hl (by intro z;cases z))];exact y⟩
theorem cH.nJ{H:Hp}{as ls:List Addr}{ms:List aD}{l:Addr}{xs:List V}{o:HO}(h:cH t H as ls ms)(hl:H l=some (.lst xs))(hn:l∉ls):cH t (upd H l o) as ls ms :=
 ⟨h.la,h.ll,h.nd,λi a l' m h1 h2 h3=>by
  obtain⟨dx,rs,x,y,z⟩:=h.ob i a l' m h1 h2 h3
  exact⟨dx,rs,by rw[ak (bL x hl (by intro z;cases z))];exact x,by rw[ak (show l'≠l from λe=>hn (e ▸ List.mem_of_getElem? h2))];exact y,z.mono λ_ _ r=>r.nJ hl⟩⟩
theorem cH.alive{H:Hp}{as ls:List Addr}{ms:List aD}(h:cH t H as ls ms){l:Addr}(hl:l∈ls):∃xs,H l=some (.lst xs):=by
 obtain⟨i,e⟩:=List.mem_iff_getElem?.mp hl
 have hi:=(List.getElem?_eq_some_iff.mp e).1
 obtain⟨dx,rs,x,y,z⟩:=h.ob i _ l _ (List.getElem?_eq_getElem (by rw[h.la,← h.ll];exact hi)) e (List.getElem?_eq_getElem (by rw[← h.ll];exact hi))
 exact⟨_,y⟩
theorem cH.Ua{H:Hp}{as ls:List Addr}{ms:List aD}{m l dm:Addr}{n c:Str}(h:cH t H as ls ms)(hm:H m=some (.ins t.dN dm (mf ⟨n,c,[]⟩ l)))(hl:H l=some (.lst []))(hn:l∉ls):cH t H (as++[m]) (ls++[l]) (ms++[⟨n,c,[]⟩]):=by
 refine⟨by simp[h.la],by simp[h.ll],?_,λi a l' m' h1 h2 h3=>?_⟩
 ·refine List.nodup_append.mpr ⟨h.nd,by simp,λa ha b hb=>?_⟩
  rw[List.mem_singleton.mp hb]
  exact λe=>hn (e ▸ ha)
 ·have e1:=h.la
  have e2:=h.ll
  rcases dc h1 with h1|⟨i1,rfl⟩
  ·have:=(List.getElem?_eq_some_iff.mp h1).1
   rcases dc h2 with h2|⟨i2,rfl⟩
   ·rcases dc h3 with h3|⟨i3,rfl⟩
    ·exact h.ob i a l' m' h1 h2 h3
    ·lia
   ·lia
  ·rcases dc h2 with h2|⟨i2,rfl⟩
   ·have:=(List.getElem?_eq_some_iff.mp h2).1;lia
   ·rcases dc h3 with h3|⟨i3,rfl⟩
    ·have:=(List.getElem?_eq_some_iff.mp h3).1;lia
    ·exact⟨dm,[],hm,hl,bI.nil⟩
theorem Dh{l:List Addr}(h:l.Nodup){i j:Nat}{a:Addr}(h1:l[i]?=some a)(h2:l[j]?=some a):i=j:=by
 obtain⟨i1,e1⟩:=List.getElem?_eq_some_iff.mp h1
 obtain⟨j1,e2⟩:=List.getElem?_eq_some_iff.mp h2
 exact(List.getElem_inj h).mp (e1.trans e2.symm)
theorem cH.Tt{H:Hp}{as ls:List Addr}{ms:List aD}{m:aD}{l r:Addr}{rs:List Addr}{R:aZ}(h:cH t H as ls (ms++[m]))(hl:ls[ms.length]?=some l)(hH:H l=some (.lst (rs.map V.ref)))(hA:bI (dB t H) rs m.rules)(hr:dB t H r R) :
  cH t (upd H l (.lst (rs.map V.ref++[.ref r]))) as ls (ms++[{ m with rules:=m.rules++[R] }]):=by
 refine⟨by rw[h.la];simp,by rw[h.ll];simp,h.nd,λi a l' m' h1 h2 h3=>?_⟩
 rcases dc h3 with h3|⟨i3,rfl⟩
 ·have hi:=(List.getElem?_eq_some_iff.mp h3).1
  obtain⟨dx,rs',x,y,z⟩:=h.ob i a l' m' h1 h2 (by rw[List.getElem?_append_left hi];exact h3)
  refine⟨dx,rs',by rw[ak (bL x hH (by intro z;cases z))];exact x,?_,z.mono λ_ _ r=>r.nJ hH⟩
  rw[ak (λe=>?_)]
  ·exact y
  ·subst e
   have:=Dh h.nd h2 hl
   lia
 ·subst i3
  rw[hl] at h2
  cases h2
  obtain⟨dx,rs',x,y,z⟩:=h.ob _ a l m h1 hl (by simp)
  refine⟨dx,rs++[r],by rw[ak (bL x hH (by intro z;cases z))];exact x,by rw[af,List.map_append];rfl,?_⟩
  exact bI.snoc (hA.mono λ_ _ r=>r.nJ hH) (hr.nJ hH)
theorem tM{α β:Type}{f:α->β}{as:List α}{k:Nat}{a:α}(hl:as.length=k+1)(h:as[k]?=some a):rO (as.map f) (-1)=some (f a):=by
 unfold rO Az
 rw[List.length_map,hl]
 have e:((-1:Int)+((k+1:Nat):Int)).toNat=k:=by lia
 first
  | (rw[if_neg (by lia),if_pos (by lia)];simp only[Option.bind_some];rw[show (((k+1:Nat):Int)+(-1:Int)).toNat=k by lia,List.getElem?_map,h];rfl)
  | (rw[if_neg (by lia),if_pos (by lia)];simp only[Option.bind_some];rw[e,List.getElem?_map,h];rfl)
theorem OA (T:Txt K mg t):bD P w K mg base dw 7 t.E8 t.Mj ["text"] (Nd t):=by
 refine T.BU.m jD λvs H Q E h=>?_
 ·obtain⟨its,rfl,G,hlen,q⟩:=h
  walk_at "i"
  have nl1:("\n":Str)=⟨#[10]⟩:=by decide +kernel
  refine ao (cS 1 jD (dG F.plainAttrs_str F.slot_str_split F.type_str_split jq (pv 0) (aa az ai))) ⟨_,rfl,rfl,_,_,rfl,rfl,by decide,b9 (by have:=text_len G hlen;lia),λlr hlr=>?_⟩
  rw[nl1,xY G]
  have s1:aj H (upd H lr (.lst ((rowsOf its).map V.str))):=aj.upd hlr
  have hr1:upd H lr (.lst ((rowsOf its).map V.str)) lr=some (.lst ((rowsOf its).map V.str)):=af
  generalize upd H lr (.lst ((rowsOf its).map V.str))=H1 at s1 hr1
  refine ao (cS 2 jD (aW (NU T) hr.m rfl T.Pc T.C6.kp (T.C6.binds (by walk_at "1")) .nil aF (aa (pv 1) ai))) ⟨_,rfl,lr,its,rfl,hr1,G,hlen,λd kvs H2 hd2 hN s2=>?_⟩
  have hr2:=s2 _ _ hr1
  have s2:=s1.trans s2
  refine ao (cS 3 jD (bP ai)) ⟨by show 0<=sizeLine;decide,λlm hlm=>?_⟩
  have s3:aj H2 (upd H2 lm (.lst [])):=aj.upd hlm
  have hm3:upd H2 lm (.lst []) lm=some (.lst []):=af
  generalize upd H2 lm (.lst [])=H3 at s3 hm3
  have hlm0:H lm=none:=s2.free hlm
  have hr3:=s3 _ _ hr2
  have hd3:=s3 _ _ hd2
  have s3:=s2.trans s3
  refine ao (cS 4 jD (bP ai)) ⟨by show 0<=sizeLine;decide,λnw hnw=>?_⟩
  have s4:aj H3 (upd H3 nw (.lst [])):=aj.upd hnw
  have hw4:upd H3 nw (.lst []) nw=some (.lst []):=af
  generalize upd H3 nw (.lst [])=H4 at s4 hw4
  have hr4:=s4 _ _ hr3
  have hd4:=s4 _ _ hd3
  have hm4:=s4 _ _ hm3
  have nmw:lm≠nw:=au hm3 hnw
  have s4:=s3.trans s4
  have nlr:lr≠lm:=au hr2 hlm
  have nlrw:lr≠nw:=au hr3 hnw
  refine aS (λZ' H'=>∃x5 x6 x7 x8 as ls,Z'=[some (.str (Str.join ⟨#[10]⟩ (rowsOf its))),some (.ref lr),some (.ref d),some (.ref lm),some (.ref nw),x5,x6,x7,x8]/\H' lm=some (.lst (as.map V.ref))/\H' nw=some (.lst [])/\cH t H' as ls (foldI its)/\aj H H') (gn PassesOwn.never rfl (zO rfl T.ou (aa (pv 1) ai)) (lX rfl (cB (oO 5 jD) (cB (oO 6 jD) jK))) aA) ?_ ?_
  ·refine⟨_,rfl,lr,_,rfl,bg.of hr4,tQ (xs:=(rowsOf its).map V.str) (λi Z' H'=>∃x5 x6 x7 x8 as ls,Z'=[some (.str (Str.join ⟨#[10]⟩ (rowsOf its))),some (.ref lr),some (.ref d),some (.ref lm),some (.ref nw),x5,x6,x7,x8]/\H' lm=some (.lst (as.map V.ref))/\H' nw=some (.lst [])/\H' lr=some (.lst ((rowsOf its).map V.str))/\H' d=some (.dK kvs)/\cH t H' as ls (foldI (its.take i))/\lm∉ls/\nw∉ls/\lr∉ls/\(∀l∈ls,H l=none)/\aj H H') ?_ ?_ ?_ ?_⟩
   ·exact⟨_,_,_,_,[],[],rfl,hm4,hw4,hr4,hd4,⟨rfl,rfl,List.nodup_nil,λi a l m h=>by simp at h⟩,by simp,by simp,by simp,by simp,s4⟩
   ·rintro i Z' H' _ ⟨x5,x6,x7,x8,as,ls,rfl,h1,h2,h3,_⟩
    exact bg.of h3
   ·rintro i xv pt Z' H5 hx hpt ⟨x5,x6,x7,x8,as,ls,rfl,hm5,hw5,hr5,hd5,hM,nl1',nl2',nl3',hfr,s5⟩
    rw[List.getElem?_map] at hx
    obtain⟨row,hrow,rfl⟩:=Option.map_eq_some_iff.mp hx
    obtain⟨it,hit,rfl⟩:=o9 hrow
    obtain⟨g1,g2,g3⟩:=kK G hit
    obtain⟨w1,w2,w3⟩:=pP G hit
    have s6:aj H5 (upd H5 pt (.tup [.int i,.str (rowOf (namesOf its) it)])):=aj.upd hpt
    refine⟨pt,[.int i,.str (rowOf (namesOf its) it)],rfl,dO.of af,rfl,_,_,rfl,_,_,rfl,rfl,?_⟩
    generalize upd H5 pt (.tup [.int i,.str (rowOf (namesOf its) it)])=H6 at s6
    refine ao (cS 7 jD (dI T.AQ (Si T) hr.m rfl T.yk (T.Q6.binds (by walk_at "3")) .nil aF (aa (pv 5) (aa (pv 6) ai)))) ⟨_,rfl,_,rfl,λp dx np ndx ne=>⟨p,dx,i,_,rfl,af,by lia,by rw[g3];lia,λlw H7 hlw C7 a7=>⟨rfl,?_⟩⟩⟩
    rw[g3] at C7
    have s7:aj H5 H7:=λb o hb=>a7 b o (by rw[ak (au (s6 _ _ hb) np),ak (au (s6 _ _ hb) ndx)];exact s6 _ _ hb) (au (s6 _ _ hb) np)
    have hp5:H5 p=none:=s6.free np
    have hm7:=s7 _ _ hm5
    have hM7:=hM.same s7
    have hml:as.length=(foldI (its.take i)).length:=hM.la
    cases it with
    |mode n c=>
     obtain⟨m1,m2,m3,m4⟩:=G.mode i n c hit
     refine ay (bK (PW.pt (jV (jb (jj (pv 3) (λ_=>rfl))) (jF (aE ez (bN (pv 7) T.aV T.yL (rq T) hr.m (T.vW.binds (by walk_at "1")) .nil aF) az (aI _))))) aA aA) ⟨_,rfl,_,.inl ⟨_,bg.of hm7,rfl⟩,?_⟩
     refine(λhb=>Ti (λ_=>By hb) (λ_=>⟨_,rfl,p,dx,_,rfl,C7.ob,rfl,p,dx,lw,i,_,0,rfl,C7,rfl,_,rfl,fq (λ_=>hb) (λh=>absurd rfl h)⟩)) ?_
     refine ay (bx (dG F.plainAttrs_list F.slot_list_append F.type_list_append c8 (pv 3) (aa (aW (PJ T) hr.m rfl T.OW T.EY.kp (T.EY.binds (by walk_at "2")) .nil aF (aa (pv 7) (aa (pv 3) ai))) ai))) ⟨_,rfl,.inl ⟨rfl,_,bg.of hm7⟩,_,rfl,_,rfl,p,dx,lw,lm,i,n,c,as,ls,_,rfl,C7,m1,m2,hm7,hM7,by rw[tW];exact m3,by rw[qH];exact m4,λm l2 dm H8 e1 e2 e3 a8=>?_⟩
     have s8:aj H5 H8:=gw.fresh s7 hp5 a8
     have hm8:=s8 _ _ hm5
     have n1:lm≠l2:=au hm7 e3
     have hn2:l2∉ls:=λz=>by
      obtain⟨xs,hx⟩:=hM7.alive z
      rw[hx] at e3;cases e3
     refine⟨lm,_,_,rfl,rfl,hm8,dQ (by rw[List.length_map,hml,tW];lia),?_⟩
     refine⟨_,_,_,_,as++[m],ls++[l2],rfl,by rw[af,List.map_append];rfl,?_,?_,?_,?_,?_,?_,?_,?_,?_⟩
     ·rw[ak (Ne.symm nmw)];exact s8 _ _ hw5
     ·rw[ak nlr];exact s8 _ _ hr5
     ·rw[ak (bL hd5 hm5 (by intro z;cases z))];exact s8 _ _ hd5
     ·rw[take_snoc hit,qp]
      exact cH.Ua ((hM.same s8).nJ hm8 nl1') (by rw[ak (bL e1 hm8 (by intro z;cases z))];exact e1) (by rw[ak (Ne.symm n1)];exact e2) hn2
     ·intro z
      rcases List.mem_append.mp z with z|z
      ·exact nl1' z
      ·exact n1 (List.mem_singleton.mp z)
     ·intro z
      rcases List.mem_append.mp z with z|z
      ·exact nl2' z
      ·exact au (s7 _ _ hw5) e3 (List.mem_singleton.mp z)
     ·intro z
      rcases List.mem_append.mp z with z|z
      ·exact nl3' z
      ·exact au (s7 _ _ hr5) e3 (List.mem_singleton.mp z)
     ·intro l hl
      rcases List.mem_append.mp hl with z|z
      ·exact hfr l z
      ·rw[List.mem_singleton.mp z];exact(s5.trans s7).free e3
     ·intro b o hb
      rw[ak (au hb hlm0)]
      exact s8 _ _ (s5 _ _ hb)
    |rule R=>
     obtain⟨r1,ms,m,hms,hm12⟩:=G.rule i R hit
     obtain⟨fw,fr,f1,f2⟩:=qL r1
     rw[hms] at hM hM7 hml
     have hk:as.length=ms.length+1:=by rw[hml];simp
     obtain⟨a,ha⟩:∃a,as[ms.length]?=some a:=⟨as[ms.length]'(by lia),List.getElem?_eq_getElem _⟩
     obtain⟨l,hl⟩:∃l,ls[ms.length]?=some l:=⟨ls[ms.length]'(by rw[hM.ll];simp),List.getElem?_eq_getElem _⟩
     obtain⟨dm,rs,o1,o2,o3⟩:=hM.ob ms.length a l m ha hl (by simp)
     have o1':=s7 _ _ o1
     have o2':=s7 _ _ o2
     have hrl:rs.length<12:=by rw[o3.1];exact hm12
     have hl0:H l=none:=hfr l (List.mem_of_getElem? hl)
     have hnl:l∈ls:=List.mem_of_getElem? hl
     refine ay (bK (PW.pt (jV (jb (jj (pv 3) (λ_=>rfl))) (jF (aE ez (bN (pv 7) T.aV T.yL (rq T) hr.m (T.vW.binds (by walk_at "1")) .nil aF) az (aI _))))) aA aA) ⟨_,rfl,_,.inl ⟨_,bg.of hm7,rfl⟩,Ti (λh=>?_) (λ_=>?_)⟩
     ·exfalso
      have:as≠[]:=λz=>by rw[z] at hk;simp at hk
      cases as with
      |nil=>exact this rfl
      |cons _ _=>simp at h
     refine⟨_,rfl,p,dx,_,rfl,C7.ob,rfl,p,dx,lw,i,_,0,rfl,C7,rfl,_,rfl,fq (λh=>?_) (λ_=>?_)⟩
     ·exfalso
      refine f2 ?_
      have h:=V.str.inj h
      simp only[Item.words,f1] at h
      exact h
     refine ao (cS 8 jD (aK (aR aL (pv 3) (lM jd aq) (λ_ _=>rfl)) rfl)) ⟨_,rfl,_,rfl,_,_,_,_,rfl,rfl,bg.of hm7,tM hk ha,a,t.dN,dm,_,_,rfl,o1',T.fk,T.ff,rfl,?_⟩
     refine ao (bx (bF (pv 7) T.aV T.Au (tO T) hr.m (T.xq.binds (by walk_at "2")) .nil aF (aa (fj ie (aN bh (by rfl) T.cy (by decide +kernel) (aa (pv 8) ai)) (gc rfl T.qC) (aI _)) ai))) ⟨_,rfl,p,dx,_,rfl,C7.ob,rfl,_,rfl,_,_,rfl,.inl (bg.of o2'),_,_,rfl,rfl,?_⟩
     dsimp only
     rw[decide_eq_true (by rw[List.length_map];lia)]
     refine⟨_,rfl,?_⟩
     refine ay (bx (dG F.plainAttrs_list F.slot_list_append F.type_list_append c8 (pv 8) (aa (aW (P9 T) hr.m rfl T.Nh T.Dw.kp (T.Dw.binds (by walk_at "3")) .nil aF (aa (pv 7) (aa (pv 2) (aa (pv 4) ai)))) ai))) ⟨_,rfl,.inl ⟨rfl,_,bg.of o2'⟩,_,rfl,_,rfl,_,rfl,p,dx,lw,d,_,i,_,kvs,namesOf its,R,rfl,C7,rfl,s7 _ _ hd5,hN.has,qW G,r1,λr H8 hr8 a8=>?_⟩
     have s8:aj H5 H8:=gw.fresh s7 hp5 a8
     have o2'':=s8 _ _ o2
     refine⟨l,_,_,rfl,rfl,o2'',dQ (by rw[List.length_map];lia),?_⟩
     refine⟨_,_,_,_,as,ls,rfl,?_,?_,?_,?_,?_,nl1',nl2',nl3',hfr,?_⟩
     ·rw[ak (show lm≠l from λz=>nl1' (z ▸ hnl))];exact s8 _ _ hm5
     ·rw[ak (show nw≠l from λz=>nl2' (z ▸ hnl))];exact s8 _ _ hw5
     ·rw[ak (show lr≠l from λz=>nl3' (z ▸ hnl))];exact s8 _ _ hr5
     ·rw[ak (bL hd5 o2 (by intro z;cases z))];exact s8 _ _ hd5
     ·rw[take_snoc hit,qp,hms]
      show cH _ _ _ _ (iZ R (ms++[m]))
      rw[jH]
      exact(hM.same s8).Tt hl o2'' (o3.mono λ_ _ r=>r.same s8) hr8
     ·intro b o hb
      rw[ak (au hb hl0)]
      exact s8 _ _ (s5 _ _ hb)
   ·rintro Z' H' ⟨x5,x6,x7,x8,as,ls,rfl,h1,h2,h3,h4,h5,_,_,_,_,h6⟩
    rw[List.length_map,rowsOf,List.length_map,List.take_length] at h5
    exact⟨_,_,_,_,as,ls,rfl,h1,h2,h5,h6⟩
  rintro Z' H' ⟨x5,x6,x7,x8,as,ls,rfl,h1,h2,h5,h6⟩
  refine ao (bK (jj (pv 4) (λ_=>rfl)) aA aA) ⟨_,rfl,_,.inl ⟨_,bg.of h2,rfl⟩,lQ (bG ?_)⟩
  refine ay (aJ (dI T.v7 (B6 T) hr.m rfl T.tK (T.FD.binds (by walk_at "2")) .nil aF (aa (pv 3) ai))) ⟨_,rfl,λx dx nx ndx ne=>⟨x,dx,lm,_,rfl,af,by rw[ak (au h1 nx),ak (au h1 ndx)];exact h1,λl2 H8 e1 e2 e3 e4=>⟨rfl,?_⟩⟩⟩
  have s8:aj H' H8:=λb o hb=>e4 b o (by rw[ak (au hb nx),ak (au hb ndx)];exact hb) (au hb nx)
  exact q x H8 ⟨dx,l2,as,ls,e2,e3,h5.same s8⟩ (h6.trans s8)
def fC(R:aZ)(row:Str)(i:Nat):Bool:=decide (fJ R.sort R.signs row i≠.cW)
def f6(row:Str)(i:Nat):Nat->List aZ->Option Nat
 |_,[]=>none
 |k,R::r=>if fC R row i=true then some k else f6 row i (k+1) r
def firstM(rs:List aZ)(row:Str)(i:Nat):Option Nat:=f6 row i 0 rs
def GoodR(R:aZ):Prop:=R.sort∈sorts/\R.signs.length<=200
def uJ(rs:List aZ):Prop:=rs.length<=200/\∀R∈rs,GoodR R
theorem gr{α:Type}{l:List α}{i:Nat}{x:α}(h:l[i]?=some x):l.drop i=x::l.drop (i+1):=by
 rw[List.drop_eq_getElem?_toList_append,h];rfl
theorem A6{row:Str}{i k:Nat}{rs:List aZ}{R:aZ}{n:Nat}(h:rs[n]?=some R):f6 row i k (rs.drop n)=if fC R row i=true then some k else f6 row i (k+1) (rs.drop (n+1)):=by
 rw[gr h];rfl
theorem IsRules.mode{H:Hp}{a:Addr}{ms:List aD}(h:IsRules t H a ms){k:Nat}{m:aD}(hm:ms[k]?=some m) :
  ∃(dx lm:Addr) (as:List Addr) (b lr dm:Addr) (rs:List Addr),H a=some (.ins t.iY dx [("modes",.ref lm)])/\H lm=some (.lst (as.map V.ref))/\as.length=ms.length/\as[k]?=some b/\H b=some (.ins t.dN dm (mf m lr))/\H lr=some (.lst (rs.map V.ref))/\bI (dB t H) rs m.rules:=by
 obtain⟨dx,lm,as,ls,ha,hlm,hM⟩:=h
 have hk:=(List.getElem?_eq_some_iff.mp hm).1
 obtain⟨b,hb⟩:∃b,as[k]?=some b:=⟨as[k]'(by rw[hM.la];exact hk),List.getElem?_eq_getElem _⟩
 obtain⟨lr,hlr⟩:∃b,ls[k]?=some b:=⟨ls[k]'(by rw[hM.ll];exact hk),List.getElem?_eq_getElem _⟩
 obtain⟨dm,rs,o1,o2,o3⟩:=hM.ob k b lr m hb hlr hm
 exact⟨dx,lm,as,b,lr,dm,rs,ha,hlm,hM.la,hb,o1,o2,o3⟩
theorem fU{as:List Addr}{k:Nat}{b:Addr}(h:as[k]?=some b):rO (as.map V.ref) ((k:Nat):Int)=some (.ref b):=aH (by rw[List.getElem?_map,h];rfl)
noncomputable def Ii(t:fE):Sp:=λvs H Q _=>∃(a:Addr) (ms:List aD) (m:aD) (k i:Nat) (row:Str),vs=[.ref a,.int k,.str row,.int i]/\IsRules t H a ms/\ms[k]?=some m/\uJ m.rules/\row.length<=1000/\i<=row.length/\
 ∀H',aj H H'->Q (jw (firstM m.rules row i)) H'
theorem C9 (T:Txt K mg t):bD P w K mg base dw 2 t.DB t.K9 ["rules","mode","row","at"] (Ii t):=by
 refine T.vH.m yS λvs H Q E h=>?_
 ·obtain⟨a,ms,m,k,i,row,rfl,hR,hm,hok,hrow,hi,q⟩:=h
  walk_at "i"
  obtain⟨dx,lm,as,b,lr,dm,rs,ha,hlm,hal,hb,hmo,hlr,hA⟩:=hR.mode hm
  refine aS (λZ' H'=>(∃x y,Z'=[some (.ref a),some (.int k),some (.str row),some (.int i),x,y])/\aj H H'/\firstM m.rules row i=none) (gn PassesOwn.never rfl (zO rfl T.ou (aa (aK (aR aL (aK (pv 0) rfl) (pv 1) (λ_ _=>rfl)) rfl) ai)) (lX rfl (cB (oO 4 yS) (cB (oO 5 yS) jK))) aA) ?_ ?_
  ·refine⟨_,rfl,_,_,_,_,_,rfl,ha,T.gW,T.c5,rfl,⟨_,rfl,_,_,_,_,rfl,rfl,bg.of hlm,fU hb,b,t.dN,dm,_,_,rfl,hmo,T.fk,T.ff,rfl,lr,_,rfl,bg.of hlr,tQ (xs:=rs.map V.ref) (λn Z' H'=>(∃x y,Z'=[some (.ref a),some (.int k),some (.str row),some (.int i),x,y])/\aj H H'/\firstM m.rules row i=f6 row i n (m.rules.drop n)) ⟨⟨_,_,rfl⟩,aj.refl H,rfl⟩ ?_ ?_ ?_⟩⟩
   ·rintro n Z' H' _ ⟨_,s1,_⟩
    exact bg.of (s1 _ _ hlr)
   ·rintro n xv pt Z' H1 hx hpt ⟨⟨x,y,rfl⟩,s1,hf⟩
    rw[List.getElem?_map] at hx
    obtain⟨r,hr0,rfl⟩:=Option.map_eq_some_iff.mp hx
    obtain⟨R,hR1⟩:∃R,m.rules[n]?=some R:=⟨m.rules[n]'(by rw[← hA.1];exact(List.getElem?_eq_some_iff.mp hr0).1),List.getElem?_eq_getElem _⟩
    obtain⟨dr,pa,hr1,dp,hp1⟩:=hA.2 n r R hr0 hR1
    obtain⟨g1,g2⟩:=hok.2 R (List.mem_of_getElem? hR1)
    obtain⟨fe,fs,de,ds,PK⟩:=Ht (P:=P) (w:=w) (base:=base) T g1
    have s2:aj H (upd H1 pt (.tup [.int n,.ref r])):=s1.trans (aj.upd hpt)
    refine⟨pt,[.int n,.ref r],rfl,dO.of af,rfl,_,_,rfl,_,_,rfl,rfl,?_⟩
    rw[A6 hR1] at hf
    generalize upd H1 pt (.tup [.int n,.ref r])=H2 at s2
    refine ay (bK (aE jC (bF (aK (pv 5) rfl) PK.cl PK.me PK.ge hr.m PK.be .nil aF (aa (pv 2) (aa (pv 3) ai))) bX (aI _)) aA aA) (⟨_,rfl,_,_,_,_,_,rfl,(s2 _ _ hr1),T.cG,T.eK,rfl,⟨pa,dp,_,rfl,s2 _ _ hp1,PK.ne _,_,rfl,_,rfl,pa,dp,R.signs,row,i,rfl,s2 _ _ hp1,by lia,hrow,hi,rfl,_,rfl,qS (λh=>?_) (λh=>bG ⟨⟨_,_,rfl⟩,s2,?_⟩)⟩⟩)
    ·refine ay (aJ (pv 4)) ⟨_,rfl,?_⟩
     rw[if_pos (show fC R row i=true from decide_eq_true h)] at hf
     have:=q H2 s2
     rw[hf] at this
     exact this
    ·rw[if_neg (by rw[fC,decide_eq_false (λz=>z h)];decide)] at hf
     exact hf
   ·rintro Z' H' ⟨h1,h2,h3⟩
    rw[List.length_map,hA.1,List.drop_length] at h3
    exact⟨h1,h2,h3⟩
  rintro Z' H' ⟨⟨x,y,rfl⟩,s1,hn⟩
  refine ay (aJ bX) ?_
  have:=q H' s1
  rw[hn] at this
  exact this
def bE(n:Nat):V:=.int (n:Int)
def bR(on:List Nat)(d:Str)(g:Option Nat):List Nat :=
 if d = "push" then on++[g.getD 0] else if d = "into" then on.dropLast++[g.getD 0] else if d = "pop" then (if on.length=1 then [0] else on.dropLast) else on
def L6(R:aZ):Prop:=i6 R.bq->∃g,R.goal=some g
theorem vQ{α:Type}:∀(l:List α) (x:α),l≠[]->l.set (l.length-1) x=l.dropLast++[x]
 | [],_,h=>absurd rfl h
 | [a],x,_=>rfl
 |a::b::r,x,_=>by
  have:=vQ (b::r) x (by simp)
  show a::(b::r).set ((b::r).length-1) x=a::((b::r).dropLast++[x])
  rw[this]
theorem Io{n:Nat}(h:0<n):Az n (-1)=some (n-1):=by
 unfold Az
 first
  | (rw[if_neg (by lia),if_pos (by lia)];congr 1;lia)
  | (rw[if_pos (by lia)];congr 1;lia)
noncomputable def Nx(t:fE):Sp:=λvs H Q _=>∃(lo r:Addr) (on:List Nat) (R:aZ),vs=[.ref lo,.ref r]/\H lo=some (.lst (on.map bE))/\dB t H r R/\on≠[]/\on.length<=100000/\L6 R/\Q .cW (upd H lo (.lst ((bR on R.bq R.goal).map bE)))
theorem Qv{H:Hp}{a:Addr}{o:HO}(h:H a=some o):upd H a o=H:=by
 funext b
 by_cases e:b=a
 ·rw[e,af,h]
 ·rw[ak e]
theorem Dr (T:Txt K mg t):bD P w K mg base dw 1 t.DJ t.LG ["modes","rule"] (Nx t):=by
 refine T.vG.m OY λvs H Q E h=>?_
 ·obtain⟨lo,r,on,R,rfl,hlo,⟨dr,pa,hr1,hp1⟩,hne,hlen,hg,q⟩:=h
  walk_at "i"
  have nlr:r≠lo:=bL hr1 hlo (by intro z;cases z)
  have hpos:0<on.length:=by cases on with | nil=>exact absurd rfl hne | cons _ _=>simp
  refine ay (bK (aE ez (aK (pv 1) rfl) az (aI _)) aA aA) (⟨_,rfl,_,_,_,_,_,rfl,hr1,T.cG,T.fP,rfl,⟨rfl,_,rfl,fq (λh=>?_) (λh1=>?_)⟩⟩)
  ·have h:=V.str.inj h
   obtain⟨g,eg⟩:=hg (.inl h)
   refine ay (bx (dG F.plainAttrs_list F.slot_list_append F.type_list_append c8 (pv 0) (aa (aK (pv 1) rfl) ai))) ⟨_,rfl,.inl ⟨rfl,_,bg.of hlo⟩,⟨_,rfl,_,_,_,_,_,rfl,hr1,T.cG,T.i7,rfl,⟨lo,_,_,rfl,rfl,hlo,dQ (by rw[List.length_map];lia),?_⟩⟩⟩
   rw[bR,if_pos h,eg,List.map_append] at q
   rw[eg]
   exact q
  ·have h1:R.bq ≠ "push" := λz=>h1 (by rw[z])
   refine ay (bK (aE ez (aK (pv 1) rfl) az (aI _)) aA aA) (⟨_,rfl,_,_,_,_,_,rfl,hr1,T.cG,T.fP,rfl,⟨rfl,_,rfl,fq (λh=>?_) (λh2=>?_)⟩⟩)
   ·have h:=V.str.inj h
    obtain⟨g,eg⟩:=hg (.inr h)
    refine ay (uF (aK (pv 1) rfl) (BG (pv 0) (lM jd aq) set_list)) (⟨_,rfl,_,_,_,_,_,rfl,hr1,T.cG,T.i7,rfl,⟨_,rfl,_,rfl,lo,_,_,_,rfl,rfl,hlo,Io (by rw[List.length_map];exact hpos),?_⟩⟩)
    rw[bR,if_neg h1,if_pos h,eg,List.map_append] at q
    rw[vQ _ _ (by simpa using hne),eg,← List.map_dropLast]
    exact q
   ·have h2:R.bq ≠ "into" := λz=>h2 (by rw[z])
    refine ay (bK (aE ez (aK (pv 1) rfl) az (aI _)) aA aA) (⟨_,rfl,_,_,_,_,_,rfl,hr1,T.cG,T.fP,rfl,⟨rfl,_,rfl,fq (λh=>?_) (λh3=>bG ?_)⟩⟩)
    ·have h:=V.str.inj h
     rw[bR,if_neg h1,if_neg h2,if_pos h] at q
     obtain⟨y,hy⟩:∃y,(on.map bE)[(on.map bE).length-1]?=some y:=⟨_,List.getElem?_eq_getElem (by rw[List.length_map];lia)⟩
     refine ao (bx (PU F.plainAttrs_list F.slot_list_pop F.type_list_pop NJ (pv 0))) ⟨_,rfl,.inl ⟨rfl,_,bg.of hlo⟩,lo,_,y,rfl,rfl,hlo,hy,?_⟩
     refine ay (bK (jb (jj (pv 0) (λ_=>rfl))) aA aA) ⟨_,rfl,_,.inl ⟨_,bg.of af,rfl⟩,?_⟩
     rw[← List.map_dropLast]
     by_cases h1l:on.length=1
     ·rw[if_pos h1l] at q
      have e:on.dropLast=[]:=List.eq_nil_of_length_eq_zero (by rw[List.length_dropLast,h1l])
      rw[e]
      refine By (ay (bx (dG F.plainAttrs_list F.slot_list_append F.type_list_append c8 (pv 0) (aa (gc rfl T.kN) ai))) ⟨_,rfl,.inl ⟨rfl,_,bg.of af⟩,lo,_,_,rfl,rfl,af,by decide,?_⟩)
      rw[eE]
      exact q
     ·rw[if_neg h1l] at q
      have e:on.dropLast≠[]:=λz=>by
       have:=congrArg List.length z
       rw[List.length_dropLast] at this
       simp at this
       lia
      cases hd:on.dropLast with
      |nil=>exact absurd hd e
      |cons x r=>
       rw[hd] at q
       exact lQ (bG q)
    ·have h3:R.bq ≠ "pop" := λz=>h3 (by rw[z])
     rw[bR,if_neg h1,if_neg h2,if_neg h3,Qv hlo] at q
     exact q
theorem G9{on:List Nat}{d:Str}{g:Option Nat}(h:on≠[]):bR on d g≠[]:=by
 unfold bR
 split
 ·simp
 ·split
  ·simp
  ·split
   ·split
    ·simp
    ·intro z
     have:=congrArg List.length z
     rw[List.length_dropLast] at this
     cases on with
     |nil=>exact h rfl
     |cons x r=>
      cases r with
      |nil=>rename_i h1 _ ;simp at *
      |cons y r=>simp at this
   ·exact h
theorem gH{on:List Nat}{k:Nat}(h:on.getLast?=some k):rO (on.map bE) (-1)=some (bE k):=by
 obtain⟨pre,rfl⟩:∃pre,on=pre++[k]:=by
  rcases List.eq_nil_or_concat on with rfl|⟨p,x,rfl⟩
  ·simp at h
  ·simp at h
   exact⟨p,by rw[h,List.concat_eq_append]⟩
 exact tM (k:=pre.length) (by simp) (by simp)
structure dz(ms:List aD):Prop where
 pos:0<ms.length
 len:ms.length<=200
 ok:∀m∈ms,uJ m.rules
 bq:∀m∈ms,∀R∈m.rules,R.bq∈sJ
 goal:∀m∈ms,∀R∈m.rules,i6 R.bq->∃g,R.goal=some g/\g<ms.length
theorem dz.gd{ms:List aD}(G:dz ms){m:aD}{R:aZ}(h:m∈ms)(h2:R∈m.rules):L6 R:=λz=>let ⟨g,e,_⟩:=G.goal m h R h2 z;⟨g,e⟩
def iQ(ms:List aD)(on:List Nat):Prop:=on≠[]/\∀x∈on,x<ms.length
theorem iQ.bq{ms:List aD}(G:dz ms){on:List Nat}(h:iQ ms on){m:aD}{R:aZ}(h1:m∈ms)(h2:R∈m.rules):iQ ms (bR on R.bq R.goal):=by
 refine⟨G9 h.1,λx hx=>?_⟩
 unfold bR at hx
 split at hx
 ·rename_i e
  obtain⟨g,eg,hg⟩:=G.goal m h1 R h2 (.inl e)
  rcases List.mem_append.mp hx with hx|hx
  ·exact h.2 x hx
  ·rw[List.mem_singleton.mp hx,eg];exact hg
 ·split at hx
  ·rename_i e
   obtain⟨g,eg,hg⟩:=G.goal m h1 R h2 (.inr e)
   rcases List.mem_append.mp hx with hx|hx
   ·exact h.2 x (List.dropLast_subset _ hx)
   ·rw[List.mem_singleton.mp hx,eg];exact hg
  ·split at hx
   ·split at hx
    ·rw[List.mem_singleton.mp hx];exact G.pos
    ·exact h.2 x (List.dropLast_subset _ hx)
   ·exact h.2 x hx
def bU(on:List Nat):Nat:=on.getLastD 0
theorem iN{on:List Nat}(h:on≠[]):on.getLast?=some (bU on):=by
 unfold bU
 rw[List.getLastD_eq_getLast?,List.getLast?_eq_some_getLast h]
 rfl
theorem mS{on:List Nat}(h:on≠[]):bU on∈on:=List.mem_of_getLast? (iN h)
theorem iQ.mode{ms:List aD}{on:List Nat}(h:iQ ms on):∃m,ms[bU on]?=some m:=⟨ms[bU on]'(h.2 _ (mS h.1)),List.getElem?_eq_getElem _⟩
def eO(rs:List aZ)(row:Str)(i:Nat):Option aZ:=(firstM rs row i).bind (rs[·]?)
def fN(rs:List aZ)(row:Str):Option aZ:=(eO rs row 0).bind λR=>if bJ R.sort=true then none else some R
theorem iW{row:Str}{i:Nat}:∀{rs:List aZ} {k n:Nat},f6 row i k rs=some n->k<=n/\∃R,rs[n-k]?=some R/\fC R row i=true/\∀j,j<n-k->∀R',rs[j]?=some R'->fC R' row i=false
 | [],k,n,h=>by cases h
 |R::r,k,n,h=>by
  rw[f6] at h
  split at h
  ·rename_i hf
   cases h
   refine⟨Nat.le_refl _,R,by rw[Nat.sub_self];rfl,hf,λj hj=>?_⟩
   lia
  ·rename_i hf
   obtain⟨h1,R',h2,h3,h4⟩:=iW h
   have e:n-k=(n-(k+1))+1:=by lia
   refine⟨by lia,R',by rw[e,List.getElem?_cons_succ];exact h2,h3,λj hj R'' hR=>?_⟩
   cases j with
   |zero=>
    rw[List.getElem?_cons_zero] at hR
    cases hR
    simpa using hf
   |succ j=>exact h4 j (by lia) R'' (by rw[List.getElem?_cons_succ] at hR;exact hR)
theorem wR{rs:List aZ}{row:Str}{i n:Nat}(h:firstM rs row i=some n):∃R,rs[n]?=some R/\eO rs row i=some R/\fC R row i=true:=by
 obtain⟨_,R,h2,h3,_⟩:=iW h
 rw[Nat.sub_zero] at h2
 exact⟨R,h2,by rw[eO,h];exact h2,h3⟩
noncomputable def NN(t:fE):Sp:=λvs H Q _=>∃(a:Addr) (ms:List aD) (m:aD) (k:Nat) (row:Str),vs=[.ref a,.int k,.str row]/\IsRules t H a ms/\ms[k]?=some m/\uJ m.rules/\row.length<=1000/\
 ∀H',aj H H'->(fN m.rules row=none->Q .cW H')/\∀R r,fN m.rules row=some R->dB t H r R->Q (.ref r) H'
theorem EM (T:Txt K mg t):bD P w K mg base dw 3 t.EL t.LK ["rules","mode","row"] (NN t):=by
 refine T.vM.m xR λvs H Q E h=>?_
 ·obtain⟨a,ms,m,k,row,rfl,hR,hm,hok,hrow,q⟩:=h
  walk_at "i"
  refine ao (cS 3 xR (aW (C9 T) hr.m rfl T.Cy T.vH.kp (T.vH.binds (by walk_at "4")) .nil aF (aa (pv 0) (aa (pv 1) (aa (pv 2) (aa aq ai)))))) ⟨_,rfl,_,rfl,_,rfl,a,ms,m,k,0,row,rfl,hR,hm,hok,hrow,by lia,λH1 s1=>?_⟩
  obtain⟨dx,lm,as,b,lr,dm,rs,ha,hlm,hal,hb,hmo,hlr,hA⟩:=hR.mode hm
  cases hf:firstM m.rules row 0 with
  |none=>
   have e:fN m.rules row=none:=by rw[fN,eO,hf];rfl
   exact ao (bK (aE uG (pv 3) bX (aI _)) aA aA) ⟨_,rfl,rfl,_,rfl,fq (λ_=>ay (aJ bX) ((q H1 s1).1 e)) (λh=>absurd rfl h)⟩
  |some n=>
   obtain⟨R,hn,hru,_⟩:=wR hf
   obtain⟨r,hr0,hr1⟩:=hA.at hn
   obtain⟨g1,g2⟩:=hok.2 R (List.mem_of_getElem? hn)
   obtain⟨fe,fs,de,ds,PK⟩:=Ht (P:=P) (w:=w) (base:=base) T g1
   refine ao (bK (aE uG (pv 3) bX (aI _)) aA aA) ⟨_,rfl,rfl,_,rfl,fq (λh=>by cases h) (λ_=>bG ?_)⟩
   refine ao (cS 4 xR (aR aL (aK (aR aL (aK (pv 0) rfl) (pv 1) (λ_ _=>rfl)) rfl) (pv 3) (λ_ _=>rfl))) (⟨_,rfl,_,_,_,_,_,rfl,(s1 _ _ ha),T.gW,T.c5,rfl,⟨_,rfl,_,_,_,_,rfl,rfl,bg.of (s1 _ _ hlm),fU hb,b,t.dN,dm,_,_,rfl,s1 _ _ hmo,T.fk,T.ff,rfl,_,rfl,_,_,_,_,rfl,rfl,bg.of (s1 _ _ hlr),fU hr0,?_⟩⟩)
   obtain⟨dr,pa,o1,dp,o2⟩:=id hr1
   have e:fN m.rules row=if bJ R.sort=true then none else some R:=by rw[fN,hru];rfl
   refine ay (aJ (cN (iB (bN (aK (pv 4) rfl) PK.cl PK.ms PK.gs hr.m PK.bs .nil aF)) bX (pv 4))) (⟨_,rfl,_,_,_,_,_,rfl,(s1 _ _ o1),T.cG,T.eK,rfl,⟨pa,dp,_,rfl,s1 _ _ o2,PK.ns _,_,rfl,_,rfl,Ti (λh=>?_) (λh=>⟨_,rfl,?_⟩)⟩⟩)
   ·rw[if_pos h] at e
    exact(q H1 s1).1 e
   ·rw[if_neg (by rw[h];decide)] at e
    exact(q H1 s1).2 R r e hr1
def cR(ms:List aD)(k:Nat)(row:Str):Option aZ:=(ms[k]?).bind λm=>fN m.rules row
def dj(ms:List aD)(row:Str)(first:Nat):Nat->List Nat->List Nat->Option (List Nat)
 |0,_,_=>none
 |f+1,on,ring=>match cR ms (bU on) row with
  |none=>none
  |some R=>if R.bq = "pop" /\ on.length=1/\first≠0 then none else if bU (bR on R.bq R.goal)=first then some (ring++[bU on]) else dj ms row first f (bR on R.bq R.goal) (ring++[bU on])
def cI(ms:List aD)(first:Nat)(row:Str):Option (List Nat):=dj ms row first ms.length [first] []
theorem rD{on:List Nat}{d:Str}{g:Option Nat}:(bR on d g).length<=on.length+1:=by
 unfold bR
 split
 ·simp
 ·split
  ·simp
  ·split
   ·split
    ·simp
    ·simp;lia
   ·lia
theorem jt{rs:List aZ}{row:Str}{R:aZ}(h:fN rs row=some R):R∈rs:=by
 unfold fN at h
 cases e:eO rs row 0 with
 |none=>rw[e] at h;cases h
 |some R'=>
  rw[e] at h
  have:(if bJ R'.sort=true then none else some R')=some R:=h
  split at this
  ·cases this
  ·cases this
   unfold eO at e
   cases e2:firstM rs row 0 with
   |none=>rw[e2] at e;cases e
   |some n=>rw[e2] at e;exact List.mem_of_getElem? e
noncomputable def yw(t:fE):Sp:=λvs H Q _=>∃(a:Addr) (ms:List aD) (first:Nat) (row:Str),vs=[.ref a,.int first,.str row]/\IsRules t H a ms/\dz ms/\first<ms.length/\row.length<=1000/\
 ∀H',aj H H'->(cI ms first row=none->Q .cW H')/\∀ring l,cI ms first row=some ring->H' l=some (.lst (ring.map bE))->H l=none->Q (.ref l) H'
theorem Fp (T:Txt K mg t):bD P w K mg base dw 4 t.Dg t.K3 ["rules","first","row"] (yw t):=by
 refine T.vF.m qz λvs H Q E h=>?_
 ·obtain⟨a,ms,first,row,rfl,hR,G,hfirst,hrow,q⟩:=h
  walk_at "i"
  refine ao (cS 3 qz (bP ai)) ⟨by show 0<=sizeLine;decide,λlg hlg=>?_⟩
  have s1:aj H (upd H lg (.lst [])):=aj.upd hlg
  have hg1:upd H lg (.lst []) lg=some (.lst []):=af
  generalize upd H lg (.lst [])=H1 at s1 hg1
  refine ao (cS 4 qz (bP (aa (pv 1) ai))) ⟨_,rfl,by show 1<=sizeLine;decide,λlo hlo=>?_⟩
  have s2:aj H1 (upd H1 lo (.lst [.int first])):=aj.upd hlo
  have ho2:upd H1 lo (.lst [.int first]) lo=some (.lst ([first].map bE)):=af
  have hg2:=s2 _ _ hg1
  have ngo:lg≠lo:=au hg1 hlo
  have hlo0:H lo=none:=s1.free hlo
  generalize upd H1 lo (.lst [.int first])=H2 at s2 ho2 hg2
  have s2:=s1.trans s2
  show At _ _ _ [some (.ref a),some (.int first),some (.str row),some (.ref lg),some (.ref lo),none] H2
  obtain⟨dx,lm,as,ls,ha,hlm,hM⟩:=id hR
  refine aS (λZ' H'=>(∃x,Z'=[some (.ref a),some (.int first),some (.str row),some (.ref lg),some (.ref lo),x])/\aj H H'/\cI ms first row=none) (jZ PassesOwn.never (aE ie (aN bh (by rfl) T.cy (by decide +kernel) (aa (pv 3) ai)) (aN bh (by rfl) T.cy (by decide +kernel) (aa (aK (pv 0) rfl) ai)) (aI _)) aA) ?_ ?_
  ·refine⟨λf Z' H'=>∃(on ring:List Nat),(∃x,Z'=[some (.ref a),some (.int first),some (.str row),some (.ref lg),some (.ref lo),x])/\H' lg=some (.lst (ring.map bE))/\H' lo=some (.lst (on.map bE))/\aj H H'/\f+ring.length=ms.length/\iQ ms on/\on.length<=ring.length+1/\cI ms first row=dj ms row first f on ring,⟨ms.length,[first],[],⟨_,rfl⟩,hg2,ho2,s2,by simp,⟨by simp,by simpa using hfirst⟩,by simp,rfl⟩,?_⟩
   rintro f Z' H3 ⟨on,ring,⟨x,rfl⟩,hg3,ho3,s3,hfl,hon,honl,hrec⟩
   have hlen:=G.len
   refine⟨_,rfl,_,_,rfl,.inl (bg.of hg3),⟨_,rfl,_,_,_,_,_,rfl,(s3 _ _ ha),T.gW,T.c5,rfl,⟨_,_,rfl,.inl (bg.of (s3 _ _ hlm)),_,_,rfl,rfl,_,rfl,fq (λh=>?_) (λh=>?_)⟩⟩⟩
   ·rw[List.length_map,List.length_map,hM.la] at h
    obtain⟨f',rfl⟩:∃f',f=f'+1:=⟨f-1,by lia⟩
    obtain⟨m,hm⟩:=hon.mode
    have hmm:=List.mem_of_getElem? hm
    have hid:cR ms (bU on) row=fN m.rules row:=by rw[cR,hm];rfl
    rw[dj,hid] at hrec
    refine⟨_,λZ' H' z=>z,?_⟩
    obtain⟨dx',lm',as',b,lr,dm,rs,ha',hlm',hal',hb,hmo,hlr,hA⟩:=(hR.same s3).mode hm
    cases hi0:fN m.rules row with
    |none=>
     rw[hi0] at hrec
     refine ao (cS 5 qz (aW (EM T) hr.m rfl T.EG T.vM.kp (T.vM.binds (by walk_at "3")) .nil aF (aa (pv 0) (aa (aR aL (pv 4) (lM jd aq) (λ_ _=>rfl)) (aa (pv 2) ai))))) ⟨_,rfl,_,rfl,_,rfl,_,_,_,_,rfl,rfl,bg.of ho3,gH (iN hon.1),_,rfl,a,ms,m,bU on,row,rfl,hR.same s3,hm,G.ok m hmm,hrow,λH4 s4=>⟨λ_=>?_,(λR r e=>by rw[hi0] at e;cases e)⟩⟩
     exact ao (bK (aE uG (pv 5) bX (aI _)) aA aA) ⟨_,rfl,rfl,_,rfl,fq (λ_=>ay (aJ bX) ((q H4 (s3.trans s4)).1 hrec)) (λh=>absurd rfl h)⟩
    |some R=>
     rw[hi0] at hrec
     have hRm:=jt hi0
     refine ao (cS 5 qz (aW (EM T) hr.m rfl T.EG T.vM.kp (T.vM.binds (by walk_at "3")) .nil aF (aa (pv 0) (aa (aR aL (pv 4) (lM jd aq) (λ_ _=>rfl)) (aa (pv 2) ai))))) ⟨_,rfl,_,rfl,_,rfl,_,_,_,_,rfl,rfl,bg.of ho3,gH (iN hon.1),_,rfl,a,ms,m,bU on,row,rfl,hR.same s3,hm,G.ok m hmm,hrow,λH4 s4=>⟨(λe=>by rw[hi0] at e;cases e),λR' r e hr1=>?_⟩⟩
     rw[hi0] at e
     cases e
     refine ao (bK (aE uG (pv 5) bX (aI _)) aA aA) ⟨_,rfl,rfl,_,rfl,fq (λh=>by cases h) (λ_=>bG ?_)⟩
     have hr4:=hr1.same s4
     have hg4:=s4 _ _ hg3
     have ho4:=s4 _ _ ho3
     obtain⟨dr,pa,o1,hpat⟩:=id hr4
     refine aS (λZ' H'=>Z'=[some (.ref a),some (.int first),some (.str row),some (.ref lg),some (.ref lo),some (.ref r)]/\H'=H4/\¬(R.bq = "pop" /\ on.length=1/\first≠0)) (bK (PW.pt (iz (aE ez (aK (pv 5) rfl) az (aI _)) (iz (aE ez (aN bh (by rfl) T.cy (by decide +kernel) (aa (pv 4) ai)) aq (aI _)) (fV (aE oG (pv 1) (gc rfl T.kN) (aI _)))))) aA aA) ?_ ?_
     ·refine⟨_,rfl,_,_,_,_,_,rfl,o1,T.cG,T.fP,rfl,⟨rfl,_,rfl,fq (λh1=>?_) (λh1=>bG ⟨rfl,rfl,λz=>h1 (by rw[z.1])⟩)⟩⟩
      refine⟨_,rfl,_,_,rfl,.inl (bg.of ho4),rfl,_,rfl,fq (λh2=>?_) (λh2=>bG ⟨rfl,rfl,λz=>h2 (by rw[List.length_map,z.2.1];rfl)⟩)⟩
      refine⟨_,rfl,rfl,_,rfl,qS (λh3=>?_) (λh3=>bG ⟨rfl,rfl,λz=>z.2.2 (by have:=V.int.inj h3;lia)⟩)⟩
      have h2:=V.int.inj h2
      rw[List.length_map] at h2
      have hc:R.bq = "pop" /\ on.length=1/\first≠0:=⟨V.str.inj h1,by lia,λz=>h3 (by rw[z];rfl)⟩
      simp only[if_pos hc] at hrec
      exact ay (aJ bX) ((q H4 (s3.trans s4)).1 hrec)
     rintro Z' H' ⟨rfl,e,hnc⟩
     rw[e]
     clear e H'
     simp only[if_neg hnc] at hrec
     refine ao (bx (dG F.plainAttrs_list F.slot_list_append F.type_list_append c8 (pv 3) (aa (aR aL (pv 4) (lM jd aq) (λ_ _=>rfl)) ai))) ⟨_,rfl,.inl ⟨rfl,_,bg.of hg4⟩,_,rfl,_,rfl,_,_,_,_,rfl,rfl,bg.of ho4,gH (iN hon.1),lg,_,_,rfl,rfl,hg4,dQ (by rw[List.length_map];lia),?_⟩
     have hg5:upd H4 lg (.lst (ring.map bE++[bE (bU on)])) lg=some (.lst ((ring++[bU on]).map bE)):=by rw[af,List.map_append];rfl
     have ho5:upd H4 lg (.lst (ring.map bE++[bE (bU on)])) lo=some (.lst (on.map bE)):=by rw[ak (Ne.symm ngo)];exact ho4
     have hr5:dB t (upd H4 lg (.lst (ring.map bE++[bE (bU on)]))) r R:=hr4.nJ hg4
     have s5:aj H (upd H4 lg (.lst (ring.map bE++[bE (bU on)]))):=λb o hb=>by rw[ak (au hb hlg)];exact s4 _ _ (s3 _ _ hb)
     generalize upd H4 lg (.lst (ring.map bE++[bE (bU on)]))=H5 at hg5 ho5 hr5 s5
     refine ao (bx (aW (Dr T) hr.m rfl T.F8 T.vG.kp (T.vG.binds (by walk_at "2")) .nil aF (aa (pv 4) (aa (pv 5) ai)))) ⟨_,rfl,_,rfl,lo,r,on,R,rfl,ho5,hr5,hon.1,by lia,G.gd hmm hRm,?_⟩
     have hon6:=hon.bq G hmm hRm
     have hol6:(bR on R.bq R.goal).length<=on.length+1:=rD
     have hg6:upd H5 lo (.lst ((bR on R.bq R.goal).map bE)) lg=some (.lst ((ring++[bU on]).map bE)):=by rw[ak ngo];exact hg5
     have s6:aj H (upd H5 lo (.lst ((bR on R.bq R.goal).map bE))):=λb o hb=>by rw[ak (au hb hlo0)];exact s5 _ _ hb
     refine ay (bK (aE ez (aR aL (pv 4) (lM jd aq) (λ_ _=>rfl)) (pv 1) (aI _)) aA aA) ⟨_,rfl,_,rfl,_,_,_,_,rfl,rfl,bg.of af,gH (iN hon6.1),_,rfl,rfl,_,rfl,fq (λh=>?_) (λh=>bG ?_)⟩
     ·have h:bU (bR on R.bq R.goal)=first:=by have:=V.int.inj h;lia
      rw[if_pos h] at hrec
      exact ay (aJ (pv 3)) ⟨_,rfl,(q _ s6).2 _ lg hrec hg6 hlg⟩
     ·have h:¬ bU (bR on R.bq R.goal)=first:=λz=>h (by rw[← z];rfl)
      rw[if_neg h] at hrec
      refine⟨f',by lia,_,_,⟨_,rfl⟩,hg6,af,s6,?_,hon6,?_,hrec⟩
      ·simp only[List.length_append,List.length_cons,List.length_nil];lia
      ·simp only[List.length_append,List.length_cons,List.length_nil];lia
   ·rw[List.length_map,List.length_map,hM.la] at h
    have:f=0:=by lia
    subst this
    exact⟨⟨_,rfl⟩,s3,hrec⟩
  rintro Z' H' ⟨⟨x,rfl⟩,s3,hn⟩
  exact ay (aJ bX) ((q H' s3).1 hn)
abbrev kY:Str:=" !\"#$&'()*+,-./0123456789:;<=>?@ABCDEFGHIJKLMNOPQRSTUVWXYZ[\\]^_`abcdefghijklmnopqrstuvwxyz{|}~"
def dJ:List Str:="" :: kY.cps.toList.map λc=>(⟨#[c]⟩:Str)
noncomputable def G7:Sp:=λvs H Q _=>vs=[]/\∀l H',H' l=some (.lst (dJ.map V.str))->H l=none->aj H H'->Q (.ref l) H'
theorem OH(T:Txt K mg t):bD P w K mg base dw 1 t.CN t.IY [] G7:=by
 refine T.Fc.ok Ql (λvs H Q E h=>?_) (λcdv A outer s H vs Q E hr h=>zl ?_)
 ·obtain⟨rfl,_⟩:=h
  rfl
 ·obtain⟨rfl,q⟩:=h
  refine ay (aJ (aM gE (bP (aa az ai)) (cJ (xj rfl) (by rfl) T.jI (by decide +kernel) (aa (gc rfl T.Ag) ai)))) ⟨by show 1<=sizeLine;decide,λl1 hl1=>⟨_,rfl,by decide +kernel,λl2 hl2=>?_⟩⟩
  refine⟨l1,l2,_,_,rfl,rfl,aj.upd hl2 _ _ af,af,b9 (by simp only[rj,List.length_map,List.length_cons,List.length_nil];decide +kernel),λl hl=>?_⟩
  refine q l _ ?_ (((aj.upd hl1).to hl2).free hl) (((aj.upd hl1).to hl2).to hl)
  rw[af,dJ,List.map_cons,List.map_map]
  rfl
theorem Ay:∀r∈dJ,r.length<=1:=by
 intro r hr
 rcases List.mem_cons.mp hr with e|e
 ·rw[e];decide
 ·obtain⟨c,_,rfl⟩:=List.mem_map.mp e
  exact Nat.le_refl 1
def fH(ms:List aD)(row:Str):Nat->Nat->Option (List Nat)
 |0,_=>none
 |n+1,k=>match cI ms k row with
  |some r=>some r
  |none=>fH ms row n (k+1)
def fB(ms:List aD):List Str->Option (List Nat×Str)
 | []=>none
 |row::r=>match fH ms row ms.length 0 with
  |some ring=>some (ring,row)
  |none=>fB ms r
def jU(ms:List aD):Option (List Nat×Str):=fB ms dJ
theorem mT{ms:List aD}{row:Str}:∀{n k:Nat},fH ms row n k=none->∀j,k<=j->j<k+n->cI ms j row=none
 |0,k,_,j,h1,h2=>by lia
 |n+1,k,h,j,h1,h2=>by
  rw[fH] at h
  cases e:cI ms k row with
  |some r=>rw[e] at h;cases h
  |none=>
   rw[e] at h
   by_cases z:j=k
   ·rw[z];exact e
   ·exact mT h j (by lia) (by lia)
theorem lN{ms:List aD}:∀{rows:List Str},fB ms rows=none->∀row∈rows,∀j,j<ms.length->cI ms j row=none
 | [],_,row,h,_,_=>by cases h
 |r::rs,h,row,hr,j,hj=>by
  rw[fB] at h
  cases e:fH ms r ms.length 0 with
  |some r=>rw[e] at h;cases h
  |none=>
   rw[e] at h
   rcases List.mem_cons.mp hr with z|z
   ·rw[z];exact mT e j (Nat.zero_le _) (by lia)
   ·exact lN h row z j hj
theorem yO{ms:List aD}(h:jU ms=none):∀row∈dJ,∀j,j<ms.length->cI ms j row=none:=lN h
def nameAt(ms:List aD)(k:Nat):Str:=match ms[k]? with
 |some m=>m.name
 |none=>""
def OS (row:Str):V:=if row = "" then .cW else .str row
noncomputable def MR(t:fE):Sp:=λvs H Q _=>∃(a:Addr) (ms:List aD),vs=[.ref a]/\IsRules t H a ms/\dz ms/\
 ∀H',aj H H'->(jU ms=none->Q .cW H')/\∀ring row p l,jU ms=some (ring,row)->H' p=some (.tup [.ref l,OS row])->H' l=some (.lst ((ring.map (nameAt ms)).map V.str))->Q (.ref p) H'
theorem vo{ms:List aD}(G:dz ms){row:Str}{first:Nat}:∀{f:Nat} {on ring r:List Nat},iQ ms on->(∀x∈ring,x<ms.length)->dj ms row first f on ring=some r->∀x∈r,x<ms.length
 |0,on,ring,r,_,_,h=>by cases h
 |f+1,on,ring,r,ho,hr,h=>by
  rw[dj] at h
  obtain⟨m,hm⟩:=ho.mode
  have hid:cR ms (bU on) row=fN m.rules row:=by rw[cR,hm];rfl
  rw[hid] at h
  have h2:∀x∈ring++[bU on],x<ms.length:=λx hx=>by
   rcases List.mem_append.mp hx with hx|hx
   ·exact hr x hx
   ·rw[List.mem_singleton.mp hx];exact ho.2 _ (mS ho.1)
  cases e:fN m.rules row with
  |none=>rw[e] at h;cases h
  |some R=>
   rw[e] at h
   have h:(if R.bq = "pop" /\ on.length=1/\first≠0 then none else if bU (bR on R.bq R.goal)=first then some (ring++[bU on]) else dj ms row first f (bR on R.bq R.goal) (ring++[bU on]))=some r:=h
   split at h
   ·cases h
   ·split at h
    ·cases h;exact h2
    ·exact vo G (ho.bq G (List.mem_of_getElem? hm) (jt e)) h2 h
theorem sN{ms:List aD}{row:Str}{first:Nat}:∀{f:Nat} {on ring r:List Nat},dj ms row first f on ring=some r->r.length<=ring.length+f
 |0,on,ring,r,h=>by cases h
 |f+1,on,ring,r,h=>by
  rw[dj] at h
  cases e:cR ms (bU on) row with
  |none=>rw[e] at h;cases h
  |some R=>
   rw[e] at h
   have h:(if R.bq = "pop" /\ on.length=1/\first≠0 then none else if bU (bR on R.bq R.goal)=first then some (ring++[bU on]) else dj ms row first f (bR on R.bq R.goal) (ring++[bU on]))=some r:=h
   split at h
   ·cases h
   ·split at h
    ·cases h;simp
    ·have:=sN h
     rw[List.length_append,List.length_cons,List.length_nil] at this
     lia
theorem M7 (T:Txt K mg t):bD P w K mg base dw 5 t.F6 t.JJ ["rules"] (MR t):=by
 refine T.Du.m pY λvs H Q E h=>?_
 ·obtain⟨a,ms,rfl,hR,G,q⟩:=h
  walk_at "i"
  have hlen:=G.len
  refine aS (λZ' H'=>(∃x y z,Z'=[some (.ref a),x,y,z])/\aj H H'/\jU ms=none) (gn PassesOwn.never rfl (fF (BP (OH T) hr.m rfl T.Ni T.Fc.kp (T.Fc.binds (by walk_at "0")) .nil aF)) (oO 1 pY) aA) ?_ ?_
  ·refine⟨rfl,λl H1 hl1 hl0 s1=>⟨l,rfl,⟨_,bg.of hl1⟩,jn (xs:=dJ.map V.str) (λi Z' H'=>(∃x y z,Z'=[some (.ref a),x,y,z])/\H' l=some (.lst (dJ.map V.str))/\aj H H'/\jU ms=fB ms (dJ.drop i)) ⟨⟨_,_,_,rfl⟩,hl1,s1,rfl⟩ ?_ ?_ ?_⟩⟩
   ·rintro i Z' H' _ ⟨_,h,_⟩
    exact bg.of h
   ·rintro i xv Z' H2 hx ⟨⟨x,y,z,rfl⟩,hl2,s2,hrec⟩
    rw[List.getElem?_map] at hx
    obtain⟨row,hrow,rfl⟩:=Option.map_eq_some_iff.mp hx
    have hrl:=Ay row (List.mem_of_getElem? hrow)
    rw[gr hrow,fB] at hrec
    obtain⟨dx,lm,as,ls,ha,hlm,hM⟩:=id hR
    refine ay (gn PassesOwn.never rfl (iI rfl T.kW (aa (aN bh (by rfl) T.cy (by decide +kernel) (aa (aK (pv 0) rfl) ai)) ai)) (oO 2 pY) aA) (⟨_,rfl,_,_,_,_,_,rfl,(s2 _ _ ha),T.gW,T.c5,rfl,⟨_,_,rfl,.inl (bg.of (s2 _ _ hlm)),(ms.length:Int),by rw[List.length_map,hM.la],by lia,by lia,ql (n:=((ms.length:Nat):Int).toNat) (λk Z' H'=>(∃y z,Z'=[some (.ref a),some (.str row),y,z])/\H' l=some (.lst (dJ.map V.str))/\aj H H'/\fH ms row ms.length 0=fH ms row (ms.length-k) k) ⟨⟨_,_,rfl⟩,hl2,s2,rfl⟩ ?_ ?_⟩⟩)
    ·rintro k Z' H3 hk ⟨⟨y,z,rfl⟩,hl3,s3,hrow3⟩
     have hk':k<ms.length:=by lia
     rw[show ms.length-k=(ms.length-(k+1))+1 by lia,fH] at hrow3
     cases hf:cI ms k row with
     |none=>
      rw[hf] at hrow3
      refine ao (cS 3 pY (aW (Fp T) hr.m rfl T.Cd T.vF.kp (T.vF.binds (by walk_at "3")) .nil aF (aa (pv 0) (aa (pv 2) (aa (pv 1) ai))))) ⟨_,rfl,_,rfl,_,rfl,a,ms,k,row,(by rw[Int.zero_add];rfl),hR.same s3,G,hk',by lia,λH4 s4=>⟨λ_=>?_,(λring lg e=>by rw[hf] at e;cases e)⟩⟩
      exact ay (bK (aE jC (pv 3) bX (aI _)) aA aA) ⟨_,rfl,rfl,_,rfl,qS (λh=>absurd rfl h) (λ_=>bG ⟨⟨_,_,rfl⟩,s4 _ _ hl3,s3.trans s4,hrow3⟩)⟩
     |some ring=>
      rw[hf] at hrow3
      have hrec:jU ms=some (ring,row):=by rw[hrec,hrow3]
      refine ao (cS 3 pY (aW (Fp T) hr.m rfl T.Cd T.vF.kp (T.vF.binds (by walk_at "3")) .nil aF (aa (pv 0) (aa (pv 2) (aa (pv 1) ai))))) ⟨_,rfl,_,rfl,_,rfl,a,ms,k,row,(by rw[Int.zero_add];rfl),hR.same s3,G,hk',by lia,λH4 s4=>⟨(λe=>by rw[hf] at e;cases e),λring' lg e hlg hlg0=>?_⟩⟩
      rw[hf] at e
      cases e
      have s4':=s3.trans s4
      have hlt:∀x∈ring,x<ms.length:=vo G ⟨by simp,by simpa using hk'⟩ (by simp) hf
      have hrl2:ring.length<1000000:=by
       have:=sN hf
       simp only[List.length_nil] at this
       lia
      refine ay (bK (aE jC (pv 3) bX (aI _)) aA aA) ⟨_,rfl,rfl,_,rfl,qS (λ_=>?_) (λh=>by cases h)⟩
      refine ay (@aJ _ _ _ _ (@bC _ _ _ _ _ (aa (@gi _ (av (top 32)) _ ["rules","row","first","ring"] _ _ ("mode") _ _ [("rules",0)] _ _ (by walk_at "ck") (@fF _ _ _ _ (pv 3)) (λ_ _ _ _=>by exact(@jE _ K _ _ _ _ (@aR _ _ _ _ _ _ _ (wK (K:=K) rfl) (@jE _ K _ _ _ _ (pv 0) rfl (by left)) (pv 1) (λ_ _=>rfl)) rfl (by left))) (by left) (by left) (by left) (by left)) (aa (@cN _ _ _ _ _ _ _ _ (@jj _ _ _ (pv 1) (λ_=>rfl)) (pv 1) bX) ai (by left)) (by left)))) ⟨_,rfl,lg,rfl,⟨_,bg.of hlg⟩,gD (xs:=ring.map bE) (λi ys H5=>ys=((ring.take i).map (nameAt ms)).map V.str/\aj H4 H5) ⟨rfl,aj.refl H4⟩ (by rw[List.length_map];exact Nat.lt_trans hrl2 (by decide)) ?_ ?_ ?_⟩
      ·rintro i ys H5 _ ⟨_,s5⟩
       exact bg.of (s5 _ _ hlg)
      ·rintro i xv ys H5 hx hyl ⟨rfl,s5⟩
       rw[List.getElem?_map] at hx
       obtain⟨n,hn,rfl⟩:=Option.map_eq_some_iff.mp hx
       obtain⟨m,hm⟩:∃m,ms[n]?=some m:=⟨ms[n]'(hlt n (List.mem_of_getElem? hn)),List.getElem?_eq_getElem _⟩
       obtain⟨dx,lm,as,b,lr,dm,rs,ha,hlm,hal,hb,hmo,hlr,hA⟩:=(hR.same (s4'.trans s5)).mode hm
       refine⟨_,rfl,_,_,_,_,_,rfl,ha,T.gW,T.c5,rfl,⟨_,rfl,_,_,_,_,rfl,rfl,bg.of hlm,fU hb,b,t.dN,dm,_,_,rfl,hmo,T.fk,T.iX,rfl,?_⟩⟩
       have hi:=(List.getElem?_eq_some_iff.mp hn).1
       refine cP (by rw[List.length_map];exact hi) hyl ⟨?_,s5⟩
       rw[take_snoc hn,List.map_append,List.map_append]
       show _=_++[V.str (nameAt ms n)]
       rw[nameAt,hm]
      ·rintro ys H5 hyl ⟨rfl,s5⟩ D hD
       have e5:ring.take (ring.map bE).length=ring:=by rw[List.length_map,List.take_length]
       rw[e5]
       have s6:aj H (upd H5 D (.lst ((ring.map (nameAt ms)).map V.str))):=(s4'.trans s5).to hD
       have hD6:upd H5 D (.lst ((ring.map (nameAt ms)).map V.str)) D=some (.lst ((ring.map (nameAt ms)).map V.str)):=af
       generalize upd H5 D (.lst ((ring.map (nameAt ms)).map V.str))=H6 at s6 hD6
       by_cases h0:row = ""
       ·refine⟨_,rfl,false,⟨b9 (by lia),(by rw[h0];rfl)⟩,lQ ⟨by show 2<=sizeLine;decide,λtp htp=>?_⟩⟩
        exact(q _ (s6.to htp)).2 ring row tp D hrec (by rw[af,OS,if_pos h0]) (aj.upd htp _ _ hD6)
       ·have hrl1:row.length≠0:=λz=>h0 (jL (by rw[show (Str.ofString "").cps.toList=[] from by decide +kernel];exact List.eq_nil_of_length_eq_zero (by rw[br];exact z)))
        refine⟨_,rfl,true,⟨b9 (by lia),?_⟩,By ⟨_,rfl,by show 2<=sizeLine;decide,λtp htp=>?_⟩⟩
        ·have:(row.length:Int)≠0:=by lia
         simpa using this
        ·exact(q _ (s6.to htp)).2 ring row tp D hrec (by rw[af,OS,if_neg h0]) (aj.upd htp _ _ hD6)
    ·rintro Z' H3 ⟨⟨y,z,rfl⟩,hl3,s3,hrow3⟩
     rw[Int.toNat_natCast,Nat.sub_self] at hrow3
     refine⟨⟨_,_,_,rfl⟩,hl3,s3,?_⟩
     rw[hrec,hrow3]
     rfl
   ·rintro Z' H' ⟨h1,_,h2,h3⟩
    rw[List.length_map,List.drop_length] at h3
    exact⟨h1,h2,h3⟩
  rintro Z' H' ⟨⟨x,y,z,rfl⟩,s1,hn⟩
  exact ay (aJ bX) ((q H' s1).1 hn)
def iV(R:aZ)(row:Str)(i:Nat):Nat:=match fJ R.sort R.signs row i with
 |.int n=>n.toNat
 |_=>0
structure Cfg where
 on:List Nat
 aP:List Str
 marks:List (Nat×Str)
def d7(ms:List aD)(k:Nat):Str:=match ms[k]? with
 |some m=>m.aU
 |none=>""
def fW(ms:List aD)(k:Nat):List aZ:=match ms[k]? with
 |some m=>m.rules
 |none=>[]
def iw (c:Cfg) (R:aZ) (row:Str):Cfg:=⟨bR c.on R.bq R.goal,c.aP++List.replicate (iV R row c.aP.length) R.aU,if R.fold = "" then c.marks else c.marks++[(c.aP.length,R.fold)]⟩
def fT(ms:List aD)(row:Str)(c:Cfg):Option Cfg:=match eO (fW ms (bU c.on)) row c.aP.length with
 |some R=>some (iw c R row)
 |none=>if c.aP.length<row.length then some ⟨c.on,c.aP++[d7 ms (bU c.on)],c.marks⟩ else none
def goN(ms:List aD)(row:Str):Nat->Cfg->Option Cfg
 |0,c=>match fT ms row c with
  |none=>some c
  |some _=>none
 |n+1,c=>match fT ms row c with
  |none=>some c
  |some c'=>goN ms row n c'
theorem pM{ms:List aD}{row:Str}{n:Nat}{c c' d:Cfg}(h:fT ms row c=some c')(g:goN ms row n c'=some d):goN ms row (n+1) c=some d:=by
 rw[goN,h];exact g
theorem uC{ms:List aD}{row:Str}{n:Nat}{c:Cfg}(h:fT ms row c=none):goN ms row n c=some c:=by
 cases n with
 |zero=>rw[goN,h]
 |succ n=>rw[goN,h]
theorem qI{ms:List aD}{row:Str}:∀{n m:Nat} {c d:Cfg},n<=m->goN ms row n c=some d->goN ms row m c=some d
 |0,m,c,d,_,h=>by
  rw[goN] at h
  cases e:fT ms row c with
  |none=>rw[e] at h;cases h;exact uC e
  |some c'=>rw[e] at h;cases h
 |n+1,0,c,d,h0,_=>by lia
 |n+1,m+1,c,d,h0,h=>by
  rw[goN] at h ⊢
  cases e:fT ms row c with
  |none=>rw[e] at h;exact h
  |some c'=>rw[e] at h;exact qI (by lia) h
def cD(row:Str)(i:Nat):Str:=match row.cps.toList[i]? with
 |some c=>⟨#[c]⟩
 |none=>""
theorem zT {s sg row:Str} {i c:Nat} (h1:s ≠ "end") (h2:s ≠ "word") (e:row.cps.toList[i]?=some c):fJ s sg row i≠.cW↔((s = "any" ∨ s = "still")∨(s = "none" /\ c∉sg.cps.toList)∨(s ≠ "none" /\ c∈sg.cps.toList)):=by
 rw[gQ h1 h2 e]
 by_cases h3:s = "any" ∨ s = "still"
 ·rw[if_pos h3]
  exact⟨λ_=>.inl h3,λ_ z=>by cases z⟩
 ·rw[if_neg h3]
  by_cases h4:s = "none"
  ·rw[if_pos h4]
   by_cases h5:c∈sg.cps.toList
   ·rw[if_pos h5]
    exact⟨λz=>absurd rfl z,λz=>by rcases z with z|z|z;(exact absurd z h3);(exact absurd h5 z.2);(exact absurd h4 z.1)⟩
   ·rw[if_neg h5]
    exact⟨λ_=>.inr (.inl ⟨h4,h5⟩),λ_ z=>by cases z⟩
  ·rw[if_neg h4]
   by_cases h5:c∈sg.cps.toList
   ·rw[if_pos h5]
    exact⟨λ_=>.inr (.inr ⟨h4,h5⟩),λ_ z=>by cases z⟩
   ·rw[if_neg h5]
    exact⟨λz=>absurd rfl z,λz=>by rcases z with z|z|z;(exact absurd z h3);(exact absurd z.1 h4);(exact absurd z.2 h5)⟩
theorem yD{R:aZ}{row:Str}{i:Nat}(hi:i<=row.length)(h:fC R (cD row i) 0=true)(hs:R.sort∈sorts):fC R row i=true:=by
 unfold fC at h ⊢
 rw[decide_eq_true_eq] at h ⊢
 have hl:=br row
 cases e:row.cps.toList[i]? with
 |none=>
  have hi2:i=row.length:=by
   have:=List.getElem?_eq_none_iff.mp e
   lia
  have es:cD row i = "" := by unfold cD;rw[e]
  rw[es] at h
  have ee:(Str.ofString "").cps.toList=[]:=by decide +kernel
  rcases fR hs with hs|hs|hs|hs|hs|hs|hs <;> rw[hs] at h ⊢
  ·rw[fJ,if_neg (by decide),if_pos rfl] at h ⊢
   rw[show (("":Str)).cps.toList=[] from ee] at h
   have:row.cps.toList.drop i=[]:=List.drop_eq_nil_of_le (by lia)
   rw[this]
   exact h
  all_goals first
   | (exfalso;exact h (iU (by decide) (by decide) (by decide)))
   | (rw[fJ,if_pos rfl,if_pos hi2];intro z;cases z)
 |some c=>
  have hi2:i<row.length:=by
   have:=(List.getElem?_eq_some_iff.mp e).1
   lia
  have es:cD row i=⟨#[c]⟩:=by unfold cD;rw[e]
  rw[es] at h
  have e0:(⟨#[c]⟩:Str).cps.toList[0]?=some c:=rfl
  rcases fR hs with hs|hs|hs|hs|hs|hs|hs <;> rw[hs] at h ⊢
  ·rw[fJ,if_neg (by decide),if_pos rfl] at h ⊢
   have hd:=gr e
   rw[hd]
   intro z
   apply h
   by_cases y:((⟨#[c]⟩:Str).cps.toList.drop 0).take R.signs.length=R.signs.cps.toList
   ·exfalso
    have y':[c].take R.signs.length=R.signs.cps.toList:=y
    have yl:=congrArg List.length y'
    rw[br,List.length_take] at yl
    have:(c::row.cps.toList.drop (i+1)).take R.signs.length=R.signs.cps.toList:=by
     rw[← y']
     cases hsl:R.signs.length with
     |zero=>rfl
     |succ n=>
      rw[hsl] at yl
      have:n=0:=by simp at yl;lia
      subst this
      rfl
    rw[if_pos this] at z
    cases z
   ·rw[if_neg y]
  all_goals first
   | (rw[fJ,if_pos rfl,if_neg (by show ¬ 0=1;decide)] at h;exact absurd rfl h)
   |exact(zT (by decide) (by decide) e).mpr ((zT (by decide) (by decide) e0).mp h)
theorem mq {s:Str} (h:s∈sorts) (h2:bJ s=false):s = "still" ∨ s = "end" := by
 rcases fR h with rfl|rfl|rfl|rfl|rfl|rfl|rfl
 all_goals first
  |exact .inl rfl
  |exact .inr rfl
  | (exfalso;revert h2;decide +kernel)
theorem xT{R:aZ}{row:Str}{i:Nat}(hi:i<=row.length)(h:fC R row i=true)(hs:R.sort∈sorts)(h2:bJ R.sort=false):fC R (cD row i) 0=true:=by
 unfold fC at h ⊢
 rw[decide_eq_true_eq] at h ⊢
 have hl:=br row
 cases e:row.cps.toList[i]? with
 |none=>
  have hi2:i=row.length:=by
   have:=List.getElem?_eq_none_iff.mp e
   lia
  have es:cD row i = "" := by unfold cD;rw[e]
  rw[es]
  rcases mq hs h2 with hs|hs <;> rw[hs] at h ⊢
  ·exact absurd (iU (by decide) (by decide) (by lia)) h
  ·rw[fJ,if_pos rfl,if_pos (by decide +kernel)];intro z;cases z
 |some c=>
  have hi2:i<row.length:=by
   have:=(List.getElem?_eq_some_iff.mp e).1
   lia
  have es:cD row i=⟨#[c]⟩:=by unfold cD;rw[e]
  have e0:(⟨#[c]⟩:Str).cps.toList[0]?=some c:=rfl
  rw[es]
  rcases mq hs h2 with hs|hs <;> rw[hs] at h ⊢
  ·rw[gQ (by decide) (by decide) e0,if_pos (by decide)];intro z;cases z
  ·rw[fJ,if_pos rfl,if_neg (by lia)] at h;exact absurd rfl h
theorem sR{row:Str}{i:Nat}:∀{rs:List aZ} {k n:Nat} {R:aZ},rs[n]?=some R->fC R row i=true->(∀j,j<n->∀R',rs[j]?=some R'->fC R' row i=false)->f6 row i k rs=some (k+n)
 | [],k,n,R,h,_,_=>by simp at h
 |R0::r,k,0,R,h,hf,_=>by
  rw[List.getElem?_cons_zero] at h
  cases h
  rw[f6,if_pos hf]
  rfl
 |R0::r,k,n+1,R,h,hf,hn=>by
  have h0:=hn 0 (by lia) R0 rfl
  rw[f6,if_neg (by rw[h0];decide),sR (rs:=r) (n:=n) h hf (λj hj R' hR=>hn (j+1) (by lia) R' hR)]
  congr 1
  lia
theorem AU{rs:List aZ}{row:Str}{i:Nat}{R:aZ}(hok:∀R∈rs,R.sort∈sorts)(hi:i<=row.length)(h:eO rs row i=some R)(h2:bJ R.sort=false):fN rs (cD row i)=some R:=by
 unfold eO at h
 cases e:firstM rs row i with
 |none=>rw[e] at h;cases h
 |some n=>
  rw[e] at h
  obtain⟨_,R',g1,g2,g3⟩:=iW e
  rw[Nat.sub_zero] at g1 g3
  have:R'=R:=Option.some.inj (g1.symm.trans h)
  subst this
  have hm:=List.mem_of_getElem? g1
  have hf:firstM rs (cD row i) 0=some n:=by
   have:=sR (row:=cD row i) (i:=0) (k:=0) g1 (xT hi g2 (hok _ hm) h2) (λj hj R' hR=>by
    cases z:fC R' (cD row i) 0 with
    |false=>rfl
    |true=>
     have:=yD hi z (hok _ (List.mem_of_getElem? hR))
     rw[g3 j hj R' hR] at this
     cases this)
   rw[Nat.zero_add] at this
   exact this
  rw[fN,eO,hf]
  show (rs[n]?).bind _=_
  rw[g1]
  show (if bJ R'.sort=true then none else some R')=some R'
  rw[if_neg (by rw[h2];decide)]
theorem Fg(sg:List Nat):∀l:List Nat,kj sg l<=l.length
 | []=>Nat.le_refl _
 |c::r=>by
  rw[kj]
  split
  ·have:=Fg sg r;rw[List.length_cons];lia
  ·exact Nat.zero_le _
theorem PN{s sg row:Str}{i:Nat}{n:Int}(hi:i<=row.length)(h:fJ s sg row i=.int n):i+n.toNat<=row.length:=by
 have hl:=br row
 by_cases h1:s = "end"
 ·rw[fJ,if_pos h1] at h
  split at h
  ·have:=V.int.inj h
   lia
  ·cases h
 ·by_cases h2:s = "word"
  ·rw[fJ,if_neg h1,if_pos h2] at h
   split at h
   ·rename_i hw
    have:=congrArg List.length hw
    rw[List.length_take,List.length_drop,br,br] at this
    have:=V.int.inj h
    lia
   ·cases h
  ·cases e:row.cps.toList[i]? with
   |none=>rw[fJ,if_neg h1,if_neg h2,e] at h;cases h
   |some c=>
    have hi2:i<row.length:=by
     have:=(List.getElem?_eq_some_iff.mp e).1
     lia
    have hr:=Fg sg.cps.toList (row.cps.toList.drop (i+1))
    rw[List.length_drop] at hr
    rw[gQ h1 h2 e] at h
    split at h
    ·have:=V.int.inj h
     split at this <;> lia
    ·split at h
     ·split at h
      ·cases h
      ·have:=V.int.inj h;lia
     ·split at h
      ·have:=V.int.inj h
       split at this <;> lia
      ·cases h
theorem Bp{R:aZ}{row:Str}{i:Nat}(hs:R.sort∈sorts)(hi:i<=row.length):i+iV R row i<=row.length:=by
 unfold iV
 rcases lY R.sort R.signs row i with ⟨n,e⟩|e
 ·rw[e];exact PN hi e
 ·rw[e];exact hi
theorem HH {s sg row:Str} {i:Nat} {n:Int} (he:bJ s=true) (hg:s = "word" -> 1<=sg.length) (h:fJ s sg row i=.int n):1<=n:=by
 have h1:s ≠ "end" := λz=>by rw[z] at he;revert he;decide +kernel
 have h1':s ≠ "still" := λz=>by rw[z] at he;revert he;decide +kernel
 by_cases h2:s = "word"
 ·rw[fJ,if_neg h1,if_pos h2] at h
  split at h
  ·have:=V.int.inj h
   have:=hg h2
   lia
  ·cases h
 ·cases e:row.cps.toList[i]? with
  |none=>rw[fJ,if_neg h1,if_neg h2,e] at h;cases h
  |some c=>
   rw[gQ h1 h2 e] at h
   split at h
   ·rename_i h3
    have:=V.int.inj h
    rcases h3 with h3|h3
    ·rw[if_pos h3] at this;lia
    ·exact absurd h3 h1'
   ·split at h
    ·split at h
     ·cases h
     ·have:=V.int.inj h;lia
    ·split at h
     ·have:=V.int.inj h
      split at this <;> lia
     ·cases h
theorem HR{R:aZ}{row:Str}{i:Nat}(hs:R.sort∈sorts)(he:bJ R.sort=true)(hg:¬ bare R.sort->1<=R.signs.length)(hf:fC R row i=true):1<=iV R row i:=by
 unfold fC at hf
 rw[decide_eq_true_eq] at hf
 unfold iV
 rcases lY R.sort R.signs row i with ⟨n,e⟩|e
 ·have:=HH he (λz=>hg (by rw[z];decide)) e
  rw[e]
  show 1<=n.toNat
  lia
 ·exact absurd e hf
theorem BB{R:aZ}{row:Str}{i:Nat}(hs:R.sort∈sorts)(he:bJ R.sort=false):iV R row i=0:=by
 unfold iV
 rcases mq hs he with h|h <;> rw[h]
 ·cases e:row.cps.toList[i]? with
  |none=>rw[fJ,if_neg (by decide),if_neg (by decide),e]
  |some c=>rw[gQ (by decide) (by decide) e,if_pos (by decide),if_neg (by decide)];rfl
 ·rw[fJ,if_pos rfl]
  split
  ·rename_i e;split at e <;> cases e;rfl
  ·rfl
theorem m6(r:List Nat)(k:Nat):bU (r++[k])=k:=by unfold bU;simp
theorem BS {names:List Str} {n c:Str}:(Str.ofString "mode " ++ n++Str.ofString " " ++ c:Str)=rowOf names (.mode n c):=by
 refine jL ?_
 unfold rowOf
 rw[eN,dX,dX,dX]
 show _=(Str.ofString "mode").cps.toList++32::(n.cps.toList++32::c.cps.toList)
 have e1:(Str.ofString "mode ").cps.toList=(Str.ofString "mode").cps.toList++[32]:=by decide +kernel
 have e2:(Str.ofString " ").cps.toList=[32]:=by decide +kernel
 rw[e1,e2]
 simp
def fZ(m:aD):List Item:=.mode m.name m.aU::m.rules.map .rule
def itemsOf(ms:List aD):List Item:=ms.flatMap fZ
theorem gX(a b:List aD):itemsOf (a++b)=itemsOf a++itemsOf b:=by unfold itemsOf;rw[List.flatMap_append]
theorem gY(m:aD):itemsOf [m]=fZ m:=by unfold itemsOf;simp
theorem vc(rs:List aZ):namesOf (rs.map Item.rule)=[]:=by
 induction rs with
 |nil=>rfl
 |cons r t ih=>show wQ (.rule r)++namesOf (t.map Item.rule)=[];rw[ih];rfl
theorem Hu(m:aD):namesOf (fZ m)=[m.name]:=by
 show wQ (.mode m.name m.aU)++namesOf (m.rules.map Item.rule)=_
 rw[vc];rfl
theorem iu(ms:List aD):namesOf (itemsOf ms)=ms.map (·.name):=by
 induction ms with
 |nil=>rfl
 |cons m r ih=>
  rw[show m::r=[m]++r from rfl,gX,kC,gY,Hu,ih]
  rfl
theorem oK(rs:List aZ):∀(ms:List aD) (m:aD),(rs.map Item.rule).foldl stepI (ms++[m])=ms++[{ m with rules:=m.rules++rs }]:=by
 induction rs with
 |nil=>intro ms m;simp
 |cons r t ih=>
  intro ms m
  rw[List.map_cons,List.foldl_cons,show stepI (ms++[m]) (Item.rule r)=iZ r (ms++[m]) from rfl,jH,ih]
  simp
theorem E7(ms:List aD)(m:aD):(fZ m).foldl stepI ms=ms++[m]:=by
 rw[fZ,List.foldl_cons]
 show (m.rules.map Item.rule).foldl stepI (ms++[⟨m.name,m.aU,[]⟩])=_
 rw[oK]
 simp
theorem m8(ms:List aD):∀acc:List aD,(itemsOf ms).foldl stepI acc=acc++ms:=by
 induction ms with
 |nil=>intro acc;simp[itemsOf]
 |cons m r ih=>
  intro acc
  rw[show m::r=[m]++r from rfl,gX,List.foldl_append,gY,E7,ih]
  simp
theorem xQ(ms:List aD):foldI (itemsOf ms)=ms:=by
 have:=m8 ms []
 simpa [foldI] using this
structure DH(ms:List aD):Prop where
 pos:0<ms.length
 uQ:ms.length<=12
 nd:(ms.map (·.name)).Nodup
 nm:∀m∈ms,isName m.name=true/\isName m.aU=true
 six:∀m∈ms,m.rules.length<=12
 rule:∀m∈ms,∀R∈m.rules,fc (ms.map (·.name)) R
theorem tH{ms:List aD}(B:DH ms):∀n,n<=ms.length->∀(i:Nat) it,(itemsOf (ms.take n))[i]?=some it->
  (∀nm c,it=.mode nm c->isName nm=true/\isName c=true/\(namesOf ((itemsOf (ms.take n)).take i)).length<12/\nm∉namesOf ((itemsOf (ms.take n)).take i))/\
  (∀R,it=.rule R->fc (ms.map (·.name)) R/\∃ms' m,foldI ((itemsOf (ms.take n)).take i)=ms'++[m]/\m.rules.length<12)
 |0,_,i,it,h=>by simp[itemsOf] at h
 |n+1,hn,i,it,h=>by
  have hm:ms[n]?=some ms[n]:=List.getElem?_eq_getElem hn
  have e:itemsOf (ms.take (n+1))=itemsOf (ms.take n)++fZ ms[n]:=by rw[take_snoc hm,gX,gY]
  rw[e] at h ⊢
  have hmm:=List.getElem_mem hn
  have r6:=B.six _ hmm
  have h4:=B.uQ
  by_cases hi:i<(itemsOf (ms.take n)).length
  ·rw[List.getElem?_append_left hi] at h
   rw[List.take_append_of_le_length (by lia)]
   exact tH B n (by lia) i it h
  ·rw[List.getElem?_append_right (by lia)] at h
   rw[show (itemsOf (ms.take n)++fZ ms[n]).take i=itemsOf (ms.take n)++(fZ ms[n]).take (i-(itemsOf (ms.take n)).length) by
    rw[List.take_append,List.take_of_length_le (by lia)]]
   generalize i-(itemsOf (ms.take n)).length=j at h
   cases j with
   |zero=>
    have h:Item.mode ms[n].name ms[n].aU=it:=by simpa [fZ] using h
    subst h
    refine⟨λnm c e=>?_,(λR e=>by cases e)⟩
    cases e
    obtain⟨n1,n2⟩:=B.nm _ hmm
    rw[List.take_zero,List.append_nil,iu]
    refine⟨n1,n2,by rw[List.length_map,List.length_take];lia,λhmem=>?_⟩
    rw[List.map_take] at hmem
    have hnd:=B.nd
    obtain⟨j,hj⟩:=List.mem_iff_getElem?.mp hmem
    have hjn:j<n:=by
     have:=(List.getElem?_eq_some_iff.mp hj).1
     rw[List.length_take] at this
     lia
    rw[List.getElem?_take_of_lt hjn] at hj
    have hk:(ms.map (·.name))[n]?=some ms[n].name:=by rw[List.getElem?_map,hm];rfl
    obtain⟨j1,e1⟩:=List.getElem?_eq_some_iff.mp hj
    obtain⟨k1,e2⟩:=List.getElem?_eq_some_iff.mp hk
    have:=(List.getElem_inj hnd).mp (e1.trans e2.symm)
    lia
   |succ j=>
    have h:(ms[n].rules.map Item.rule)[j]?=some it:=by simpa [fZ] using h
    rw[List.getElem?_map] at h
    obtain⟨R0,hR0,rfl⟩:=Option.map_eq_some_iff.mp h
    refine⟨(λnm c e=>by cases e),λR e=>?_⟩
    cases e
    refine⟨B.rule _ hmm _ (List.mem_of_getElem? hR0),ms.take n,⟨ms[n].name,ms[n].aU,ms[n].rules.take j⟩,?_,?_⟩
    ·unfold foldI
     rw[List.foldl_append,m8,List.nil_append]
     have:=E7 (ms.take n) ⟨ms[n].name,ms[n].aU,ms[n].rules.take j⟩
     rw[← this]
     congr 1
     rw[fZ,fZ,List.take_succ_cons,List.map_take]
    ·show (ms[n].rules.take j).length<12
     have hj0:=(List.getElem?_eq_some_iff.mp hR0).1
     rw[List.length_take]
     lia
theorem DH.items{ms:List aD}(B:DH ms):fQ (itemsOf ms):=by
 have h:=tH B ms.length (Nat.le_refl _)
 rw[List.take_length] at h
 refine⟨?_,λi n c e=>(h i _ e).1 n c rfl,λi R e=>?_⟩
 ·intro z
  have:=iu ms
  rw[z] at this
  have hl:=congrArg List.length this
  rw[List.length_map] at hl
  have:=B.pos
  simp[namesOf] at hl
  lia
 ·rw[iu]
  exact(h i _ e).2 R rfl
theorem DH.len{ms:List aD}(B:DH ms):∀n,n<=ms.length->(itemsOf (ms.take n)).length<=n*13
 |0,_=>by simp[itemsOf]
 |n+1,hn=>by
  have hm:ms[n]?=some ms[n]:=List.getElem?_eq_getElem hn
  have ih:=B.len n (by lia)
  have h6:=B.six _ (List.getElem_mem hn)
  rw[take_snoc hm,gX,gY,List.length_append,fZ,List.length_cons,List.length_map]
  lia
theorem DH.Cv{ms:List aD}(B:DH ms):(itemsOf ms).length<=200:=by
 have:=B.len ms.length (Nat.le_refl _)
 rw[List.take_length] at this
 have:=B.uQ
 lia
theorem DH.good{ms:List aD}(B:DH ms):dz ms:=by
 have h12:=B.uQ
 refine⟨B.pos,by lia,λm hm=>⟨by have:=B.six m hm;lia,λR hR=>?_⟩,λm hm R hR=>(B.rule m hm R hR).bq,λm hm R hR hg=>?_⟩
 ·have g:=(B.rule m hm R hR).pat
  refine⟨g.sort,?_⟩
  by_cases hb:bare R.sort
  ·rw[g.OF hb];decide +kernel
  ·exact(g.sg hb).2.1
 ·obtain⟨g,e,h⟩:=(B.rule m hm R hR).goal hg
  exact⟨g,e,by rw[List.length_map] at h;exact h⟩
def GM(H:Hp)(lk:Addr)(mk:List (Nat×Str)):Prop:=∃ps,H lk=some (.lst (ps.map V.ref))/\bI (λp m=>H p=some (.tup [bE m.1,.str m.2])) ps mk
theorem GM.same{H H':Hp}{lk:Addr}{mk:List (Nat×Str)}(h:GM H lk mk)(s:aj H H'):GM H' lk mk:=by
 obtain⟨ps,a,b⟩:=h
 exact⟨ps,s _ _ a,b.mono λ_ _ e=>s _ _ e⟩
def GF(H0 H:Hp)(lk:Addr)(mk:List (Nat×Str)):Prop:=∃ps:List Addr,H lk=some (.lst (ps.map V.ref))/\bI (λp m=>H p=some (.tup [bE m.1,.str m.2])) ps mk/\∀p∈ps,H0 p=none
theorem GF.gm{H0 H:Hp}{lk:Addr}{mk:List (Nat×Str)}(h:GF H0 H lk mk):GM H lk mk:=by
 obtain⟨ps,a,b,_⟩:=h
 exact⟨ps,a,b⟩
theorem GF.same{H0 H H':Hp}{lk:Addr}{mk:List (Nat×Str)}(h:GF H0 H lk mk)(s:aj H H'):GF H0 H' lk mk:=by
 obtain⟨ps,a,b,c⟩:=h
 exact⟨ps,s _ _ a,b.mono λ_ _ e=>s _ _ e,c⟩
theorem GF.nJ{H0 H:Hp}{lk l:Addr}{mk:List (Nat×Str)}{xs:List V}{o:HO}(h:GF H0 H lk mk)(hl:H l=some (.lst xs))(hn:lk≠l):GF H0 (upd H l o) lk mk:=by
 obtain⟨ps,a,b,c⟩:=h
 exact⟨ps,by rw[ak hn];exact a,b.mono λp m e=>by rw[ak (bL e hl (by intro z;cases z))];exact e,c⟩
structure Told(H:Hp)(tp lt lo lk:Addr)(d:Cfg):Prop where
 tp:H tp=some (.tup [.ref lt,.ref lo,.ref lk])
 lt:H lt=some (.lst (d.aP.map V.str))
 lo:H lo=some (.lst (d.on.map bE))
 lk:GM H lk d.marks
abbrev Aa1(t:fE)(vs:List V)(H:Hp)(Q:VK)(a lo:Addr)(ms:List aD)(on:List Nat)(row:Str)(n:Nat)(d:Cfg):Prop:=row.length<=1000/\on.length<=50000/\n<=40000/\goN ms row n ⟨on,[],[]⟩=some d/\∀tp lt lo' lk H',Told H' tp lt lo' lk d->GF H H' lk d.marks->H lt=none->H lo'=none->H lk=none->lt≠lo'->lt≠lk->lo'≠lk->aj H H'->Q (.ref tp) H'
abbrev ac0(t:fE)(vs:List V)(H:Hp)(Q:VK)(a lo:Addr)(ms:List aD)(on:List Nat)(row:Str)(n:Nat)(d:Cfg):Prop:=vs=[.ref a,.ref lo,.str row]/\IsRules t H a ms/\dz ms/\H lo=some (.lst (on.map bE))/\iQ ms on/\Aa1 t vs H Q a lo ms on row n d
noncomputable def Pk(t:fE):Sp:=λvs H Q _=>∃a lo ms on row n d,ac0 t vs H Q a lo ms on row n d
theorem u5{α:Type}(x:α):∀n:Nat,(List.replicate n [x]).flatten=List.replicate n x
 |0=>rfl
 |n+1=>by rw[List.replicate_succ,List.flatten_cons,u5 x n,List.replicate_succ];rfl
theorem G8{R:aZ}{row:Str}{i:Nat}(h:fC R row i=true):fJ R.sort R.signs row i=bE (iV R row i):=by
 unfold fC at h
 rw[decide_eq_true_eq] at h
 unfold iV
 have hn:∀n:Int,fJ R.sort R.signs row i=.int n->0<=n:=by
  intro n
  unfold fJ
  intro e
  repeat' split at e
  all_goals first
   | (have:=V.int.inj e;lia)
   |cases e
 rcases lY R.sort R.signs row i with ⟨n,e⟩|e
 ·rw[e]
  have:=hn n e
  show V.int n=V.int ((n.toNat:Nat):Int)
  rw[show ((n.toNat:Nat):Int)=n by lia]
 ·exact absurd e h
theorem PX (T:Txt K mg t):bD P w K mg base dw 3 t.C0 t.K7 ["rules","modes","row"] (Pk t):=by
 refine T.Ei.m j9 λvs H Q E h=>?_
 ·obtain⟨a,lh,ms,on,row,n,d,rfl,hR,G,hlh,hok,hrow,honl,hn,hgo,q⟩:=h
  walk_at "i"
  refine ao (cS 3 j9 (cJ iF (by rfl) T.jI (by decide +kernel) (aa (pv 1) ai))) ⟨_,rfl,lh,_,rfl,.inl (bg.of hlh),λlo hlo=>?_⟩
  have s1:aj H (upd H lo (.lst (on.map bE))):=aj.upd hlo
  have ho1:upd H lo (.lst (on.map bE)) lo=some (.lst (on.map bE)):=af
  generalize upd H lo (.lst (on.map bE))=H1 at s1 ho1
  refine ao (cS 4 j9 (bP ai)) ⟨by show 0<=sizeLine;decide,λlt hlt=>?_⟩
  have s2:aj H1 (upd H1 lt (.lst [])):=aj.upd hlt
  have ht2:upd H1 lt (.lst []) lt=some (.lst []):=af
  have ho2:=s2 _ _ ho1
  have not_:lo≠lt:=au ho1 hlt
  have hlt0:H lt=none:=s1.free hlt
  generalize upd H1 lt (.lst [])=H2 at s2 ht2 ho2
  have s2:=s1.trans s2
  refine ao (cS 5 j9 (bP ai)) ⟨by show 0<=sizeLine;decide,λlk hlk=>?_⟩
  have s3:aj H2 (upd H2 lk (.lst [])):=aj.upd hlk
  have hk3:upd H2 lk (.lst []) lk=some (.lst []):=af
  have ho3:=s3 _ _ ho2
  have ht3:=s3 _ _ ht2
  have nok:lo≠lk:=au ho2 hlk
  have ntk:lt≠lk:=au ht2 hlk
  have hlk0:H lk=none:=s2.free hlk
  generalize upd H2 lk (.lst [])=H3 at s3 hk3 ho3 ht3
  have s3:=s2.trans s3
  show At _ _ _ [some (.ref a),some (.ref lh),some (.str row),some (.ref lo),some (.ref lt),some (.ref lk),none,none,none,none] H3
  refine ay (jZ PassesOwn.never (iB lF) aA) ⟨λm Z' H'=>∃c:Cfg,(∃x6 x7 x8 x9,Z'=[some (.ref a),some (.ref lh),some (.str row),some (.ref lo),some (.ref lt),some (.ref lk),x6,x7,x8,x9])/\H' lo=some (.lst (c.on.map bE))/\H' lt=some (.lst (c.aP.map V.str))/\GF H H' lk c.marks/\iQ ms c.on/\c.aP.length<=row.length/\c.on.length+m<=on.length+n/\c.marks.length+m<=n/\goN ms row m c=some d/\aj H H',⟨n,⟨on,[],[]⟩,⟨_,_,_,_,rfl⟩,ho3,ht3,⟨[],hk3,bI.nil,by simp⟩,hok,Nat.zero_le _,Nat.le_refl _,by simp,hgo,s3⟩,?_⟩
  rintro m Z' H4 ⟨c,⟨x6,x7,x8,x9,rfl⟩,ho4,ht4,hk4,hok4,htl4,hol4,hml4,hgo4,s4⟩
  refine⟨true,rfl,By ⟨_,λZ' H' z=>z,?_⟩⟩
  refine ao (cS 6 j9 (aN bh (by rfl) T.cy (by decide +kernel) (aa (pv 4) ai))) ⟨_,rfl,_,_,rfl,.inl (bg.of ht4),?_⟩
  rw[List.length_map]
  show At _ _ _ [some (.ref a),some (.ref lh),some (.str row),some (.ref lo),some (.ref lt),some (.ref lk),some (.int c.aP.length),x7,x8,x9] H4
  obtain⟨md,hm⟩:=hok4.mode
  have hmm:=List.mem_of_getElem? hm
  obtain⟨dx,lm,as,b,lr,dm,rs,ha,hlm,hal,hb,hmo,hlr,hA⟩:=(hR.same s4).mode hm
  have hru:fW ms (bU c.on)=md.rules:=by rw[fW,hm]
  refine ao (cS 7 j9 (aR aL (aK (pv 0) rfl) (aR aL (pv 3) (lM jd aq) (λ_ _=>rfl)) (λ_ _=>rfl))) (⟨_,rfl,_,_,_,_,_,rfl,ha,T.gW,T.c5,rfl,⟨_,rfl,_,rfl,_,_,_,_,rfl,rfl,bg.of ho4,gH (iN hok4.1),_,_,_,_,rfl,rfl,bg.of hlm,fU hb,?_⟩⟩)
  refine ao (cS 8 j9 (aW (C9 T) hr.m rfl T.Cy T.vH.kp (T.vH.binds (by walk_at "4")) .nil aF (aa (pv 0) (aa (aR aL (pv 3) (lM jd aq) (λ_ _=>rfl)) (aa (pv 2) (aa (pv 6) ai)))))) ⟨_,rfl,_,rfl,_,rfl,_,_,_,_,rfl,rfl,bg.of ho4,gH (iN hok4.1),_,rfl,_,rfl,a,ms,md,bU c.on,c.aP.length,row,rfl,hR.same s4,hm,G.ok md hmm,hrow,htl4,λH5 s5=>?_⟩
  have ho5:=s5 _ _ ho4
  have ht5:=s5 _ _ ht4
  have hk5:=hk4.same s5
  have s5':=s4.trans s5
  cases hf:firstM md.rules row c.aP.length with
  |none=>
   have hrn:eO (fW ms (bU c.on)) row c.aP.length=none:=by rw[hru,eO,hf];rfl
   refine ay (bK (aE jC (pv 8) bX (aI _)) aA aA) ⟨_,rfl,rfl,_,rfl,qS (λh=>absurd rfl h) (λ_=>?_)⟩
   refine ay (bK (aE ie (pv 6) (aN bz (by rfl) T.cy (by decide +kernel) (aa (pv 2) ai)) (aI _)) aA aA) ⟨_,rfl,_,rfl,_,rfl,b9 (by lia),_,_,rfl,rfl,_,rfl,fq (λh=>?_) (λh=>?_)⟩
   ·have hlt':c.aP.length<row.length:=by lia
    have hst:fT ms row c=some ⟨c.on,c.aP++[d7 ms (bU c.on)],c.marks⟩:=by
     rw[fT,hrn]
     show (if c.aP.length<row.length then _ else _)=_
     rw[if_pos hlt']
    have ecol:d7 ms (bU c.on)=md.aU:=by rw[d7,hm]
    refine ay (bx (dG F.plainAttrs_list F.slot_list_append F.type_list_append c8 (pv 4) (aa (aK (pv 7) rfl) ai))) ⟨_,rfl,.inl ⟨rfl,_,bg.of ht5⟩,⟨_,rfl,_,_,_,_,_,rfl,(s5 _ _ hmo),T.fk,T.ja,rfl,⟨lt,_,_,rfl,rfl,ht5,dQ (by rw[List.length_map];lia),?_⟩⟩⟩
    obtain⟨m',rfl⟩:∃m',m=m'+1:=by
     cases m with
     |zero=>rw[goN,hst] at hgo4;cases hgo4
     |succ m'=>exact⟨m',rfl⟩
    rw[goN,hst] at hgo4
    refine⟨m',by lia,⟨c.on,c.aP++[d7 ms (bU c.on)],c.marks⟩,⟨_,_,_,_,rfl⟩,?_,?_,hk5.nJ ht5 (Ne.symm ntk),hok4,?_,?_,?_,hgo4,?_⟩
    ·rw[ak not_];exact ho5
    ·rw[af]
     show _=some (HO.lst ((c.aP++[d7 ms (bU c.on)]).map V.str))
     rw[List.map_append,ecol]
     rfl
    ·show (c.aP++[d7 ms (bU c.on)]).length<=_
     rw[List.length_append,List.length_cons,List.length_nil]
     lia
    ·show c.on.length+m'<=_;lia
    ·show c.marks.length+m'<=_;lia
    ·intro b o hb
     rw[ak (au hb hlt0)]
     exact s5' _ _ hb
   ·have hst:fT ms row c=none:=by
     rw[fT,hrn]
     show (if c.aP.length<row.length then _ else _)=_
     rw[if_neg (by lia)]
    have hd:d=c:=by
     rw[uC hst] at hgo4
     exact(Option.some.inj hgo4).symm
    subst hd
    refine ay (aJ (bC (aa (pv 4) (aa (pv 3) (aa (pv 5) ai))))) ⟨_,rfl,_,rfl,_,rfl,by show 3<=sizeLine;decide,λtp htp=>?_⟩
    refine q tp lt lo lk _ ⟨af,?_,?_,(hk5.same (aj.upd htp)).gm⟩ (hk5.same (aj.upd htp)) hlt0 hlo hlk0 (Ne.symm not_) ntk nok (s5'.to htp)
    ·exact aj.upd htp _ _ ht5
    ·exact aj.upd htp _ _ ho5
  |some j=>
   obtain⟨R,hj,hruR,hfit⟩:=wR hf
   have hRm:=List.mem_of_getElem? hj
   obtain⟨g1,g2⟩:=(G.ok md hmm).2 R hRm
   obtain⟨r,hr0,hr1⟩:=hA.at hj
   obtain⟨fe,fs,de,ds,PK⟩:=Ht (P:=P) (w:=w) (base:=base) T g1
   have hst:fT ms row c=some (iw c R row):=by rw[fT,hru,hruR]
   obtain⟨m',rfl⟩:∃m',m=m'+1:=by
    cases m with
    |zero=>rw[goN,hst] at hgo4;cases hgo4
    |succ m'=>exact⟨m',rfl⟩
   rw[goN,hst] at hgo4
   have hr5:=hr1.same s5
   have hel:=Bp (R:=R) (row:=row) g1 htl4
   refine ay (bK (aE jC (pv 8) bX (aI _)) aA aA) ⟨_,rfl,rfl,_,rfl,qS (λ_=>?_) (λh=>by cases h)⟩
   refine ao (cS 9 j9 (aR aL (aK (pv 7) rfl) (pv 8) (λ_ _=>rfl))) (⟨_,rfl,_,_,_,_,_,rfl,(s5 _ _ hmo),T.fk,T.ff,rfl,⟨_,rfl,_,_,_,_,rfl,rfl,bg.of (s5 _ _ hlr),fU hr0,?_⟩⟩)
   obtain⟨dr,pa,o1,dp,o2⟩:=id hr5
   refine ao (bx (dG F.plainAttrs_list F.slot_list_extend F.type_list_extend A1 (pv 4) (aa (aM qR (bP (aa (aK (pv 9) rfl) ai)) (bF (aK (pv 9) rfl) PK.cl PK.me PK.ge hr.m PK.be .nil aF (aa (pv 2) (aa (pv 6) ai)))) ai))) ⟨_,rfl,.inl ⟨rfl,_,bg.of ht5⟩,⟨_,rfl,_,_,_,_,_,rfl,o1,T.cG,T.jf,rfl,⟨by show 1<=sizeLine;decide,λl1 hl1=>?_⟩⟩⟩
   have s6:aj H5 (upd H5 l1 (.lst [.str R.aU])):=aj.upd hl1
   have hl6:upd H5 l1 (.lst [.str R.aU]) l1=some (.lst [.str R.aU]):=af
   generalize upd H5 l1 (.lst [.str R.aU])=H6 at s6 hl6
   refine⟨_,rfl,_,_,_,_,_,rfl,(s6 _ _ o1),T.cG,T.eK,rfl,⟨pa,dp,_,rfl,s6 _ _ o2,PK.ne _,_,rfl,_,rfl,pa,dp,R.signs,row,c.aP.length,rfl,s6 _ _ o2,by lia,hrow,htl4,?_⟩⟩
   rw[G8 hfit]
   refine⟨l1,_,_,rfl,rfl,hl6,by lia,by lia,by rw[Int.toNat_natCast];exact b9 (by simp only[List.length_cons,List.length_nil];lia),λl2 hl2=>?_⟩
   rw[Int.toNat_natCast,u5]
   have s7:aj H5 (upd H6 l2 (.lst (List.replicate (iV R row c.aP.length) (V.str R.aU)))):=s6.to hl2
   have hl7:upd H6 l2 (.lst (List.replicate (iV R row c.aP.length) (V.str R.aU))) l2=some (.lst (List.replicate (iV R row c.aP.length) (V.str R.aU))):=af
   generalize upd H6 l2 (.lst (List.replicate (iV R row c.aP.length) (V.str R.aU)))=H7 at s7 hl7
   have ht7:=s7 _ _ ht5
   have ho7:=s7 _ _ ho5
   have hk7:=hk5.same s7
   refine⟨lt,l2,_,_,rfl,rfl,ht7,hl7,b9 (by rw[List.length_map,List.length_replicate];lia),?_⟩
   have ht8:upd H7 lt (.lst (c.aP.map V.str++List.replicate (iV R row c.aP.length) (V.str R.aU))) lt=some (.lst ((iw c R row).aP.map V.str)):=by
    rw[af]
    show _=some (HO.lst ((c.aP++List.replicate (iV R row c.aP.length) R.aU).map V.str))
    rw[List.map_append,List.map_replicate]
   have ho8:upd H7 lt (.lst (c.aP.map V.str++List.replicate (iV R row c.aP.length) (V.str R.aU))) lo=some (.lst (c.on.map bE)):=by rw[ak not_];exact ho7
   have hk8:GF H (upd H7 lt (.lst (c.aP.map V.str++List.replicate (iV R row c.aP.length) (V.str R.aU)))) lk c.marks:=hk7.nJ ht7 (Ne.symm ntk)
   have hr8:dB t (upd H7 lt (.lst (c.aP.map V.str++List.replicate (iV R row c.aP.length) (V.str R.aU)))) r R:=(hr5.same s7).nJ ht7
   have s8:aj H (upd H7 lt (.lst (c.aP.map V.str++List.replicate (iV R row c.aP.length) (V.str R.aU)))):=λb o hb=>by rw[ak (au hb hlt0)];exact s7 _ _ (s5' _ _ hb)
   generalize upd H7 lt (.lst (c.aP.map V.str++List.replicate (iV R row c.aP.length) (V.str R.aU)))=H8 at ht8 ho8 hk8 hr8 s8
   refine aS (λZ' H'=>(∃x7 x8,Z'=[some (.ref a),some (.ref lh),some (.str row),some (.ref lo),some (.ref lt),some (.ref lk),some (.int c.aP.length),x7,x8,some (.ref r)])/\H' lo=some (.lst (c.on.map bE))/\H' lt=some (.lst ((iw c R row).aP.map V.str))/\GF H H' lk (iw c R row).marks/\dB t H' r R/\aj H H') (bK (aE oG (aK (pv 9) rfl) az (aI _)) aA aA) ?_ ?_
   ·obtain⟨dr8,pa8,o8,p8⟩:=id hr8
    refine⟨_,rfl,_,_,_,_,_,rfl,o8,T.cG,T.i0,rfl,⟨rfl,_,rfl,qS (λh=>?_) (λh=>bG ⟨⟨_,_,rfl⟩,ho8,ht8,?_,hr8,s8⟩)⟩⟩
    ·have h:R.fold ≠ "" := λz=>h (by rw[z])
     obtain⟨ps,hps,hAp,hfr⟩:=hk8
     refine ay (bx (dG F.plainAttrs_list F.slot_list_append F.type_list_append c8 (pv 5) (aa (bC (aa (pv 6) (aa (aK (pv 9) rfl) ai))) ai))) ⟨_,rfl,.inl ⟨rfl,_,bg.of hps⟩,_,rfl,⟨_,rfl,_,_,_,_,_,rfl,o8,T.cG,T.i0,rfl,⟨by show 2<=sizeLine;decide,λtp htp=>?_⟩⟩⟩
     have s9:aj H8 (upd H8 tp (.tup [.int c.aP.length,.str R.fold])):=aj.upd htp
     have hp9:upd H8 tp (.tup [.int c.aP.length,.str R.fold]) tp=some (.tup [.int c.aP.length,.str R.fold]):=af
     generalize upd H8 tp (.tup [.int c.aP.length,.str R.fold])=H9 at s9 hp9
     have hps9:=s9 _ _ hps
     have hpl:ps.length<=100000:=by rw[hAp.1];lia
     refine⟨lk,_,_,rfl,rfl,hps9,dQ (by rw[List.length_map];lia),⟨_,_,rfl⟩,?_,?_,?_,?_,?_⟩
     ·rw[ak nok];exact s9 _ _ ho8
     ·rw[ak ntk];exact s9 _ _ ht8
     ·have em:(iw c R row).marks=c.marks++[(c.aP.length,R.fold)]:=if_neg h
      rw[em]
      refine⟨ps++[tp],by rw[af,List.map_append];rfl,bI.snoc (hAp.mono λp m e=>?_) ?_,λp hp=>?_⟩
      ·rw[ak (bL (s9 _ _ e) hps9 (by intro z;cases z))];exact s9 _ _ e
      ·rw[ak (bL hp9 hps9 (by intro z;cases z))];exact hp9
      ·rcases List.mem_append.mp hp with hp|hp
       ·exact hfr p hp
       ·rw[List.mem_singleton.mp hp];exact s8.free htp
     ·exact(hr8.same s9).nJ hps9
     ·intro b o hb
      rw[ak (au hb hlk0)]
      exact s9 _ _ (s8 _ _ hb)
    ·have h:R.fold = "" := V.str.inj h
     have em:(iw c R row).marks=c.marks:=if_pos h
     rw[em]
     exact hk8
   rintro Z' H9 ⟨⟨y7,y8,rfl⟩,ho9,ht9,hk9,hr9,s9⟩
   refine ay (bx (aW (Dr T) hr.m rfl T.F8 T.vG.kp (T.vG.binds (by walk_at "2")) .nil aF (aa (pv 3) (aa (pv 9) ai)))) ⟨_,rfl,_,rfl,lo,r,c.on,R,rfl,ho9,hr9,hok4.1,by lia,G.gd hmm hRm,?_⟩
   have hdl:=rD (on:=c.on) (d:=R.bq) (g:=R.goal)
   refine⟨m',by lia,iw c R row,⟨_,_,_,_,rfl⟩,af,?_,hk9.nJ ho9 (Ne.symm nok),hok4.bq G hmm hRm,?_,?_,?_,hgo4,?_⟩
   ·rw[ak (Ne.symm not_)];exact ht9
   ·show (c.aP++List.replicate _ _).length<=_
    rw[List.length_append,List.length_replicate]
    exact hel
   ·show (bR c.on R.bq R.goal).length+m'<=_
    lia
   ·show (if R.fold = "" then c.marks else c.marks++[(c.aP.length,R.fold)]).length+m'<=_
    split
    ·lia
    ·rw[List.length_append,List.length_cons,List.length_nil];lia
   ·intro b o hb
    rw[ak (au hb hlo)]
    exact s9 _ _ hb
theorem join_eq(sep:Str)(ys:List Str):PySem.Txt.join sep ys=Str.join sep ys:=eq_of_beq (PyProof.Rows.join_plain_closes sep ys)
theorem yP{b c:Bool}{A B:Prop}(h:b=c)(k:if c=true then A else B):if b=true then A else B:=by rw[h];exact k
noncomputable def Qo(K:PySem.W.Frag):Sp:=λvs H Q _=>∃(a:Addr) (ns:List Int) (k m:Int),vs=[.ref a,.int k,.int m]/\bg K H a (ns.map V.int)/\0<=k/\k<=100000/\0<m/\m<=1000000/\ns.length<=63/\
 ∀d H',0<=d->d<m->aj H H'->Q (.int d) H'
theorem iA (T:Txt K mg t):bD P w K mg base dw 1 t.GD t.Ll ["_law_script","_law_k","_law_many"] (Qo K):=by
 refine T.dZ.m t7 λvs H Q E h=>?_
 ·obtain⟨a,ns,k,m,rfl,hS,hk0,hk1,hm,hm1,hl,q⟩:=h
  walk_at "i"
  refine aS (λZ' H'=>∃c:Int,Z'=[some (.ref a),some (.int k),some (.int m),some (.int c),none,none]/\(ns=[]->c=0)/\H'=H) (cS 3 t7 (cN (aE gZ (aN bh (by rfl) T.cy (by decide +kernel) (aa (pv 0) ai)) aq (aI _)) (aR aL (pv 0) (aM kD (pv 1) (aN bh (by rfl) T.cy (by decide +kernel) (aa (pv 0) ai))) (λ_ _=>rfl)) aq)) ?_ ?_
  ·refine⟨_,rfl,_,_,rfl,.inl hS,_,_,rfl,rfl,_,rfl,fq (λh=>?_) (λh=>⟨0,rfl,λ_=>rfl,rfl⟩)⟩
   refine⟨_,rfl,_,rfl,_,rfl,_,_,rfl,.inl hS,_,_,rfl,rfl,h,?_⟩
   obtain⟨h1,h2⟩:=pN k h
   obtain⟨v,e1,e2⟩:=F7 (ns.map V.int) h1 h2
   rw[List.getElem?_map] at e1
   obtain⟨c,e3,rfl⟩:=Option.map_eq_some_iff.mp e1
   exact⟨_,_,_,_,rfl,rfl,hS,e2,c,rfl,(λz=>by rw[z] at h;simp at h),rfl⟩
  rintro Z' H' ⟨c,rfl,hc0,e⟩
  rw[e]
  clear e H'
  refine aS (λZ' H'=>∃x:Int,Z'=[some (.ref a),some (.int k),some (.int m),some (.int c),some (.int x),none]/\(ns=[]->x=0)/\H'=H) (cS 4 t7 (aM N5 (pv 3) (aM bO (aM kr aq (aM Hj (pv 1) (aN (Ar rfl) (by rfl) T.QL (by decide +kernel) (aa aq (aa (aN bh (by rfl) T.cy (by decide +kernel) (aa (pv 0) ai)) ai))))) aq))) ?_ ?_
  ·refine⟨_,rfl,_,rfl,_,rfl,_,_,rfl,.inl hS,_,_,rfl,_,_,rfl,rfl,?_⟩
   have hmx:(1:Int)<=(if ((ns.map V.int).length:Int)>1 then ((ns.map V.int).length:Int) else 1)/\(if ((ns.map V.int).length:Int)>1 then ((ns.map V.int).length:Int) else 1)<1073741824:=by
    rw[List.length_map];split <;> lia
   refine⟨⟨by lia,hmx.2⟩,_,_,rfl,rfl,.inl ⟨by decide,by decide⟩,_,_,rfl,rfl,_,_,rfl,rfl,?_,_,rfl,λz=>?_,rfl⟩
   ·have:0<=k / (if ((ns.map V.int).length:Int)>1 then ((ns.map V.int).length:Int) else 1):=Int.ediv_nonneg hk0 (by lia)
    lia
   ·rw[hc0 z,Int.zero_ediv]
  rintro Z' H' ⟨x,rfl,hx0,e⟩
  rw[e]
  clear e H'
  refine aS (λZ' H'=>(Z'=[some (.ref a),some (.int k),some (.int m),some (.int c),some (.int x),none])/\aj H H') (bK (PW.pt (iz (aE nq (pv 4) (bC (aa aq (aa (lM jd aq) ai))) rfl) (fV (aE ez (aM kD (aR aL (pv 0) aq (λ_ _=>rfl)) aq) aq (aI _))))) aA aA) ?_ ?_
  ·refine⟨_,rfl,_,rfl,by show 2<=sizeLine;decide,λp hp=>⟨p,_,rfl,.inr (dO.of af),rfl,rfl,_,rfl,?_⟩⟩
   have s1:aj H (upd H p (.tup [.int 0,.int (-1)])):=aj.upd hp
   by_cases hin:Oh (V.int x) [.int 0,.int (-1)]=true
   ·refine yP (c:=false) (by show (!Oh (V.int x) [.int 0,.int (-1)])=false;rw[hin];rfl) ?_
    exact bG ⟨rfl,s1⟩
   ·refine yP (c:=true) (by show (!Oh (V.int x) [.int 0,.int (-1)])=true;rw[Bool.not_eq_true] at hin;rw[hin];rfl) ?_
    obtain⟨n0,r0,rfl⟩:∃n0 r0,ns=n0::r0:=by
     cases ns with
     |nil=>rw[hx0 rfl] at hin;exact absurd (by decide) hin
     |cons x r=>exact⟨x,r,rfl⟩
    have hS1:=hS.same s1
    refine⟨_,rfl,_,_,_,_,rfl,rfl,hS1,aH (j:=0) rfl,_,_,rfl,rfl,(by show (0:Int)<2;decide),rfl,_,rfl,fq (λh2=>?_) (λh2=>bG ⟨rfl,s1⟩)⟩
    have hd:=pN (x % 1048576) hm
    exact ay (aJ (aM kD (aM kD (pv 4) aq) (pv 2))) ⟨_,rfl,_,_,rfl,rfl,(by show (0:Int)<1048576;decide),_,rfl,_,_,rfl,rfl,hm,q _ _ hd.1 hd.2 s1⟩
  rintro Z' H' ⟨rfl,s1⟩
  refine ao (cS 5 t7 (aM bO (aM bO (aM kD (pv 3) aq) (aM kr (aM kr aq (pv 1)) (pv 1))) aq)) ?_
  walk_at "rd"
  refine⟨by decide,.inl ⟨by decide,by decide⟩,.inr ⟨by lia,by lia⟩,?_⟩
  refine ay (aJ (aM kD (aM kD (aM kr (aM kD (aM kr (pv 5) aq) aq) aq) aq) (pv 2))) ?_
  walk_at "rd"
  have hd:=pN ((c % 1000003+31*k*k+1)*48271 % 999983*7919 % 524287) hm
  exact⟨.inr ⟨by decide,by decide⟩,by decide,.inr ⟨by decide,by decide⟩,by decide,hm,q _ _ hd.1 hd.2 s1⟩
open Classical in
noncomputable def hid(S:Addr->Prop)(H:Hp):Hp:=λb=>if S b then none else H b
theorem aB{S:Addr->Prop}{H:Hp}:aj (hid S H) H:=λb o h=>by
 unfold hid at h
 split at h
 ·cases h
 ·exact h
theorem bf{S:Addr->Prop}{H:Hp}{b:Addr}{o:HO}(h:H b=some o)(n:¬ S b):hid S H b=some o:=by
 unfold hid
 rw[if_neg n]
 exact h
theorem bY{S:Addr->Prop}{H:Hp}{b:Addr}{o:HO}(h:hid S H b=some o):¬ S b:=λz=>by
 unfold hid at h
 rw[if_pos z] at h
 cases h
theorem aO{S:Addr->Prop}{H H':Hp}(s:aj H H'):aj (hid S H) (hid S H'):=λb o h=>bf (s _ _ (aB _ _ h)) (bY h)
theorem jG{S:Addr->Prop}{H:Hp}{l:Addr}{o:HO}(hl:S l):hid S (upd H l o)=hid S H:=by
 funext b
 unfold hid
 split
 ·rfl
 ·rename_i h;rw[ak (λz=>h (by rw[z];exact hl))]
theorem wD{S S':Addr->Prop}{H:Hp}(h:∀b,S b->S' b):aj (hid S' H) (hid S H):=λb o e=>bf (aB _ _ e) (λz=>bY e (h b z))
def Ex(S:Addr->Prop)(H:Hp):Prop:=∀b,S b->∃o,H b=some o
theorem Ex.new{S:Addr->Prop}{H:Hp}(e:Ex S H){b:Addr}(h:H b=none):¬ S b:=λz=>by
 obtain⟨o,ho⟩:=e b z
 rw[h] at ho
 cases ho
theorem Ex.same{S:Addr->Prop}{H H':Hp}(e:Ex S H)(s:aj H H'):Ex S H':=λb z=>let ⟨o,ho⟩:=e b z;⟨o,s _ _ ho⟩
noncomputable def Rc(t:fE):Sp:=λvs H Q _=>∃(r:Addr) (S:Addr->Prop) (R:aZ),vs=[.ref r]/\dB t (hid S H) r R/\Ex S H/\∀r' H',dB t (hid S H') r' R->aj H H'->Q (.ref r') H'
theorem Oe (T:Txt K mg t):bD P w K mg base dw 3 t.Df t.Js ["rule"] (Rc t):=by
 refine T.Dy.m NZ λvs H Q E h=>?_
 ·obtain⟨r,S,R,rfl,⟨dr,pa,o1',hp⟩,hz,q⟩:=h
  walk_at "i"
  have o1:=aB _ _ o1'
  refine ay (aJ (dI T.zM (CI T) hr.m rfl T.wL (T.CK.binds (by walk_at "6")) .nil aF (aa (aK (pv 0) rfl) (aa (aK (pv 0) rfl) (aa (aK (pv 0) rfl) (aa (aK (pv 0) rfl) (aa (aK (pv 0) rfl) ai))))))) ?_
  refine⟨_,rfl,_,_,_,_,_,rfl,o1,T.cG,T.eK,rfl,?_⟩
  refine⟨_,rfl,_,_,_,_,_,rfl,o1,T.cG,T.jf,rfl,?_⟩
  refine⟨_,rfl,_,_,_,_,_,rfl,o1,T.cG,T.fP,rfl,?_⟩
  refine⟨_,rfl,_,_,_,_,_,rfl,o1,T.cG,T.i7,rfl,?_⟩
  refine⟨_,rfl,_,_,_,_,_,rfl,o1,T.cG,T.i0,rfl,?_⟩
  refine λx dx' nx ndx ne=>⟨x,dx',pa,R,rfl,af,rfl,?_⟩
  exact q x _ ⟨dx',pa,bf af (hz.new nx),hp.same (aO (fG nx ndx))⟩ (fG nx ndx)
noncomputable def SY(t:fE):Sp:=λvs H Q _=>∃(b l dm:Addr) (S:Addr->Prop) (m:aD) (rs:List Addr),vs=[.ref b]/\hid S H b=some (.ins t.dN dm (mf m l))/\hid S H l=some (.lst (rs.map V.ref))/\bI (dB t (hid S H)) rs m.rules/\Ex S H/\m.rules.length<=200/\
 ∀b' l' dm' rs' H',hid S H' b'=some (.ins t.dN dm' (mf m l'))->hid S H' l'=some (.lst (rs'.map V.ref))->bI (dB t (hid S H')) rs' m.rules->H l'=none->aj H H'->Q (.ref b') H'
theorem Po (T:Txt K mg t):bD P w K mg base dw 4 t.CL t.JW ["mode"] (SY t):=by
 refine T.EJ.m Ol λvs H Q E h=>?_
 ·obtain⟨b,l,dm,S,m,rs,rfl,hb',hl',hA,hz,hlen,q⟩:=h
  walk_at "i"
  have hb:=aB _ _ hb'
  have hl:=aB _ _ hl'
  refine ay (@aJ _ _ _ _ (@dI _ _ _ _ _ _ _ _ _ _ _ _ _ _ _ _ _ T.zx (DF T) hr.m rfl T.wu (T.DK.binds (by walk_at "4")) .nil aF (aa (@aK _ _ _ _ _ (pv 0) rfl) (aa (@aK _ _ _ _ _ (pv 0) rfl) (aa (@gi _ (av (top 16)) _ ["mode"] _ _ ("rule") _ _ [] _ _ (by walk_at "ck") (@fF _ _ _ _ (@aK _ _ _ _ _ (pv 0) rfl)) (λ_ _ _ _=>by exact(@aW _ _ _ _ _ _ _ _ _ _ _ _ _ _ _ _ (Oe T) hr.m rfl T.Pb T.Dy.kp (T.Dy.binds (by walk_at "1")) .nil aF (aa (pv 0) ai (by left)) (by left) (by left) (by left))) (by left) (by left) (by left) (by left)) ai (by left)) (by left)) (by left)) (by left) (by left) (by left))) ?_
  refine⟨_,rfl,_,_,_,_,_,rfl,hb,T.fk,T.iX,rfl,?_⟩
  refine⟨_,rfl,_,_,_,_,_,rfl,hb,T.fk,T.ja,rfl,?_⟩
  refine⟨_,rfl,_,_,_,_,_,rfl,hb,T.fk,T.ff,rfl,?_⟩
  refine⟨l,rfl,⟨_,bg.of hl⟩,gD (xs:=rs.map V.ref) (λi ys H2=>∃rs2:List Addr,ys=rs2.map V.ref/\bI (dB t (hid S H2)) rs2 (m.rules.take i)/\aj H H2) ⟨[],rfl,bI.nil,aj.refl H⟩ (dQ (by rw[List.length_map,hA.1];lia)) ?_ ?_ ?_⟩
  ·rintro i ys H2 _ ⟨_,_,_,s2⟩
   exact bg.of (s2 _ _ hl)
  ·rintro i xv ys H2 hx hyl ⟨rs2,rfl,hA2,s2⟩
   rw[List.getElem?_map] at hx
   obtain⟨r,hr0,rfl⟩:=Option.map_eq_some_iff.mp hx
   have hi:=(List.getElem?_eq_some_iff.mp hr0).1
   have hRi:m.rules[i]?=some (m.rules[i]'(by rw[← hA.1];exact hi)):=List.getElem?_eq_getElem _
   have hR:=hA.2 i r _ hr0 hRi
   refine⟨_,rfl,r,S,_,rfl,hR.same (aO s2),hz.same s2,λr' H3 hr3 s3=>cP (by rw[List.length_map];exact hi) hyl ⟨rs2++[r'],by rw[List.map_append];rfl,?_,s2.trans s3⟩⟩
   rw[take_snoc hRi]
   exact bI.snoc (hA2.mono λ_ _ y=>y.same (aO s3)) hr3
  ·rintro ys H2 hyl ⟨rs2,rfl,hA2,s2⟩ D hD
   rw[List.length_map,hA.1,List.take_length] at hA2
   have s3:aj H (upd H2 D (.lst (rs2.map V.ref))):=s2.to hD
   have hD3:upd H2 D (.lst (rs2.map V.ref)) D=some (.lst (rs2.map V.ref)):=af
   have hA3:bI (dB t (hid S (upd H2 D (.lst (rs2.map V.ref))))) rs2 m.rules:=hA2.mono λ_ _ y=>y.same (aO (aj.upd hD))
   generalize upd H2 D (.lst (rs2.map V.ref))=H3 at s3 hD3 hA3
   refine λx dx' nx ndx ne=>⟨x,dx',D,m.name,m.aU,_,rfl,af,bZ nx ndx _ _ hD3,λl2 H4 e1 e2 e3 e4=>⟨rfl,?_⟩⟩
   have s4:aj H3 H4:=λb o hb=>e4 b o (bZ nx ndx _ _ hb) (au hb nx)
   have hz3:=hz.same s3
   have nxz:¬ S x:=hz3.new nx
   have nlz:¬ S l2:=hz3.new ((bZ nx ndx).free e1)
   exact q x l2 dx' rs2 H4 (bf e2 nxz) (bf e3 nlz) (hA3.mono λ_ _ y=>y.same (aO s4)) (s3.free ((bZ nx ndx).free e1)) (s3.trans s4)
noncomputable def OD(t:fE):Sp:=λvs H Q _=>∃(a:Addr) (S:Addr->Prop) (ms:List aD),vs=[.ref a]/\IsRules t (hid S H) a ms/\Ex S H/\dz ms/\∀a' H',IsRules t (hid S H') a' ms->aj H H'->Q (.ref a') H'
theorem O8 (T:Txt K mg t):bD P w K mg base dw 5 t.Co t.LA ["rules"] (OD t):=by
 refine T.FE.m Oo λvs H Q E h=>?_
 ·obtain⟨a,S,ms,rfl,⟨dx,lm,as,ls,ha',hlm',hM⟩,hz,G,q⟩:=h
  walk_at "i"
  have ha:=aB _ _ ha'
  have hlm:=aB _ _ hlm'
  have hlen:=G.len
  refine ay (@aJ _ _ _ _ (@dI _ _ _ _ _ _ _ _ _ _ _ _ _ _ _ _ _ T.v7 (B6 T) hr.m rfl T.tK (T.FD.binds (by walk_at "2")) .nil aF (aa (@gi _ (av (top 15)) _ ["rules"] _ _ ("mode") _ _ [] _ _ (by walk_at "ck") (@fF _ _ _ _ (@aK _ _ _ _ _ (pv 0) rfl)) (λ_ _ _ _=>by exact(@aW _ _ _ _ _ _ _ _ _ _ _ _ _ _ _ _ (Po T) hr.m rfl T.Mw T.EJ.kp (T.EJ.binds (by walk_at "1")) .nil aF (aa (pv 0) ai (by left)) (by left) (by left) (by left))) (by left) (by left) (by left) (by left)) ai (by left)) (by left) (by left) (by left))) ?_
  refine⟨_,rfl,_,_,_,_,_,rfl,ha,T.gW,T.c5,rfl,?_⟩
  refine⟨lm,rfl,⟨_,bg.of hlm⟩,gD (xs:=as.map V.ref) (λi ys H2=>∃as2 KI:List Addr,ys=as2.map V.ref/\cH t (hid S H2) as2 KI (ms.take i)/\aj H H2) ⟨[],[],rfl,⟨rfl,rfl,List.nodup_nil,λi a l m h=>by simp at h⟩,aj.refl H⟩ (dQ (by rw[List.length_map,hM.la];lia)) ?_ ?_ ?_⟩
  ·rintro i ys H2 _ ⟨_,_,_,_,s2⟩
   exact bg.of (s2 _ _ hlm)
  ·rintro i xv ys H2 hx hyl ⟨as2,KI,rfl,hM2,s2⟩
   rw[List.getElem?_map] at hx
   obtain⟨b,hb,rfl⟩:=Option.map_eq_some_iff.mp hx
   have hi:=(List.getElem?_eq_some_iff.mp hb).1
   have him:i<ms.length:=by rw[← hM.la];exact hi
   have hmi:ms[i]?=some ms[i]:=List.getElem?_eq_getElem him
   obtain⟨l,hl⟩:∃l,ls[i]?=some l:=⟨ls[i]'(by rw[hM.ll];exact him),List.getElem?_eq_getElem _⟩
   obtain⟨dm,rs,o1,o2,o3⟩:=hM.ob i b l _ hb hl hmi
   have sh:=aO (S:=S) s2
   refine⟨_,rfl,b,l,dm,S,ms[i],rs,rfl,sh _ _ o1,sh _ _ o2,o3.mono λ_ _ y=>y.same sh,hz.same s2,(G.ok _ (List.getElem_mem him)).1,λb' l' dm' rs' H3 e1 e2 e3 e4 s3=>cP (by rw[List.length_map];exact hi) hyl ⟨as2++[b'],KI++[l'],by rw[List.map_append];rfl,?_,s2.trans s3⟩⟩
   have hM3:=hM2.same (aO s3)
   rw[take_snoc hmi]
   refine⟨by rw[List.length_append,List.length_append,hM3.la];rfl,by rw[List.length_append,List.length_append,hM3.ll];rfl,?_,λj a' l'' m' h1 h2 h3=>?_⟩
   ·refine List.nodup_append.mpr ⟨hM3.nd,by simp,λx hx y hy=>?_⟩
    rw[List.mem_singleton.mp hy]
    intro e
    obtain⟨xs,hxs⟩:=hM2.alive hx
    have hxs:=aB _ _ hxs
    rw[e,e4] at hxs
    cases hxs
   ·have k1:=hM3.la
    have k2:=hM3.ll
    rcases dc h1 with h1|⟨i1,rfl⟩
    ·have:=(List.getElem?_eq_some_iff.mp h1).1
     rcases dc h2 with h2|⟨i2,rfl⟩
     ·rcases dc h3 with h3|⟨i3,rfl⟩
      ·exact hM3.ob j a' l'' m' h1 h2 h3
      ·lia
     ·lia
    ·rcases dc h2 with h2|⟨i2,rfl⟩
     ·have:=(List.getElem?_eq_some_iff.mp h2).1;lia
     ·rcases dc h3 with h3|⟨i3,rfl⟩
      ·have:=(List.getElem?_eq_some_iff.mp h3).1;lia
      ·exact⟨dm',rs',e1,e2,e3⟩
  ·rintro ys H2 hyl ⟨as2,KI,rfl,hM2,s2⟩ D hD
   rw[List.length_map,hM.la,List.take_length] at hM2
   have s3:aj H (upd H2 D (.lst (as2.map V.ref))):=s2.to hD
   have hD3:upd H2 D (.lst (as2.map V.ref)) D=some (.lst (as2.map V.ref)):=af
   have hM3:cH t (hid S (upd H2 D (.lst (as2.map V.ref)))) as2 KI ms:=hM2.same (aO (aj.upd hD))
   generalize upd H2 D (.lst (as2.map V.ref))=H3 at s3 hD3 hM3
   refine λx dx' nx ndx ne=>⟨x,dx',D,_,rfl,af,bZ nx ndx _ _ hD3,λl2 H4 e1 e2 e3 e4=>⟨rfl,?_⟩⟩
   have s4:aj H3 H4:=λb o hb=>e4 b o (bZ nx ndx _ _ hb) (au hb nx)
   have hz3:=hz.same s3
   have nxz:¬ S x:=hz3.new nx
   have nlz:¬ S l2:=hz3.new ((bZ nx ndx).free e1)
   exact q x H4 ⟨dx',l2,as2,KI,bf e2 nxz,bf e3 nlz,hM3.same (aO s4)⟩ (s3.trans s4)
noncomputable def Qi(t:fE):Sp:=λvs H Q _=>∃(a:Addr) (ms:List aD),vs=[.ref a]/\IsRules t H a ms/\dz ms/\jU ms=none/\∀H',aj H H'->Q .cW H'
theorem MJ (T:Txt K mg t):bD P w K mg base dw 6 t.GI t.L1 ["rules"] (Qi t):=by
 refine T.Dk.m Bv λvs H Q E h=>?_
 ·obtain⟨a,ms,rfl,hR,G,hn,q⟩:=h
  walk_at "i"
  refine ao (cS 1 Bv (aW (M7 T) hr.m rfl T.P5 T.Du.kp (T.Du.binds (by walk_at "1")) .nil aF (aa (pv 0) ai))) ⟨_,rfl,a,ms,rfl,hR,G,λH1 s1=>⟨λ_=>?_,(λring row p l e=>by rw[hn] at e;cases e)⟩⟩
  exact ay (bK (aE jC (pv 1) bX (aI _)) aA aA) ⟨_,rfl,rfl,_,rfl,qS (λh=>absurd rfl h) (λ_=>bG (q H1 s1))⟩
structure bQ where
 row:Str
 before:List Nat
 d:Cfg
def gf (row:Str) (lb lt lo lk:Addr):List (Str×V):=[("signs",.str row),("before",.ref lb),("tints",.ref lt),("behind",.ref lo),("folded",.ref lk)]
structure we(t:fE)(H:Hp)(g dx lb lt lo lk:Addr)(G:bQ):Prop where
 ob:H g=some (.ins t.cj dx (gf G.row lb lt lo lk))
 lb:H lb=some (.lst (G.before.map bE))
 lt:H lt=some (.lst (G.d.aP.map V.str))
 lo:H lo=some (.lst (G.d.on.map bE))
 lk:GM H lk G.d.marks
def dY(t:fE)(H:Hp)(g:Addr)(G:bQ):Prop:=∃dx lb lt lo lk,we t H g dx lb lt lo lk G
theorem dY.same{H H':Hp}{g:Addr}{G:bQ}(h:dY t H g G)(s:aj H H'):dY t H' g G :=
 let ⟨dx,lb,lt,lo,lk,e⟩:=h;⟨dx,lb,lt,lo,lk,s _ _ e.ob,s _ _ e.lb,s _ _ e.lt,s _ _ e.lo,e.lk.same s⟩
structure oB(ms:List aD)(G:bQ):Prop where
 ok:iQ ms G.before
 len:G.before.length<=20000
 row:G.row.length<=1000
 go:∃n,n<=30000/\goN ms G.row n ⟨G.before,[],[]⟩=some G.d
 ok2:iQ ms G.d.on
 len2:G.d.on.length<=20000
 tl:G.d.aP.length=G.row.length
noncomputable def GZ(t:fE):Sp:=λvs H Q _=>∃(x dx a lb:Addr) (S:Addr->Prop) (ms:List aD) (G:bQ),vs=[.ref x,.ref a,.ref lb,.str G.row]/\H x=some (.ins t.cj dx [])/\IsRules t H a ms/\dz ms/\hid S H lb=some (.lst (G.before.map bE))/\Ex S H/\¬S x/\oB ms G/\
 ∀lt lo lk H',we t (hid S H') x dx lb lt lo lk G->gw H H' x->Q .cW H'
theorem DN (T:Txt K mg t):bD P w K mg base dw 4 t.Fv t.Jv ["self","rules","modes","row"] (GZ t):=by
 refine T.Dp.m FP λvs H Q E h=>?_
 ·obtain⟨x,dx,a,lb,Sh,ms,G,rfl,hx,hR,GM_,hlb',hE,hxS,S,q⟩:=h
  walk_at "i"
  have hlb:=aB _ _ hlb'
  obtain⟨n,hn,hgo⟩:=S.go
  have hbl:=S.len
  refine ao (cS 4 FP (aW (PX T) hr.m rfl T.Qk T.Ei.kp (T.Ei.binds (by walk_at "3")) .nil aF (aa (pv 1) (aa (pv 2) (aa (pv 3) ai))))) ⟨_,rfl,_,rfl,_,rfl,a,lb,ms,G.before,G.row,n,G.d,rfl,hR,GM_,hlb,S.ok,S.row,by lia,by lia,hgo,λtp lt lo lk H1 D GF1 f1 f2 f3 n1 n2 n3 s1=>?_⟩
  have hx1:=s1 _ _ hx
  have nx:∀{b o},H1 b=some o->(∀C dx fs,o≠.ins C dx fs)->b≠x:=λ{b o} e h=>bL e hx1 (λz=>h _ _ _ z)
  have x1:tp≠x:=nx D.tp (by intro _ _ _ z;cases z)
  have x2:lt≠x:=nx D.lt (by intro _ _ _ z;cases z)
  have x3:lo≠x:=nx D.lo (by intro _ _ _ z;cases z)
  have x4:lb≠x:=nx (s1 _ _ hlb) (by intro _ _ _ z;cases z)
  refine ao (bW (pv 0) (pv 3) rfl) ⟨_,rfl,_,rfl,x,_,dx,[],rfl,hx1,T.cC,T.cQ,by decide,?_⟩
  refine ao (bW (pv 0) (pv 2) rfl) ⟨_,rfl,_,rfl,x,_,dx,[("signs",.str G.row)],rfl,af,T.cC,T.jl,by show 1<1000;decide,?_⟩
  refine ao (bW (pv 0) (aR cu (pv 4) aq (λ_ _=>rfl)) rfl) ⟨_,rfl,_,_,_,_,rfl,rfl,dO.of (by rw[ak x1,ak x1];exact D.tp),aH (j:=0) rfl,_,rfl,x,_,dx,[("signs",.str G.row),("before",.ref lb)],rfl,af,T.cC,T.oS,by show 2<1000;decide,?_⟩
  refine ao (bW (pv 0) (aR cu (pv 4) aq (λ_ _=>rfl)) rfl) ⟨_,rfl,_,_,_,_,rfl,rfl,dO.of (by rw[ak x1,ak x1,ak x1];exact D.tp),aH (j:=1) rfl,_,rfl,x,_,dx,[("signs",.str G.row),("before",.ref lb),("tints",.ref lt)],rfl,af,T.cC,T.gG,by show 3<1000;decide,?_⟩
  refine ay (bW (pv 0) (aR cu (pv 4) aq (λ_ _=>rfl)) rfl) ⟨_,rfl,_,_,_,_,rfl,rfl,dO.of (by rw[ak x1,ak x1,ak x1,ak x1];exact D.tp),aH (j:=2) rfl,_,rfl,x,_,dx,[("signs",.str G.row),("before",.ref lb),("tints",.ref lt),("behind",.ref lo)],rfl,af,T.cC,T.n6,by show 4<1000;decide,?_⟩
  rw[eE,eE,eE,eE]
  obtain⟨ps,k1,k2⟩:=D.lk
  have x5:lk≠x:=nx k1 (by intro _ _ _ z;cases z)
  obtain⟨ps',k1',k2',k3'⟩:=GF1
  refine q lt lo lk _ ⟨bf af hxS,?_,?_,?_,ps',?_,⟨k2'.1,λi p m hp hm=>?_⟩⟩ λb o hb nb=>?_
  ·exact bf (by rw[ak x4];exact s1 _ _ hlb) (bY hlb')
  ·exact bf (by rw[ak x2];exact D.lt) (hE.new f1)
  ·exact bf (by rw[ak x3];exact D.lo) (hE.new f2)
  ·exact bf (by rw[ak x5];exact k1') (hE.new f3)
  ·have e:=k2'.2 i p m hp hm
   exact bf (by rw[ak (nx e (by intro _ _ _ z;cases z))];exact e) (hE.new (k3' p (List.mem_of_getElem? hp)))
  ·rw[ak nb];exact s1 _ _ hb
def Chain(ms:List aD):List Nat->List Str->List bQ->Prop
 |_,[],[]=>True
 |b,r::rs,G::Gs=>G.row=r/\G.before=b/\oB ms G/\Chain ms G.d.on rs Gs
 |_,_,_=>False
theorem Chain.len{ms:List aD}:∀{b:List Nat} {rs:List Str} {Gs:List bQ},Chain ms b rs Gs->Gs.length=rs.length
 |_,[],[],_=>rfl
 |_,_::_,_::_,h=>by simp[h.2.2.2.len]
 |_,[],_::_,h=>h.elim
 |_,_::_,[],h=>h.elim
theorem Chain.rows{ms:List aD}:∀{b:List Nat} {rs:List Str} {Gs:List bQ},Chain ms b rs Gs->Gs.map (·.row)=rs
 |_,[],[],_=>rfl
 |_,_::_,_::_,h=>by rw[List.map_cons,h.1,h.2.2.2.rows]
 |_,[],_::_,h=>h.elim
 |_,_::_,[],h=>h.elim
def jg:List Nat->List bQ->List Nat
 |b,[]=>b
 |_,G::Gs=>jg G.d.on Gs
theorem w6{ms:List aD}{b:List Nat}{rs:List Str}{Gs:List bQ}{r:Str}{i:Nat}(hc:Chain ms b (rs.drop i) (Gs.drop i))(hr:rs[i]?=some r):∃G,Gs[i]?=some G/\G.row=r/\G.before=b/\oB ms G/\Chain ms G.d.on (rs.drop (i+1)) (Gs.drop (i+1)):=by
 rw[gr hr] at hc
 cases e:Gs.drop i with
 |nil=>rw[e] at hc;exact hc.elim
 |cons G t=>
  rw[e] at hc
  have hG:Gs[i]?=some G:=by
   have:=congrArg (λl=>l[0]?) e
   simpa [List.getElem?_drop] using this
  have ht:Gs.drop (i+1)=t:=by rw[← List.drop_drop,e];rfl
  rw[ht]
  exact⟨G,hG,hc⟩
structure b8(t:fE)(H:Hp)(x dx a lg:Addr)(gs:List Addr)(ms:List aD)(Gs:List bQ):Prop where
 ob:H x=some (.ins t.aX dx [("rules",.ref a),("gone_rows",.ref lg)])
 ru:IsRules t H a ms
 lg:H lg=some (.lst (gs.map V.ref))
 go:bI (dY t H) gs Gs
theorem b8.same{H H':Hp}{x dx a lg:Addr}{gs:List Addr}{ms:List aD}{Gs:List bQ}(h:b8 t H x dx a lg gs ms Gs)(s:aj H H'):b8 t H' x dx a lg gs ms Gs:=⟨s _ _ h.ob,h.ru.same s,s _ _ h.lg,h.go.mono λ_ _ z=>z.same s⟩
abbrev Aa2(t:fE)(vs:List V)(H:Hp)(Q:VK)(x dx a lb lr:Addr)(S:Addr->Prop)(fs:List (Str×V))(ms:List aD)(b:List Nat)(rs:List Str)(Gs:List bQ):Prop:=hid S H lb=some (.lst (b.map bE))/\Ex S H/\H lr=some (.lst (rs.map V.str))/\rs.length<=100000/\Chain ms b rs Gs/\∀lg gs H',H' lg=some (.lst (gs.map V.ref))->bI (dY t (hid S H')) gs Gs->H lg=none->aj H H'->Q (.ref lg) H'
abbrev ab4(t:fE)(vs:List V)(H:Hp)(Q:VK)(x dx a lb lr:Addr)(S:Addr->Prop)(fs:List (Str×V))(ms:List aD)(b:List Nat)(rs:List Str)(Gs:List bQ):Prop:=vs=[.ref x,.ref lb,.ref lr]/\H x=some (.ins t.aX dx fs)/\fs.lookup ("rules":Str)=some (.ref a)/\IsRules t H a ms/\dz ms/\Aa2 t vs H Q x dx a lb lr S fs ms b rs Gs
noncomputable def F5 (t:fE):Sp:=λvs H Q _=>∃x dx a lb lr S fs ms b rs Gs,ab4 t vs H Q x dx a lb lr S fs ms b rs Gs
theorem E2 (T:Txt K mg t):bD P w K mg base dw 6 t.Bt t.Jl ["self","modes","rows"] (F5 t):=by
 refine T.DG.m qJ λvs H Q E h=>?_
 ·obtain⟨x,dx,a,lb,lr,S,fs,ms,b,rs,Gs,rfl,hx,hfs,hR,G,hlb,hE,hlr,hrl,hC,q⟩:=h
  walk_at "i"
  have hGl:=hC.len
  refine ao (cS 3 qJ (bP ai)) ⟨by show 0<=sizeLine;decide,λlg hlg=>?_⟩
  have s1:aj H (upd H lg (.lst [])):=aj.upd hlg
  have hg1:upd H lg (.lst []) lg=some (.lst []):=af
  generalize upd H lg (.lst [])=H1 at s1 hg1
  obtain⟨S2,hS2⟩:∃S2:Addr->Prop,S2=λc=>S c∨c=lg:=⟨_,rfl⟩
  have hSl:S2 lg:=by rw[hS2];exact .inr rfl
  have hE2:∀{H':Hp} {xs:List V},aj H H'->H' lg=some (.lst xs)->Ex S2 H':=λ{H' xs} s' h' c hc=>by
   rw[hS2] at hc
   rcases hc with hc|hc
   ·exact(hE.same s') c hc
   ·rw[hc];exact⟨_,h'⟩
  refine aS (λZ' H'=>∃gs,(∃x1 x4 x5,Z'=[some (.ref x),x1,some (.ref lr),some (.ref lg),x4,x5])/\H' lg=some (.lst (gs.map V.ref))/\bI (dY t (hid S H')) gs Gs/\aj H H') (gn PassesOwn.never rfl (fF (pv 2)) (oO 4 qJ) aA) ?_ ?_
  ·refine⟨_,rfl,lr,rfl,⟨_,bg.of (s1 _ _ hlr)⟩,jn (xs:=rs.map V.str) (λi Z' H'=>∃(gs:List Addr) (lb:Addr) (b:List Nat),(∃x4 x5,Z'=[some (.ref x),some (.ref lb),some (.ref lr),some (.ref lg),x4,x5])/\H' lg=some (.lst (gs.map V.ref))/\bI (dY t (hid S2 H')) gs (Gs.take i)/\hid S2 H' lb=some (.lst (b.map bE))/\Chain ms b (rs.drop i) (Gs.drop i)/\aj H H') ⟨[],lb,b,⟨_,_,rfl⟩,hg1,bI.nil,bf (s1 _ _ (aB _ _ hlb)) (by rw[hS2];rintro (z|z);(exact bY hlb z);(exact au (aB _ _ hlb) hlg z)),hC,s1⟩ ?_ ?_ ?_⟩
   ·rintro i Z' H' _ ⟨_,_,_,_,_,_,_,_,s2⟩
    exact bg.of (s2 _ _ hlr)
   ·rintro i xv Z' H2 hxv ⟨gs,lb,b,⟨x4,x5,rfl⟩,hg2,hA2,hlb2,hC2,s2⟩
    rw[List.getElem?_map] at hxv
    obtain⟨r,hri,rfl⟩:=Option.map_eq_some_iff.mp hxv
    obtain⟨Gi,hGi,e1,e2,hS,hC3⟩:=w6 hC2 hri
    subst e1 e2
    have hi:=(List.getElem?_eq_some_iff.mp hri).1
    have hEx:=hE2 s2 hg2
    refine ao (cS 5 qJ (dI T.qm (DN T) hr.m rfl T.om (T.Dp.binds (by walk_at "4")) .nil aF (aa (aK (pv 0) rfl) (aa (pv 1) (aa (pv 4) ai))))) (⟨_,rfl,_,_,_,_,_,rfl,(s2 _ _ hx),T.aQ,T.iL,hfs,⟨_,rfl,_,rfl,λg dg ng ndg ne=>⟨g,dg,a,lb,S2,ms,Gi,rfl,af,(hR.same s2).same (bZ ng ndg),G,(aO (bZ ng ndg)) _ _ hlb2,hEx.same (bZ ng ndg),hEx.new ng,hS,λlt lo lk H3 hG3 a3=>⟨rfl,?_⟩⟩⟩⟩)
    have s3:aj H2 H3:=λb o hb=>a3 b o (bZ ng ndg _ _ hb) (au hb ng)
    have hg3:=s3 _ _ hg2
    have hob:=aB _ _ hG3.ob
    have ngl:g≠lg:=bL hob hg3 (by intro z;cases z)
    have hlen:gs.length<=100000:=by rw[hA2.1,List.length_take];lia
    refine ao (bx (dG F.plainAttrs_list F.slot_list_append F.type_list_append c8 (pv 3) (aa (pv 5) ai))) ⟨_,rfl,.inl ⟨rfl,_,bg.of hg3⟩,_,rfl,lg,_,_,rfl,rfl,hg3,dQ (by rw[List.length_map];lia),?_⟩
    refine ay (cS 1 qJ (aK (pv 5) rfl)) ⟨_,rfl,g,t.cj,dg,_,_,rfl,(by rw[ak ngl];exact hob),T.cC,T.gG,rfl,?_⟩
    refine⟨gs++[g],lo,Gi.d.on,⟨_,_,rfl⟩,by rw[af,List.map_append];rfl,?_,?_,hC3,λb o hb=>?_⟩
    ·rw[take_snoc hGi,jG hSl]
     exact bI.snoc (hA2.mono λ_ _ z=>z.same (aO s3)) ⟨dg,lb,lt,lo,lk,hG3⟩
    ·rw[jG hSl];exact hG3.lo
    ·rw[ak (au hb hlg)];exact s3 _ _ (s2 _ _ hb)
   ·rintro Z' H2 ⟨gs,lb,b,⟨x4,x5,rfl⟩,hg2,hA2,_,_,s2⟩
    rw[List.length_map,← hGl,List.take_length] at hA2
    exact⟨gs,⟨_,_,_,rfl⟩,hg2,hA2.mono λ_ _ z=>z.same (wD (λc hc=>by rw[hS2];exact .inl hc)),s2⟩
  rintro Z' H2 ⟨gs,⟨x1,x4,x5,rfl⟩,hg2,hA2,s2⟩
  exact ay (aJ (pv 3)) ⟨_,rfl,q lg gs H2 hg2 hA2 hlg s2⟩
noncomputable def HQ(t:fE):Sp:=λvs H Q _=>∃(x dx a lr:Addr) (S:Addr->Prop) (ms:List aD) (rs:List Str) (Gs:List bQ),vs=[.ref x,.ref a,.ref lr]/\H x=some (.ins t.aX dx [])/\¬S x/\Ex S H/\IsRules t (hid (λc=>S c∨c=x) H) a ms/\dz ms/\jU ms=none/\H lr=some (.lst (rs.map V.str))/\rs.length<=100000/\Chain ms [0] rs Gs/\
 ∀a' lg gs H',b8 t (hid S H') x dx a' lg gs ms Gs->H lg=none->gw H H' x->Q .cW H'
theorem OP (T:Txt K mg t):bD P w K mg base dw 7 t.EF t.KJ ["self","rules","rows"] (HQ t):=by
 refine T.Mq.m Mv λvs H Q E h=>?_
 ·obtain⟨x,dx,a,lr,S,ms,rs,Gs,rfl,hx,hxS,hE,hR,G,hring,hlr,hrl,hC,q⟩:=h
  walk_at "i"
  obtain⟨S2,hS2⟩:∃S2:Addr->Prop,S2=λc=>S c∨c=x:=⟨_,rfl⟩
  rw[← hS2] at hR
  have hSx:S2 x:=by rw[hS2];exact .inr rfl
  have hE2:Ex S2 H:=λc hc=>by
   rw[hS2] at hc
   rcases hc with hc|hc
   ·exact hE c hc
   ·rw[hc];exact⟨_,hx⟩
  have hle:∀c,S c->S2 c:=λc hc=>by rw[hS2];exact .inl hc
  refine ao (bx (aW (MJ T) hr.m rfl T.ML T.Dk.kp (T.Dk.binds (by walk_at "1")) .nil aF (aa (pv 1) ai))) ⟨_,rfl,a,ms,rfl,hR.same aB,G,hring,λH1 s1=>?_⟩
  refine ao (bW (pv 0) (aW (O8 T) hr.m rfl T.Ow T.FE.kp (T.FE.binds (by walk_at "1")) .nil aF (aa (pv 1) ai)) rfl) ⟨_,rfl,a,S2,ms,rfl,hR.same (aO s1),hE2.same s1,G,λa' H2 hR2 s2=>?_⟩
  have s2:=s1.trans s2
  have hx2:=s2 _ _ hx
  refine⟨_,rfl,x,_,dx,[],rfl,hx2,T.aQ,T.iL,by decide,?_⟩
  have hx3:upd H2 x (.ins t.aX dx (cX "rules" (.ref a') [])) x=some (.ins t.aX dx [("rules",.ref a')]):=af
  have a3:gw H (upd H2 x (.ins t.aX dx (cX "rules" (.ref a') []))) x:=s2.GO gw.upd
  have nl:lr≠x:=bL (s2 _ _ hlr) hx2 (by intro z;cases z)
  have hlr3:upd H2 x (.ins t.aX dx (cX "rules" (.ref a') [])) lr=some (.lst (rs.map V.str)):=by rw[ak nl];exact s2 _ _ hlr
  have hH3:hid S2 (upd H2 x (.ins t.aX dx (cX "rules" (.ref a') [])))=hid S2 H2:=jG hSx
  have hE3:Ex S (upd H2 x (.ins t.aX dx (cX "rules" (.ref a') []))):=λc hc=>by
   obtain⟨o,ho⟩:=(hE.same s2) c hc
   exact⟨o,by rw[ak (λz=>hxS (by rw[← z];exact hc))];exact ho⟩
  rw[← hH3] at hR2
  generalize upd H2 x (.ins t.aX dx (cX "rules" (.ref a') []))=H3 at hx3 a3 hlr3 hR2 hE3
  refine ay (bW (pv 0) (bF (pv 0) T.aQ T.Ka (E2 T) hr.m (T.DG.binds (by walk_at "3")) .nil aF (aa (bP (aa (gc rfl T.kN) ai)) (aa (pv 2) ai))) rfl) ⟨_,rfl,x,dx,_,rfl,hx3,rfl,by show 1<=sizeLine;decide,λlb hlb=>⟨_,rfl,x,dx,a',lb,lr,S,_,ms,[0],rs,Gs,rfl,aj.upd hlb _ _ hx3,rfl,(hR2.same aB).same (aj.upd hlb),G,bf af (hE3.new hlb),hE3.same (aj.upd hlb),aj.upd hlb _ _ hlr3,hrl,hC,λlg gs H4 hg4 hA4 f4 s4=>?_⟩⟩
  have s34:aj H3 H4:=(aj.upd hlb).trans s4
  have hx4:=s34 _ _ hx3
  refine⟨_,rfl,x,_,dx,[("rules",.ref a')],rfl,hx4,T.aQ,T.aT,by show 1<1000;decide,?_⟩
  have h3n:H3 lg=none:=(aj.upd hlb).free f4
  have nlg:lg≠x:=bL hg4 hx4 (by intro z;cases z)
  have hlg0:H lg=none:=by
   cases e:H lg with
   |none=>rfl
   |some o=>have:=a3 _ _ e nlg;rw[h3n] at this;cases this
  have sh:aj (hid S2 H4) (hid S (upd H4 x (.ins t.aX dx (cX "gone_rows" (.ref lg) [("rules",.ref a')])))):=λb o hb=>by
   have hb2:=bY hb
   exact bf (by rw[ak (λz=>hb2 (by rw[z];exact hSx))];exact aB _ _ hb) (λz=>hb2 (hle b z))
  refine q a' lg gs _ ⟨bf af hxS,(hR2.same (aO s34)).same sh,bf (by rw[ak nlg];exact hg4) (hE3.new h3n),hA4.mono λg Gi hg=>?_⟩ hlg0 ?_
  ·obtain⟨dg,lb',lt,lo,lk,e⟩:=hg
   have key:∀{b o},hid S H4 b=some o->b≠x->hid S (upd H4 x (.ins t.aX dx (cX "gone_rows" (.ref lg) [("rules",.ref a')]))) b=some o:=λ{b o} hb h=>bf (by rw[ak h];exact aB _ _ hb) (bY hb)
   have nk:∀{b o},hid S H4 b=some o->(∀C d fs,o≠.ins C d fs)->b≠x:=λ{b o} hb h=>bL (aB _ _ hb) hx4 (λz=>h _ _ _ z)
   obtain⟨ps,k1,k2⟩:=e.lk
   refine⟨dg,lb',lt,lo,lk,key e.ob (bL (aB _ _ e.ob) hx4 (by intro z;injection z with _ _ z;cases z)),key e.lb (nk e.lb (by intro _ _ _ z;cases z)),key e.lt (nk e.lt (by intro _ _ _ z;cases z)),key e.lo (nk e.lo (by intro _ _ _ z;cases z)),ps,key k1 (nk k1 (by intro _ _ _ z;cases z)),k2.mono λp m h=>key h (nk h (by intro _ _ _ z;cases z))⟩
  ·intro b o hb nb
   rw[ak nb]
   exact s34 _ _ (a3 _ _ hb nb)
noncomputable def Nl(t:fE):Sp:=λvs H Q _=>∃(x dx a lg:Addr) (gs:List Addr) (ms:List aD) (Gs:List bQ),vs=[.ref x]/\b8 t H x dx a lg gs ms Gs/\Gs.length<=100000/\∀l H',H' l=some (.lst ((Gs.map (·.row)).map V.str))->H l=none->aj H H'->Q (.ref l) H'
theorem nE (T:Txt K mg t):bD P w K mg base dw 1 t.DO t.J9 ["self"] (Nl t):=by
 refine T.qX.m Qu λvs H Q E h=>?_
 ·obtain⟨x,dx,a,lg,gs,ms,Gs,rfl,I,hl,q⟩:=h
  walk_at "i"
  refine ay (@aJ _ _ _ _ (@gi _ (av (ac1 40 1)) _ ["self"] _ _ ("gone") _ _ [] _ _ (by walk_at "ck") (@fF _ _ _ _ (@aK _ _ _ _ _ (pv 0) rfl)) (λ_ _ _ _=>by exact(@jE _ K _ _ _ _ (pv 0) rfl (by left))) (by left) (by left) (by left) (by left))) (⟨_,rfl,_,_,_,_,_,rfl,I.ob,T.aQ,T.aT,rfl,⟨lg,rfl,⟨_,bg.of I.lg⟩,gD (xs:=gs.map V.ref) (λi ys H2=>ys=((Gs.take i).map (·.row)).map V.str/\H2=H) ⟨rfl,rfl⟩ (dQ (by rw[List.length_map,I.go.1];lia)) ?_ ?_ ?_⟩⟩)
  ·rintro i ys H2 _ ⟨_,rfl⟩
   exact bg.of I.lg
  ·rintro i xv ys H2 hx hyl ⟨rfl,rfl⟩
   rw[List.getElem?_map] at hx
   obtain⟨g,hg,rfl⟩:=Option.map_eq_some_iff.mp hx
   have hi:=(List.getElem?_eq_some_iff.mp hg).1
   have hGi:Gs[i]?=some (Gs[i]'(by rw[← I.go.1];exact hi)):=List.getElem?_eq_getElem _
   obtain⟨dg,lb,lt,lo,lk,e⟩:=I.go.2 i g _ hg hGi
   refine⟨_,rfl,_,_,_,_,_,rfl,e.ob,T.cC,T.cQ,rfl,(cP (by rw[List.length_map];exact hi) hyl ⟨?_,rfl⟩)⟩
   rw[take_snoc hGi,List.map_append,List.map_append]
   rfl
  ·rintro ys H2 hyl ⟨rfl,rfl⟩ D hD
   have e5:Gs.take (gs.map V.ref).length=Gs:=by rw[List.length_map,I.go.1,List.take_length]
   rw[e5]
   exact q D _ af hD (aj.upd hD)
noncomputable def Ft(t:fE):Sp:=λvs H Q _=>∃(x dx a lg:Addr) (gs:List Addr) (ms:List aD) (Gs:List bQ) (i:Nat),vs=[.ref x,.int i]/\b8 t H x dx a lg gs ms Gs/\i<Gs.length/\Q .cW H
theorem Mx (T:Txt K mg t):bD P w K mg base dw 1 t.BR t.L4 ["self","row"] (Ft t):=by
 refine T.KC.m NY λvs H Q E h=>?_
 ·obtain⟨x,dx,a,lg,gs,ms,Gs,i,rfl,I,hi,q⟩:=h
  walk_at "i"
  have hl:=I.go.1
  refine ay (bK (PW.pt (jV (aE ie (pv 1) aq (aI _)) (jF (aE Jo (pv 1) (aN bh (by rfl) T.cy (by decide +kernel) (aa (aK (pv 0) rfl) ai)) (aI _))))) aA aA) ⟨_,rfl,_,_,rfl,rfl,_,rfl,fq (λh=>absurd h (by lia)) (λ_=>?_)⟩
  exact⟨_,rfl,⟨_,rfl,_,_,_,_,_,rfl,I.ob,T.aQ,T.aT,rfl,⟨_,_,rfl,.inl (bg.of I.lg),_,_,rfl,rfl,_,rfl,fq (λh=>absurd h (by rw[List.length_map];lia)) (λ_=>bG q)⟩⟩⟩
def dP:List Str->List Str->Nat
 |x::xs,y::ys=>if x=y then dP xs ys+1 else 0
 |_,_=>0
theorem kI:∀(xs ys:List Str),dP xs ys<=xs.length/\dP xs ys<=ys.length
 | [],ys=>⟨Nat.zero_le _,Nat.zero_le _⟩
 |_::_,[]=>⟨Nat.zero_le _,Nat.zero_le _⟩
 |x::xs,y::ys=>by
  have h:=kI xs ys
  rw[dP]
  by_cases e:x=y
  ·rw[if_pos e,List.length_cons,List.length_cons];lia
  ·rw[if_neg e];exact⟨Nat.zero_le _,Nat.zero_le _⟩
theorem mw:∀(xs ys:List Str),xs.take (dP xs ys)=ys.take (dP xs ys)
 | [],ys=>by simp[dP]
 |_::_,[]=>by simp[dP]
 |x::xs,y::ys=>by
  rw[dP]
  by_cases e:x=y
  ·rw[if_pos e,List.take_succ_cons,List.take_succ_cons,mw xs ys,e]
  ·rw[if_neg e];rfl
theorem El{xs ys:List Str}{i:Nat}{x y:Str}(h1:xs[i]?=some x)(h2:ys[i]?=some y):dP (xs.drop i) (ys.drop i)=if x=y then dP (xs.drop (i+1)) (ys.drop (i+1))+1 else 0:=by
 rw[gr h1,gr h2,dP]
theorem Bf{xs ys:List Str}{i:Nat}(h:i=xs.length∨i=ys.length):dP (xs.drop i) (ys.drop i)=0:=by
 rcases h with h|h
 ·rw[h,List.drop_length,dP];intros;simp_all
 ·rw[h,List.drop_length]
  cases xs.drop ys.length <;> rfl
noncomputable def Hg:Sp:=λvs H Q _=>∃(a b:Addr) (xs ys:List Str),vs=[.ref a,.ref b]/\H a=some (.lst (xs.map V.str))/\H b=some (.lst (ys.map V.str))/\∀H',aj H H'->Q (.int (dP xs ys:Nat)) H'
theorem CT (T:Txt K mg t):bD P w K mg base dw 1 t.Bm t.Lo ["some","others"] Hg:=by
 refine T.vJ.m p6 λvs H Q E h=>?_
 ·obtain⟨a,b,xs,ys,rfl,ha,hb,q⟩:=h
  walk_at "i"
  refine ao (cS 2 p6 aq) ?_
  refine aS (λZ' H'=>(∃x3 x4,Z'=[some (.ref a),some (.ref b),some (.int (dP xs ys:Nat)),x3,x4])/\aj H H') (gn PassesOwn.never rfl (Oa rfl T.SK (aa (pv 0) (aa (pv 1) ai))) (lX rfl (cB (oO 3 p6) (cB (oO 4 p6) jK))) aA) ?_ ?_
  ·refine⟨_,rfl,_,rfl,a,b,_,_,rfl,bg.of ha,bg.of hb,Bk (xs:=xs.map V.str) (ys:=ys.map V.str) (λi Z' H'=>(∃x3 x4,Z'=[some (.ref a),some (.ref b),some (.int (i:Nat)),x3,x4])/\aj H H'/\dP xs ys=i+dP (xs.drop i) (ys.drop i)) ⟨⟨_,_,rfl⟩,aj.refl H,by simp⟩ ?_ ?_ ?_⟩
   ·rintro i Z' H' _ _ ⟨_,s1,_⟩
    exact⟨bg.of (s1 _ _ ha),bg.of (s1 _ _ hb)⟩
   ·rintro i xv yv p Z' H1 hx hy hp ⟨⟨x3,x4,rfl⟩,s1,hn⟩
    rw[List.getElem?_map] at hx hy
    obtain⟨x,hx1,rfl⟩:=Option.map_eq_some_iff.mp hx
    obtain⟨y,hy1,rfl⟩:=Option.map_eq_some_iff.mp hy
    rw[El hx1 hy1] at hn
    have s2:aj H (upd H1 p (.tup [.str x,.str y])):=s1.trans (aj.upd hp)
    refine⟨p,[.str x,.str y],rfl,dO.of af,rfl,_,_,rfl,_,_,rfl,rfl,?_⟩
    by_cases e:x=y
    ·rw[if_pos e] at hn
     refine ao (bK (aE oG (pv 3) (pv 4) (aI _)) aA aA) ⟨_,rfl,_,rfl,rfl,_,rfl,yP (c:=false) (by simp[e]) (bG ?_)⟩
     refine ay (xZ (i:=2) p6.nd rfl (Or.inl rfl) aq yu) ⟨_,rfl,_,_,rfl,rfl,⟨_,_,rfl⟩,s2,?_⟩
     lia
    ·rw[if_neg e] at hn
     refine ao (bK (aE oG (pv 3) (pv 4) (aI _)) aA aA) ⟨_,rfl,_,rfl,rfl,_,rfl,yP (c:=true) (by simp[e]) ?_⟩
     refine ay (aJ (pv 2)) ⟨_,rfl,?_⟩
     have:=q _ s2
     rw[hn] at this
     exact this
   ·rintro i Z' H1 hi h1 h2 ⟨⟨x3,x4,rfl⟩,s1,hn⟩
    rw[List.length_map,List.length_map] at hi
    rw[Bf hi] at hn
    exact⟨⟨_,_,by rw[hn];rfl⟩,s1⟩
  rintro Z' H1 ⟨⟨x3,x4,rfl⟩,s1⟩
  exact ay (aJ (pv 2)) ⟨_,rfl,q _ s1⟩
noncomputable def IT:Sp:=λvs H Q _=>∃(a b:Addr) (xs ys:List Str),vs=[.ref a,.ref b]/\H a=some (.lst (xs.map V.str))/\H b=some (.lst (ys.map V.str))/\∀H',aj H H'->Q (.int (dP xs.reverse ys.reverse:Nat)) H'
theorem Qw (T:Txt K mg t):bD P w K mg base dw 2 t.BL t.Jp ["some","others"] IT:=by
 refine T.DA.m ND λvs H Q E h=>?_
 ·obtain⟨a,b,xs,ys,rfl,ha,hb,q⟩:=h
  walk_at "i"
  refine ay (aJ (aW (CT T) hr.m rfl T.D4 T.vJ.kp (T.vJ.binds (by walk_at "2")) .nil aF (aa (pK rfl rfl T.jI rfl T.qF (aa (pv 0) ai)) (aa (pK rfl rfl T.jI rfl T.qF (aa (pv 1) ai)) ai)))) ⟨_,rfl,a,_,rfl,bg.of ha,λl1 h1=>⟨_,rfl,b,_,rfl,bg.of (aj.upd h1 _ _ hb),λl2 h2=>⟨l1,l2,xs.reverse,ys.reverse,rfl,?_,?_,λH' s'=>q H' (((aj.upd h1).trans (aj.upd h2)).trans s')⟩⟩⟩
  ·rw[List.map_reverse]
   exact aj.upd h2 _ _ af
  ·rw[List.map_reverse]
   exact af
theorem sO{b:List Nat}:∀{Gs:List bQ} {j:Nat} {G:bQ},Gs[j]?=some G->jg b (Gs.take (j+1))=G.d.on
 |G'::Gs,0,G,h=>by cases h;rfl
 |G'::Gs,j+1,G,h=>by
  rw[List.take_succ_cons,jg]
  exact sO (Gs:=Gs) (by simpa using h)
noncomputable def HU (t:fE):Sp:=λvs H Q _=>∃(x dx a lg:Addr) (gs:List Addr) (S:Addr->Prop) (Gs:List bQ) (i:Nat),vs=[.ref x,.int i]/\H x=some (.ins t.aX dx [("rules",.ref a),("gone_rows",.ref lg)])/\H lg=some (.lst (gs.map V.ref))/\bI (dY t (hid S H)) gs Gs/\Ex S H/\i<=Gs.length/\
 ∀lb H',hid S H' lb=some (.lst ((jg [0] (Gs.take i)).map bE))->aj H H'->Q (.ref lb) H'
theorem xw (T:Txt K mg t):bD P w K mg base dw 1 t.BW t.Jy ["self","row"] (HU t):=by
 refine T.yW.m Mt λvs H Q E h=>?_
 ·obtain⟨x,dx,a,lg,gs,S,Gs,i,rfl,hx,hlg,hA,hE,hi,q⟩:=h
  walk_at "i"
  refine ay (aJ (cN (aE gZ (pv 1) aq (aI _)) (aK (aR aL (aK (pv 0) rfl) (aM eu (pv 1) aq) (λ_ _=>rfl)) rfl) (bP (aa (gc rfl T.kN) ai)))) ⟨_,rfl,_,_,rfl,rfl,_,rfl,fq (λh=>?_) (λh=>?_)⟩
  ·obtain⟨j,rfl⟩:∃j,i=j+1:=⟨i-1,by lia⟩
   obtain⟨G,hG⟩:∃G,Gs[j]?=some G:=⟨Gs[j]'(by lia),List.getElem?_eq_getElem _⟩
   obtain⟨g,hg,dg,lb,lt,lo,lk,e⟩:=hA.at hG
   have ej:((j+1:Nat):Int)-1=(j:Int):=by lia
   refine⟨_,rfl,_,_,_,_,_,rfl,hx,T.aQ,T.aT,rfl,⟨_,rfl,_,_,rfl,rfl,?_⟩⟩
   show Hy _ (.ref lg) (.int (((j+1:Nat):Int)-1)) H _
   rw[ej]
   refine⟨_,_,_,_,rfl,rfl,bg.of hlg,fU hg,g,t.cj,dg,_,_,rfl,aB _ _ e.ob,T.cC,T.gG,rfl,?_⟩
   refine q lo H ?_ (aj.refl H)
   rw[sO hG]
   exact e.lo
  ·have e0:i=0:=by lia
   subst e0
   exact⟨by show 1<=sizeLine;decide,λlb hlb=>q lb _ (bf af (hE.new hlb)) (aj.upd hlb)⟩
noncomputable def Hx (t:fE):Sp:=λvs H Q _=>∃(x dx a lg:Addr) (gs:List Addr) (i k:Nat),vs=[.ref x,.int i,.int k]/\H x=some (.ins t.aX dx [("rules",.ref a),("gone_rows",.ref lg)])/\H lg=some (.lst (gs.map V.ref))/\i+k<=gs.length/\Q .cW H
theorem Qs (T:Txt K mg t):bD P w K mg base dw 1 t.Ck t.Ks ["self","row","many"] (Hx t):=by
 refine T.LX.m Nq λvs H Q E h=>?_
 ·obtain⟨x,dx,a,lg,gs,i,k,rfl,hx,hlg,hi,q⟩:=h
  walk_at "i"
  refine ay (bK (PW.pt (jV (aE ie (pv 1) aq (aI _)) (jV (aE ie (pv 2) aq (aI _)) (jF (aE gZ (aM bO (pv 1) (pv 2)) (aN bh (by rfl) T.cy (by decide +kernel) (aa (aK (pv 0) rfl) ai)) (aI _)))))) aA aA) ⟨_,rfl,_,_,rfl,rfl,_,rfl,fq (λh=>absurd h (by lia)) (λ_=>?_)⟩
  refine⟨_,rfl,_,_,rfl,rfl,_,rfl,fq (λh=>absurd h (by lia)) (λ_=>?_)⟩
  refine⟨_,rfl,_,rfl,_,_,rfl,rfl,⟨_,rfl,_,_,_,_,_,rfl,hx,T.aQ,T.aT,rfl,⟨_,_,rfl,.inl (bg.of hlg),_,_,rfl,rfl,_,rfl,fq (λh=>absurd h (by rw[List.length_map];lia)) (λ_=>bG q)⟩⟩⟩
structure nO(ms:List aD)(Gs:List bQ)(i k:Nat)(Gs':List bQ):Prop where
 len:Gs'.length=Gs.length
 le:i+k<=Gs.length
 pre:∀j,j<i->Gs'[j]?=Gs[j]?
 suf:∀j,i+k<=j->Gs'[j]?=Gs[j]?
 mid:∀j,i<=j->j<i+k->∃G G',Gs[j]?=some G/\Gs'[j]?=some G'/\G'.row=G.row/\G'.before=jg [0] (Gs'.take j)/\G.before≠jg [0] (Gs'.take j)/\oB ms G'
 stop:∀G,Gs[i+k]?=some G->G.before=jg [0] (Gs'.take (i+k))
def ki(Gs Gs':List bQ)(n:Nat):List bQ:=Gs'.take n++Gs.drop n
theorem Ot{Gs Gs':List bQ}{n:Nat}(hl:Gs'.length=Gs.length)(h:n<=Gs.length):(ki Gs Gs' n)[n]?=Gs[n]?:=by
 rw[ki,List.getElem?_append_right (by rw[List.length_take];lia),List.length_take,List.getElem?_drop]
 congr 1
 lia
theorem u6{Gs Gs':List bQ}{n:Nat}(hl:Gs'.length=Gs.length)(h:n<=Gs.length):(ki Gs Gs' n).take n=Gs'.take n:=by
 have e:n=(Gs'.take n).length:=by rw[List.length_take];lia
 rw[ki]
 conv=>lhs;arg 1;rw[e]
 rw[List.take_left]
theorem ua{Gs Gs':List bQ}{n:Nat}(hl:Gs'.length=Gs.length)(h:n<=Gs.length):(ki Gs Gs' n).length=Gs.length:=by
 rw[ki,List.length_append,List.length_take,List.length_drop];lia
theorem IK{Gs Gs':List bQ}{n:Nat}{G':bQ}(hl:Gs'.length=Gs.length)(h:n<Gs.length)(hG:Gs'[n]?=some G'):(ki Gs Gs' n).set n G'=ki Gs Gs' (n+1):=by
 have e:(Gs'.take n).length=n:=by rw[List.length_take];lia
 rw[ki,ki,List.set_append_right _ _ (by rw[e];exact Nat.le_refl _),e,Nat.sub_self,take_snoc hG,List.append_assoc]
 congr 1
 rw[gr (List.getElem?_eq_getElem h)]
 rfl
theorem nO.first{ms:List aD}{Gs Gs':List bQ}{i k:Nat}(h:nO ms Gs i k Gs'):ki Gs Gs' i=Gs:=by
 apply List.ext_getElem?
 intro j
 rw[ki]
 have:=h.le
 have:=h.len
 by_cases hj:j<i
 ·rw[List.getElem?_append_left (by rw[List.length_take];lia),List.getElem?_take,if_pos hj,h.pre j hj]
 ·rw[List.getElem?_append_right (by rw[List.length_take];lia),List.length_take,List.getElem?_drop]
  congr 1
  lia
theorem nO.last{ms:List aD}{Gs Gs':List bQ}{i k:Nat}(h:nO ms Gs i k Gs'):ki Gs Gs' (i+k)=Gs':=by
 apply List.ext_getElem?
 intro j
 rw[ki]
 have:=h.le
 have:=h.len
 by_cases hj:j<i+k
 ·rw[List.getElem?_append_left (by rw[List.length_take];lia),List.getElem?_take,if_pos hj]
 ·rw[List.getElem?_append_right (by rw[List.length_take];lia),List.length_take,List.getElem?_drop,h.suf j (by lia)]
  congr 1
  lia
theorem bI.put{α β:Type}{R:α->β->Prop}{xs:List α}{ys:List β}{n:Nat}{x:α}{y:β}(h:bI R xs ys)(r:R x y):bI R (xs.set n x) (ys.set n y):=by
 refine⟨by rw[List.length_set,List.length_set];exact h.1,λi a b ha hb=>?_⟩
 rw[List.getElem?_set] at ha hb
 by_cases e:n=i
 ·rw[if_pos e] at ha hb
  split at ha
  ·split at hb
   ·cases ha;cases hb;exact r
   ·cases hb
  ·cases ha
 ·rw[if_neg e] at ha hb
  exact h.2 i a b ha hb
theorem uY:∀{xs ys:List Nat},xs.map bE=ys.map bE->xs=ys
 | [],[],_=>rfl
 | [],_::_,h=>by simp at h
 |_::_,[],h=>by simp at h
 |x::xs,y::ys,h=>by
  rw[List.map_cons,List.map_cons] at h
  injection h with h1 h2
  injection h1 with h1
  rw[uY h2,Int.ofNat_inj.mp h1]
theorem xo(xs ys:List Nat):nX (xs.map bE) (ys.map bE):=xO (λn:Nat=>(n:Int)) (λn:Nat=>(n:Int)) xs ys
abbrev Aa3(t:fE)(vs:List V)(H:Hp)(Q:VK)(x dx a lg:Addr)(gs:List Addr)(S:Addr->Prop)(ms:List aD)(Gs Gs':List bQ)(i k:Nat):Prop:=S lg/\bI (dY t (hid S H)) gs Gs/\Ex S H/\Gs.length<=100000/\nO ms Gs i k Gs'/\∀gs' H',H' lg=some (.lst (gs'.map V.ref))->bI (dY t (hid S H')) gs' Gs'->gw H H' lg->Q (.int (k:Nat)) H'
abbrev ab5(t:fE)(vs:List V)(H:Hp)(Q:VK)(x dx a lg:Addr)(gs:List Addr)(S:Addr->Prop)(ms:List aD)(Gs Gs':List bQ)(i k:Nat):Prop:=vs=[.ref x,.int i]/\H x=some (.ins t.aX dx [("rules",.ref a),("gone_rows",.ref lg)])/\IsRules t (hid S H) a ms/\dz ms/\H lg=some (.lst (gs.map V.ref))/\Aa3 t vs H Q x dx a lg gs S ms Gs Gs' i k
noncomputable def OG (t:fE):Sp:=λvs H Q _=>∃x dx a lg gs S ms Gs Gs' i k,ab5 t vs H Q x dx a lg gs S ms Gs Gs' i k
theorem OM (T:Txt K mg t):bD P w K mg base dw 6 t.BK t.JD ["self","row"] (OG t):=by
 refine T.Jt.m wZ λvs H Q E h=>?_
 ·obtain⟨x,dx,a,lg,gs,S,ms,Gs,Gs',i,k,rfl,hx,hR,G,hlg,hSl,hA,hE,hlen,O,q⟩:=h
  walk_at "i"
  have hxl:x≠lg:=bL hx hlg (by intro z;cases z)
  have hl:=O.len
  have hle:=O.le
  refine ao (cS 2 wZ (pv 1)) ⟨_,rfl,?_⟩
  refine aS (λZ' H'=>∃gs',(∃x2,Z'=[some (.ref x),some (.int i),x2]/\x2=some (.int ((i+k:Nat):Int)))/\H' lg=some (.lst (gs'.map V.ref))/\bI (dY t (hid S H')) gs' Gs'/\gw H H' lg) (jZ PassesOwn.never (PW.pt (iz (aE ie (pv 2) (aN bh (by rfl) T.cy (by decide +kernel) (aa (aK (pv 0) rfl) ai)) (aI _)) (fV (aE (t6 (Nat.lt_of_succ_lt (cK hr))) (aK (aR aL (aK (pv 0) rfl) (pv 2) (λ_ _=>rfl)) rfl) (bF (pv 0) T.aQ T.CH (xw T) hr.m (T.yW.binds (by walk_at "2")) .nil aF (aa (pv 2) ai)) (aI _))))) aA) ?_ ?_
  ·refine⟨λm Z' H'=>∃(j:Nat) (gs':List Addr),Z'=[some (.ref x),some (.int i),some (.int ((i+j:Nat):Int))]/\j<=k/\m=k-j/\H' lg=some (.lst (gs'.map V.ref))/\bI (dY t (hid S H')) gs' (ki Gs Gs' (i+j))/\gw H H' lg,⟨k,0,gs,rfl,Nat.zero_le _,rfl,hlg,(by rw[Nat.add_zero,O.first];exact hA),gw.refl H lg⟩,?_⟩
   rintro m Z' H1 ⟨j,gs1,rfl,hj,rfl,hlg1,hA1,a1⟩
   have hx1:=a1 _ _ hx hxl
   have s1:aj (hid S H) (hid S H1):=λb o hb=>bf (a1 _ _ (aB _ _ hb) (λz=>bY hb (by rw[z];exact hSl))) (bY hb)
   have hR1:=hR.same s1
   have hE1:Ex S H1:=λb hb=>by
    by_cases e:b=lg
    ·rw[e];exact⟨_,hlg1⟩
    ·obtain⟨o,ho⟩:=hE b hb
     exact⟨o,a1 _ _ ho e⟩
   have hg1:gs1.length=Gs.length:=by rw[hA1.1,ua hl (by lia)]
   refine⟨_,rfl,⟨_,rfl,_,_,_,_,_,rfl,hx1,T.aQ,T.aT,rfl,⟨_,_,rfl,.inl (bg.of hlg1),_,_,rfl,rfl,_,rfl,fq (λh=>?_) (λh=>?_)⟩⟩⟩
   ·rw[List.length_map] at h
    have hlt:i+j<Gs.length:=by lia
    obtain⟨G0,hG0⟩:∃G0,Gs[i+j]?=some G0:=⟨Gs[i+j],List.getElem?_eq_getElem hlt⟩
    have hG1:(ki Gs Gs' (i+j))[i+j]?=some G0:=by rw[Ot hl (by lia)];exact hG0
    obtain⟨g,hg,dg,lb,lt,lo,lk,e⟩:=hA1.at hG1
    refine⟨_,rfl,_,_,_,_,_,rfl,hx1,T.aQ,T.aT,rfl,⟨_,rfl,_,_,_,_,rfl,rfl,bg.of hlg1,fU hg,g,t.cj,dg,_,_,rfl,aB _ _ e.ob,T.cC,T.jl,rfl,?_⟩⟩
    refine⟨_,rfl,x,dx,_,rfl,hx1,rfl,_,rfl,x,dx,a,lg,gs1,S,_,i+j,rfl,hx1,hlg1,hA1,hE1,(by rw[ua hl (by lia)];lia),λlb2 H2 hb2 s2=>?_⟩
    rw[u6 hl (by lia)] at hb2
    refine⟨lb,lb2,_,_,rfl,rfl,bg.of (s2 _ _ (aB _ _ e.lb)),bg.of (aB _ _ hb2),xo _ _,_,rfl,?_⟩
    have hlg2:=s2 _ _ hlg1
    have hx2:=s2 _ _ hx1
    have hA2:bI (dY t (hid S H2)) gs1 (ki Gs Gs' (i+j)):=hA1.mono λ_ _ z=>z.same (aO s2)
    have hE2:=hE1.same s2
    have a2:gw H H2 lg:=a1.same s2
    refine qS (λhne=>?_) (λheq=>?_)
    ·have hjk:j<k:=by
      rcases Nat.lt_or_ge j k with z|z
      ·exact z
      ·exfalso
       have ejk:j=k:=by lia
       subst ejk
       exact hne (by rw[O.stop G0 hG0])
     obtain⟨G1,G',z1,hG',er,eb,_,hSt⟩:=O.mid (i+j) (by lia) (by lia)
     rw[hG0] at z1
     cases z1
     refine⟨_,λZ' H' z=>z,ao (uF (dI T.qm (DN T) hr.m rfl T.om (T.Dp.binds (by walk_at "4")) .nil aF (aa (aK (pv 0) rfl) (aa (bF (pv 0) T.aQ T.CH (xw T) hr.m (T.yW.binds (by walk_at "2")) .nil aF (aa (pv 2) ai)) (aa (aK (aR aL (aK (pv 0) rfl) (pv 2) (λ_ _=>rfl)) rfl) ai)))) (BG (aK (pv 0) rfl) (pv 2) set_list)) ?_⟩
     refine⟨_,rfl,_,_,_,_,_,rfl,hx2,T.aQ,T.iL,rfl,?_⟩
     refine⟨_,rfl,x,dx,_,rfl,hx2,rfl,_,rfl,x,dx,a,lg,gs1,S,_,i+j,rfl,hx2,hlg2,hA2,hE2,(by rw[ua hl (by lia)];lia),λlb3 H3 hb3 s3=>?_⟩
     rw[u6 hl (by lia),← eb] at hb3
     have hlg3:=s3 _ _ hlg2
     have hx3:=s3 _ _ hx2
     have hE3:=hE2.same s3
     have s13:aj H1 H3:=s2.trans s3
     refine⟨_,rfl,_,_,_,_,_,rfl,hx3,T.aQ,T.aT,rfl,⟨_,rfl,_,_,_,_,rfl,rfl,bg.of hlg3,fU hg,g,t.cj,dg,_,_,rfl,s13 _ _ (aB _ _ e.ob),T.cC,T.cQ,rfl,?_⟩⟩
     refine λg' dg' ng ndg ne=>⟨g',dg',a,lb3,S,ms,G',(by rw[er];rfl),af,((hR1.same aB).same s13).same (bZ ng ndg),G,(aO (bZ ng ndg)) _ _ hb3,hE3.same (bZ ng ndg),hE3.new ng,hSt,λlt4 lo4 lk4 H4 hG4 a4=>⟨rfl,?_⟩⟩
     have s34:aj H3 H4:=λb o hb=>a4 b o (bZ ng ndg _ _ hb) (au hb ng)
     have hlg4:=s34 _ _ hlg3
     have hx4:=s34 _ _ hx3
     have s14:aj H1 H4:=s13.trans s34
     refine⟨_,rfl,_,_,_,_,_,rfl,hx4,T.aQ,T.aT,rfl,⟨_,rfl,lg,_,_,i+j,rfl,rfl,hlg4,?_,?_⟩⟩
     ·have hz:(gs1.map V.ref).length=Gs.length:=by rw[List.length_map];exact hg1
      rw[hz,Az,if_pos (by lia),if_pos (by lia),Int.toNat_natCast]
     refine ay (xZ (i:=2) wZ.nd rfl (Or.inl rfl) aq yu) ⟨_,rfl,_,_,rfl,rfl,?_⟩
     refine⟨k-(j+1),by lia,j+1,gs1.set (i+j) g',?_,by lia,rfl,?_,?_,?_⟩
     ·show [some (V.ref x),some (V.int i),some (V.int (((i+j:Nat):Int)+1))]=_
      rw[show (((i+(j+1):Nat)):Int)=((i+j:Nat):Int)+1 by lia]
     ·rw[af,List.map_set]
     ·rw[jG hSl,show i+(j+1)=i+j+1 from rfl,← IK hl hlt hG']
      exact(hA1.mono λ_ _ z=>z.same (aO s14)).put ⟨dg',lb3,lt4,lo4,lk4,hG4⟩
     ·intro b o hb nb
      rw[ak nb]
      exact s14 _ _ (a1 _ _ hb nb)
    ·have ejk:j=k:=by
      rcases Nat.lt_or_ge j k with z|z
      ·exfalso
       obtain⟨G1,G',z1,hG',er,eb,hnb,hSt⟩:=O.mid (i+j) (by lia) (by lia)
       rw[hG0] at z1
       cases z1
       exact hnb (uY heq)
      ·lia
     subst ejk
     rw[O.last] at hA2
     exact⟨gs1,⟨_,rfl,rfl⟩,hlg2,hA2,a2⟩
   ·rw[List.length_map] at h
    have ej:j=k:=by
     have:=O.le
     lia
    subst ej
    rw[O.last] at hA1
    exact⟨gs1,⟨_,rfl,rfl⟩,hlg1,hA1,a1⟩
  rintro Z' H1 ⟨gs1,⟨x2,rfl,rfl⟩,h1,h2,h3⟩
  refine ay (aJ (aM eu (pv 2) (pv 1))) ⟨_,rfl,_,rfl,_,_,rfl,rfl,?_⟩
  have:=q gs1 H1 h1 h2 h3
  rw[show (k:Int)=((i+k:Nat):Int)-(i:Int) by lia] at this
  exact this
theorem zC{xs:List V}{i j:Nat}(hj:j<=xs.length)(h:i<=j):cz xs (some (i:Int)) (some (j:Int))=(xs.drop i).take (j-i):=by
 rw[cz,HT.pe,HT.pe,Nat.min_eq_left hj,Nat.min_eq_left (Nat.le_trans h hj)]
theorem qV{xs:List V}{i:Nat}(h:i<=xs.length):cz xs (some (i:Int)) none=xs.drop i:=by
 rw[cz,HT.pe,HT.wj,Nat.min_eq_left h,List.take_of_length_le (by rw[List.length_drop];exact Nat.le_refl _)]
theorem Tp{a n m x s:Nat}(h:n+m+n<=s):min a n+m+(n-x)<=s:=by lia
theorem Bw{xs:List V}{j:Nat}(hj:j<=xs.length):cz xs none (some (j:Int))=xs.take j:=by
 rw[cz,HT.pe,HT.wj,Nat.min_eq_left hj];rfl
theorem apart{H:Hp}{x b:Addr}{o:HO}{C dx:Addr}{fs:List (Str×V)}(hx:H x=some (.ins C dx fs))(hb:H b=some o)(h:∀C' d' fs',o=.ins C' d' fs'->fs'.length≠fs.length):hid (λc=>c=x) H b=some o:=by
 refine bf hb λz=>?_
 rw[z,hx] at hb
 cases hb
 exact h _ _ _ rfl rfl
theorem D9(s z:Str):(ly s z).length<=1:=by
 rw[ly]
 by_cases b:bare s
 ·rw[if_pos b];exact Nat.zero_le _
 ·rw[if_neg b]
  by_cases e:s = "word"
  ·rw[if_pos e];exact Nat.le_refl _
  ·rw[if_neg e];exact Nat.le_refl _
theorem IsRules.apart {H:Hp} {x a dx a' lg:Addr} {ms:List aD} (h:IsRules t H a ms) (hx:H x=some (.ins t.aX dx [("rules",.ref a'),("gone_rows",.ref lg)])):IsRules t (hid (λc=>c=x) H) a ms:=by
 obtain⟨d1,lm,as,ls,h1,h2,h3⟩:=h
 refine⟨d1,lm,as,ls,K62.apart hx h1 (λ_ _ _ z=>by cases z;simp),K62.apart hx h2 (λ_ _ _ z=>by cases z),h3.la,h3.ll,h3.nd,λi a l m e1 e2 e3=>?_⟩
 obtain⟨d2,rs,k1,k2,k3⟩:=h3.ob i a l m e1 e2 e3
 refine⟨d2,rs,K62.apart hx k1 (λ_ _ _ z=>by cases z;simp[mf]),K62.apart hx k2 (λ_ _ _ z=>by cases z),k3.mono λr R hr=>?_⟩
 obtain⟨d3,p,r1,d4,r2⟩:=hr
 refine⟨d3,p,K62.apart hx r1 (λ_ _ _ z=>by cases z;simp[rf]),d4,K62.apart hx r2 (λ_ _ _ z=>?_)⟩
 injection z with _ _ z
 rw[← z]
 have:=D9 R.sort R.signs
 intro z
 have z:(ly R.sort R.signs).length=2:=z
 lia
theorem dY.apart {H:Hp} {x g dx a' lg:Addr} {G:bQ} (h:dY t H g G) (hx:H x=some (.ins t.aX dx [("rules",.ref a'),("gone_rows",.ref lg)])):dY t (hid (λc=>c=x) H) g G:=by
 obtain⟨dg,lb,lt,lo,lk,e⟩:=h
 obtain⟨ps,k1,k2⟩:=e.lk
 exact⟨dg,lb,lt,lo,lk,K62.apart hx e.ob (λ_ _ _ z=>by cases z;simp[gf]),K62.apart hx e.lb (λ_ _ _ z=>by cases z),K62.apart hx e.lt (λ_ _ _ z=>by cases z),K62.apart hx e.lo (λ_ _ _ z=>by cases z),ps,K62.apart hx k1 (λ_ _ _ z=>by cases z),k2.mono λp m h=>K62.apart hx h (λ_ _ _ z=>by cases z)⟩
structure i9(ms:List aD)(Gs:List bQ)(i k:Nat)(fs:List Str)(ah bk:Nat)(Gm:List bQ)(c:Nat)(Gs':List bQ):Prop where
 le:i+k<=Gs.length
 eah:ah=dP (((Gs.map (·.row)).drop i).take k) fs
 ebk:bk=dP ((((Gs.map (·.row)).drop i).take k).drop ah).reverse (fs.drop ah).reverse
 mid:Chain ms (jg [0] (Gs.take (i+ah))) ((fs.drop ah).take (fs.length-bk-ah)) Gm
 on:nO ms (Gs.take (i+ah)++Gm++Gs.drop (i+k-bk)) (i+ah+Gm.length) c Gs'
theorem i9.small{ms:List aD}{Gs:List bQ}{i k:Nat}{fs:List Str}{ah bk:Nat}{Gm:List bQ}{c:Nat}{Gs':List bQ}(h:i9 ms Gs i k fs ah bk Gm c Gs'):ah<=k/\ah<=fs.length/\ah+bk<=k/\ah+bk<=fs.length/\Gm.length=fs.length-bk-ah:=by
 have h1:=kI (((Gs.map (·.row)).drop i).take k) fs
 have h2:=kI ((((Gs.map (·.row)).drop i).take k).drop ah).reverse (fs.drop ah).reverse
 have h3:=h.mid.len
 have h4:=h.le
 rw[← h.eah,List.length_take,List.length_drop,List.length_map] at h1
 rw[← h.ebk,List.length_reverse,List.length_reverse,List.length_drop,List.length_drop,List.length_take,List.length_drop,List.length_map] at h2
 rw[List.length_take,List.length_drop] at h3
 lia
theorem bI.take{α β:Type}{R:α->β->Prop}{xs:List α}{ys:List β}(h:bI R xs ys)(n:Nat):bI R (xs.take n) (ys.take n):=by
 refine⟨by rw[List.length_take,List.length_take,h.1],λi a b ha hb=>?_⟩
 rw[List.getElem?_take] at ha hb
 by_cases e:i<n
 ·rw[if_pos e] at ha hb;exact h.2 i a b ha hb
 ·rw[if_neg e] at ha;cases ha
theorem bI.drop{α β:Type}{R:α->β->Prop}{xs:List α}{ys:List β}(h:bI R xs ys)(n:Nat):bI R (xs.drop n) (ys.drop n):=by
 refine⟨by rw[List.length_drop,List.length_drop,h.1],λi a b ha hb=>?_⟩
 rw[List.getElem?_drop] at ha hb
 exact h.2 _ a b ha hb
theorem bI.append{α β:Type}{R:α->β->Prop}{xs xs':List α}{ys ys':List β}(h:bI R xs ys)(h':bI R xs' ys'):bI R (xs++xs') (ys++ys'):=by
 refine⟨by rw[List.length_append,List.length_append,h.1,h'.1],λi a b ha hb=>?_⟩
 have e:=h.1
 by_cases hi:i<xs.length
 ·rw[List.getElem?_append_left hi] at ha
  rw[List.getElem?_append_left (by lia)] at hb
  exact h.2 i a b ha hb
 ·rw[List.getElem?_append_right (by lia)] at ha
  rw[List.getElem?_append_right (by lia),← e] at hb
  exact h'.2 _ a b ha hb
theorem zR{S S':Addr->Prop}{H:Hp}:aj (hid S' (hid S H)) (hid (λc=>S c∨S' c) H):=λb o h=>by
 have h1:=bY h
 have h2:=aB _ _ h
 exact bf (aB _ _ h2) (λz=>z.elim (bY h2) h1)
abbrev Aa4(t:fE)(vs:List V)(H:Hp)(Q:VK)(S:Addr->Prop)(x dx a lg lr:Addr)(gs:List Addr)(ms:List aD)(Gs:List bQ)(i k:Nat)(fs:List Str)(ah bk:Nat)(Gm:List bQ)(c:Nat)(Gs':List bQ):Prop:=Gs.length<=50000/\fs.length<=50000/\(k=Gs.length->fs≠[])/\i9 ms Gs i k fs ah bk Gm c Gs'/\∀lg' gs' H',b8 t (hid S H') x dx a lg' gs' ms Gs'->H lg'=none->gw H H' x->Q (.int ((Gm.length+c:Nat):Int)) H'
abbrev ab3(t:fE)(vs:List V)(H:Hp)(Q:VK)(S:Addr->Prop)(x dx a lg lr:Addr)(gs:List Addr)(ms:List aD)(Gs:List bQ)(i k:Nat)(fs:List Str)(ah bk:Nat)(Gm:List bQ)(c:Nat)(Gs':List bQ):Prop:=vs=[.ref x,.int i,.int k,.ref lr]/\Ex S H/\b8 t (hid S H) x dx a lg gs ms Gs/\dz ms/\H lr=some (.lst (fs.map V.str))/\Aa4 t vs H Q S x dx a lg lr gs ms Gs i k fs ah bk Gm c Gs'
noncomputable def E6(t:fE):Sp:=λvs H Q _=>∃S x dx a lg lr gs ms Gs i k fs ah bk Gm c Gs',ab3 t vs H Q S x dx a lg lr gs ms Gs i k fs ah bk Gm c Gs'
theorem Gu (T:Txt K mg t):bD P w K mg base dw 8 t.Cs t.Km ["self","row","many","rows"] (E6 t):=by
 refine T.Ds.m nW λvs H Q E h=>?_
 ·obtain⟨S,x,dx,a,lg,lr,gs,ms,Gs,i,k,fs,ah,bk,Gm,c,Gs',rfl,hES,IS,GM_,hlr,hl1,hl2,hne,C,q⟩:=h
  walk_at "i"
  have I:=IS.same aB
  have hxS:¬ S x:=bY IS.ob
  obtain⟨b1,b2,b3,b4,b5⟩:=C.small
  have hle:=C.le
  have hgl:=I.go.1
  refine ao (bx (bF (pv 0) T.aQ T.Rz (Qs T) hr.m (T.LX.binds (by walk_at "3")) .nil aF (aa (pv 1) (aa (pv 2) ai)))) ⟨_,rfl,x,dx,_,rfl,I.ob,rfl,_,rfl,_,rfl,x,dx,a,lg,gs,i,k,rfl,I.ob,I.lg,(by lia),?_⟩
  refine aS (λZ' H'=>H'=H/\Z'=[some (.ref x),some (.int i),some (.int k),some (.ref lr),none,none,none,none,none]) (bK (PW.pt (iz (aE ez (pv 2) (aN bh (by rfl) T.cy (by decide +kernel) (aa (aK (pv 0) rfl) ai)) (aI _)) (fV (jb (jj (pv 3) (λ_=>rfl)))))) aA aA) ?_ ?_
  ·refine⟨_,rfl,⟨_,rfl,_,_,_,_,_,rfl,I.ob,T.aQ,T.aT,rfl,⟨_,_,rfl,.inl (bg.of I.lg),rfl,_,rfl,fq (λh=>?_) (λh=>bG ⟨rfl,rfl⟩)⟩⟩⟩
   have hk:k=Gs.length:=by
    injection h with h
    rw[List.length_map] at h
    lia
   have hf:=hne hk
   refine⟨_,rfl,true,.inl ⟨_,bg.of hlr,?_⟩,yP (c:=false) rfl (bG ⟨rfl,rfl⟩)⟩
   cases fs with
   |nil=>exact absurd rfl hf
   |cons _ _=>rfl
  rintro Z' H' ⟨eH,eZ⟩
  rw[eH,eZ]
  clear eH eZ Z' H'
  refine ao (cS 4 nW (cT gS (bN (pv 0) T.aQ T.tS (nE T) hr.m (T.qX.binds (by walk_at "1")) .nil aF) (cM (pv 1)) (cM (aM bO (pv 1) (pv 2))))) ⟨_,rfl,x,dx,_,rfl,I.ob,rfl,x,dx,a,lg,gs,ms,Gs,rfl,I,(by lia),λl1 H1 h1 f1 s1=>?_⟩
  obtain⟨tk,htk⟩:∃tk,tk=((Gs.map (·.row)).drop i).take k:=⟨_,rfl⟩
  have ea:ah=dP tk fs:=by rw[htk];exact C.eah
  have eb:bk=dP (tk.drop ah).reverse (fs.drop ah).reverse:=by rw[htk];exact C.ebk
  have htl:tk.length=k:=by rw[htk,List.length_take,List.length_drop,List.length_map];lia
  refine⟨_,rfl,_,rfl,_,rfl,_,rfl,_,_,rfl,rfl,_,rfl,l1,_,rfl,bg.of h1,λl2 f2=>?_⟩
  have e2:cz ((Gs.map (·.row)).map V.str) (some (i:Int)) (some ((i:Int)+(k:Int)))=tk.map V.str:=by
   rw[← Int.natCast_add,zC (by rw[List.length_map,List.length_map];lia) (by lia),htk,List.map_take,List.map_drop]
   congr 1
   lia
  have h2:upd H1 l2 (.lst (cz ((Gs.map (·.row)).map V.str) (some (i:Int)) (some ((i:Int)+(k:Int))))) l2=some (.lst (tk.map V.str)):=by rw[af,e2]
  have s2:aj H (upd H1 l2 (.lst (cz ((Gs.map (·.row)).map V.str) (some (i:Int)) (some ((i:Int)+(k:Int)))))):=s1.trans (aj.upd f2)
  generalize upd H1 l2 (.lst (cz ((Gs.map (·.row)).map V.str) (some (i:Int)) (some ((i:Int)+(k:Int)))))=H2 at h2 s2
  refine ao (cS 5 nW (aW (CT T) hr.m rfl T.D4 T.vJ.kp (T.vJ.binds (by walk_at "2")) .nil aF (aa (pv 4) (aa (pv 3) ai)))) ⟨_,rfl,_,rfl,l2,lr,tk,fs,rfl,h2,s2 _ _ hlr,λH3 s3'=>?_⟩
  rw[← ea]
  have s3:=s2.trans s3'
  refine ao (cS 6 nW (aW (Qw T) hr.m rfl T.OR T.DA.kp (T.DA.binds (by walk_at "2")) .nil aF (aa (cT gS (pv 4) (cM (pv 5)) gj) (aa (cT gS (pv 3) (cM (pv 5)) gj) ai)))) ⟨_,rfl,_,rfl,_,rfl,l2,_,rfl,bg.of (s3' _ _ h2),λl4 f4=>⟨_,rfl,_,rfl,_,rfl,lr,_,rfl,bg.of (aj.upd f4 _ _ (s3 _ _ hlr)),λl5 f5=>⟨l4,l5,tk.drop ah,fs.drop ah,rfl,?_,?_,λH6 s6=>?_⟩⟩⟩
  ·rw[aj.upd f5 _ _ af,qV (by rw[List.length_map];lia),List.map_drop]
  ·rw[af,qV (by rw[List.length_map];lia),List.map_drop]
  rw[← eb]
  have s6:aj H H6:=((s3.trans (aj.upd f4)).trans (aj.upd f5)).trans s6
  refine aS (λZ' H'=>H'=H6/\Z'=[some (.ref x),some (.int i),some (.int k),some (.ref lr),some (.ref l2),some (.int ah),some (.int bk),some (.int ((i+ah:Nat):Int)),none]) (cS 7 nW (aM bO (pv 1) (pv 5))) ⟨_,rfl,_,rfl,_,_,rfl,rfl,rfl,rfl⟩ ?_
  rintro Z' H' ⟨eH,eZ⟩
  rw[eH,eZ]
  clear eH eZ Z' H'
  have hx6:=s6 _ _ I.ob
  have hlg6:=s6 _ _ I.lg
  have hlr6:=s6 _ _ hlr
  have hx6S:=(aO (S:=S) s6) _ _ IS.ob
  have hR6:IsRules t (hid (λc=>S c∨c=x) H6) a ms:=((IS.ru.same (aO s6)).apart hx6S).same zR
  have hA6:bI (dY t (hid (λc=>S c∨c=x) H6)) gs Gs:=IS.go.mono λ_ _ z=>((z.same (aO s6)).apart hx6S).same zR
  have hE6:Ex (λc=>S c∨c=x) H6:=λb hb=>by
   rcases hb with hb|hb
   ·exact(hES.same s6) b hb
   ·rw[hb];exact⟨_,hx6⟩
  refine ao (cS 8 nW (bF (pv 0) T.aQ T.Ka (E2 T) hr.m (T.DG.binds (by walk_at "3")) .nil aF (aa (bF (pv 0) T.aQ T.CH (xw T) hr.m (T.yW.binds (by walk_at "2")) .nil aF (aa (pv 7) ai)) (aa (cT gS (pv 3) (cM (pv 5)) (cM (aM eu (aN bh (by rfl) T.cy (by decide +kernel) (aa (pv 3) ai)) (pv 6)))) ai)))) ⟨_,rfl,x,dx,_,rfl,hx6,rfl,_,rfl,x,dx,_,rfl,hx6,rfl,_,rfl,x,dx,a,lg,gs,λc=>S c∨c=x,Gs,i+ah,rfl,hx6,hlg6,hA6,hE6,(by lia),λlb H7 hb7 s7=>?_⟩
  refine⟨_,rfl,_,rfl,_,rfl,_,rfl,_,_,rfl,.inl (bg.of (s7 _ _ hlr6)),_,rfl,_,_,rfl,rfl,_,rfl,lr,_,rfl,bg.of (s7 _ _ hlr6),λl8 f8=>?_⟩
  have e8:cz (fs.map V.str) (some (ah:Int)) (some (((fs.map V.str).length:Int)-(bk:Int)))=((fs.drop ah).take (fs.length-bk-ah)).map V.str:=by
   rw[List.length_map,show ((fs.length:Int)-(bk:Int))=((fs.length-bk:Nat):Int) by lia,zC (by rw[List.length_map];lia) (by lia),List.map_take,List.map_drop]
  have h8:upd H7 l8 (.lst (cz (fs.map V.str) (some (ah:Int)) (some (((fs.map V.str).length:Int)-(bk:Int))))) l8=some (.lst (((fs.drop ah).take (fs.length-bk-ah)).map V.str)):=by rw[af,e8]
  have s8:aj H6 (upd H7 l8 (.lst (cz (fs.map V.str) (some (ah:Int)) (some (((fs.map V.str).length:Int)-(bk:Int)))))):=s7.trans (aj.upd f8)
  have hb8:=(aO (S:=λc=>S c∨c=x) (aj.upd (o:=.lst (cz (fs.map V.str) (some (ah:Int)) (some (((fs.map V.str).length:Int)-(bk:Int))))) f8)) _ _ hb7
  generalize upd H7 l8 (.lst (cz (fs.map V.str) (some (ah:Int)) (some (((fs.map V.str).length:Int)-(bk:Int)))))=H8 at h8 s8 hb8
  refine⟨x,dx,a,lb,l8,λc=>S c∨c=x,_,ms,_,_,Gm,rfl,s8 _ _ hx6,rfl,(hR6.same aB).same s8,GM_,hb8,hE6.same s8,h8,(by rw[List.length_take,List.length_drop];lia),C.mid,λlm gm H9 hm9 hA9 f9 s9=>?_⟩
  have s9:aj H6 H9:=s8.trans s9
  have hx9:=s9 _ _ hx6
  have hlg9:=s9 _ _ hlg6
  have hgm:gm.length=Gm.length:=hA9.1
  refine ao (bW (pv 0) (aM gE (aM gE (cT gS (aK (pv 0) rfl) gj (cM (pv 7))) (pv 8)) (cT gS (aK (pv 0) rfl) (cM (aM eu (aM bO (pv 1) (pv 2)) (pv 6))) gj)) rfl) (⟨_,rfl,_,_,_,_,_,rfl,hx9,T.aQ,T.aT,rfl,⟨_,rfl,_,rfl,lg,_,rfl,bg.of hlg9,λp1 g1=>?_⟩⟩)
  have z1:(gs.map V.ref).length=Gs.length:=by rw[List.length_map];exact hgl
  have z2:(gm.map V.ref).length=Gm.length:=by rw[List.length_map];exact hgm
  have c1:cz (gs.map V.ref) none (some ((i+ah:Nat):Int))=(gs.take (i+ah)).map V.ref:=by
   rw[Bw (by rw[z1];lia),List.map_take]
  have c2:cz (gs.map V.ref) (some ((i:Int)+(k:Int)-(bk:Int))) none=(gs.drop (i+k-bk)).map V.ref:=by
   rw[show ((i:Int)+(k:Int)-(bk:Int))=((i+k-bk:Nat):Int) by lia,qV (by rw[z1];lia),List.map_drop]
  have sz:=sizeLine_eq
  refine⟨_,rfl,p1,lm,_,_,rfl,rfl,af,aj.upd g1 _ _ hm9,(by rw[c1,z2,List.length_map,List.length_take];lia),λp2 g2=>?_⟩
  refine⟨_,rfl,_,_,_,_,_,rfl,(aj.upd g2 _ _ (aj.upd g1 _ _ hx9)),T.aQ,T.aT,rfl,?_⟩
  refine⟨_,rfl,_,rfl,_,_,rfl,rfl,_,rfl,_,_,rfl,rfl,_,rfl,lg,_,rfl,bg.of (aj.upd g2 _ _ (aj.upd g1 _ _ hlg9)),λp3 g3=>?_⟩
  refine⟨p2,p3,_,_,rfl,rfl,aj.upd g3 _ _ af,af,?_,λlg' g4=>?_⟩
  ·rw[List.length_append,c1,c2,z2,List.length_map,List.length_map,List.length_take,List.length_drop];exact Tp (by lia)
  have e10:cz (gs.map V.ref) none (some ((i+ah:Nat):Int))++gm.map V.ref++cz (gs.map V.ref) (some ((i:Int)+(k:Int)-(bk:Int))) none=(gs.take (i+ah)++gm++gs.drop (i+k-bk)).map V.ref:=by
   rw[c1,c2,List.map_append,List.map_append]
  have s10:aj H9 (upd (upd (upd H9 p1 (.lst (cz (gs.map V.ref) none (some ((i+ah:Nat):Int))))) p2 (.lst (cz (gs.map V.ref) none (some ((i+ah:Nat):Int))++gm.map V.ref))) p3 (.lst (cz (gs.map V.ref) (some ((i:Int)+(k:Int)-(bk:Int))) none))):=((aj.upd g1).trans (aj.upd g2)).trans (aj.upd g3)
  revert g4
  show upd (upd (upd H9 p1 (.lst (cz (gs.map V.ref) none (some ((i+ah:Nat):Int))))) p2 (.lst (cz (gs.map V.ref) none (some ((i+ah:Nat):Int))++gm.map V.ref))) p3 (.lst (cz (gs.map V.ref) (some ((i:Int)+(k:Int)-(bk:Int))) none)) lg'=none->_
  generalize upd (upd (upd H9 p1 (.lst (cz (gs.map V.ref) none (some ((i+ah:Nat):Int))))) p2 (.lst (cz (gs.map V.ref) none (some ((i+ah:Nat):Int))++gm.map V.ref))) p3 (.lst (cz (gs.map V.ref) (some ((i:Int)+(k:Int)-(bk:Int))) none))=HA at s10
  intro g4
  have hx10:=s10 _ _ hx9
  refine⟨_,rfl,x,_,dx,_,rfl,aj.upd g4 _ _ hx10,T.aQ,T.aT,(by show 2<1000;decide),?_⟩
  have hxl:x≠lg':=au hx10 g4
  have hxB:upd (upd HA lg' (.lst (cz (gs.map V.ref) none (some ((i+ah:Nat):Int))++gm.map V.ref++cz (gs.map V.ref) (some ((i:Int)+(k:Int)-(bk:Int))) none))) x (.ins t.aX dx (cX "gone_rows" (.ref lg') [("rules",.ref a),("gone_rows",.ref lg)])) x=some (.ins t.aX dx [("rules",.ref a),("gone_rows",.ref lg')]):=af
  have hlB:upd (upd HA lg' (.lst (cz (gs.map V.ref) none (some ((i+ah:Nat):Int))++gm.map V.ref++cz (gs.map V.ref) (some ((i:Int)+(k:Int)-(bk:Int))) none))) x (.ins t.aX dx (cX "gone_rows" (.ref lg') [("rules",.ref a),("gone_rows",.ref lg)])) lg'=some (.lst ((gs.take (i+ah)++gm++gs.drop (i+k-bk)).map V.ref)):=by
   rw[ak (Ne.symm hxl),af,e10]
  have kB:∀b o,HA b=some o->b≠x->upd (upd HA lg' (.lst (cz (gs.map V.ref) none (some ((i+ah:Nat):Int))++gm.map V.ref++cz (gs.map V.ref) (some ((i:Int)+(k:Int)-(bk:Int))) none))) x (.ins t.aX dx (cX "gone_rows" (.ref lg') [("rules",.ref a),("gone_rows",.ref lg)])) b=some o:=λb o hb nb=>by
   rw[ak nb,ak (au hb g4)];exact hb
  show At _ _ _ _ (upd (upd HA lg' (.lst (cz (gs.map V.ref) none (some ((i+ah:Nat):Int))++gm.map V.ref++cz (gs.map V.ref) (some ((i:Int)+(k:Int)-(bk:Int))) none))) x (.ins t.aX dx (cX "gone_rows" (.ref lg') [("rules",.ref a),("gone_rows",.ref lg)])))
  generalize upd (upd HA lg' (.lst (cz (gs.map V.ref) none (some ((i+ah:Nat):Int))++gm.map V.ref++cz (gs.map V.ref) (some ((i:Int)+(k:Int)-(bk:Int))) none))) x (.ins t.aX dx (cX "gone_rows" (.ref lg') [("rules",.ref a),("gone_rows",.ref lg)]))=HB at hxB hlB kB
  have s9A:aj H9 HA:=s10
  have hmA:=s9A _ _ hm9
  have nmx:lm≠x:=bL hm9 hx9 (by intro z;cases z)
  have hmB:=kB _ _ hmA nmx
  have sB:aj (hid (λc=>S c∨c=x) H9) (hid (λc=>(S c∨c=x)∨c=lg') HB):=λb o hb=>by
   have nb:=bY (S:=λc=>S c∨c=x) hb
   have hbA:=s9A _ _ (aB _ _ hb)
   refine bf (kB b o hbA (λz=>nb (.inr z))) λz=>?_
   rcases z with z|z
   ·exact nb z
   ·exact au hbA g4 z
  have hE:Ex (λc=>(S c∨c=x)∨c=lg') HB:=λb hb=>by
   rcases hb with (z|z)|z
   ·obtain⟨o,ho⟩:=(((hES.same s6).same s9).same s9A) b z
    exact⟨o,kB b o ho (λy=>hxS (by rw[← y];exact z))⟩
   ·rw[z];exact⟨_,hxB⟩
   ·rw[z];exact⟨_,hlB⟩
  have hR9:IsRules t (hid (λc=>S c∨c=x) H9) a ms:=hR6.same (aO s9)
  have hG9:bI (dY t (hid (λc=>S c∨c=x) H9)) gs Gs:=hA6.mono λ_ _ z=>z.same (aO s9)
  have hGG:bI (dY t (hid (λc=>(S c∨c=x)∨c=lg') HB)) (gs.take (i+ah)++gm++gs.drop (i+k-bk)) (Gs.take (i+ah)++Gm++Gs.drop (i+k-bk)) :=
   (((hG9.take (i+ah)).append hA9).append (hG9.drop (i+k-bk))).mono λ_ _ z=>z.same sB
  refine ay (aJ (aM bO (aN bh (by rfl) T.cy (by decide +kernel) (aa (pv 8) ai)) (bF (pv 0) T.aQ T.S5 (OM T) hr.m (T.Jt.binds (by walk_at "2")) .nil aF (aa (aM bO (pv 7) (aN bh (by rfl) T.cy (by decide +kernel) (aa (pv 8) ai))) ai)))) ⟨_,rfl,_,_,rfl,.inl (bg.of hmB),?_⟩
  refine⟨_,rfl,x,dx,_,rfl,hxB,rfl,_,rfl,_,rfl,_,_,rfl,.inl (bg.of hmB),_,_,rfl,rfl,x,dx,a,lg',_,λc=>(S c∨c=x)∨c=lg',ms,_,Gs',i+ah+Gm.length,c,?_,hxB,hR9.same sB,GM_,hlB,.inr rfl,hGG,hE,?_,C.on,λgs2 HC h1 h2 a2=>?_⟩
  ·rw[z2];rfl
  ·rw[List.length_append,List.length_append,List.length_take,List.length_drop];lia
  refine⟨_,_,rfl,rfl,?_⟩
  have hxC:=a2 _ _ hxB hxl
  have hlS:¬ S lg':=(((hES.same s6).same s9).same s9A).new g4
  have:=q lg' gs2 HC ⟨bf hxC hxS,(hR9.same sB).same (λb o hb=>bf (a2 _ _ (aB _ _ hb) (λz=>bY hb (.inr z))) (λz=>bY hb (.inl (.inl z)))),bf h1 hlS,h2.mono λ_ _ z=>z.same (wD λc hc=>.inl (.inl hc))⟩ ?_ ?_
  ·rw[Int.natCast_add,← z2] at this
   exact this
  ·exact((s6.trans s9).trans s9A).free g4
  ·intro b o hb nb
   have hbA:=((s6.trans s9).trans s9A) _ _ hb
   exact a2 _ _ (kB _ _ hbA nb) (au hbA g4)
theorem oB.one{ms:List aD}{G G':bQ}(h:oB ms G)(h':oB ms G')(e1:G.row=G'.row)(e2:G.before=G'.before):G=G':=by
 obtain⟨n,_,g⟩:=h.go
 obtain⟨m,_,g'⟩:=h'.go
 rw[← e1,← e2] at g'
 have x:=qI (Nat.le_max_left n m) g
 have y:=qI (Nat.le_max_right n m) g'
 rw[x] at y
 injection y with y
 cases G
 cases G'
 simp_all
theorem Chain.one{ms:List aD}:∀{b:List Nat} {rs:List Str} {Gs Gs':List bQ},Chain ms b rs Gs->Chain ms b rs Gs'->Gs=Gs'
 |_,[],[],[],_,_=>rfl
 |b,r::rs,G::Gs,G'::Gs',h,h'=>by
  have e:=h.2.2.1.one h'.2.2.1 (h.1.trans h'.1.symm) (h.2.1.trans h'.2.1.symm)
  subst e
  rw[Chain.one h.2.2.2 h'.2.2.2]
 |_,[],[],_::_,_,h=>h.elim
 |_,[],_::_,_,h,_=>h.elim
 |_,_::_,[],_,h,_=>h.elim
 |_,_::_,_::_,[],_,h=>h.elim
theorem Chain.split{ms:List aD}:∀{b:List Nat} {rs:List Str} {Gs:List bQ} (n:Nat),Chain ms b rs Gs->Chain ms b (rs.take n) (Gs.take n)/\Chain ms (jg b (Gs.take n)) (rs.drop n) (Gs.drop n)
 |_,rs,Gs,0,h=>⟨by rw[List.take_zero,List.take_zero];trivial,h⟩
 |_,[],[],n+1,h=>⟨trivial,trivial⟩
 |b,r::rs,G::Gs,n+1,h=>by
  obtain⟨h1,h2,h3,h4⟩:=h
  obtain⟨k1,k2⟩:=Chain.split n h4
  exact⟨⟨h1,h2,h3,k1⟩,k2⟩
 |_,[],_::_,_+1,h=>h.elim
 |_,_::_,[],_+1,h=>h.elim
theorem Chain.at{ms:List aD}{b:List Nat}{rs:List Str}{Gs:List bQ}{j:Nat}{G:bQ}(h:Chain ms b rs Gs)(hG:Gs[j]?=some G):rs[j]?=some G.row/\G.before=jg b (Gs.take j)/\oB ms G:=by
 have k:=(h.split j).2
 rw[gr hG] at k
 cases e:rs.drop j with
 |nil=>rw[e] at k;exact k.elim
 |cons r t=>
  rw[e] at k
  refine⟨?_,k.2.1,k.2.2.1⟩
  have:=congrArg (λl=>l[0]?) e
  simp only[List.getElem?_drop,Nat.add_zero,List.getElem?_cons_zero] at this
  rw[this,k.1]
def iD:List bQ->List bQ->Nat
 |A::As,B::Bs=>if A.before=B.before then 0 else iD As Bs+1
 |_,_=>0
theorem zp:∀(As Bs:List bQ),iD As Bs<=As.length/\iD As Bs<=Bs.length
 | [],_=>⟨Nat.zero_le _,Nat.zero_le _⟩
 |_::_,[]=>⟨Nat.zero_le _,Nat.zero_le _⟩
 |A::As,B::Bs=>by
  have h:=zp As Bs
  rw[iD]
  by_cases e:A.before=B.before
  ·rw[if_pos e];exact⟨Nat.zero_le _,Nat.zero_le _⟩
  ·rw[if_neg e,List.length_cons,List.length_cons];lia
theorem yZ:∀{As Bs:List bQ} {j:Nat} {A B:bQ},j<iD As Bs->As[j]?=some A->Bs[j]?=some B->A.before≠B.before
 |A::As,B::Bs,0,A',B',h,h1,h2=>by
  cases h1;cases h2
  rw[iD] at h
  intro e
  rw[if_pos e] at h
  exact Nat.lt_irrefl _ h
 |A::As,B::Bs,j+1,A',B',h,h1,h2=>by
  rw[iD] at h
  by_cases e:A.before=B.before
  ·rw[if_pos e] at h;exact absurd h (Nat.not_lt_zero _)
  ·rw[if_neg e] at h
   exact yZ (As:=As) (Bs:=Bs) (j:=j) (by lia) (by simpa using h1) (by simpa using h2)
 | [],_,j,_,_,h,_,_=>by rw[iD] at h;exact absurd h (Nat.not_lt_zero _);intros;simp_all
 |_::_,[],j,_,_,h,_,_=>by rw[iD] at h;exact absurd h (Nat.not_lt_zero _);intros;simp_all
theorem tZ:∀{As Bs:List bQ} {A B:bQ},As[iD As Bs]?=some A->Bs[iD As Bs]?=some B->A.before=B.before
 |A::As,B::Bs,A',B',h1,h2=>by
  rw[iD] at h1 h2
  by_cases e:A.before=B.before
  ·rw[if_pos e] at h1 h2
   cases h1;cases h2
   exact e
  ·rw[if_neg e] at h1 h2
   exact tZ (As:=As) (Bs:=Bs) (by simpa using h1) (by simpa using h2)
 | [],_,_,_,h1,_=>by simp at h1
 |_::_,[],_,_,_,h2=>by simp at h2
theorem A9{ms:List aD}{b b':List Nat}{rs:List Str}{As Bs:List bQ}(hA:Chain ms b rs As)(hB:Chain ms b' rs Bs):As.drop (iD As Bs)=Bs.drop (iD As Bs):=by
 have l1:=hA.len
 have l2:=hB.len
 by_cases hc:iD As Bs<As.length
 ·obtain⟨A,eA⟩:∃A,As[iD As Bs]?=some A:=⟨_,List.getElem?_eq_getElem hc⟩
  obtain⟨B,eB⟩:∃B,Bs[iD As Bs]?=some B:=⟨_,List.getElem?_eq_getElem (by lia)⟩
  have e:=tZ eA eB
  rw[(hA.at eA).2.1,(hB.at eB).2.1] at e
  have k1:=(hA.split (iD As Bs)).2
  have k2:=(hB.split (iD As Bs)).2
  rw[e] at k1
  exact k1.one k2
 ·rw[List.drop_eq_nil_of_le (by lia),List.drop_eq_nil_of_le (by lia)]
theorem TH{i f k b g g':Nat}(h:i+k<=g)(e:g'=i+f+(g-(i+k)))(hf:b<=f)(hk:b<=k):g'-(i+f-b)=g-(i+k-b):=by lia
theorem Tv{i f k b g g':Nat}(h:i+k<=g)(e:g'=i+f+(g-(i+k)))(hf:b<=f)(hk:b<=k):g'=i+f-b+(g-(i+k-b)):=by lia
theorem ar2{a b k:Nat}(h:a+b<=k):a+(k-a-b)=k-b:=by lia
theorem ar3{i k b:Nat}:i+k-b-i=k-b:=by lia
theorem ar4{i a b f:Nat}(h:a+b<=f):i+a+(f-b-a)=i+f-b:=by lia
theorem ar5{i a b f n:Nat}(h:a+b<=f)(h2:i+f<=n):min (f-b-a) (n-(i+a))=f-b-a:=by lia
theorem qN{ms:List aD}{Gs Gs':List bQ}{rs fs:List Str}{i k:Nat}(hC:Chain ms [0] rs Gs)(hle:i+k<=rs.length)(hC':Chain ms [0] (rs.take i++fs++rs.drop (i+k)) Gs') :
  ∃ah bk Gm c,i9 ms Gs i k fs ah bk Gm c Gs'/\ah=dP ((rs.drop i).take k) fs/\bk=dP (((rs.drop i).take k).drop ah).reverse (fs.drop ah).reverse/\Gm.length=fs.length-bk-ah/\c=iD (Gs'.drop (i+fs.length-bk)) (Gs.drop (i+k-bk))/\ah+bk<=k/\ah+bk<=fs.length:=by
 have hr:=hC.rows
 have hl:=hC.len
 have hl':=hC'.len
 obtain⟨tk,htk⟩:∃tk,tk=(rs.drop i).take k:=⟨_,rfl⟩
 have htl:tk.length=k:=by rw[htk,List.length_take,List.length_drop];lia
 obtain⟨ah,ea⟩:∃ah,ah=dP tk fs:=⟨_,rfl⟩
 obtain⟨bk,eb⟩:∃bk,bk=dP (tk.drop ah).reverse (fs.drop ah).reverse:=⟨_,rfl⟩
 have a1:=kI tk fs
 have a2:=kI (tk.drop ah).reverse (fs.drop ah).reverse
 rw[← ea] at a1
 rw[← eb,List.length_reverse,List.length_reverse,List.length_drop,List.length_drop] at a2
 have hF:ah+bk<=fs.length:=by lia
 have hK:ah+bk<=k:=by lia
 have hiK:i+ah<=rs.length:=Nat.le_trans (Nat.add_le_add_left (Nat.le_trans (Nat.le_add_right _ _) hK) i) hle
 have t1:tk.take ah=fs.take ah:=by rw[ea];exact mw tk fs
 have t2:(tk.drop ah).reverse.take bk=(fs.drop ah).reverse.take bk:=by rw[eb];exact mw _ _
 have t3:tk.drop (k-bk)=fs.drop (fs.length-bk):=by
  have:=congrArg List.reverse t2
  rw[List.reverse_take,List.reverse_take,List.reverse_reverse,List.reverse_reverse,List.length_reverse,List.length_reverse,List.length_drop,List.length_drop,List.drop_drop,List.drop_drop,htl] at this
  rw[show ah+(k-ah-bk)=k-bk from ar2 hK,show ah+(fs.length-ah-bk)=fs.length-bk from ar2 hF] at this
  exact this
 have hdk:(rs.drop i).drop k=rs.drop (i+k):=List.drop_drop
 have hri:rs.drop i=tk++rs.drop (i+k):=by rw[htk,← hdk,List.take_append_drop]
 have hrs:rs=rs.take i++(tk++rs.drop (i+k)):=by rw[← hri,List.take_append_drop]
 have hil:(rs.take i).length=i:=by rw[List.length_take];lia
 have e1:(rs.take i++fs++rs.drop (i+k)).take (i+ah)=rs.take (i+ah):=by
  conv=>rhs;rw[hrs]
  rw[List.append_assoc]
  conv=>lhs;rw[List.take_append,hil,List.take_of_length_le (by rw[hil];lia),show i+ah-i=ah by lia,List.take_append_of_le_length a1.2]
  conv=>rhs;rw[List.take_append,hil,List.take_of_length_le (by rw[hil];lia),show i+ah-i=ah by lia,List.take_append_of_le_length (by lia)]
  rw[t1]
 have e2:(rs.take i++fs++rs.drop (i+k)).drop (i+fs.length-bk)=rs.drop (i+k-bk):=by
  conv=>rhs;rw[hrs]
  rw[List.append_assoc]
  conv=>lhs;rw[List.drop_append,hil,List.drop_of_length_le (by rw[hil];lia),show i+fs.length-bk-i=fs.length-bk from ar3,List.drop_append_of_le_length (by lia)]
  conv=>rhs;rw[List.drop_append,hil,List.drop_of_length_le (by rw[hil];lia),show i+k-bk-i=k-bk from ar3,List.drop_append_of_le_length (by rw[htl];exact Nat.sub_le _ _)]
  rw[t3]
 have e3:((rs.take i++fs++rs.drop (i+k)).drop (i+ah)).take (fs.length-bk-ah)=(fs.drop ah).take (fs.length-bk-ah):=by
  rw[List.append_assoc,List.drop_append,hil,List.drop_of_length_le (by rw[hil];exact Nat.le_add_right _ _),show i+ah-i=ah from Nat.add_sub_cancel_left ..,List.drop_append_of_le_length a1.2,List.nil_append,List.take_append_of_le_length (by rw[List.length_drop];lia)]
 obtain⟨p1,p2⟩:=hC.split (i+ah)
 obtain⟨p1',p2'⟩:=hC'.split (i+ah)
 rw[e1] at p1'
 have eG:=p1.one p1'
 obtain⟨m1,_⟩:=p2'.split (fs.length-bk-ah)
 rw[e3,← eG] at m1
 obtain⟨_,q1⟩:=hC.split (i+k-bk)
 obtain⟨_,q1'⟩:=hC'.split (i+fs.length-bk)
 rw[e2] at q1'
 have hlr:(rs.take i++fs++rs.drop (i+k)).length=i+fs.length+(rs.length-(i+k)):=by rw[List.length_append,List.length_append,hil,List.length_drop]
 rw[hlr] at hl'
 have lm:((Gs'.drop (i+ah)).take (fs.length-bk-ah)).length=fs.length-bk-ah:=by rw[List.length_take,List.length_drop];exact ar5 hF (by rw[hl'];exact Nat.le_add_right _ _)
 have en:i+ah+(fs.length-bk-ah)=i+fs.length-bk:=ar4 hF
 have lt:(Gs.take (i+ah)).length=i+ah:=by rw[List.length_take];exact Nat.min_eq_left (by rw[hl];exact hiK)
 have lG1:(Gs.take (i+ah)++(Gs'.drop (i+ah)).take (fs.length-bk-ah)).length=i+fs.length-bk:=by rw[List.length_append,lm,lt];exact en
 have eG1:Gs.take (i+ah)++(Gs'.drop (i+ah)).take (fs.length-bk-ah)=Gs'.take (i+fs.length-bk):=by
  rw[eG,← en]
  exact List.take_add.symm
 have dl:=zp (Gs'.drop (i+fs.length-bk)) (Gs.drop (i+k-bk))
 rw[List.length_drop,List.length_drop] at dl
 have dd:=A9 q1' q1
 refine⟨ah,bk,(Gs'.drop (i+ah)).take (fs.length-bk-ah),_,⟨by rw[hl];exact hle,by rw[hr,← htk];exact ea,by rw[hr,← htk];exact eb,m1,?_⟩,by rw[← htk];exact ea,by rw[← htk];exact eb,lm,rfl,hK,hF⟩
 rw[lm,en,eG1]
 have hle2:i+k<=Gs.length:=by rw[hl];exact hle
 have hl2:Gs'.length=i+fs.length+(Gs.length-(i+k)):=by rw[hl];exact hl'
 have hF2:bk<=fs.length:=Nat.le_trans (Nat.le_add_left _ _) hF
 have hK2:bk<=k:=Nat.le_trans (Nat.le_add_left _ _) hK
 have hGl:=Tv hle2 hl2 hF2 hK2
 have hGd:=TH hle2 hl2 hF2 hK2
 have lT:(Gs'.take (i+fs.length-bk)).length=i+fs.length-bk:=by rw[List.length_take];exact Nat.min_eq_left (by rw[hGl];exact Nat.le_add_right _ _)
 refine⟨?_,?_,λj hj=>?_,λj hj=>?_,λj h1 h2=>?_,λG hG=>?_⟩
 ·rw[List.length_append,lT,List.length_drop];first | exact hGl | exact hGl.symm | lia
 ·rw[List.length_append,lT,List.length_drop];first | exact hGl | exact hGl.symm | lia
 ·rw[List.getElem?_append_left (by lia),List.getElem?_take,if_pos hj]
 ·rw[List.getElem?_append_right (by lia),lT]
  have:=congrArg (λl=>l[j-(i+fs.length-bk)-iD (Gs'.drop (i+fs.length-bk)) (Gs.drop (i+k-bk))]?) dd
  simp only[List.getElem?_drop] at this
  rw[List.getElem?_drop]
  rw[show i+fs.length-bk+(iD (Gs'.drop (i+fs.length-bk)) (Gs.drop (i+k-bk))+(j-(i+fs.length-bk)-iD (Gs'.drop (i+fs.length-bk)) (Gs.drop (i+k-bk))))=j by lia] at this
  rw[this]
  congr 1
  lia
 ·obtain⟨d,rfl⟩:∃d,j=i+fs.length-bk+d:=⟨j-(i+fs.length-bk),by lia⟩
  obtain⟨A,hA⟩:∃A,Gs'[i+fs.length-bk+d]?=some A:=⟨_,List.getElem?_eq_getElem (by lia)⟩
  obtain⟨B,hB⟩:∃B,Gs[i+k-bk+d]?=some B:=⟨_,List.getElem?_eq_getElem (by lia)⟩
  have hA2:(Gs'.drop (i+fs.length-bk))[d]?=some A:=by rw[List.getElem?_drop];exact hA
  have hB2:(Gs.drop (i+k-bk))[d]?=some B:=by rw[List.getElem?_drop];exact hB
  obtain⟨x1,x2,x3⟩:=hC'.at hA
  obtain⟨y1,_,_⟩:=q1.at hB2
  obtain⟨w1,_,_⟩:=q1'.at hA2
  refine⟨B,A,?_,hA,?_,x2,?_,x3⟩
  ·rw[List.getElem?_append_right (by rw[lT];exact Nat.le_add_right _ _),lT,Nat.add_sub_cancel_left];exact hB2
  ·rw[y1] at w1
   injection w1 with w1
   exact w1.symm
  ·rw[← x2]
   exact λz=>yZ (by lia) hA2 hB2 z.symm
 ·rw[List.getElem?_append_right (by lia),lT,Nat.add_sub_cancel_left] at hG
  have hz:=(List.getElem?_eq_some_iff.mp hG).1
  rw[List.length_drop] at hz
  obtain⟨A,hA⟩:∃A,(Gs'.drop (i+fs.length-bk))[iD (Gs'.drop (i+fs.length-bk)) (Gs.drop (i+k-bk))]?=some A:=⟨_,List.getElem?_eq_getElem (by rw[List.length_drop,hGd];exact hz)⟩
  have e:=tZ hA hG
  rw[List.getElem?_drop] at hA
  rw[← e]
  exact(hC'.at hA).2.1
theorem mV(x:Str)(n:Nat):(PySem.Txt.slice x none (some (n:Int))).cps.toList=x.cps.toList.take n:=by
 by_cases h:n<=x.length
 ·have:=eq_of_beq (PyProof.Rows.slice_closes_toL (x:=x) (j:=(n:Int)) (by lia) (by lia))
  rw[this]
  simp
 ·have e:PySem.Txt.slice x none (some (n:Int))=PySem.Txt.slice x none (some (x.length:Int)):=by
   have e2:PySem.Builtin.Str.strSliceIndices none (some (n:Int)) 1 x.length=PySem.Builtin.Str.strSliceIndices none (some (x.length:Int)) 1 x.length:=by
    have h0:¬ ((n:Int)<0):=by lia
    have h1:¬ ((x.length:Int)<0):=by lia
    have h2:(1:Int)>0:=by decide
    have h3:(x.length:Int)<=(n:Int):=by lia
    simp only[PySem.Builtin.Str.strSliceIndices,h0,h1,h2,if_false,if_true,Int.min_eq_right h3,Int.min_self]
   unfold PySem.Txt.slice
   rw[e2]
  have:=eq_of_beq (PyProof.Rows.slice_closes_toL (x:=x) (j:=(x.length:Int)) (by lia) (by lia))
  rw[List.take_of_length_le (l:=x.cps.toList) (i:=n) (by rw[br];lia),e,this]
  show ((x.cps.toList.drop (0:Int).toNat).take ((x.length:Int)-0).toNat)=_
  exact List.take_of_length_le (by show x.cps.toList.length<=_;rw[br];lia)
def mZ(x:Str)(j:Nat)(z:Str):Str:=PySem.Txt.slice x none (some (j:Int))++z++PySem.Txt.slice x (some (j:Int)) none
def oM(x:Str)(j:Nat)(y:Str)(k:Nat):Str:=PySem.Txt.slice x none (some (j:Int))++PySem.Txt.slice y (some (k:Int)) none
noncomputable def yh(t:fE):Sp:=λvs H Q _=>∃(x dx a lg:Addr) (gs:List Addr) (ms:List aD) (Gs:List bQ) (G:bQ) (i j:Nat),vs=[.ref x,.int i,.int j]/\b8 t H x dx a lg gs ms Gs/\Gs[i]?=some G/\j<=G.row.length/\G.row.length<=1000/\Q .cW H
theorem uc (T:Txt K mg t):bD P w K mg base dw 2 t.EV t.K4 ["self","row","at"] (yh t):=by
 refine T.vq.m P1 λvs H Q E h=>?_
 ·obtain⟨x,dx,a,lg,gs,ms,Gs,G,i,j,rfl,I,hG,hj,hl,q⟩:=h
  walk_at "i"
  have hi:=(List.getElem?_eq_some_iff.mp hG).1
  have sz:=sizeLine_eq
  obtain⟨g,hg,dg,lb,lt,lo,lk,e⟩:=I.go.at hG
  refine ao (bx (bF (pv 0) T.aQ T.RN (Mx T) hr.m (T.KC.binds (by walk_at "2")) .nil aF (aa (pv 1) ai))) ⟨_,rfl,x,dx,_,rfl,I.ob,rfl,_,rfl,x,dx,a,lg,gs,ms,Gs,i,rfl,I,hi,?_⟩
  refine ay (bK (PW.pt (jV (aE ie (pv 2) aq (aI _)) (jF (aE gZ (pv 2) (aN bz (by rfl) T.cy (by decide +kernel) (aa (aK (aR aL (aK (pv 0) rfl) (pv 1) (λ_ _=>rfl)) rfl) ai)) (aI _))))) aA aA) ⟨_,rfl,_,_,rfl,rfl,_,rfl,fq (λh=>absurd h (by lia)) (λ_=>?_)⟩
  exact⟨_,rfl,⟨_,rfl,_,_,_,_,_,rfl,I.ob,T.aQ,T.aT,rfl,⟨_,rfl,_,_,_,_,rfl,rfl,bg.of I.lg,fU hg,g,t.cj,dg,_,_,rfl,e.ob,T.cC,T.cQ,rfl,_,rfl,b9 (by lia),_,_,rfl,rfl,_,rfl,fq (λh=>absurd h (by lia)) (λ_=>bG q)⟩⟩⟩
abbrev Aa5(t:fE)(vs:List V)(H:Hp)(Q:VK)(x dx a lg:Addr)(gs:List Addr)(ms:List aD)(Gs:List bQ)(G G2:bQ)(i j i2 j2:Nat):Prop:=Gs[i2]?=some G2/\j2<=G2.row.length/\G2.row.length<=1000/\HT.dH [(i:Int),j] [(i2:Int),j2]=false/\∀H',aj H H'->Q .cW H'
abbrev ab8(t:fE)(vs:List V)(H:Hp)(Q:VK)(x dx a lg:Addr)(gs:List Addr)(ms:List aD)(Gs:List bQ)(G G2:bQ)(i j i2 j2:Nat):Prop:=vs=[.ref x,.int i,.int j,.int i2,.int j2]/\b8 t H x dx a lg gs ms Gs/\Gs[i]?=some G/\j<=G.row.length/\G.row.length<=1000/\Aa5 t vs H Q x dx a lg gs ms Gs G G2 i j i2 j2
noncomputable def wg(t:fE):Sp:=λvs H Q _=>∃x dx a lg gs ms Gs G G2 i j i2 j2,ab8 t vs H Q x dx a lg gs ms Gs G G2 i j i2 j2
theorem Pd (T:Txt K mg t):bD P w K mg base dw 3 t.DC t.LP ["self","row","at","row2","at2"] (wg t):=by
 refine T.Jw.m Nj λvs H Q E h=>?_
 ·obtain⟨x,dx,a,lg,gs,ms,Gs,G,G2,i,j,i2,j2,rfl,I,hG,hj,hl,hG2,hj2,hl2,hx,q⟩:=h
  walk_at "i"
  refine ao (bx (bF (pv 0) T.aQ T.zL (uc T) hr.m (T.vq.binds (by walk_at "3")) .nil aF (aa (pv 1) (aa (pv 2) ai)))) ⟨_,rfl,x,dx,_,rfl,I.ob,rfl,_,rfl,_,rfl,x,dx,a,lg,gs,ms,Gs,G,i,j,rfl,I,hG,hj,hl,?_⟩
  refine ao (bx (bF (pv 0) T.aQ T.zL (uc T) hr.m (T.vq.binds (by walk_at "3")) .nil aF (aa (pv 3) (aa (pv 4) ai)))) ⟨_,rfl,x,dx,_,rfl,I.ob,rfl,_,rfl,_,rfl,x,dx,a,lg,gs,ms,Gs,G2,i2,j2,rfl,I,hG2,hj2,hl2,?_⟩
  refine ay (bK (aE (HW (Nat.lt_of_succ_lt (cK hr))) (bC (aa (pv 1) (aa (pv 2) ai))) (bC (aa (pv 3) (aa (pv 4) ai))) (aI _)) aA aA) ⟨_,rfl,_,rfl,by show 2<=sizeLine;decide,λt1 e1=>⟨_,rfl,_,rfl,by show 2<=sizeLine;decide,λt2 e2=>⟨t1,t2,[(i:Int),j],[(i2:Int),j2],rfl,rfl,dO.of (aj.upd e2 _ _ af),dO.of af,_,rfl,?_⟩⟩⟩
  rw[hx]
  exact lQ (bG (q _ ((aj.upd e1).trans (aj.upd e2))))
abbrev Aa6(t:fE)(vs:List V)(H:Hp)(Q:VK)(S:Addr->Prop)(x dx a lg:Addr)(gs:List Addr)(ms:List aD)(Gs:List bQ)(G:bQ)(i j:Nat)(z:Str)(fs:List Str)(ah bk:Nat)(Gm:List bQ)(c:Nat)(Gs':List bQ):Prop:=fs.length<=50000/\fs≠[]/\i9 ms Gs i 1 fs ah bk Gm c Gs'/\∀lg' gs' H',b8 t (hid S H') x dx a lg' gs' ms Gs'->H lg'=none->gw H H' x->Q (.int ((Gm.length+c:Nat):Int)) H'
abbrev ab0(t:fE)(vs:List V)(H:Hp)(Q:VK)(S:Addr->Prop)(x dx a lg:Addr)(gs:List Addr)(ms:List aD)(Gs:List bQ)(G:bQ)(i j:Nat)(z:Str)(fs:List Str)(ah bk:Nat)(Gm:List bQ)(c:Nat)(Gs':List bQ):Prop:=z.length<=1000/\PySem.Txt.split (mZ G.row j z) (Str.ofString "\n")=fs/\Gs.length<=50000/\Aa6 t vs H Q S x dx a lg gs ms Gs G i j z fs ah bk Gm c Gs'
abbrev Aa7(t:fE)(vs:List V)(H:Hp)(Q:VK)(S:Addr->Prop)(x dx a lg:Addr)(gs:List Addr)(ms:List aD)(Gs:List bQ)(G:bQ)(i j:Nat)(z:Str)(fs:List Str)(ah bk:Nat)(Gm:List bQ)(c:Nat)(Gs':List bQ):Prop:=Gs[i]?=some G/\j<=G.row.length/\G.row.length<=1000/\ab0 t vs H Q S x dx a lg gs ms Gs G i j z fs ah bk Gm c Gs'
abbrev aa9(t:fE)(vs:List V)(H:Hp)(Q:VK)(S:Addr->Prop)(x dx a lg:Addr)(gs:List Addr)(ms:List aD)(Gs:List bQ)(G:bQ)(i j:Nat)(z:Str)(fs:List Str)(ah bk:Nat)(Gm:List bQ)(c:Nat)(Gs':List bQ):Prop:=vs=[.ref x,.int i,.int j,.str z]/\Ex S H/\b8 t (hid S H) x dx a lg gs ms Gs/\dz ms/\Aa7 t vs H Q S x dx a lg gs ms Gs G i j z fs ah bk Gm c Gs'
noncomputable def RQ (t:fE):Sp:=λvs H Q _=>∃S x dx a lg gs ms Gs G i j z fs ah bk Gm c Gs',aa9 t vs H Q S x dx a lg gs ms Gs G i j z fs ah bk Gm c Gs'
theorem MW (T:Txt K mg t):bD P w K mg base dw 9 t.BF t.LI ["self","row","at","text"] (RQ t):=by
 refine T.J8.m Eo λvs H Q E h=>?_
 ·obtain⟨S,x,dx,a,lg,gs,ms,Gs,G,i,j,z,fs,ah,bk,Gm,c,Gs',rfl,hES,IS,GM_,hG,hj,hl,hz,hfs,hl1,hl2,hne,C,q⟩:=h
  walk_at "i"
  have I:=IS.same aB
  have sz:=sizeLine_eq
  obtain⟨g,hg,dg,lb,lt,lo,lk,e⟩:=I.go.at hG
  have b1:=PySem.Txt.slice_le G.row none (some (j:Int))
  have b2:=PySem.Txt.slice_le G.row (some (j:Int)) none
  refine ao (bx (bF (pv 0) T.aQ T.zL (uc T) hr.m (T.vq.binds (by walk_at "3")) .nil aF (aa (pv 1) (aa (pv 2) ai)))) ⟨_,rfl,x,dx,_,rfl,I.ob,rfl,_,rfl,_,rfl,x,dx,a,lg,gs,ms,Gs,G,i,j,rfl,I,hG,hj,hl,?_⟩
  refine ao (cS 4 Eo (aK (aR aL (aK (pv 0) rfl) (pv 1) (λ_ _=>rfl)) rfl)) (⟨_,rfl,_,_,_,_,_,rfl,I.ob,T.aQ,T.aT,rfl,⟨_,rfl,_,_,_,_,rfl,rfl,bg.of I.lg,fU hg,g,t.cj,dg,_,_,rfl,e.ob,T.cC,T.cQ,rfl,?_⟩⟩)
  have l1:(PySem.Txt.slice G.row none (some (j:Int))++z).length<=2000:=by rw[PySem.strLen_append];lia
  have l2:(mZ G.row j z).length<=3000:=by unfold mZ;rw[PySem.strLen_append];lia
  refine ay (aJ (bF (pv 0) T.aQ T.Jz (Gu T) hr.m (T.Ds.binds (by walk_at "4")) .nil aF (aa (pv 1) (aa aq (aa (dG F.plainAttrs_str F.slot_str_split F.type_str_split jq (aM eU (aM eU (cT mj (pv 4) gj (cM (pv 2))) (pv 3)) (cT mj (pv 4) (cM (pv 2)) gj)) (aa az ai)) ai))))) ⟨_,rfl,x,dx,_,rfl,I.ob,rfl,_,rfl,_,rfl,_,rfl,_,rfl,_,rfl,(by lia),_,rfl,_,_,rfl,rfl,(by lia),_,rfl,_,rfl,_,rfl,_,rfl,(by lia),_,_,rfl,rfl,(by lia),rfl,mZ G.row j z,Str.ofString "\n",rfl,rfl,rfl,(by lia),λp fp=>?_⟩
  rw[hfs]
  have s1:aj H (upd H p (.lst (fs.map V.str))):=aj.upd fp
  exact⟨S,x,dx,a,lg,p,gs,ms,Gs,i,1,fs,ah,bk,Gm,c,Gs',rfl,hES.same s1,IS.same (aO s1),GM_,af,hl1,hl2,(λ_=>hne),C,λlg' gs' H' I' f' a'=>q lg' gs' H' I' (s1.free f') (λb o hb nb=>a' b o (s1 _ _ hb) nb)⟩
abbrev Aa8(t:fE)(vs:List V)(H:Hp)(Q:VK)(S:Addr->Prop)(x dx a lg:Addr)(gs:List Addr)(ms:List aD)(Gs:List bQ)(G G2:bQ)(i j i2 j2:Nat)(ah bk:Nat)(Gm:List bQ)(c:Nat)(Gs':List bQ):Prop:=i<=i2/\Gs.length<=50000/\i9 ms Gs i (i2-i+1) [oM G.row j G2.row j2] ah bk Gm c Gs'/\∀lg' gs' H',b8 t (hid S H') x dx a lg' gs' ms Gs'->H lg'=none->gw H H' x->Q (.int ((Gm.length+c:Nat):Int)) H'
abbrev aa8(t:fE)(vs:List V)(H:Hp)(Q:VK)(S:Addr->Prop)(x dx a lg:Addr)(gs:List Addr)(ms:List aD)(Gs:List bQ)(G G2:bQ)(i j i2 j2:Nat)(ah bk:Nat)(Gm:List bQ)(c:Nat)(Gs':List bQ):Prop:=Gs[i2]?=some G2/\j2<=G2.row.length/\G2.row.length<=1000/\HT.dH [(i:Int),j] [(i2:Int),j2]=false/\Aa8 t vs H Q S x dx a lg gs ms Gs G G2 i j i2 j2 ah bk Gm c Gs'
abbrev Aa9(t:fE)(vs:List V)(H:Hp)(Q:VK)(S:Addr->Prop)(x dx a lg:Addr)(gs:List Addr)(ms:List aD)(Gs:List bQ)(G G2:bQ)(i j i2 j2:Nat)(ah bk:Nat)(Gm:List bQ)(c:Nat)(Gs':List bQ):Prop:=Gs[i]?=some G/\j<=G.row.length/\G.row.length<=1000/\aa8 t vs H Q S x dx a lg gs ms Gs G G2 i j i2 j2 ah bk Gm c Gs'
abbrev aa7(t:fE)(vs:List V)(H:Hp)(Q:VK)(S:Addr->Prop)(x dx a lg:Addr)(gs:List Addr)(ms:List aD)(Gs:List bQ)(G G2:bQ)(i j i2 j2:Nat)(ah bk:Nat)(Gm:List bQ)(c:Nat)(Gs':List bQ):Prop:=vs=[.ref x,.int i,.int j,.int i2,.int j2]/\Ex S H/\b8 t (hid S H) x dx a lg gs ms Gs/\dz ms/\Aa9 t vs H Q S x dx a lg gs ms Gs G G2 i j i2 j2 ah bk Gm c Gs'
noncomputable def Rj(t:fE):Sp:=λvs H Q _=>∃S x dx a lg gs ms Gs G G2 i j i2 j2 ah bk Gm c Gs',aa7 t vs H Q S x dx a lg gs ms Gs G G2 i j i2 j2 ah bk Gm c Gs'
theorem Ng (T:Txt K mg t):bD P w K mg base dw 9 t.Gw t.JB ["self","row","at","row2","at2"] (Rj t):=by
 refine T.LR.m FU λvs H Q E h=>?_
 ·obtain⟨S,x,dx,a,lg,gs,ms,Gs,G,G2,i,j,i2,j2,ah,bk,Gm,c,Gs',rfl,hES,IS,GM_,hG,hj,hl,hG2,hj2,hl2,hx,hii,hl1,C,q⟩:=h
  walk_at "i"
  have I:=IS.same aB
  have sz:=sizeLine_eq
  refine ao (bx (bF (pv 0) T.aQ T.QK (Pd T) hr.m (T.Jw.binds (by walk_at "5")) .nil aF (aa (pv 1) (aa (pv 2) (aa (pv 3) (aa (pv 4) ai)))))) ⟨_,rfl,x,dx,_,rfl,I.ob,rfl,_,rfl,_,rfl,_,rfl,_,rfl,x,dx,a,lg,gs,ms,Gs,G,G2,i,j,i2,j2,rfl,I,hG,hj,hl,hG2,hj2,hl2,hx,λH1 s1=>?_⟩
  have I1:=I.same s1
  obtain⟨g,hg,dg,lb,lt,lo,lk,e⟩:=I1.go.at hG
  obtain⟨g2,hg2,dg2,lb2,lt2,lo2,lk2,e2⟩:=I1.go.at hG2
  have b1:=PySem.Txt.slice_le G.row none (some (j:Int))
  have b2:=PySem.Txt.slice_le G2.row (some (j2:Int)) none
  refine ao (cS 5 FU (aM eU (cT mj (aK (aR aL (aK (pv 0) rfl) (pv 1) (λ_ _=>rfl)) rfl) gj (cM (pv 2))) (cT mj (aK (aR aL (aK (pv 0) rfl) (pv 3) (λ_ _=>rfl)) rfl) (cM (pv 4)) gj))) (⟨_,rfl,_,_,_,_,_,rfl,I1.ob,T.aQ,T.aT,rfl,⟨_,rfl,_,_,_,_,rfl,rfl,bg.of I1.lg,fU hg,g,t.cj,dg,_,_,rfl,e.ob,T.cC,T.cQ,rfl,_,rfl,_,rfl,_,rfl,(by lia),⟨_,rfl,_,_,_,_,_,rfl,I1.ob,T.aQ,T.aT,rfl,⟨_,rfl,_,_,_,_,rfl,rfl,bg.of I1.lg,fU hg2,g2,t.cj,dg2,_,_,rfl,e2.ob,T.cC,T.cQ,rfl,_,rfl,_,rfl,_,rfl,(by lia),_,_,rfl,rfl,(by lia),?_⟩⟩⟩⟩)
  show At _ _ _ [some (.ref x),some (.int i),some (.int j),some (.int i2),some (.int j2),some (.str (oM G.row j G2.row j2))] H1
  refine ay (aJ (bF (pv 0) T.aQ T.Jz (Gu T) hr.m (T.Ds.binds (by walk_at "4")) .nil aF (aa (pv 1) (aa (aM bO (aM eu (pv 3) (pv 1)) aq) (aa (bP (aa (pv 5) ai)) ai))))) ⟨_,rfl,x,dx,_,rfl,I1.ob,rfl,_,rfl,_,rfl,_,rfl,_,_,rfl,rfl,_,_,rfl,rfl,_,rfl,by show 1<=sizeLine;decide,λp fp=>?_⟩
  have s2:aj H (upd H1 p (.lst [.str (oM G.row j G2.row j2)])):=s1.trans (aj.upd fp)
  have ek:((i2:Int)-(i:Int)+1)=((i2-i+1:Nat):Int):=by lia
  refine⟨S,x,dx,a,lg,p,gs,ms,Gs,i,i2-i+1,[oM G.row j G2.row j2],ah,bk,Gm,c,Gs',?_,hES.same s2,IS.same (aO s2),GM_,af,hl1,(show 1<=50000 by decide),(λ_=>by simp),C,λlg' gs' H' I' f' a'=>q lg' gs' H' I' (s2.free f') (λb o hb nb=>a' b o (s2 _ _ hb) nb)⟩
  rw[← ek];rfl
theorem jP(x:Str)(i:Nat)(hi:i<=x.length):(PySem.Txt.slice x (some (i:Int)) none).cps.toList=x.cps.toList.drop i:=by
 have:=eq_of_beq (PyProof.Rows.slice_closes_fromL (x:=x) (i:=(i:Int)) (b:=(x.length:Int)) (by lia) (by lia) rfl)
 rw[this]
 show (x.cps.toList.drop (i:Int).toNat).take ((x.length:Int)-(i:Int)).toNat=_
 rw[Int.toNat_natCast,List.take_of_length_le (by rw[List.length_drop,br];lia)]
theorem uH{x z:Str}{j:Nat}(h:j<=x.length):(mZ x j z).cps.toList=x.cps.toList.take j++z.cps.toList++x.cps.toList.drop j:=by
 unfold mZ
 rw[dX,dX,mV,jP _ _ h]
theorem t8{x y:Str}{j k:Nat}(h:k<=y.length):(oM x j y k).cps.toList=x.cps.toList.take j++y.cps.toList.drop k:=by
 unfold oM
 rw[dX,mV,jP _ _ h]
def rR(A:List (List Nat)):List Nat:=A.flatMap λr=>r++[10]
def rP(B:List (List Nat)):List Nat:=B.flatMap λr=>10::r
theorem eS{x:List Nat}{F:List (List Nat)}(h:F≠[]):bM 10 (x::F)=x++10::bM 10 F:=by
 cases F with
 |nil=>exact absurd rfl h
 |cons y r=>rfl
theorem sq{F:List (List Nat)}(h:F≠[]):∀(A:List (List Nat)),bM 10 (A++F)=rR A++bM 10 F
 | []=>rfl
 |a::A=>by
  have e:rR (a::A)=a++[10]++rR A:=rfl
  rw[List.cons_append,eS (by simp[h]),sq h A,e]
  simp
theorem ny:∀(x:List Nat) (B:List (List Nat)),bM 10 (x::B)=x++rP B
 |x,[]=>by simp[bM,rP]
 |x,b::B=>by
  have e:rP (b::B)=10::b++rP B:=rfl
  rw[eS (by simp),ny b B,e]
  rfl
theorem sF:∀(F B:List (List Nat)),F≠[]->bM 10 (F++B)=bM 10 F++rP B
 | [],_,h=>absurd rfl h
 | [x],B,_=>by rw[List.singleton_append,ny];rfl
 |x::y::F,B,_=>by
  have ih:=sF (y::F) B (by simp)
  have e1:bM 10 (x::((y::F)++B))=x++10::bM 10 ((y::F)++B):=eS (by simp)
  have e2:bM 10 (x::(y::F))=x++10::bM 10 (y::F):=eS (by simp)
  show bM 10 (x::((y::F)++B))=bM 10 (x::(y::F))++rP B
  rw[e1,ih,e2,List.append_assoc,List.cons_append]
theorem nt{A F B:List (List Nat)}(h:F≠[]):bM 10 (A++F++B)=rR A++bM 10 F++rP B:=by
 rw[List.append_assoc,sq (by simp[h]),sF F B h,List.append_assoc]
def bV:List Nat->List (List Nat)
 | []=>[[]]
 |c::r=>if c=10 then []::bV r else match bV r with
  | []=>[[c]]
  |x::xs=>(c::x)::xs
theorem gP:∀l:List Nat,bV l≠[]
 | []=>by simp[bV]
 |c::r=>by
  rw[bV]
  by_cases h:c=10
  ·rw[if_pos h];simp
  ·rw[if_neg h]
   cases bV r with
   |nil=>simp
   |cons x xs=>simp
theorem j8:∀l:List Nat,bM 10 (bV l)=l
 | []=>rfl
 |c::r=>by
  have ih:=j8 r
  rw[bV]
  by_cases h:c=10
  ·rw[if_pos h,eS (gP r),ih,h];rfl
  ·rw[if_neg h]
   cases e:bV r with
   |nil=>exact absurd e (gP r)
   |cons x xs=>
    rw[e] at ih
    show bM 10 ((c::x)::xs)=_
    rw[ny] at ih ⊢
    rw[← ih];rfl
theorem qB:∀(l:List Nat),∀x∈bV l,∀c∈x,c∈l/\c≠10
 | [],x,hx,c,hc=>by
  rw[bV,List.mem_singleton] at hx
  rw[hx] at hc;cases hc
 |d::r,x,hx,c,hc=>by
  have ih:=qB r
  rw[bV] at hx
  by_cases h:d=10
  ·rw[if_pos h] at hx
   rcases List.mem_cons.mp hx with z|z
   ·rw[z] at hc;cases hc
   ·have:=ih x z c hc
    exact⟨List.mem_cons_of_mem _ this.1,this.2⟩
  ·rw[if_neg h] at hx
   cases e:bV r with
   |nil=>exact absurd e (gP r)
   |cons y ys=>
    rw[e] at hx ih
    have hx:x∈(d::y)::ys:=hx
    rcases List.mem_cons.mp hx with z|z
    ·rw[z] at hc
     rcases List.mem_cons.mp hc with w|w
     ·rw[w];exact⟨by simp,h⟩
     ·have:=ih y (by simp) c w
      exact⟨List.mem_cons_of_mem _ this.1,this.2⟩
    ·have:=ih x (List.mem_cons_of_mem _ z) c hc
     exact⟨List.mem_cons_of_mem _ this.1,this.2⟩
theorem jB:∀l:List Nat,(bV l).length=l.count 10+1/\((bV l).map List.length).sum+l.count 10=l.length
 | []=>⟨rfl,rfl⟩
 |c::r=>by
  obtain⟨i1,i2⟩:=jB r
  rw[bV]
  by_cases h:c=10
  ·subst h
   rw[if_pos rfl,List.count_cons_self,List.length_cons,List.map_cons,List.sum_cons,List.length_cons,List.length_nil]
   lia
  ·rw[if_neg h,List.count_cons_of_ne h]
   cases e:bV r with
   |nil=>exact absurd e (gP r)
   |cons x xs=>
    rw[e] at i1 i2
    show ((c::x)::xs).length=_/\(((c::x)::xs).map List.length).sum+_=_
    rw[List.length_cons] at i1 ⊢
    rw[List.map_cons,List.sum_cons] at i2 ⊢
    rw[List.length_cons,List.length_cons]
    lia
def lG(s:Str):List Str:=(bV s.cps.toList).map λl=>⟨l.toArray⟩
theorem iH(s:Str):(lG s).map (λp=>p.cps.toList)=bV s.cps.toList:=by
 unfold lG
 rw[List.map_map]
 exact List.map_id'' (λ_=>rfl) _
theorem lP(s:Str):lG s≠[]:=by unfold lG;intro z;exact gP _ (List.map_eq_nil_iff.mp z)
theorem t9{s x:Str}(h:x∈lG s):∀c∈x.cps.toList,c∈s.cps.toList/\c≠10:=λc hc=>by
 have:x.cps.toList∈(lG s).map (λp=>p.cps.toList):=List.mem_map_of_mem h
 rw[iH] at this
 exact qB _ _ this c hc
theorem QF:Str.ofString "\n" = ⟨#[10]⟩:=by decide +kernel
theorem pR {s:Str} {ps:List Str} (hn:ps≠[]) (hf:∀p∈ps,10∉p.cps.toList) (e:s.cps.toList=bM 10 (ps.map λp=>p.cps.toList)):PySem.Txt.split s (Str.ofString "\n")=ps:=by
 have:s=Str.join ⟨#[10]⟩ ps:=jL (by rw[eN];exact e)
 rw[this,QF]
 exact mz hn hf
theorem tR (s:Str):PySem.Txt.split s (Str.ofString "\n")=lG s:=pR (lP s) (λp hp z=>(t9 hp 10 z).2 rfl) (by rw[iH,j8])
def HY(rs:List Str):Prop:=∀x∈rs,10∉x.cps.toList
def bH(rs:List Str)(i j:Nat):Nat:=((rs.take i).map λr=>r.length+1).sum+j
abbrev oA(rs:List Str):List (List Nat):=rs.map λp=>p.cps.toList
theorem oZ:∀A:List Str,(rR (oA A)).length=(A.map λr=>r.length+1).sum
 | []=>rfl
 |a::A=>by
  have e:rR (oA (a::A))=a.cps.toList++[10]++rR (oA A):=rfl
  rw[e,List.length_append,oZ A,List.map_cons,List.sum_cons,List.length_append,br]
  rfl
theorem qG{rs:List Str}{i:Nat}{r:Str}(h:rs[i]?=some r):bM 10 (oA rs)=rR (oA (rs.take i))++r.cps.toList++rP (oA (rs.drop (i+1))):=by
 have e:rs=rs.take i++[r]++rs.drop (i+1):=by rw[List.append_assoc,List.singleton_append,← gr h,List.take_append_drop]
 conv=>lhs;rw[e]
 unfold oA
 rw[List.map_append,List.map_append,nt (by simp)]
 rfl
theorem rB{rs:List Str}{i j:Nat}{r:Str}(h:rs[i]?=some r)(hj:j<=r.length):(bM 10 (oA rs)).take (bH rs i j)=rR (oA (rs.take i))++r.cps.toList.take j:=by
 rw[qG h,List.append_assoc,bH,← oZ,List.take_length_add_append,List.take_append_of_le_length (by rw[br];exact hj)]
theorem qx{rs:List Str}{i j:Nat}{r:Str}(h:rs[i]?=some r)(hj:j<=r.length):(bM 10 (oA rs)).drop (bH rs i j)=r.cps.toList.drop j++rP (oA (rs.drop (i+1))):=by
 rw[qG h,List.append_assoc,bH,← oZ,List.drop_length_add_append,List.drop_append_of_le_length (by rw[br];exact hj)]
theorem oU{rs:List Str}{i j:Nat}{r:Str}(h:rs[i]?=some r)(hj:j<=r.length):bH rs i j<=(bM 10 (oA rs)).length:=by
 rw[qG h,List.length_append,List.length_append,oZ,br,bH]
 lia
def gq(rs:List Str)(i j:Nat)(r z:Str):List Str:=rs.take i++lG (mZ r j z)++rs.drop (i+1)
def gg(rs:List Str)(i j i2 j2:Nat)(r r2:Str):List Str:=rs.take i++[oM r j r2 j2]++rs.drop (i2+1)
theorem Bb{rs:List Str}{i j:Nat}{r z w:Str}(hr:rs[i]?=some r)(hj:j<=r.length)(hN:HY rs)(hw:w.cps.toList=bM 10 (oA rs)) :
  PySem.Txt.split (PySem.Txt.slice w none (some (bH rs i j:Int))++z++PySem.Txt.slice w (some (bH rs i j:Int)) none) (Str.ofString "\n")=gq rs i j r z:=by
 have hl:=oU hr hj
 have hwl:w.length=(bM 10 (oA rs)).length:=by rw[← br,hw]
 refine pR (by unfold gq;simp[lP]) (λp hp=>?_) ?_
 ·unfold gq at hp
  rcases List.mem_append.mp hp with hp|hp
  ·rcases List.mem_append.mp hp with hp|hp
   ·exact hN p (List.mem_of_mem_take hp)
   ·exact λy=>(t9 hp 10 y).2 rfl
  ·exact hN p (List.mem_of_mem_drop hp)
 ·rw[dX,dX,mV,jP _ _ (by lia),hw,rB hr hj,qx hr hj]
  unfold gq
  rw[List.map_append,List.map_append,nt (by intro y;exact lP _ (List.map_eq_nil_iff.mp y)),iH,j8,uH hj]
  simp[oA]
theorem Am{rs:List Str}{i j i2 j2:Nat}{r r2 w:Str}(hr:rs[i]?=some r)(hj:j<=r.length)(hr2:rs[i2]?=some r2)(hj2:j2<=r2.length)(hN:HY rs)(hw:w.cps.toList=bM 10 (oA rs)) :
  PySem.Txt.split (PySem.Txt.slice w none (some (bH rs i j:Int))++PySem.Txt.slice w (some (bH rs i2 j2:Int)) none) (Str.ofString "\n")=gg rs i j i2 j2 r r2:=by
 have hl:=oU hr hj
 have hl2:=oU hr2 hj2
 have hwl:w.length=(bM 10 (oA rs)).length:=by rw[← br,hw]
 have ec:=t8 (x:=r) (y:=r2) (j:=j) (k:=j2) hj2
 refine pR (by unfold gg;simp) (λp hp=>?_) ?_
 ·unfold gg at hp
  rcases List.mem_append.mp hp with hp|hp
  ·rcases List.mem_append.mp hp with hp|hp
   ·exact hN p (List.mem_of_mem_take hp)
   ·rw[List.mem_singleton.mp hp,ec]
    intro y
    rcases List.mem_append.mp y with y|y
    ·exact hN r (List.mem_of_getElem? hr) (List.mem_of_mem_take y)
    ·exact hN r2 (List.mem_of_getElem? hr2) (List.mem_of_mem_drop y)
  ·exact hN p (List.mem_of_mem_drop hp)
 ·rw[dX,mV,jP _ _ (by lia),hw,rB hr hj,qx hr2 hj2]
  unfold gg
  rw[List.map_append,List.map_append,nt (by simp)]
  show _=rR (oA (rs.take i))++(oM r j r2 j2).cps.toList++rP (oA (rs.drop (i2+1)))
  rw[ec]
  simp
def tot(rs:List Str):Nat:=(rs.map λr=>r.length).sum
theorem jM(a b:List Str):tot (a++b)=tot a+tot b:=by unfold tot;rw[List.map_append,List.sum_append]
theorem j7(a:Str)(b:List Str):tot (a::b)=a.length+tot b:=by unfold tot;rw[List.map_cons,List.sum_cons]
theorem jA:∀{rs:List Str} {r:Str},r∈rs->r.length<=tot rs
 |a::b,r,h=>by
  rw[j7]
  rcases List.mem_cons.mp h with h|h
  ·rw[h];lia
  ·have:=jA h;lia
theorem nA(rs:List Str):tot rs=((oA rs).map List.length).sum:=by
 unfold tot oA
 rw[List.map_map]
 exact congrArg List.sum (List.map_congr_left λx _=>(br x).symm)
theorem uo(s:Str):(lG s).length=s.cps.toList.count 10+1/\tot (lG s)+s.cps.toList.count 10=s.length:=by
 have h:=jB s.cps.toList
 have e1:(lG s).length=(bV s.cps.toList).length:=by unfold lG;rw[List.length_map]
 rw[nA]
 unfold oA
 rw[iH,e1,← br s]
 exact h
theorem yC{rs:List Str}{i:Nat}{r:Str}(h:rs[i]?=some r):tot rs=tot (rs.take i)+r.length+tot (rs.drop (i+1)):=by
 have e:rs=rs.take i++[r]++rs.drop (i+1):=by rw[List.append_assoc,List.singleton_append,← gr h,List.take_append_drop]
 conv=>lhs;rw[e]
 rw[jM,jM]
 rfl
theorem zd{x y:Str}{j k:Nat}(hj:j<=x.length)(h:k<=y.length):(oM x j y k).length=j+(y.length-k):=by
 rw[← br,t8 h,List.length_append,List.length_take,List.length_drop,br,br]
 lia
def SN(xs:List Nat)(i j:Nat):Nat:=((xs.take i).map (· + 1)).sum+j
def nu(xs:List Nat)(p:Nat×Nat):Prop:=∃l,xs[p.1]?=some l/\p.2<=l
theorem kP{xs:List Nat}{i l:Nat}(h:xs[i]?=some l):((xs.take (i+1)).map (· + 1)).sum=((xs.take i).map (· + 1)).sum+l+1:=by
 rw[List.take_add_one,h,List.map_append,List.sum_append]
 simp
 lia
theorem Ik(xs:List Nat){i k:Nat}(h:i<=k):((xs.take i).map (· + 1)).sum<=((xs.take k).map (· + 1)).sum:=by
 obtain⟨d,rfl⟩:=Nat.exists_eq_add_of_le h
 rw[List.take_add,List.map_append,List.sum_append]
 lia
theorem Ke{xs:List Nat}{i j i2 j2:Nat}(h:nu xs (i,j))(hx:i<i2):SN xs i j<SN xs i2 j2:=by
 obtain⟨l,h1,h2⟩:=h
 have h1:xs[i]?=some l:=h1
 have h2:j<=l:=h2
 have a:=kP h1
 have b:=Ik xs (show i+1<=i2 from hx)
 unfold SN
 lia
theorem GJ{xs:List Nat}{i j i2 j2:Nat}(h:nu xs (i,j))(h2:nu xs (i2,j2)):SN xs i j<SN xs i2 j2↔(i<i2∨i=i2/\j<j2):=by
 constructor
 ·intro z
  rcases Nat.lt_trichotomy i i2 with q|q|q
  ·exact .inl q
  ·subst q
   unfold SN at z
   exact .inr ⟨rfl,by lia⟩
  ·have:=Ke (j2:=j) h2 q
   lia
 ·rintro (q|⟨q,w⟩)
  ·exact Ke h q
  ·subst q
   unfold SN;lia
theorem Aa{xs:List Nat}{i j i2 j2:Nat}(h:nu xs (i,j))(h2:nu xs (i2,j2)):SN xs i j<=SN xs i2 j2↔(i<i2∨i=i2/\j<=j2):=by
 have:=GJ h2 h
 lia
theorem lU(A B:List Nat)(k j:Nat):SN (A++B) (A.length+k) j=(A.map (· + 1)).sum+SN B k j:=by
 unfold SN
 rw[List.take_length_add_append,List.map_append,List.sum_append]
 lia
theorem uB{A B:List Nat}{i:Nat}(h:i<=A.length)(j:Nat):SN (A++B) i j=SN A i j:=by
 unfold SN
 rw[List.take_append_of_le_length h]
theorem uV{A B:List Nat}{p:Nat×Nat}(h:p.1<A.length):nu (A++B) p↔nu A p:=by
 unfold nu
 rw[List.getElem?_append_left h]
theorem gy{A B:List Nat}{k j:Nat}:nu (A++B) (A.length+k,j)↔nu B (k,j):=by
 unfold nu
 simp only
 rw[List.getElem?_append_right (Nat.le_add_right _ _),Nat.add_sub_cancel_left]
structure R4(l j m z lz:Nat)(ys:List Nat):Prop where
 len:ys.length=m+1
 sum:(ys.map (· + 1)).sum=l+z+1
 fst:∃a,ys[0]?=some a/\j<=a
 lst:ys[m]?=some ((if m>0 then 0 else j)+lz+(l-j))
def JX(p f:Nat×Nat)(m lz:Nat):Nat×Nat :=
 if p.1<f.1∨p.1=f.1/\p.2<f.2 then p else if p.1>f.1 then (p.1+m,p.2) else (f.1+m,(if m>0 then 0 else f.2)+lz+p.2-f.2)
theorem EC{xs ys:List Nat}{i j l m z lz:Nat}{p:Nat×Nat}(hl:xs[i]?=some l)(hj:j<=l)(P:R4 l j m z lz ys)(hp:nu xs p) :
  nu (xs.take i++ys++xs.drop (i+1)) (JX p (i,j) m lz)/\SN (xs.take i++ys++xs.drop (i+1)) (JX p (i,j) m lz).1 (JX p (i,j) m lz).2=if SN xs p.1 p.2<SN xs i j then SN xs p.1 p.2 else SN xs p.1 p.2+z:=by
 obtain⟨r,c⟩:=p
 have hi:=(List.getElem?_eq_some_iff.mp hl).1
 have tl:(xs.take i).length=i:=by rw[List.length_take];lia
 have vf:nu xs (i,j):=⟨l,hl,hj⟩
 have key:=GJ hp vf
 obtain⟨rl,hr1,hr2⟩:=id hp
 simp only at hr1 hr2
 rw[List.append_assoc]
 unfold JX
 simp only
 by_cases h1:r<i∨r=i/\c<j
 ·rw[if_pos h1,if_pos (key.mpr h1)]
  rcases h1 with h1|⟨rfl,h1⟩
  ·refine⟨(uV (by simp only;lia)).mpr ?_,?_⟩
   ·exact⟨rl,by simp only;rw[List.getElem?_take_of_lt h1];exact hr1,hr2⟩
   ·rw[uB (by lia)]
    unfold SN
    rw[List.take_take,Nat.min_eq_left (by lia)]
  ·obtain⟨a,f1,f2⟩:=P.fst
   have e0:r=(xs.take r).length+0:=by lia
   have v1:nu (ys++xs.drop (r+1)) (0,c):=by
    refine⟨a,?_,by simp only;lia⟩
    rw[List.getElem?_append_left (by rw[P.len];lia)]
    exact f1
   refine⟨?_,?_⟩
   ·have:=(gy (A:=xs.take r) (B:=ys++xs.drop (r+1)) (k:=0) (j:=c)).mpr v1
    rw[← e0] at this
    exact this
   ·have:=lU (xs.take r) (ys++xs.drop (r+1)) 0 c
    rw[← e0] at this
    rw[this]
    unfold SN
    simp
 ·rw[if_neg h1,if_neg (λz=>h1 (key.mp z))]
  by_cases h2:r>i
  ·rw[if_pos h2]
   obtain⟨d,rfl⟩:∃d,r=i+1+d:=Nat.exists_eq_add_of_le (by lia)
   have e0:i+1+d+m=(xs.take i).length+(ys.length+d):=by rw[P.len];lia
   have v1:nu (xs.drop (i+1)) (d,c):=⟨rl,by simp only;rw[List.getElem?_drop];exact hr1,hr2⟩
   refine⟨?_,?_⟩
   ·rw[e0]
    exact gy.mpr (gy.mpr v1)
   ·rw[e0,lU,lU,P.sum]
    have e1:SN xs (i+1+d) c=((xs.take i).map (· + 1)).sum+(l+1)+SN (xs.drop (i+1)) d c:=by
     unfold SN
     rw[List.take_add,List.map_append,List.sum_append,kP hl]
     lia
    rw[e1]
    simp only
    lia
  ·have e:r=i:=by lia
   subst e
   rw[if_neg h2]
   rw[hl] at hr1
   cases hr1
   have e0:r+m=(xs.take r).length+m:=by lia
   have hcj:j<=c:=by lia
   have hlt:m<ys.length:=by rw[P.len];lia
   have v1:nu (ys++xs.drop (r+1)) (m,(if m>0 then 0 else j)+lz+c-j):=by
    refine⟨_,by simp only;rw[List.getElem?_append_left hlt];exact P.lst,by simp only;lia⟩
   refine⟨?_,?_⟩
   ·rw[e0]
    exact gy.mpr v1
   ·rw[e0,lU,uB (by lia)]
    have a:=kP P.lst
    rw[show ys.take (m+1)=ys from List.take_of_length_le (by rw[P.len];lia),P.sum] at a
    unfold SN
    lia
def mW(p f g:Nat×Nat):Nat×Nat :=
 if p.1<f.1∨p.1=f.1/\p.2<=f.2 then p else if p.1<g.1∨p.1=g.1/\p.2<=g.2 then f else if p.1>g.1 then (p.1-g.1+f.1,p.2) else (f.1,f.2+p.2-g.2)
theorem Bl{xs:List Nat}{i j l i2 j2 l2:Nat}{p:Nat×Nat}(hl:xs[i]?=some l)(hj:j<=l)(hl2:xs[i2]?=some l2)(hj2:j2<=l2)(hx:i<i2∨i=i2/\j<=j2)(hp:nu xs p) :
  nu (xs.take i++[j+(l2-j2)]++xs.drop (i2+1)) (mW p (i,j) (i2,j2))/\SN (xs.take i++[j+(l2-j2)]++xs.drop (i2+1)) (mW p (i,j) (i2,j2)).1 (mW p (i,j) (i2,j2)).2 =
   if SN xs p.1 p.2<=SN xs i j then SN xs p.1 p.2 else if SN xs p.1 p.2<=SN xs i2 j2 then SN xs i j else SN xs p.1 p.2-(SN xs i2 j2-SN xs i j):=by
 obtain⟨r,c⟩:=p
 have hi:=(List.getElem?_eq_some_iff.mp hl).1
 have tl:(xs.take i).length=i:=by rw[List.length_take];lia
 have vf:nu xs (i,j):=⟨l,hl,hj⟩
 have vg:nu xs (i2,j2):=⟨l2,hl2,hj2⟩
 have k1:=Aa hp vf
 have k2:=Aa hp vg
 have k3:=(Aa vf vg).mpr hx
 obtain⟨rl,hr1,hr2⟩:=id hp
 simp only at hr1 hr2
 rw[List.append_assoc]
 have here:∀c',c'<=j+(l2-j2)->nu (xs.take i++([j+(l2-j2)]++xs.drop (i2+1))) (i,c')/\SN (xs.take i++([j+(l2-j2)]++xs.drop (i2+1))) i c'=((xs.take i).map (· + 1)).sum+c':=λc' hc'=>by
  have e0:i=(xs.take i).length+0:=by lia
  have v1:nu ([j+(l2-j2)]++xs.drop (i2+1)) (0,c'):=⟨_,rfl,hc'⟩
  have a:=(gy (A:=xs.take i) (B:=[j+(l2-j2)]++xs.drop (i2+1)) (k:=0) (j:=c')).mpr v1
  have b:=lU (xs.take i) ([j+(l2-j2)]++xs.drop (i2+1)) 0 c'
  rw[← e0] at a b
  refine⟨a,?_⟩
  rw[b]
  unfold SN
  simp
 unfold mW
 simp only
 by_cases h1:r<i∨r=i/\c<=j
 ·rw[if_pos h1,if_pos (k1.mpr h1)]
  rcases h1 with h1|⟨rfl,h1⟩
  ·refine⟨(uV (by simp only;lia)).mpr ?_,?_⟩
   ·exact⟨rl,by simp only;rw[List.getElem?_take_of_lt h1];exact hr1,hr2⟩
   ·rw[uB (by lia)]
    unfold SN
    rw[List.take_take,Nat.min_eq_left (by lia)]
  ·exact here c (by lia)
 ·rw[if_neg h1,if_neg (λz=>h1 (k1.mp z))]
  by_cases h2:r<i2∨r=i2/\c<=j2
  ·rw[if_pos h2,if_pos (k2.mpr h2)]
   exact here j (by lia)
  ·rw[if_neg h2,if_neg (λz=>h2 (k2.mp z))]
   by_cases h3:r>i2
   ·rw[if_pos h3]
    obtain⟨d,rfl⟩:∃d,r=i2+1+d:=Nat.exists_eq_add_of_le (by lia)
    have e0:i2+1+d-i2+i=(xs.take i).length+([j+(l2-j2)].length+d):=by simp only[List.length_singleton];lia
    have v1:nu (xs.drop (i2+1)) (d,c):=⟨rl,by simp only;rw[List.getElem?_drop];exact hr1,hr2⟩
    refine⟨?_,?_⟩
    ·rw[e0]
     exact gy.mpr (gy.mpr v1)
    ·rw[e0,lU,lU]
     have e1:SN xs (i2+1+d) c=((xs.take i2).map (· + 1)).sum+(l2+1)+SN (xs.drop (i2+1)) d c:=by
      unfold SN
      rw[List.take_add,List.map_append,List.sum_append,kP hl2]
      lia
     have e2:([j+(l2-j2)].map (· + 1)).sum=j+(l2-j2)+1:=by simp
     have e3:SN xs i2 j2=((xs.take i2).map (· + 1)).sum+j2:=rfl
     have e4:SN xs i j=((xs.take i).map (· + 1)).sum+j:=rfl
     rw[e1,e2]
     simp only
     lia
   ·have e:r=i2:=by lia
    subst e
    rw[if_neg h3]
    rw[hl2] at hr1
    cases hr1
    have hc:j2<c:=by lia
    obtain⟨a,b⟩:=here (j+c-j2) (by lia)
    refine⟨a,?_⟩
    rw[b]
    have e3:SN xs r j2=((xs.take r).map (· + 1)).sum+j2:=rfl
    have e4:SN xs i j=((xs.take i).map (· + 1)).sum+j:=rfl
    have e5:SN xs r c=((xs.take r).map (· + 1)).sum+c:=rfl
    lia
theorem lZ:∀{A X h:List Nat} {t:List (List Nat)},10∉A->bV X=h::t->bV (A++X)=(A++h)::t
 | [],_,_,_,_,e=>e
 |a::A,X,h,t,hA,e=>by
  have ih:=lZ (A:=A) (λz=>hA (List.mem_cons_of_mem _ z)) e
  have ha:a≠10:=λz=>hA (by rw[z];exact List.mem_cons_self)
  rw[List.cons_append,bV,if_neg ha,ih]
  rfl
theorem vK{C:List Nat}(h:10∉C):bV C=[C]:=by
 have:=lZ (X:=[]) h rfl
 simpa using this
theorem pG{C:List Nat}(hC:10∉C):∀X:List Nat,bV (X++C)=(bV X).dropLast++[(bV X).getLastD []++C]
 | []=>by rw[List.nil_append,vK hC];rfl
 |c::X=>by
  have ih:=pG hC X
  rw[List.cons_append,bV,bV,ih]
  have hn:=gP X
  cases e:bV X with
  |nil=>exact absurd e hn
  |cons x xs=>
   by_cases hc:c=10
   ·rw[if_pos hc,if_pos hc]
    rfl
   ·rw[if_neg hc,if_neg hc]
    cases xs with
    |nil=>rfl
    |cons y ys=>rfl
theorem uU:∀ys:List Nat,(ys.map (· + 1)).sum=ys.sum+ys.length
 | []=>rfl
 |y::ys=>by rw[List.map_cons,List.sum_cons,List.sum_cons,uU ys,List.length_cons];lia
theorem GX{R B:List Nat}{j:Nat}(hR:10∉R)(hj:j<=R.length) :
  R4 R.length j ((bV B).length-1) B.length ((bV B).getLastD []).length ((bV (R.take j++B++R.drop j)).map List.length):=by
 have hA:10∉R.take j:=λz=>hR (List.mem_of_mem_take z)
 have hC:10∉R.drop j:=λz=>hR (List.mem_of_mem_drop z)
 obtain⟨a1,a2⟩:=jB (R.take j++B++R.drop j)
 obtain⟨b1,b2⟩:=jB B
 have ec:(R.take j++B++R.drop j).count 10=B.count 10:=by
  rw[List.count_append,List.count_append,List.count_eq_zero.mpr hA,List.count_eq_zero.mpr hC];lia
 have el:(R.take j++B++R.drop j).length=R.length+B.length:=by
  rw[List.length_append,List.length_append,List.length_take,List.length_drop];lia
 rw[ec] at a1 a2
 rw[el] at a2
 cases e:bV B with
 |nil=>exact absurd e (gP B)
 |cons h t=>
  have e1:=lZ hA e
  have e2:=pG hC (R.take j++B)
  rw[e1] at e2
  have la:(R.take j).length=j:=by rw[List.length_take];lia
  have lc:(R.drop j).length=R.length-j:=by rw[List.length_drop]
  rw[e] at b1 b2
  refine⟨?_,?_,?_,?_⟩
  ·rw[List.length_map,a1,b1]
   lia
  ·rw[uU,List.length_map,a1];lia
  ·rw[e2]
   cases t with
   |nil=>exact⟨_,rfl,by simp;lia⟩
   |cons y ys=>exact⟨_,rfl,by simp;lia⟩
  ·rw[e2]
   cases t with
   |nil=>
    show some (((R.take j++h)++R.drop j).length)=_
    rw[List.length_append,List.length_append,la,lc]
    rfl
   |cons y ys=>
    rw[List.map_append,List.getElem?_append_right (by simp)]
    have e4:(h::y::ys).length-1-(((R.take j++h)::y::ys).dropLast.map List.length).length=0:=by simp
    rw[e4]
    show some (((((R.take j++h)::y::ys).getLastD [])++R.drop j).length)=_
    rw[List.length_append,lc]
    have e5:((R.take j++h)::y::ys).getLastD []=(h::y::ys).getLastD []:=by
     rw[List.getLastD_eq_getLast?,List.getLastD_eq_getLast?,List.getLast?_cons_cons,List.getLast?_cons_cons]
    rw[e5,if_pos (by simp)]
    simp
theorem fh(rs:List Str)(i j:Nat):bH rs i j=SN (rs.map (·.length)) i j:=by
 unfold bH SN
 rw[← List.map_take,List.map_map]
 rfl
def VP(rs:List Str)(p:Nat×Nat):Prop:=∃r,rs[p.1]?=some r/\p.2<=r.length
theorem nK{rs:List Str}{p:Nat×Nat}:VP rs p↔nu (rs.map (·.length)) p:=by
 unfold VP nu
 rw[List.getElem?_map]
 constructor
 ·rintro⟨r,h,h2⟩
  exact⟨_,by rw[h];rfl,h2⟩
 ·rintro⟨l,h,h2⟩
  obtain⟨r,h3,h4⟩:=Option.map_eq_some_iff.mp h
  exact⟨r,h3,by rw[h4];exact h2⟩
theorem Ca(s:Str):(lG s).map (·.length)=(bV s.cps.toList).map List.length:=by
 rw[← iH,List.map_map]
 exact List.map_congr_left λx _=>(br x).symm
def lE(z:Str):Nat:=(lG z).length-1
def wF(z:Str):Nat:=((bV z.cps.toList).getLastD []).length
def oX(p f:Nat×Nat)(z:Str):Nat×Nat:=JX p f (lE z) (wF z)
theorem AF{rs:List Str}{i j:Nat}{r z:Str}{p:Nat×Nat}(hr:rs[i]?=some r)(hj:j<=r.length)(hN:HY rs)(hp:VP rs p) :
  VP (gq rs i j r z) (oX p (i,j) z)/\bH (gq rs i j r z) (oX p (i,j) z).1 (oX p (i,j) z).2=if bH rs p.1 p.2<bH rs i j then bH rs p.1 p.2 else bH rs p.1 p.2+z.length:=by
 have hc:=uH (x:=r) (z:=z) hj
 have P:=GX (R:=r.cps.toList) (B:=z.cps.toList) (j:=j) (hN r (List.mem_of_getElem? hr)) (by rw[br];exact hj)
 rw[← hc,← Ca,br,br] at P
 have e0:(bV z.cps.toList).length=(lG z).length:=by unfold lG;rw[List.length_map]
 rw[e0] at P
 have h:=EC (xs:=rs.map (·.length)) (i:=i) (p:=p) (by rw[List.getElem?_map,hr];rfl) hj P (nK.mp hp)
 rw[nK,fh,fh,fh]
 unfold gq
 rw[List.map_append,List.map_append,List.map_take,List.map_drop]
 exact h
theorem Ad{rs:List Str}{i j i2 j2:Nat}{r r2:Str}{p:Nat×Nat}(hr:rs[i]?=some r)(hj:j<=r.length)(hr2:rs[i2]?=some r2)(hj2:j2<=r2.length)(hx:i<i2∨i=i2/\j<=j2)(hp:VP rs p) :
  VP (gg rs i j i2 j2 r r2) (mW p (i,j) (i2,j2))/\bH (gg rs i j i2 j2 r r2) (mW p (i,j) (i2,j2)).1 (mW p (i,j) (i2,j2)).2 =
   if bH rs p.1 p.2<=bH rs i j then bH rs p.1 p.2 else if bH rs p.1 p.2<=bH rs i2 j2 then bH rs i j else bH rs p.1 p.2-(bH rs i2 j2-bH rs i j):=by
 have h:=Bl (xs:=rs.map (·.length)) (p:=p) (by rw[List.getElem?_map,hr];rfl) hj (by rw[List.getElem?_map,hr2];rfl) hj2 hx (nK.mp hp)
 have el:=zd (x:=r) (y:=r2) hj hj2
 rw[nK,fh,fh,fh,fh]
 unfold gg
 rw[List.map_append,List.map_append,List.map_take,List.map_drop]
 show nu (_++[(oM r j r2 j2).length]++_) _/\SN (_++[(oM r j r2 j2).length]++_) _ _=_
 rw[el]
 exact h
abbrev fwd (d:Str):Prop:=d = "push" ∨ d = "into"
theorem wz{on:List Nat}{d:Str}{g:Nat}(hd:fwd d):bU (bR on d (some g))=g:=by
 unfold bR bU
 rcases hd with rfl|rfl
 ·rw[if_pos rfl,List.getLastD_eq_getLast?];simp
 ·rw[if_neg (by decide),if_pos rfl,List.getLastD_eq_getLast?];simp
theorem kR:∀(n:Nat) (l:List Nat),l.Nodup->(∀x∈l,x<n)->l.length<=n
 |0,l,_,h=>by
  cases l with
  |nil=>exact Nat.le_refl _
  |cons x r=>exact absurd (h x (by simp)) (by lia)
 |n+1,l,hd,h=>by
  have h1:=kR n (l.erase n) (hd.erase n) λx hx=>by
   obtain⟨h2,h3⟩:=hd.mem_erase_iff.mp hx
   have:=h x h3
   lia
  rw[List.length_erase] at h1
  split at h1 <;> lia
section
variable {ms:List aD}{row:Str}
def sr(ms:List aD)(row:Str)(a b:Nat):Prop:=∃R,cR ms a row=some R/\fwd R.bq/\R.goal=some b
def uR(ms:List aD)(row:Str):List Nat->Prop
 | []=>True
 | [_]=>True
 |a::b::r=>sr ms row a b/\uR ms row (b::r)
theorem uR.tail{a:Nat}{r:List Nat}(h:uR ms row (a::r)):uR ms row r:=by
 cases r with
 |nil=>trivial
 |cons b r=>exact h.2
theorem uR.suffix:∀{A B:List Nat},uR ms row (A++B)->uR ms row B
 | [],B,h=>h
 |a::A,B,h=>uR.suffix (A:=A) (uR.tail h)
theorem uR.snoc:∀{l:List Nat} {z g:Nat},uR ms row (l++[z])->sr ms row z g->uR ms row (l++[z]++[g])
 | [],z,g,_,h=>⟨h,trivial⟩
 | [a],z,g,h,h2=>⟨h.1,h2,trivial⟩
 |a::b::l,z,g,h,h2=>⟨h.1,uR.snoc (l:=b::l) h.2 h2⟩
theorem kq{first:Nat}{R:aZ}{on ring:List Nat}{g fuel:Nat}(hR:cR ms (bU on) row=some R)(hd:fwd R.bq)(hg:R.goal=some g)(hx:g=first∨dj ms row first fuel (bR on R.bq R.goal) (ring++[bU on])≠none):dj ms row first (fuel+1) on ring≠none:=by
 have hdp:R.bq ≠ "pop" := by rcases hd with z|z <;> rw[z] <;> decide
 rw[dj,hR]
 show (if R.bq = "pop" /\ on.length=1/\first≠0 then none else if bU (bR on R.bq R.goal)=first then some (ring++[bU on]) else dj ms row first fuel (bR on R.bq R.goal) (ring++[bU on]))≠none
 have ht:bU (bR on R.bq R.goal)=g:=by rw[hg];exact wz hd
 rw[if_neg (λz=>hdp z.1),ht]
 by_cases z:g=first
 ·rw[if_pos z];intro w;cases w
 ·rw[if_neg z];exact hx.resolve_left z
theorem nv{first:Nat}:∀(r:List Nat) (x z:Nat) (fuel:Nat) (on ring:List Nat),uR ms row (x::r)->(x::r).getLast?=some z->sr ms row z first->bU on=x->(x::r).length<=fuel->dj ms row first fuel on ring≠none
 | [],x,z,fuel,on,ring,_,hl,hz,ht,hf=>by
  cases hl
  obtain⟨R,h1,h2,h3⟩:=hz
  obtain⟨f,rfl⟩:∃f,fuel=f+1:=⟨fuel-1,by rw[List.length_singleton] at hf;lia⟩
  exact kq (by rw[ht];exact h1) h2 h3 (.inl rfl)
 |y::r,x,z,fuel,on,ring,hp,hl,hz,ht,hf=>by
  obtain⟨⟨R,h1,h2,h3⟩,hp2⟩:=hp
  rw[List.length_cons] at hf
  obtain⟨f,rfl⟩:∃f,fuel=f+1:=⟨fuel-1,by lia⟩
  refine kq (by rw[ht];exact h1) h2 h3 (.inr ?_)
  exact nv r y z f _ _ hp2 (by rw[List.getLast?_cons_cons] at hl;exact hl) hz (by rw[h3];exact wz h2) (by lia)
def DL(ms:List aD)(row:Str):Nat->Nat->Prop
 |0,k=>cR ms k row=none
 |m+1,k=>∃g,sr ms row k g/\DL ms row m g
def xK(ms:List aD)(row:Str):Nat->Nat->Prop
 |0,k=>∃R,cR ms k row=some R/\R.bq = "pop"
 |m+1,k=>∃g R,cR ms k row=some R/\R.bq = "into" /\ R.goal=some g/\xK ms row m g
theorem sY {us:List Nat} {q g:Nat}:bR (us++[q]) "into" (some g)=us++[g]:=by
 rw[bR,if_neg (by decide),if_pos rfl,List.dropLast_concat];rfl
theorem pW (us:List Nat) (k:Nat) (g:Option Nat):bR (us++[k]) "pop" g=if us=[] then [0] else us:=by
 rw[bR,if_neg (by decide),if_neg (by decide),if_pos rfl,List.dropLast_concat]
 by_cases z:us=[]
 ·rw[if_pos z,if_pos (by rw[z];rfl)]
 ·rw[if_neg z,if_neg]
  have:=List.length_pos_iff.mpr z
  rw[List.length_append,List.length_singleton];lia
theorem se (on:List Nat) (g:Option Nat):bR on "stay" g=on:=by rw[bR,if_neg (by decide),if_neg (by decide),if_neg (by decide)]
theorem wM{A B:List Nat}{g k:Nat}{vis:List Nat}(h:vis++[k]=A++g::B):(g::B).getLast?=some k:=by
 have e:=congrArg List.getLast? h
 rw[List.getLast?_append] at e
 cases h2:(g::B).getLast? with
 |none=>rw[List.getLast?_eq_none_iff] at h2;cases h2
 |some z=>rw[List.getLast?_append,h2] at e;simpa using e.symm
theorem wG{first:Nat}:∀(m q fuel:Nat) (us ring:List Nat),xK ms row m q->us≠[]->bU us=first->m+1<=fuel->dj ms row first fuel (us++[q]) ring≠none
 |0,q,fuel,us,ring,⟨R,h1,h2⟩,hne,ht,hf=>by
  obtain⟨f,rfl⟩:∃f,fuel=f+1:=⟨fuel-1,by lia⟩
  have hl:(us++[q]).length≠1:=by
   have:=List.length_pos_iff.mpr hne
   rw[List.length_append,List.length_singleton];lia
  rw[dj,m6,h1]
  show (if R.bq = "pop" /\ (us++[q]).length=1/\first≠0 then none else if bU (bR (us++[q]) R.bq R.goal)=first then some _ else dj ms row first f (bR (us++[q]) R.bq R.goal) _)≠none
  rw[if_neg (λz=>hl z.2.1),h2,pW,if_neg hne,if_pos ht]
  intro w;cases w
 |m+1,q,fuel,us,ring,⟨g,R,h1,h2,h3,h4⟩,hne,ht,hf=>by
  obtain⟨f,rfl⟩:∃f,fuel=f+1:=⟨fuel-1,by lia⟩
  refine kq (by rw[m6];exact h1) (.inr h2) h3 (.inr ?_)
  rw[h2,h3,sY]
  exact wG m g f us _ h4 hne ht (by lia)
theorem oj:∀(m q fuel:Nat) (ring:List Nat),xK ms row m q->m+1<=fuel->dj ms row 0 fuel [q] ring≠none
 |0,q,fuel,ring,⟨R,h1,h2⟩,hf=>by
  obtain⟨f,rfl⟩:∃f,fuel=f+1:=⟨fuel-1,by lia⟩
  rw[dj,show bU [q]=q from rfl,h1]
  show (if R.bq = "pop" /\ [q].length=1/\(0:Nat)≠0 then none else if bU (bR [q] R.bq R.goal)=0 then some _ else dj ms row 0 f (bR [q] R.bq R.goal) _)≠none
  rw[if_neg (λz=>z.2.2 rfl),h2,show bR [q] "pop" R.goal=[0] from pW [] q R.goal,if_pos (show bU [0]=0 from rfl)]
  intro w;cases w
 |m+1,q,fuel,ring,⟨g,R,h1,h2,h3,h4⟩,hf=>by
  obtain⟨f,rfl⟩:∃f,fuel=f+1:=⟨fuel-1,by lia⟩
  refine kq (on:=[q]) h1 (.inr h2) h3 (.inr ?_)
  have:bR [q] R.bq R.goal=[g]:=by rw[h2,h3];exact sY (us:=[])
  rw[this]
  exact oj m g f _ h4 (by lia)
theorem ends(G:dz ms)(hn:∀j,j<ms.length->cI ms j row=none):∀(f:Nat) (vis:List Nat) (k:Nat),uR ms row (vis++[k])->(vis++[k]).Nodup->(∀x∈vis++[k],x<ms.length)->ms.length<=vis.length+1+f->f+1<=ms.length->∃m,m<=f/\(DL ms row m k∨xK ms row m k):=by
 intro f
 induction f with
 |zero=>
  intro vis k hp hd hlt hf hf2
  have hk:=hlt k (by simp)
  cases hR:cR ms k row with
  |none=>exact⟨0,Nat.le_refl _,.inl hR⟩
  |some R=>
   refine⟨0,Nat.le_refl _,.inr ⟨R,hR,?_⟩⟩
   obtain⟨hdd,hgo⟩:R.bq∈sJ/\(i6 R.bq->∃g,R.goal=some g/\g<ms.length):=by
    obtain⟨m,hm⟩:∃m,ms[k]?=some m:=⟨ms[k],List.getElem?_eq_getElem hk⟩
    have hid:cR ms k row=fN m.rules row:=by rw[cR,hm];rfl
    rw[hid] at hR
    exact⟨G.bq m (List.mem_of_getElem? hm) R (jt hR),G.goal m (List.mem_of_getElem? hm) R (jt hR)⟩
   have hdd:R.bq = "stay" ∨ R.bq = "push" ∨ R.bq = "pop" ∨ R.bq = "into" := by simpa using hdd
   have nofw:¬ fwd R.bq:=λhfw=>by
    obtain⟨g,hg,hgl⟩:=hgo hfw
    have hfg:sr ms row k g:=⟨R,hR,hfw,hg⟩
    by_cases hmem:g∈vis++[k]
    ·obtain⟨A,B,hAB⟩:=List.append_of_mem hmem
     rw[hAB] at hp hd
     have hlast:=wM hAB
     have hB:(g::B).length<=ms.length:=kR _ _ (List.nodup_append.mp hd).2.1 λx hx=>hlt x (by rw[hAB];exact List.mem_append_right _ hx)
     exact nv B g k ms.length [g] [] (uR.suffix hp) hlast hfg rfl hB (hn g hgl)
    ·have:=kR ms.length (vis++[k]++[g]) (List.nodup_append.mpr ⟨hd,by simp,λx hx y hy e=>hmem (by rw[List.mem_singleton.mp hy] at e;rw[← e];exact hx)⟩) λx hx=>by
      rcases List.mem_append.mp hx with z|z
      ·exact hlt x z
      ·rw[List.mem_singleton.mp z];exact hgl
     rw[List.length_append,List.length_append,List.length_singleton,List.length_singleton] at this
     lia
   rcases hdd with z|z|z|z
   ·exfalso
    have:=hn k hk
    rw[cI] at this
    obtain⟨n',hn'⟩:∃n',ms.length=n'+1:=⟨ms.length-1,by lia⟩
    rw[hn',dj,show bU [k]=k from rfl,hR] at this
    have this:(if R.bq = "pop" /\ [k].length=1/\k≠0 then none else if bU (bR [k] R.bq R.goal)=k then some ([]++[k]) else dj ms row k n' (bR [k] R.bq R.goal) ([]++[k]))=none:=this
    rw[if_neg (λw=>by rw[z] at w;exact absurd w.1 (by decide)),z,se,if_pos (show bU [k]=k from rfl)] at this
    cases this
   ·exact absurd (.inl z) nofw
   ·exact z
   ·exact absurd (.inr z) nofw
 |succ f ih=>
  intro vis k hp hd hlt hf hf2
  have hk:=hlt k (by simp)
  cases hR:cR ms k row with
  |none=>exact⟨0,Nat.zero_le _,.inl hR⟩
  |some R=>
   obtain⟨hdd,hgo⟩:R.bq∈sJ/\(i6 R.bq->∃g,R.goal=some g/\g<ms.length):=by
    obtain⟨m,hm⟩:∃m,ms[k]?=some m:=⟨ms[k],List.getElem?_eq_getElem hk⟩
    have hid:cR ms k row=fN m.rules row:=by rw[cR,hm];rfl
    rw[hid] at hR
    exact⟨G.bq m (List.mem_of_getElem? hm) R (jt hR),G.goal m (List.mem_of_getElem? hm) R (jt hR)⟩
   have hdd:R.bq = "stay" ∨ R.bq = "push" ∨ R.bq = "pop" ∨ R.bq = "into" := by simpa using hdd
   have go:fwd R.bq->∃g m,R.goal=some g/\m<=f/\(DL ms row m g∨xK ms row m g):=λhfw=>by
    obtain⟨g,hg,hgl⟩:=hgo hfw
    have hfg:sr ms row k g:=⟨R,hR,hfw,hg⟩
    by_cases hmem:g∈vis++[k]
    ·exfalso
     obtain⟨A,B,hAB⟩:=List.append_of_mem hmem
     rw[hAB] at hp hd
     have hlast:=wM hAB
     have hB:(g::B).length<=ms.length:=kR _ _ (List.nodup_append.mp hd).2.1 λx hx=>hlt x (by rw[hAB];exact List.mem_append_right _ hx)
     exact nv B g k ms.length [g] [] (uR.suffix hp) hlast hfg rfl hB (hn g hgl)
    ·obtain⟨m,h1,h2⟩:=ih (vis++[k]) g (uR.snoc hp hfg) (List.nodup_append.mpr ⟨hd,by simp,λx hx y hy e=>hmem (by rw[List.mem_singleton.mp hy] at e;rw[← e];exact hx)⟩) (λx hx=>by
      rcases List.mem_append.mp hx with z|z
      ·exact hlt x z
      ·rw[List.mem_singleton.mp z];exact hgl) (by rw[List.length_append,List.length_singleton];lia) (by lia)
     exact⟨g,m,hg,h1,h2⟩
   rcases hdd with z|z|z|z
   ·exfalso
    have:=hn k hk
    rw[cI] at this
    obtain⟨n',hn'⟩:∃n',ms.length=n'+1:=⟨ms.length-1,by lia⟩
    rw[hn',dj,show bU [k]=k from rfl,hR] at this
    have this:(if R.bq = "pop" /\ [k].length=1/\k≠0 then none else if bU (bR [k] R.bq R.goal)=k then some ([]++[k]) else dj ms row k n' (bR [k] R.bq R.goal) ([]++[k]))=none:=this
    rw[if_neg (λw=>by rw[z] at w;exact absurd w.1 (by decide)),z,se,if_pos (show bU [k]=k from rfl)] at this
    cases this
   ·obtain⟨g,m,hg,hm,h|h⟩:=go (.inl z)
    ·exact⟨m+1,by lia,.inl ⟨g,⟨R,hR,.inl z,hg⟩,h⟩⟩
    ·exfalso
     obtain⟨n',hn'⟩:∃n',ms.length=n'+1:=⟨ms.length-1,by lia⟩
     have h0:=hn k hk
     rw[cI,hn'] at h0
     refine kq (on:=[k]) hR (.inl z) hg (.inr ?_) h0
     have:bR [k] R.bq R.goal=[k]++[g]:=by rw[z,hg,bR,if_pos rfl];rfl
     rw[this]
     exact wG m g n' [k] _ h (by simp) rfl (by lia)
   ·exact⟨0,Nat.zero_le _,.inr ⟨R,hR,z⟩⟩
   ·obtain⟨g,m,hg,hm,h|h⟩:=go (.inr z)
    ·exact⟨m+1,by lia,.inl ⟨g,⟨R,hR,.inr z,hg⟩,h⟩⟩
    ·exact⟨m+1,by lia,.inr ⟨g,R,hR,z,hg,h⟩⟩
end
theorem wY{on:List Nat}(h:on≠[]):∃r,on=r++[bU on]:=by
 rcases List.eq_nil_or_concat on with rfl|⟨p,x,rfl⟩
 ·exact absurd rfl h
 ·exact⟨p,by rw[List.concat_eq_append,m6]⟩
theorem tw {on:List Nat} {d:Str} {g:Nat} (h:d = "push"):bR on d (some g)=on++[g]:=by rw[bR,if_pos h];rfl
theorem nN {r:List Nat} {k:Nat} {d:Str} {g:Nat} (h:d = "into"):bR (r++[k]) d (some g)=r++[g]:=by
 rw[bR,h,if_neg (by decide),if_pos rfl,List.dropLast_concat];rfl
def tF(ms:List aD)(row:Str)(c:Cfg):Prop:=∃R,eO (fW ms (bU c.on)) row c.aP.length=some R/\bJ R.sort=false
def Still(ms:List aD)(row:Str):Nat->Cfg->Cfg->Prop
 |0,c,d=>c=d
 |n+1,c,d=>∃R,eO (fW ms (bU c.on)) row c.aP.length=some R/\bJ R.sort=false/\Still ms row n (iw c R row) d
theorem Still.go{ms:List aD}{row:Str}:∀{n m:Nat} {c d e:Cfg},Still ms row n c d->goN ms row m d=some e->goN ms row (n+m) c=some e
 |0,m,c,d,e,h,g=>by rw[Nat.zero_add,show c=d from h];exact g
 |n+1,m,c,d,e,⟨R,h1,_,h3⟩,g=>by
  rw[show n+1+m=(n+m)+1 by lia]
  exact pM (by rw[fT,h1]) (h3.go g)
theorem yo{c:Cfg}{R:aZ}{row:Str}(hs:R.sort∈sorts)(he:bJ R.sort=false):(iw c R row).aP=c.aP:=by
 show c.aP++List.replicate (iV R row c.aP.length) R.aU=c.aP
 rw[BB hs he]
 exact List.append_nil _
theorem Still.trans{ms:List aD}{row:Str}:∀{n m:Nat} {c d e:Cfg},Still ms row n c d->Still ms row m d e->Still ms row (n+m) c e
 |0,m,c,d,e,h,g=>by rw[Nat.zero_add,show c=d from h];exact g
 |n+1,m,c,d,e,⟨R,h1,h2,h3⟩,g=>by
  rw[show n+1+m=(n+m)+1 by lia]
  exact⟨R,h1,h2,h3.trans g⟩
structure nh(ms:List aD)(row:Str):Prop where
 g:dz ms
 three:ms.length<=4
 sg:∀m∈ms,∀R∈m.rules,¬ bare R.sort->1<=R.signs.length
 nr:∀r∈dJ,∀j,j<ms.length->cI ms j r=none
 row:∀c∈row.cps.toList,c∈kY.cps.toList
theorem nh.short{ms:List aD}{row:Str}(G:nh ms row)(i:Nat):cD row i∈dJ:=by
 unfold cD
 cases e:row.cps.toList[i]? with
 |none=>exact List.mem_cons_self ..
 |some c=>exact List.mem_cons_of_mem _ (List.mem_map.mpr ⟨c,G.row c (List.mem_of_getElem? e),rfl⟩)
theorem nh.rule{ms:List aD}{row:Str}(G:nh ms row){k i:Nat}{R:aZ}(hk:k<ms.length)(h:eO (fW ms k) row i=some R):∃m,ms[k]?=some m/\R∈m.rules/\R.sort∈sorts/\fC R row i=true:=by
 have hm:ms[k]?=some ms[k]:=List.getElem?_eq_getElem hk
 rw[fW,hm] at h
 have h:eO ms[k].rules row i=some R:=h
 unfold eO at h
 cases e:firstM ms[k].rules row i with
 |none=>rw[e] at h;cases h
 |some n=>
  rw[e] at h
  obtain⟨_,R',g1,g2,_⟩:=iW e
  rw[Nat.sub_zero] at g1
  have:R'=R:=Option.some.inj (g1.symm.trans h)
  subst this
  have hR:=List.mem_of_getElem? g1
  exact⟨_,hm,hR,((G.g.ok _ (List.getElem_mem hk)).2 R' hR).1,g2⟩
theorem nh.idle{ms:List aD}{row:Str}(G:nh ms row){k i:Nat}{R:aZ}(hk:k<ms.length)(hi:i<=row.length)(h:eO (fW ms k) row i=some R)(he:bJ R.sort=false):cR ms k (cD row i)=some R:=by
 have hm:ms[k]?=some ms[k]:=List.getElem?_eq_getElem hk
 rw[fW,hm] at h
 rw[cR,hm]
 exact AU (λR hR=>((G.g.ok _ (List.getElem_mem hk)).2 R hR).1) hi h he
theorem nh.step{ms:List aD}{row:Str}(G:nh ms row){c:Cfg}(hok:iQ ms c.on)(hi:c.aP.length<=row.length){us:List Nat}{k:Nat}(e:c.on=us++[k])(h:tF ms row c):∃R,cR ms k (cD row c.aP.length)=some R/\Still ms row 1 c (iw c R row)/\(iw c R row).aP=c.aP/\iQ ms (iw c R row).on/\(iw c R row).on=bR (us++[k]) R.bq R.goal:=by
 obtain⟨R,h1,h2⟩:=h
 have hk:bU c.on<ms.length:=hok.2 _ (mS hok.1)
 have ht:bU c.on=k:=by rw[e,m6]
 obtain⟨m,hm,hR,hs,_⟩:=G.rule hk h1
 have h3:=G.idle hk hi h1 h2
 rw[ht] at h3
 exact⟨R,h3,⟨R,h1,h2,rfl⟩,yo hs h2,hok.bq G.g (List.mem_of_getElem? hm) hR,by rw[← e];rfl⟩
theorem Ub{ms:List aD}{row:Str}(G:nh ms row):∀(m k:Nat) (us:List Nat) (c:Cfg),DL ms (cD row c.aP.length) m k->c.on=us++[k]->iQ ms c.on->c.aP.length<=row.length->
  ∃n d,Still ms row n c d/\¬tF ms row d/\d.aP=c.aP/\iQ ms d.on/\n<=m/\d.on.length<=c.on.length+m:=by
 intro m
 induction m using Nat.strongRecOn with
 |_ m ih=>
  intro k us c h e hok hi
  by_cases hid:tF ms row c
  ·obtain⟨R,r1,r2,r3,r4,r5⟩:=G.step hok hi e hid
   cases m with
   |zero=>
    have h:cR ms k (cD row c.aP.length)=none:=h
    rw[h] at r1;cases r1
   |succ m=>
    obtain⟨g,⟨R',h1,h2,h3⟩,h4⟩:=h
    rw[r1] at h1
    cases h1
    rw[← r3] at h4
    have hd:∃vs,(iw c R row).on=vs++[g]/\(iw c R row).on.length<=c.on.length+1:=by
     rw[r5,h3,e]
     rcases h2 with z|z
     ·exact⟨us++[k],by rw[tw z],by rw[tw z,List.length_append];exact Nat.le_refl _⟩
     ·exact⟨us,by rw[nN z],by rw[nN z,List.length_append,List.length_append];exact Nat.le_add_right _ _⟩
    obtain⟨vs,d1,d2⟩:=hd
    obtain⟨n,d,a1,a2,a3,a4,a5,a6⟩:=ih m (Nat.lt_succ_self m) g vs (iw c R row) h4 d1 r4 (by rw[r3];exact hi)
    exact⟨1+n,d,r2.trans a1,a2,by rw[a3,r3],a4,by lia,by lia⟩
  ·exact⟨0,c,rfl,hid,rfl,hok,Nat.zero_le _,Nat.le_add_right _ _⟩
theorem phP{ms:List aD}{row:Str}(G:nh ms row):∀(m k:Nat) (us:List Nat) (c:Cfg),xK ms (cD row c.aP.length) m k->c.on=us++[k]->iQ ms c.on->c.aP.length<=row.length->
  (∃n d,Still ms row n c d/\¬tF ms row d/\d.aP=c.aP/\iQ ms d.on/\n<=m/\d.on.length<=c.on.length)∨∃n d,Still ms row n c d/\d.on=(if us=[] then [0] else us)/\d.aP=c.aP/\iQ ms d.on/\n<=m+1:=by
 intro m
 induction m using Nat.strongRecOn with
 |_ m ih=>
  intro k us c h e hok hi
  by_cases hid:tF ms row c
  ·obtain⟨R,r1,r2,r3,r4,r5⟩:=G.step hok hi e hid
   cases m with
   |zero=>
    obtain⟨R',h1,h2⟩:=h
    rw[r1] at h1
    cases h1
    exact .inr ⟨1,_,r2,by rw[r5,h2,pW],r3,r4,Nat.le_refl _⟩
   |succ m=>
    obtain⟨g,R',h1,h2,h3,h4⟩:=h
    rw[r1] at h1
    cases h1
    rw[← r3] at h4
    have d1:(iw c R row).on=us++[g]:=by rw[r5,h3,nN h2]
    have d2:(iw c R row).on.length=c.on.length:=by rw[d1,e,List.length_append,List.length_append];rfl
    rcases ih m (Nat.lt_succ_self m) g us (iw c R row) h4 d1 r4 (by rw[r3];exact hi) with ⟨n,d,a1,a2,a3,a4,a5,a6⟩|⟨n,d,a1,a2,a3,a4,a5⟩
    ·exact .inl ⟨1+n,d,r2.trans a1,a2,by rw[a3,r3],a4,by lia,by lia⟩
    ·exact .inr ⟨1+n,d,r2.trans a1,a2,by rw[a3,r3],a4,by lia⟩
  ·exact .inl ⟨0,c,rfl,hid,rfl,hok,Nat.zero_le _,Nat.le_refl _⟩
theorem Q4{ms:List aD}{row:Str}(G:nh ms row):∀(l:Nat) (c:Cfg),c.on.length=l->iQ ms c.on->c.aP.length<=row.length->
  ∃n d,Still ms row n c d/\¬tF ms row d/\d.aP=c.aP/\iQ ms d.on/\n+4*d.on.length<=4*c.on.length+20:=by
 have h3:=G.three
 have hpos:=G.g.pos
 have one:∀i k,k<ms.length->∃m,m<=ms.length-1/\(DL ms (cD row i) m k∨xK ms (cD row i) m k):=λi k hk=>ends G.g (G.nr _ (G.short i)) (ms.length-1) [] k trivial (by simp) (by simpa using hk) (by rw[List.length_nil];lia) (by lia)
 intro l
 induction l with
 |zero=>intro c h1 h2;exact absurd (List.length_eq_zero_iff.mp h1) h2.1
 |succ l ih=>
  intro c hl hok hi
  obtain⟨us,e⟩:=wY hok.1
  have hk:bU c.on<ms.length:=hok.2 _ (mS hok.1)
  have el:c.on.length=us.length+1:=by rw[e,List.length_append];rfl
  obtain⟨m,hm,h|h⟩:=one c.aP.length (bU c.on) hk
  ·obtain⟨n,d,a1,a2,a3,a4,a5,a6⟩:=Ub G m _ us c h e hok hi
   exact⟨n,d,a1,a2,a3,a4,by lia⟩
  ·rcases phP G m _ us c h e hok hi with ⟨n,d,a1,a2,a3,a4,a5,a6⟩|⟨n,d,a1,a2,a3,a4,a5⟩
   ·exact⟨n,d,a1,a2,a3,a4,by lia⟩
   ·by_cases z:us=[]
    ·rw[if_pos z] at a2
     obtain⟨m0,hm0,h0|h0⟩:=one d.aP.length 0 hpos
     ·obtain⟨n2,d2,b1,b2,b3,b4,b5,b6⟩:=Ub G m0 0 [] d h0 a2 a4 (by rw[a3];exact hi)
      rw[a2] at b6
      have b6:d2.on.length<=1+m0:=b6
      exact⟨n+n2,d2,a1.trans b1,b2,by rw[b3,a3],b4,by lia⟩
     ·exact absurd (G.nr _ (G.short d.aP.length) 0 hpos) (oj m0 0 _ _ h0 (by lia))
    ·rw[if_neg z] at a2
     obtain⟨n2,d2,b1,b2,b3,b4,b5⟩:=ih d (by rw[a2];lia) a4 (by rw[a3];exact hi)
     rw[a2] at b5
     exact⟨n+n2,d2,a1.trans b1,b2,by rw[b3,a3],b4,by lia⟩
theorem S1{ms:List aD}{row:Str}(G:nh ms row):∀(D:Nat) (c:Cfg),row.length-c.aP.length=D->iQ ms c.on->c.aP.length<=row.length->
  ∃n d,goN ms row n c=some d/\d.aP.length=row.length/\iQ ms d.on/\n+4*d.on.length<=4*c.on.length+25*D+20:=by
 intro D
 induction D using Nat.strongRecOn with
 |ind D ih=>
  intro c hD hok hi
  obtain⟨n1,c1,a1,a2,a3,a4,a5⟩:=Q4 G _ c rfl hok hi
  have hi1:c1.aP.length<=row.length:=by rw[a3];exact hi
  have hk:bU c1.on<ms.length:=a4.2 _ (mS a4.1)
  cases hr:eO (fW ms (bU c1.on)) row c1.aP.length with
  |none=>
   by_cases hlt:c1.aP.length<row.length
   ·have hst:fT ms row c1=some ⟨c1.on,c1.aP++[d7 ms (bU c1.on)],c1.marks⟩:=by
     rw[fT,hr]
     show (if c1.aP.length<row.length then _ else _)=_
     rw[if_pos hlt]
    have hl2:(c1.aP++[d7 ms (bU c1.on)]).length=c1.aP.length+1:=by simp
    obtain⟨n2,d,b1,b2,b3,b4⟩:=ih (row.length-(c1.aP.length+1)) (by rw[a3] at hlt ⊢;lia) ⟨c1.on,c1.aP++[d7 ms (bU c1.on)],c1.marks⟩ (by show row.length-(c1.aP++[d7 ms (bU c1.on)]).length=_;rw[hl2]) a4 (by show (c1.aP++[d7 ms (bU c1.on)]).length<=_;rw[hl2];lia)
    have b4:n2+4*d.on.length<=4*c1.on.length+25*(row.length-(c1.aP.length+1))+20:=b4
    rw[a3] at hlt b4
    exact⟨n1+(n2+1),d,a1.go (pM hst b1),b2,b3,by lia⟩
   ·have hst:fT ms row c1=none:=by
     rw[fT,hr]
     show (if c1.aP.length<row.length then _ else _)=_
     rw[if_neg hlt]
    exact⟨n1+0,c1,a1.go (uC hst),by lia,a4,by lia⟩
  |some R=>
   obtain⟨m,hm,hR,hs,hf⟩:=G.rule hk hr
   have hmm:=List.mem_of_getElem? hm
   have he:bJ R.sort=true:=by
    cases e:bJ R.sort with
    |true=>rfl
    |false=>exact absurd ⟨R,hr,e⟩ a2
   have hst:fT ms row c1=some (iw c1 R row):=by rw[fT,hr]
   have e1:=HR (i:=c1.aP.length) hs he (G.sg m hmm R hR) hf
   have e2:=Bp (R:=R) (row:=row) (i:=c1.aP.length) hs hi1
   have hl2:(iw c1 R row).aP.length=c1.aP.length+iV R row c1.aP.length:=by
    show (c1.aP++List.replicate _ _).length=_
    rw[List.length_append,List.length_replicate]
   have hw:(iw c1 R row).on.length<=c1.on.length+1:=rD
   obtain⟨n2,d,b1,b2,b3,b4⟩:=ih (row.length-(iw c1 R row).aP.length) (by rw[hl2];rw[a3] at e1 e2 ⊢;lia) (iw c1 R row) rfl (a4.bq G.g hmm hR) (by rw[hl2];exact e2)
   rw[hl2] at b4
   rw[a3] at e1 e2 b4
   exact⟨n1+(n2+1),d,a1.go (pM hst b1),b2,b3,by lia⟩
theorem sU{ms:List aD}(hG:∀r:Str,(∀c∈r.cps.toList,c∈kY.cps.toList)->nh ms r):∀(rs:List Str) (b:List Nat),iQ ms b->(∀r∈rs,r.length<=1000/\∀c∈r.cps.toList,c∈kY.cps.toList)->4*b.length+25*tot rs+20*rs.length<=20000->∃Gs,Chain ms b rs Gs
 | [],_,_,_,_=>⟨[],trivial⟩
 |r::rs,b,hb,h,hl=>by
  rw[List.length_cons,j7] at hl
  obtain⟨h1,h2⟩:=h r (by simp)
  obtain⟨n,d,g1,g2,g3,g4⟩:=S1 (hG r h2) r.length ⟨b,[],[]⟩ (by simp) hb (by simp)
  have g4:n+4*d.on.length<=4*b.length+25*r.length+20:=g4
  obtain⟨Gs,k1⟩:=sU hG rs d.on g3 (λx hx=>h x (List.mem_cons_of_mem _ hx)) (by lia)
  exact⟨⟨r,b,d⟩::Gs,rfl,rfl,⟨hb,by show b.length<=_;lia,h1,⟨n,by lia,g1⟩,g3,by show d.on.length<=_;lia,g2⟩,k1⟩
def bS(sp:List (Str×Nat×Nat))(ps:List Addr):List (Key×V):=List.zipWith (λx p=>((Sum.inr x.1:Key),V.ref p)) sp ps
structure Iz(H:Hp)(d:Addr)(sp:List (Str×Nat×Nat))(ps:List Addr):Prop where
 len:ps.length=sp.length
 ob:H d=some (.dK (bS sp ps))
 pl:bI (λp (x:Str×Nat×Nat)=>H p=some (.tup [bE x.2.1,bE x.2.2])) ps sp
theorem Iz.same{H H':Hp}{d:Addr}{sp:List (Str×Nat×Nat)}{ps:List Addr}(h:Iz H d sp ps)(s:aj H H'):Iz H' d sp ps:=⟨h.len,s _ _ h.ob,h.pl.mono λ_ _ e=>s _ _ e⟩
def DP(H:Hp)(d:Addr)(sp:List (Str×Nat×Nat)):Prop:=∃ps,Iz H d sp ps
theorem DP.same{H H':Hp}{d:Addr}{sp:List (Str×Nat×Nat)}(h:DP H d sp)(s:aj H H'):DP H' d sp:=by
 obtain⟨ps,a⟩:=h
 exact⟨ps,a.same s⟩
abbrev bB(sp:List (Str×Nat×Nat)):List Str:=sp.map (·.1)
theorem c9{sp:List (Str×Nat×Nat)}{ps:List Addr}(h:ps.length=sp.length):(bS sp ps).length=sp.length:=by unfold bS;rw[List.length_zipWith,h];simp
theorem kT:∀{sp:List (Str×Nat×Nat)} {ps:List Addr},ps.length=sp.length->(bS sp ps).map (·.1)=(bB sp).map Sum.inr
 | [],[],_=>rfl
 |x::sp,p::ps,h=>by
  have ih:=kT (sp:=sp) (ps:=ps) (by simpa using h)
  show Sum.inr x.1::(bS sp ps).map (·.1)=_
  rw[ih];rfl
 | [],_::_,h=>by simp at h
 |_::_,[],h=>by simp at h
theorem z7{sp:List (Str×Nat×Nat)}{ps:List Addr}{i:Nat}{x:Str×Nat×Nat}{p:Addr}(h1:sp[i]?=some x)(h2:ps[i]?=some p):(bS sp ps)[i]?=some (Sum.inr x.1,V.ref p):=by
 unfold bS
 rw[List.getElem?_zipWith,h1,h2]
theorem oV{n:Str}:∀{sp:List (Str×Nat×Nat)} {ps:List Addr},n∉bB sp->dU (bS sp ps) (Sum.inr n)=none
 | [],_,_=>by unfold bS;exact vO
 |x::sp,[],_=>vO
 |x::sp,p::ps,h=>by
  have hx:¬ (Sum.inr x.1:Key)=Sum.inr n:=λz=>h (by rw[Sum.inr.inj z.symm];exact List.mem_cons_self ..)
  show dU ((Sum.inr x.1,V.ref p)::bS sp ps) _=none
  rw[dM hx]
  exact oV λz=>h (List.mem_cons_of_mem _ z)
theorem jJ:∀{sp:List (Str×Nat×Nat)} {ps:List Addr} {i:Nat} {x:Str×Nat×Nat} {p:Addr},(bB sp).Nodup->sp[i]?=some x->ps[i]?=some p->dU (bS sp ps) (Sum.inr x.1)=some (.ref p)
 | [],_,_,_,_,_,h,_=>by simp at h
 |_::_,[],_,_,_,_,_,h=>by simp at h
 |y::sp,q::ps,0,x,p,_,h1,h2=>by
  simp only[List.getElem?_cons_zero,Option.some.injEq] at h1 h2
  subst h1 h2
  exact d8 rfl
 |y::sp,q::ps,i+1,x,p,hn,h1,h2=>by
  simp only[List.getElem?_cons_succ] at h1 h2
  have hn:=List.nodup_cons.mp hn
  have hx:¬ (Sum.inr y.1:Key)=Sum.inr x.1:=λz=>hn.1 (by show y.1∈_;rw[Sum.inr.inj z];exact List.mem_map.mpr ⟨x,List.mem_of_getElem? h1,rfl⟩)
  show dU ((Sum.inr y.1,V.ref q)::bS sp ps) _=_
  rw[dM hx]
  exact jJ hn.2 h1 h2
def qE(sp:List (Str×Nat×Nat))(n:Str)(v:Nat×Nat):List (Str×Nat×Nat):=if n∈bB sp then sp.map (λx=>if x.1=n then (n,v) else x) else sp++[(n,v)]
theorem pU(sp:List (Str×Nat×Nat))(n:Str)(v:Nat×Nat):bB (qE sp n v)=if n∈bB sp then bB sp else bB sp++[n]:=by
 unfold qE bB
 split
 ·rw[List.map_map]
  refine List.map_congr_left λx _=>?_
  show (if x.1=n then (n,v) else x).1=x.1
  by_cases e:x.1=n
  ·rw[if_pos e,e]
  ·rw[if_neg e]
 ·rw[List.map_append];rfl
theorem IP{sp:List (Str×Nat×Nat)}{n:Str}{v:Nat×Nat}(h:(bB sp).Nodup):(bB (qE sp n v)).Nodup:=by
 rw[pU]
 split
 ·exact h
 ·rename_i hn
  exact zo h hn
theorem DQ{sp sp':List (Str×Nat×Nat)}{ps ps':List Addr}(h:ps.length=sp.length):bS (sp++sp') (ps++ps')=bS sp ps++bS sp' ps':=by
 unfold bS
 exact List.zipWith_append h.symm
theorem E3{n:Str}{v:Nat×Nat}{p:Addr}:∀{sp:List (Str×Nat×Nat)} {ps:List Addr},ps.length=sp.length->(bS sp ps).map (λkv=>if kv.1=Sum.inr n then (kv.1,V.ref p) else kv)=bS (sp.map λx=>if x.1=n then (n,v) else x) (List.zipWith (λ(x:Str×Nat×Nat) q=>if x.1=n then p else q) sp ps)
 | [],[],_=>rfl
 |x::sp,q::ps,h=>by
  have ih:=E3 (n:=n) (v:=v) (p:=p) (sp:=sp) (ps:=ps) (by simpa using h)
  show (if (Sum.inr x.1:Key)=Sum.inr n then (Sum.inr x.1,V.ref p) else (Sum.inr x.1,V.ref q))::(bS sp ps).map _=(Sum.inr (if x.1=n then (n,v) else x).1,V.ref (if x.1=n then p else q))::bS _ _
  rw[ih]
  by_cases e:x.1=n
  ·rw[if_pos (by rw[e]),if_pos e,if_pos e,e]
  ·rw[if_neg (λz=>e (Sum.inr.inj z)),if_neg e,if_neg e]
 | [],_::_,h=>by simp at h
 |_::_,[],h=>by simp at h
theorem Et{H:Hp}{d p:Addr}{sp:List (Str×Nat×Nat)}{ps:List Addr}{n:Str}{v:Nat×Nat}(h:Iz H d sp ps)(hp:H p=some (.tup [bE v.1,bE v.2])) :
  ∃ps',ps'.length=(qE sp n v).length/\putK (bS sp ps) (Sum.inr n) (.ref p)=bS (qE sp n v) ps'/\bI (λp (x:Str×Nat×Nat)=>H p=some (.tup [bE x.2.1,bE x.2.2])) ps' (qE sp n v):=by
 have hany:((bS sp ps).any λkv=>decide (kv.1=Sum.inr n))=decide (n∈bB sp):=by
  rw[fX]
  by_cases e:n∈bB sp
  ·rw[decide_eq_true e]
   obtain⟨x,hx,rfl⟩:=List.mem_map.mp e
   cases q:dU (bS sp ps) (Sum.inr x.1) with
   |some y=>rfl
   |none=>
    have:=CD q
    rw[kT h.len] at this
    exact absurd (List.mem_map.mpr ⟨x.1,e,rfl⟩) this
  ·rw[decide_eq_false e,oV e];rfl
 unfold putK
 rw[hany]
 unfold qE
 by_cases e:n∈bB sp
 ·rw[if_pos (decide_eq_true e),if_pos e]
  refine⟨_,?_,E3 h.len,?_,?_⟩
  ·rw[List.length_zipWith,List.length_map,h.len];simp
  ·rw[List.length_zipWith,List.length_map,h.len];simp
  ·intro i q x h1 h2
   rw[List.getElem?_map] at h2
   obtain⟨y,g1,rfl⟩:=Option.map_eq_some_iff.mp h2
   rw[List.getElem?_zipWith,g1] at h1
   cases g2:ps[i]? with
   |none=>rw[g2] at h1;cases h1
   |some q'=>
    rw[g2] at h1
    have h1:(if y.1=n then p else q')=q:=Option.some.inj h1
    by_cases e2:y.1=n
    ·rw[if_pos e2] at h1 ⊢
     rw[← h1];exact hp
    ·rw[if_neg e2] at h1 ⊢
     rw[← h1];exact h.pl.2 i q' y g2 g1
 ·rw[if_neg e,if_neg (show ¬ decide (n∈bB sp)=true by simp[e])]
  exact⟨ps++[p],by simp[h.len],(DQ (sp':=[(n,v)]) (ps':=[p]) h.len).symm,bI.snoc h.pl hp⟩
def jr(sp:List (Str×Nat×Nat))(n:Str):List (Str×Nat×Nat):=sp.filter λx=>decide (x.1≠n)
theorem Fi{sp:List (Str×Nat×Nat)}{n:Str}(h:(bB sp).Nodup):(bB (jr sp n)).Nodup:=List.Nodup.sublist (List.Sublist.map _ (List.filter_sublist ..)) h
theorem ud{H:Hp}{n:Str}:∀{sp:List (Str×Nat×Nat)} {ps:List Addr},bI (λp (x:Str×Nat×Nat)=>H p=some (.tup [bE x.2.1,bE x.2.2])) ps sp->
  ∃ps',ps'.length=(jr sp n).length/\i8 (bS sp ps) (Sum.inr n)=bS (jr sp n) ps'/\bI (λp (x:Str×Nat×Nat)=>H p=some (.tup [bE x.2.1,bE x.2.2])) ps' (jr sp n)
 | [],[],_=>⟨[],rfl,rfl,bI.nil⟩
 |x::sp,p::ps,h=>by
  have ht:bI (λp (x:Str×Nat×Nat)=>H p=some (.tup [bE x.2.1,bE x.2.2])) ps sp:=⟨by simpa using h.1,λi a b e1 e2=>h.2 (i+1) a b (by simpa using e1) (by simpa using e2)⟩
  obtain⟨ps',l,e,a⟩:=ud (n:=n) ht
  have hp:=h.2 0 p x rfl rfl
  by_cases z:x.1=n
  ·have e1:jr (x::sp) n=jr sp n:=by unfold jr;rw[List.filter_cons_of_neg (by simp[z])]
   rw[e1]
   exact⟨ps',l,by show i8 ((Sum.inr x.1,V.ref p)::bS sp ps) _=_;rw[Ao (by rw[z])];exact e,a⟩
  ·have e1:jr (x::sp) n=x::jr sp n:=by unfold jr;rw[List.filter_cons_of_pos (by simp[z])]
   rw[e1]
   refine⟨p::ps',by simp[l],?_,?_,?_⟩
   ·show i8 ((Sum.inr x.1,V.ref p)::bS sp ps) _=(Sum.inr x.1,V.ref p)::bS (jr sp n) ps'
    rw[Be (λy=>z (Sum.inr.inj y)),e]
   ·simp[l]
   ·intro i a' b' e2 e3
    cases i with
    |zero=>
     simp only[List.getElem?_cons_zero,Option.some.injEq] at e2 e3
     subst e2 e3;exact hp
    |succ i=>exact a.2 i a' b' (by simpa using e2) (by simpa using e3)
 | [],_::_,h=>by have:=h.1;simp at this
 |_::_,[],h=>by have:=h.1;simp at this
theorem v5:∀(kvs acc:List (Key×V)),((acc++kvs).map (·.1)).Nodup->iP acc kvs=acc++kvs
 | [],acc,_=>by rw[List.append_nil];rfl
 |kv::r,acc,h=>by
  have hn:dU acc kv.1=none:=by
   cases q:dU acc kv.1 with
   |none=>rfl
   |some y=>
    have hm:=Im q
    rw[List.map_append,List.map_cons] at h
    exact absurd rfl ((List.nodup_append.mp h).2.2 _ hm _ (List.mem_cons_self ..))
  show iP (putK acc kv.1 kv.2) r=_
  rw[vS _ hn]
  have:=v5 r (acc++[(kv.1,kv.2)]) (by simpa using h)
  rw[this];simp
theorem pF{sp:List (Str×Nat×Nat)}{ps:List Addr}(h:ps.length=sp.length)(hn:(bB sp).Nodup):iP [] (bS sp ps)=bS sp ps:=by
 have:=v5 (bS sp ps) [] (by
  rw[List.nil_append,kT h]
  exact List.pairwise_map.mpr (hn.imp λh z=>h (Sum.inr.inj z)))
 simpa using this
def zS(sp:List (Str×Nat×Nat))(n:Str):Nat×Nat:=((sp.find? λx=>decide (x.1=n)).map (·.2)).getD (0,0)
theorem wV{sp:List (Str×Nat×Nat)}{i:Nat}{x:Str×Nat×Nat}(hn:(bB sp).Nodup)(h:sp[i]?=some x):zS sp x.1=x.2:=by
 unfold zS
 induction sp generalizing i with
 |nil=>simp at h
 |cons y sp ih=>
  cases i with
  |zero=>
   simp only[List.getElem?_cons_zero,Option.some.injEq] at h
   subst h
   rw[List.find?_cons_of_pos (by simp)];rfl
  |succ i=>
   simp only[List.getElem?_cons_succ] at h
   have hn:=List.nodup_cons.mp hn
   rw[List.find?_cons_of_neg (by
    simp only[decide_eq_true_eq]
    intro z
    exact hn.1 (by show y.1∈_;rw[z];exact List.mem_map.mpr ⟨x,List.mem_of_getElem? h,rfl⟩))]
   exact ih hn.2 h
def cA(sp:List (Str×Nat×Nat)):List (Str×Nat×Nat):=(dD (bB sp)).map λn=>(n,zS sp n)
theorem jz(sp:List (Str×Nat×Nat)):bB (cA sp)=dD (bB sp):=by
 unfold cA
 show List.map _ (List.map _ _)=_
 rw[List.map_map]
 exact List.map_id' _
theorem AE{sp:List (Str×Nat×Nat)}(hn:(bB sp).Nodup):(bB (cA sp)).Nodup:=by
 rw[jz]
 exact(dR _).nodup_iff.mpr hn
theorem jx{sp:List (Str×Nat×Nat)}{n:Str}(h:n∈bB sp):∃(i:Nat) (x:Str×Nat×Nat),sp[i]?=some x/\x.1=n:=by
 obtain⟨x,hx,e⟩:=List.mem_map.mp h
 obtain⟨i,hi⟩:=List.mem_iff_getElem?.mp hx
 exact⟨i,x,hi,e⟩
theorem yM{sp:List (Str×Nat×Nat)}(hn:(bB sp).Nodup){x:Str×Nat×Nat}(h:x∈cA sp):x∈sp:=by
 unfold cA at h
 obtain⟨n,h1,rfl⟩:=List.mem_map.mp h
 obtain⟨i,y,h2,rfl⟩:=jx ((dR _).mem_iff.mp h1)
 rw[wV hn h2]
 exact List.mem_of_getElem? h2
theorem mL{H:Hp}{a b:Addr}{sp:List (Str×Nat×Nat)}(hn:(bB sp).Nodup)(h1:DP H a (cA sp))(h2:DP H b sp):yR K H a b:=by
 obtain⟨ps,h1⟩:=h1
 obtain⟨qs,h2⟩:=h2
 have hl:(cA sp).length=sp.length:=by
  unfold cA
  rw[List.length_map,(dR _).length_eq,List.length_map]
 refine⟨_,_,h1.ob,h2.ob,by rw[c9 h1.len,c9 h2.len,hl],λkv hk=>?_⟩
 obtain⟨i,hi⟩:=List.mem_iff_getElem?.mp hk
 have li:=(List.getElem?_eq_some_iff.mp hi).1
 rw[c9 h1.len] at li
 have ex:(cA sp)[i]?=some (cA sp)[i]:=List.getElem?_eq_getElem li
 have ep:ps[i]?=some (ps[i]'(by rw[h1.len];exact li)):=List.getElem?_eq_getElem _
 rw[z7 ex ep] at hi
 cases hi
 obtain⟨j,hj⟩:=List.mem_iff_getElem?.mp (yM hn (List.mem_of_getElem? ex))
 have lj:=(List.getElem?_eq_some_iff.mp hj).1
 have eq:qs[j]?=some (qs[j]'(by rw[h2.len];exact lj)):=List.getElem?_eq_getElem _
 refine⟨_,jJ hn hj eq,.inr ⟨_,_,_,_,rfl,rfl,.inr ⟨dO.of (h1.pl.2 i _ _ ep ex),dO.of (h2.pl.2 j _ _ eq hj)⟩,rfl,λk x y e1 e2=>?_⟩⟩
 rw[e1] at e2
 cases e2
 have:x=bE (cA sp)[i].2.1∨x=bE (cA sp)[i].2.2:=by
  have:=List.mem_of_getElem? e1
  simpa using this
 rcases this with rfl|rfl <;> exact⟨rfl,.inl rfl⟩
theorem O4(a b c d:Nat):HT.lexLt [(a:Int),b] [(c:Int),d]=decide (a<c∨a=c/\b<d):=by
 simp only[HT.lexLt]
 by_cases h1:(a:Int)=c
 ·rw[if_pos h1]
  have h1':a=c:=by lia
  by_cases h2:(b:Int)=d
  ·rw[if_pos h2]
   exact(decide_eq_false (by lia)).symm
  ·rw[if_neg h2]
   exact decide_eq_decide.mpr (by lia)
 ·rw[if_neg h1]
  exact decide_eq_decide.mpr (by lia)
theorem Fo(a b c d:Nat):HT.lexLe [(a:Int),b] [(c:Int),d]=decide (a<c∨a=c/\b<=d):=by
 simp only[HT.lexLe]
 by_cases h1:(a:Int)=c
 ·rw[if_pos h1]
  have h1':a=c:=by lia
  by_cases h2:(b:Int)=d
  ·rw[if_pos h2]
   exact(decide_eq_true (by lia)).symm
  ·rw[if_neg h2]
   exact decide_eq_decide.mpr (by lia)
 ·rw[if_neg h1]
  exact decide_eq_decide.mpr (by lia)
theorem Mz{α:Type}{xs:List α}{v:α}(h:xs[xs.length-1]?=some v):rO xs (-1)=some v:=by
 have hl:=(List.getElem?_eq_some_iff.mp h).1
 have e:Az xs.length (-1)=some (xs.length-1):=by
  unfold Az
  rw[if_neg (by decide)]
  show (if _ then _ else _)=_
  rw[if_pos (by lia)]
  congr 1
  lia
 unfold rO
 rw[e]
 exact h
abbrev rT(H:Hp)(p:Addr)(v:Nat×Nat):Prop:=H p=some (.tup [bE v.1,bE v.2])
theorem CF{z:Str}:∃y,(lG z)[(lG z).length-1]?=some y/\y.length=wF z:=by
 have hn:=lP z
 have hl:0<(lG z).length:=List.length_pos_iff.mpr hn
 refine⟨(lG z)[(lG z).length-1]'(by lia),List.getElem?_eq_getElem _,?_⟩
 unfold wF
 have e:(bV z.cps.toList).getLastD []=((lG z)[(lG z).length-1]'(by lia)).cps.toList:=by
  rw[← iH,List.getLastD_eq_getLast?,List.getLast?_eq_getElem?,List.getElem?_map,List.length_map,List.getElem?_eq_getElem (by lia)]
  rfl
 rw[e,br]
noncomputable def Nv:Sp:=λvs H Q _=>∃(S:Addr->Prop) (p f:Addr) (v w:Nat×Nat) (z:Str),vs=[.ref p,.ref f,.str z]/\Ex S H/\rT (hid S H) p v/\rT (hid S H) f w/\z.length<=1000/\v.1<=100000/\v.2<=100000/\w.1<=100000/\w.2<=100000/\∀p' H',rT (hid S H') p' (oX v w z)->aj H H'->Q (.ref p') H'
theorem M0 (T:Txt K mg t):bD P w K mg base dw 1 t.Cj t.Mh ["place","first","text"] Nv:=by
 refine T.FL.m um λvs H Q E h=>?_
 ·obtain⟨S,p,f,v,w,z,rfl,hE,hp0,hf0,hz,b1,b2,b3,b4,q⟩:=h
  walk_at "i"
  have hp:=aB _ _ hp0
  have hf:=aB _ _ hf0
  have sz:=sizeLine_eq
  have e1:dO K H p ([(v.1:Int),(v.2:Int)].map V.int):=dO.of hp
  have e2:dO K H f ([(w.1:Int),(w.2:Int)].map V.int):=dO.of hf
  refine ao (bK (aE (MC (Nat.lt_of_succ_lt (cK hr))) (pv 0) (pv 1) (aI _)) aA aA) ⟨_,rfl,_,rfl,p,f,_,_,rfl,rfl,e1,e2,_,rfl,?_⟩
  rw[O4]
  refine fq (λh=>?_) (λh=>?_)
  ·refine ay (aJ (pv 0)) ⟨_,rfl,q p H ?_ (aj.refl H)⟩
   unfold oX JX
   rw[if_pos h]
   exact hp0
  ·refine bG ?_
   refine ao (cS 3 um (dG F.plainAttrs_str F.slot_str_split F.type_str_split jq (pv 2) (aa az ai))) ⟨_,rfl,rfl,z,Str.ofString "\n",rfl,rfl,rfl,(by lia),λl hl=>?_⟩
   rw[tR]
   have s1:aj H (upd H l (.lst ((lG z).map V.str))):=aj.upd hl
   have hl1:upd H l (.lst ((lG z).map V.str)) l=some (.lst ((lG z).map V.str)):=af
   generalize upd H l (.lst ((lG z).map V.str))=H1 at s1 hl1
   have hn:0<(lG z).length:=List.length_pos_iff.mpr (lP z)
   have hsl:=(uo z).1
   have hcl:z.cps.toList.count 10<=z.length:=by rw[← br];exact List.count_le_length
   refine ao (cS 4 um (aM eu (aN bh (by rfl) T.cy (by decide +kernel) (aa (pv 3) ai)) aq)) ⟨_,rfl,l,_,rfl,.inl (bg.of hl1),_,_,rfl,rfl,?_⟩
   have em:(((lG z).map V.str).length:Int)-1=(lE z:Nat):=by unfold lE;rw[List.length_map];lia
   show At _ _ _ [some (.ref p),some (.ref f),some (.str z),some (.ref l),some (.int ((((lG z).map V.str).length:Int)-1)),none] H1
   rw[em]
   have hm:lE z<=1000:=by unfold lE;lia
   refine ao (bK (aE gZ (aR cu (pv 0) aq (λ_ _=>rfl)) (aR cu (pv 1) aq (λ_ _=>rfl)) (aI _)) aA aA) ⟨_,rfl,_,_,_,_,rfl,rfl,dO.of (s1 _ _ hp),aH (j:=0) rfl,_,rfl,_,_,_,_,rfl,rfl,dO.of (s1 _ _ hf),aH (j:=0) rfl,_,_,rfl,rfl,_,rfl,?_⟩
   refine fq (λh2=>?_) (λh2=>?_)
   ·refine ay (aJ (bC (aa (aM bO (aR cu (pv 0) aq (λ_ _=>rfl)) (pv 4)) (aa (aR cu (pv 0) aq (λ_ _=>rfl)) ai)))) ⟨_,rfl,_,_,_,_,rfl,rfl,dO.of (s1 _ _ hp),aH (j:=0) rfl,_,rfl,_,_,rfl,rfl,_,rfl,_,_,_,_,rfl,rfl,dO.of (s1 _ _ hp),aH (j:=1) rfl,(by show 2<=sizeLine;decide),λp' hp'=>q p' _ ?_ (s1.trans (aj.upd hp'))⟩
    have h2:v.1>w.1:=by lia
    unfold oX JX
    rw[if_neg h,if_pos h2]
    exact bf af ((hE.same s1).new hp')
   ·have h2:¬ v.1>w.1:=by lia
    refine bG ?_
    obtain⟨y,y1,y2⟩:=CF (z:=z)
    have yl:y.length<=1000:=by
     have h3:=(uo z).2
     have:=jA (List.mem_of_getElem? y1)
     lia
    refine aS (λZ' H'=>∃b:Nat,b=(if lE z>0 then 0 else w.2)/\Z'=[some (.ref p),some (.ref f),some (.str z),some (.ref l),some (.int (lE z:Nat)),some (.int (b:Nat))]/\H'=H1) (cS 5 um (cN (aE gZ (pv 4) aq (aI _)) aq (aR cu (pv 1) aq (λ_ _=>rfl)))) ?_ ?_
    ·refine⟨_,rfl,_,_,rfl,rfl,_,rfl,fq (λh3=>?_) (λh3=>?_)⟩
     ·exact⟨0,by rw[if_pos (by lia)],rfl,rfl⟩
     ·exact⟨_,rfl,_,_,_,_,rfl,rfl,dO.of (s1 _ _ hf),aH (j:=1) rfl,w.2,by rw[if_neg (by lia)],rfl,rfl⟩
    rintro Z' H' ⟨b,hb,rfl,hH⟩
    subst hH
    have hb2:b<=100000:=by rw[hb];split <;> lia
    have hbw:¬ lE z>0->b=w.2:=λe=>by rw[hb,if_neg e]
    have hvw:w.2<=v.2:=by lia
    refine ay (aJ (bC (aa (aM bO (aR cu (pv 1) aq (λ_ _=>rfl)) (pv 4)) (aa (aM eu (aM bO (aM bO (pv 5) (aN bz (by rfl) T.cy (by decide +kernel) (aa (aR aL (pv 3) (lM jd aq) (λ_ _=>rfl)) ai))) (aR cu (pv 0) aq (λ_ _=>rfl))) (aR cu (pv 1) aq (λ_ _=>rfl))) ai)))) ⟨_,rfl,_,_,_,_,rfl,rfl,dO.of (s1 _ _ hf),aH (j:=0) rfl,_,rfl,_,_,rfl,rfl,_,rfl,_,rfl,_,rfl,_,_,_,_,rfl,rfl,bg.of hl1,Mz (by rw[List.length_map,List.getElem?_map,y1];rfl),_,rfl,b9 (by lia),_,_,rfl,rfl,_,rfl,_,_,_,_,rfl,rfl,dO.of (s1 _ _ hp),aH (j:=1) rfl,_,_,rfl,rfl,_,rfl,_,_,_,_,rfl,rfl,dO.of (s1 _ _ hf),aH (j:=1) rfl,_,_,rfl,rfl,(by show 2<=sizeLine;decide),λp' hp'=>q p' _ ?_ (s1.trans (aj.upd hp'))⟩
    unfold oX JX
    rw[if_neg h,if_neg h2,← hb]
    refine bf ?_ ((hE.same s1).new hp')
    show upd _ p' (.tup [.int ((w.1:Int)+(lE z:Nat)),.int ((b:Int)+(y.length:Int)+(v.2:Int)-(w.2:Int))]) p'=some (.tup [bE (w.1+lE z),bE (b+wF z+v.2-w.2)])
    rw[af]
    have e3:((b:Int)+(y.length:Int)+(v.2:Int)-(w.2:Int))=((b+wF z+v.2-w.2:Nat):Int):=by lia
    rw[e3]
    rfl
noncomputable def Nb:Sp:=λvs H Q _=>∃(S:Addr->Prop) (p f g:Addr) (v w u:Nat×Nat),vs=[.ref p,.ref f,.ref g]/\Ex S H/\rT (hid S H) p v/\rT (hid S H) f w/\rT (hid S H) g u/\∀p' H',rT (hid S H') p' (mW v w u)->aj H H'->Q (.ref p') H'
theorem Np (T:Txt K mg t):bD P w K mg base dw 1 t.Fj t.Lw ["place","first","second"] Nb:=by
 refine T.EE.m Nu λvs H Q E h=>?_
 ·obtain⟨S,p,f,g,v,w,u,rfl,hE,hp0,hf0,hg0,q⟩:=h
  walk_at "i"
  have hp:=aB _ _ hp0
  have hf:=aB _ _ hf0
  have hg:=aB _ _ hg0
  have e1:dO K H p ([(v.1:Int),(v.2:Int)].map V.int):=dO.of hp
  have e2:dO K H f ([(w.1:Int),(w.2:Int)].map V.int):=dO.of hf
  have e3:dO K H g ([(u.1:Int),(u.2:Int)].map V.int):=dO.of hg
  refine ao (bK (aE (z0 (Nat.lt_of_succ_lt (cK hr))) (pv 0) (pv 1) (aI _)) aA aA) ⟨_,rfl,_,rfl,p,f,_,_,rfl,rfl,e1,e2,_,rfl,?_⟩
  rw[Fo]
  refine fq (λh=>?_) (λh=>bG ?_)
  ·refine ay (aJ (pv 0)) ⟨_,rfl,q p H ?_ (aj.refl H)⟩
   unfold mW
   rw[if_pos h]
   exact hp0
  refine ao (bK (aE (z0 (Nat.lt_of_succ_lt (cK hr))) (pv 0) (pv 2) (aI _)) aA aA) ⟨_,rfl,_,rfl,p,g,_,_,rfl,rfl,e1,e3,_,rfl,?_⟩
  rw[Fo]
  refine fq (λh2=>?_) (λh2=>bG ?_)
  ·refine ay (aJ (pv 1)) ⟨_,rfl,q f H ?_ (aj.refl H)⟩
   unfold mW
   rw[if_neg h,if_pos h2]
   exact hf0
  refine ao (bK (aE gZ (aR cu (pv 0) aq (λ_ _=>rfl)) (aR cu (pv 2) aq (λ_ _=>rfl)) (aI _)) aA aA) ⟨_,rfl,_,_,_,_,rfl,rfl,dO.of hp,aH (j:=0) rfl,_,rfl,_,_,_,_,rfl,rfl,dO.of hg,aH (j:=0) rfl,_,_,rfl,rfl,_,rfl,fq (λh3=>?_) (λh3=>bG ?_)⟩
  ·refine ay (aJ (bC (aa (aM bO (aM eu (aR cu (pv 0) aq (λ_ _=>rfl)) (aR cu (pv 2) aq (λ_ _=>rfl))) (aR cu (pv 1) aq (λ_ _=>rfl))) (aa (aR cu (pv 0) aq (λ_ _=>rfl)) ai)))) ⟨_,rfl,_,_,_,_,rfl,rfl,dO.of hp,aH (j:=0) rfl,_,rfl,_,_,_,_,rfl,rfl,dO.of hg,aH (j:=0) rfl,_,_,rfl,rfl,_,rfl,_,_,_,_,rfl,rfl,dO.of hf,aH (j:=0) rfl,_,_,rfl,rfl,_,rfl,_,_,_,_,rfl,rfl,dO.of hp,aH (j:=1) rfl,(by show 2<=sizeLine;decide),λp' hp'=>q p' _ ?_ (aj.upd hp')⟩
   have h3:v.1>u.1:=by lia
   unfold mW
   rw[if_neg h,if_neg h2,if_pos h3]
   refine bf ?_ (hE.new hp')
   show upd H p' (.tup [.int ((v.1:Int)-(u.1:Int)+(w.1:Int)),.int v.2]) p'=some (.tup [bE (v.1-u.1+w.1),bE v.2])
   rw[af,show ((v.1:Int)-(u.1:Int)+(w.1:Int))=((v.1-u.1+w.1:Nat):Int) by lia]
   rfl
  ·have h3:¬ v.1>u.1:=by lia
   refine ay (aJ (bC (aa (aR cu (pv 1) aq (λ_ _=>rfl)) (aa (aM eu (aM bO (aR cu (pv 1) aq (λ_ _=>rfl)) (aR cu (pv 0) aq (λ_ _=>rfl))) (aR cu (pv 2) aq (λ_ _=>rfl))) ai)))) ⟨_,rfl,_,_,_,_,rfl,rfl,dO.of hf,aH (j:=0) rfl,_,rfl,_,_,_,_,rfl,rfl,dO.of hf,aH (j:=1) rfl,_,rfl,_,_,_,_,rfl,rfl,dO.of hp,aH (j:=1) rfl,_,_,rfl,rfl,_,rfl,_,_,_,_,rfl,rfl,dO.of hg,aH (j:=1) rfl,_,_,rfl,rfl,(by show 2<=sizeLine;decide),λp' hp'=>q p' _ ?_ (aj.upd hp')⟩
   unfold mW
   rw[if_neg h,if_neg h2,if_neg h3]
   refine bf ?_ (hE.new hp')
   show upd H p' (.tup [.int w.1,.int ((w.2:Int)+(v.2:Int)-(u.2:Int))]) p'=some (.tup [bE w.1,bE (w.2+v.2-u.2)])
   rw[af,show ((w.2:Int)+(v.2:Int)-(u.2:Int))=((w.2+v.2-u.2:Nat):Int) by lia]
   rfl
def df (i:Nat) (lt lv d:Addr) (b:V):List (Str×V):=[("row",.int i),("taken",.ref lt),("given",.ref lv),("places_ahead",.ref d),("places_behind",b)]
noncomputable def Hi(t:fE):Sp:=λvs H Q _=>∃(x dx lt lv d:Addr) (i:Nat),vs=[.ref x,.int i,.ref lt,.ref lv,.ref d]/\H x=some (.ins t.fu dx [])/\Q .cW (upd H x (.ins t.fu dx (df i lt lv d .cW)))
theorem Oz (T:Txt K mg t):bD P w K mg base dw 1 t.CC t.KW ["self","row","taken","given","places"] (Hi t):=by
 refine T.Kw.m Pe λvs H Q E h=>?_
 ·obtain⟨x,dx,lt,lv,d,i,rfl,hx,q⟩:=h
  walk_at "i"
  refine ao (bW (pv 0) (pv 1) rfl) ⟨_,rfl,_,rfl,x,_,dx,[],rfl,hx,T.mX,T.yU,by decide,?_⟩
  refine ao (bW (pv 0) (pv 2) rfl) ⟨_,rfl,_,rfl,x,_,dx,[("row",.int i)],rfl,af,T.mX,T.uf,by show 1<1000;decide,?_⟩
  refine ao (bW (pv 0) (pv 3) rfl) ⟨_,rfl,_,rfl,x,_,dx,[("row",.int i),("taken",.ref lt)],rfl,af,T.mX,T.tX,by show 2<1000;decide,?_⟩
  refine ao (bW (pv 0) (pv 4) rfl) ⟨_,rfl,_,rfl,x,_,dx,[("row",.int i),("taken",.ref lt),("given",.ref lv)],rfl,af,T.mX,T.k8,by show 3<1000;decide,?_⟩
  refine ay (bW (pv 0) bX rfl) ⟨_,rfl,x,_,dx,[("row",.int i),("taken",.ref lt),("given",.ref lv),("places_ahead",.ref d)],rfl,af,T.mX,T.jY,by show 4<1000;decide,?_⟩
  rw[eE,eE,eE,eE]
  exact q
def sf (tt d ld lu:Addr):List (Str×V):=[("tinted",.ref tt),("places",.ref d),("done",.ref ld),("undone",.ref lu)]
theorem ux{S:Addr->Prop}{H H':Hp}{n:Addr}(s:aj H H')(h:H n=none):aj (hid S H) (hid (λc=>S c∨c=n) H'):=λb o e=>bf (s _ _ (aB _ _ e)) (by
 rintro (z|z)
 ·exact bY e z
 ·exact au (aB _ _ e) h z)
theorem nR{S:Addr->Prop}{H:Hp}{n:Addr}{o:HO}(hS:S n):aj (hid S H) (hid S (upd H n o)):=by rw[jG hS];exact aj.refl _
abbrev Ab0(t:fE)(vs:List V)(H:Hp)(Q:VK)(x dx a lr:Addr)(R:Addr->Prop)(ms:List aD)(rs:List Str)(Gs:List bQ):Prop:=jU ms=none/\H lr=some (.lst (rs.map V.str))/\rs.length<=100000/\Chain ms [0] rs Gs/\∀tt dt a' lg gs d ld lu H',b8 t (hid (λc=>(R c∨c=x)∨c=ld) H') tt dt a' lg gs ms Gs->H' x=some (.ins t.aG dx (sf tt d ld lu))->DP (hid (λc=>(R c∨c=x)∨c=ld) H') d []->H' ld=some (.lst [])->H' lu=some (.lst [])->H ld=none->gw H H' x->Q .cW H'
abbrev ab7(t:fE)(vs:List V)(H:Hp)(Q:VK)(x dx a lr:Addr)(R:Addr->Prop)(ms:List aD)(rs:List Str)(Gs:List bQ):Prop:=vs=[.ref x,.ref a,.ref lr]/\H x=some (.ins t.aG dx [])/\Ex R H/\IsRules t (hid (λc=>R c∨c=x) H) a ms/\dz ms/\Ab0 t vs H Q x dx a lr R ms rs Gs
noncomputable def IJ(t:fE):Sp:=λvs H Q _=>∃x dx a lr R ms rs Gs,ab7 t vs H Q x dx a lr R ms rs Gs
theorem MU (T:Txt K mg t):bD P w K mg base dw 9 t.En t.JO ["self","rules","rows"] (IJ t):=by
 refine T.LY.m Qh λvs H Q E h=>?_
 ·obtain⟨x,dx,a,lr,R,ms,rs,Gs,rfl,hx,hE,hR,G,hring,hlr,hrl,hC,q⟩:=h
  walk_at "i"
  refine ao (bW (pv 0) (dI T.Al (OP T) hr.m rfl T.xx (T.Mq.binds (by walk_at "3")) .nil aF (aa (pv 1) (aa (pv 2) ai))) rfl) ⟨_,rfl,_,rfl,λtt dt ntt ndt ne=>?_⟩
  have s0:aj H (upd (upd H dt (.own tt)) tt (.ins t.aX dt [])):=bZ ntt ndt
  refine⟨tt,dt,a,lr,(λc=>R c∨c=x),ms,rs,Gs,rfl,af,(λz=>z.elim (λr=>by obtain⟨o,e⟩:=hE _ r;rw[ntt] at e;cases e) (λz=>au hx ntt z.symm)),(λb z=>z.elim (λr=>by obtain⟨o,e⟩:=hE _ r;exact⟨o,s0 _ _ e⟩) (λz=>by rw[show b=x from z];exact⟨_,s0 _ _ hx⟩)),hR.same (ux s0 ntt),G,hring,s0 _ _ hlr,hrl,hC,λa' lg gs H1 I1 f1 a1=>⟨rfl,?_⟩⟩
  have s1:aj H H1:=gw.fresh s0 ntt a1
  have hx1:=s1 _ _ hx
  clear a1 s0 f1
  refine⟨_,rfl,x,_,dx,[],rfl,hx1,T.aY,T.cF,by decide,?_⟩
  have hx2:upd H1 x (.ins t.aG dx (cX "tinted" (.ref tt) [])) x=some (.ins t.aG dx [("tinted",.ref tt)]):=af
  have a2:gw H (upd H1 x (.ins t.aG dx (cX "tinted" (.ref tt) []))) x:=s1.GO gw.upd
  have I2:=I1.same (nR (n:=x) (o:=.ins t.aG dx (cX "tinted" (.ref tt) [])) (.inr rfl))
  generalize upd H1 x (.ins t.aG dx (cX "tinted" (.ref tt) []))=H2 at hx2 a2 I2
  refine ao (bW (pv 0) m5 rfl) (λd hd=>⟨_,rfl,x,_,dx,[("tinted",.ref tt)],rfl,aj.upd hd _ _ hx2,T.aY,T.bA,by show 1<1000;decide,?_⟩)
  have ndx:d≠x:=λz=>by rw[z,hx2] at hd;cases hd
  have nRd:¬ (R d∨d=x):=λz=>z.elim (λr=>by obtain⟨o,e⟩:=hE _ r;rw[a2 _ _ e ndx] at hd;cases hd) ndx
  have hx3:upd (upd H2 d (.dK [])) x (.ins t.aG dx (cX "places" (.ref d) [("tinted",.ref tt)])) x=some (.ins t.aG dx [("tinted",.ref tt),("places",.ref d)]):=af
  have hd3:upd (upd H2 d (.dK [])) x (.ins t.aG dx (cX "places" (.ref d) [("tinted",.ref tt)])) d=some (.dK []):=by rw[ak ndx,af]
  have a3:gw H (upd (upd H2 d (.dK [])) x (.ins t.aG dx (cX "places" (.ref d) [("tinted",.ref tt)]))) x:=λb o hb nb=>by rw[ak nb];exact aj.upd hd _ _ (a2 b o hb nb)
  have I3:=(I2.same (aO (aj.upd hd (o:=.dK [])))).same (nR (n:=x) (o:=.ins t.aG dx (cX "places" (.ref d) [("tinted",.ref tt)])) (.inr rfl))
  generalize upd (upd H2 d (.dK [])) x (.ins t.aG dx (cX "places" (.ref d) [("tinted",.ref tt)]))=H3 at hx3 hd3 a3 I3
  refine ao (bW (pv 0) (bP ai) rfl) ⟨by show 0<=sizeLine;decide,λld hld=>⟨_,rfl,x,_,dx,[("tinted",.ref tt),("places",.ref d)],rfl,aj.upd hld _ _ hx3,T.aY,T.lH,by show 2<1000;decide,?_⟩⟩
  have nlx:ld≠x:=λz=>by rw[z,hx3] at hld;cases hld
  have hx4:upd (upd H3 ld (.lst [])) x (.ins t.aG dx (cX "done" (.ref ld) [("tinted",.ref tt),("places",.ref d)])) x=some (.ins t.aG dx [("tinted",.ref tt),("places",.ref d),("done",.ref ld)]):=af
  have s34:aj (hid (λc=>R c∨c=x) H3) (hid (λc=>(R c∨c=x)∨c=ld) (upd (upd H3 ld (.lst [])) x (.ins t.aG dx (cX "done" (.ref ld) [("tinted",.ref tt),("places",.ref d)])))):=(ux (aj.upd hld) hld).trans (nR (.inl (.inr rfl)))
  have hl4:upd (upd H3 ld (.lst [])) x (.ins t.aG dx (cX "done" (.ref ld) [("tinted",.ref tt),("places",.ref d)])) ld=some (.lst []):=by rw[ak nlx,af]
  have a4:gw H (upd (upd H3 ld (.lst [])) x (.ins t.aG dx (cX "done" (.ref ld) [("tinted",.ref tt),("places",.ref d)]))) x:=λb o hb nb=>by rw[ak nb];exact aj.upd hld _ _ (a3 b o hb nb)
  have I4:=I3.same s34
  have hd4:=s34 _ _ (bf hd3 nRd)
  have hl0:H ld=none:=by
   cases e:H ld with
   |none=>rfl
   |some o=>have:=a3 _ _ e nlx;rw[hld] at this;cases this
  generalize upd (upd H3 ld (.lst [])) x (.ins t.aG dx (cX "done" (.ref ld) [("tinted",.ref tt),("places",.ref d)]))=H4 at hx4 hl4 a4 I4 hd4
  clear s34
  refine ay (bW (pv 0) (bP ai) rfl) ⟨by show 0<=sizeLine;decide,λlu hlu=>⟨_,rfl,x,_,dx,[("tinted",.ref tt),("places",.ref d),("done",.ref ld)],rfl,aj.upd hlu _ _ hx4,T.aY,T.jS,by show 3<1000;decide,?_⟩⟩
  have nux:lu≠x:=λz=>by rw[z,hx4] at hlu;cases hlu
  have s45:aj (hid (λc=>(R c∨c=x)∨c=ld) H4) (hid (λc=>(R c∨c=x)∨c=ld) (upd (upd H4 lu (.lst [])) x (.ins t.aG dx (sf tt d ld lu)))):=(aO (aj.upd hlu)).trans (nR (.inl (.inr rfl)))
  exact q tt dt a' lg gs d ld lu _ (I4.same s45) af ⟨[],rfl,s45 _ _ hd4,bI.nil⟩ (by show upd _ _ _ _=_;rw[ak nlx];exact aj.upd hlu _ _ hl4) (by show upd _ _ _ _=_;rw[ak nux,af]) hl0 (λb o hb nb=>by show upd _ _ _ _=_;rw[ak nb];exact aj.upd hlu _ _ (a4 b o hb nb))
noncomputable def HG(t:fE):Sp:=λvs H Q _=>∃(x dx tt d ld lu:Addr),vs=[.ref x]/\H x=some (.ins t.aG dx (sf tt d ld lu))/\Q (.ref tt) H
theorem Dn (T:Txt K mg t):bD P w K mg base dw 1 t.FJ t.KY ["self"] (HG t):=by
 refine T.Dc.m Pu λvs H Q E h=>?_
 ·obtain⟨x,dx,tt,d,ld,lu,rfl,hx,q⟩:=h
  walk_at "i"
  exact ay (aJ (aK (pv 0) rfl)) (⟨_,rfl,_,_,_,_,_,rfl,hx,T.aY,T.cF,rfl,q⟩)
noncomputable def Ct(t:fE):Sp:=λvs H Q _=>∃(x dx tt d ld lu:Addr) (sp:List (Str×Nat×Nat)),vs=[.ref x]/\H x=some (.ins t.aG dx (sf tt d ld lu))/\DP H d sp/\(bB sp).Nodup/\sp.length<64/\∀d' H',DP H' d' (cA sp)->H d'=none->aj H H'->Q (.ref d') H'
theorem o6{sp:List (Str×Nat×Nat)}{pp:List Addr}{i:Nat}{x:Str×Nat×Nat}{p:Addr}(hx:sp[i]?=some x)(hl:pp.length=i):bS (sp.take (i+1)) (pp++[p])=bS (sp.take i) pp++[(Sum.inr x.1,V.ref p)]:=by
 have hi:=(List.getElem?_eq_some_iff.mp hx).1
 rw[take_snoc hx,DQ (by rw[List.length_take,hl];lia)]
 rfl
theorem Eg (T:Txt K mg t):bD P w K mg base dw 1 t.BJ t.Lm ["self"] (Ct t):=by
 refine T.DM.m Qm λvs H Q E h=>?_
 ·obtain⟨x,dx,tt,d,ld,lu,sp,rfl,hx,⟨ps,hd⟩,hn,h64,q⟩:=h
  walk_at "i"
  have sz:=sizeLine_eq
  have hsl:(cA sp).length=sp.length:=by unfold cA;rw[List.length_map,(dR _).length_eq,List.length_map]
  have hnl:(dD (bB sp)).length=sp.length:=by rw[(dR _).length_eq,List.length_map]
  refine ay (@aJ _ _ _ _ (@cJ _ _ _ _ _ _ _ _ _ (@mD _ rfl) (by rfl) T.nP (by decide +kernel) (aa (@gi _ (av (ac1 45 3)) _ ["self"] _ _ ("name") _ _ [("self",0)] _ _ (by walk_at "ck") (@fF _ _ _ _ (@aN _ _ _ _ _ _ _ _ _ (@ni _ rfl) (by rfl) T.pX (by decide +kernel) (aa (@aK _ _ _ _ _ (pv 0) rfl) ai (by left)) (by left) (by left) (by left) (by left))) (λ_ _ _ _=>by exact(@bC _ _ _ _ _ (aa (pv 1) (aa (@dS _ _ _ _ _ _ (cK hr) (@jE _ K _ _ _ _ (pv 0) rfl (by left)) (pv 1) (λ_ _=>rfl)) ai (by left)) (by left)))) (by left) (by left) (by left) (by left)) ai (by left)) (by left) (by left) (by left) (by left))) (⟨_,rfl,_,_,_,_,_,rfl,hx,T.aY,T.bA,rfl,⟨d,_,bB sp,rfl,hd.ob,kT hd.len,by rw[List.length_map];exact h64,λl hl=>⟨l,rfl,⟨_,bg.of af⟩,?_⟩⟩⟩)
  have s1:aj H (upd H l (.lst ((dD (bB sp)).map V.str))):=aj.upd hl
  have hl1:upd H l (.lst ((dD (bB sp)).map V.str)) l=some (.lst ((dD (bB sp)).map V.str)):=af
  generalize upd H l (.lst ((dD (bB sp)).map V.str))=H1 at s1 hl1
  refine gD (xs:=(dD (bB sp)).map V.str) (λi ys H2=>∃qs pp:List Addr,ys=qs.map V.ref/\pp.length=i/\bI (λ(q:Addr) (kv:Key×V)=>H2 q=some (.tup [kV kv.1,kv.2])) qs (bS ((cA sp).take i) pp)/\bI (λp (y:Str×Nat×Nat)=>H2 p=some (.tup [bE y.2.1,bE y.2.2])) pp ((cA sp).take i)/\aj H1 H2) ⟨[],[],rfl,rfl,bI.nil,bI.nil,aj.refl H1⟩ (dQ (by rw[List.length_map];lia)) ?_ ?_ ?_
  ·rintro i ys H2 _ ⟨qs,pp,_,_,_,_,s2⟩
   exact bg.of (s2 _ _ hl1)
  ·rintro i xv ys H2 hxv hyl ⟨qs,pp,rfl,hpl,hq2,hp2,s2⟩
   rw[List.getElem?_map] at hxv
   obtain⟨n,hni,rfl⟩:=Option.map_eq_some_iff.mp hxv
   have hi:=(List.getElem?_eq_some_iff.mp hni).1
   have hsi:(cA sp)[i]?=some (n,zS sp n):=by unfold cA;rw[List.getElem?_map,hni];rfl
   obtain⟨j,y,hj,rfl⟩:=jx ((dR _).mem_iff.mp (List.mem_of_getElem? hni))
   have lj:=(List.getElem?_eq_some_iff.mp hj).1
   obtain⟨pj,ep⟩:∃pj,ps[j]?=some pj:=⟨_,List.getElem?_eq_getElem (by rw[hd.len];exact lj)⟩
   have hs12:=s1.trans s2
   have hg:=k9.k (k:=Sum.inr y.1) (hs12 _ _ hd.ob)
   rw[jJ hn hj ep] at hg
   refine⟨_,rfl,_,rfl,x,t.aG,dx,_,_,rfl,hs12 _ _ hx,T.aY,T.bA,rfl,_,rfl,d,_,rfl,hg,by show 2<=sizeLine;decide,λp hp=>cP (by rw[List.length_map];exact hi) hyl ⟨qs++[p],pp++[pj],by rw[List.map_append];rfl,by rw[List.length_append,hpl];rfl,?_,?_,s2.trans (aj.upd hp)⟩⟩
   ·rw[o6 hsi hpl]
    exact bI.snoc (hq2.mono λ_ _ e=>aj.upd hp _ _ e) af
   ·rw[take_snoc hsi]
    refine bI.snoc (hp2.mono λ_ _ e=>aj.upd hp _ _ e) ?_
    have:=hd.pl.2 j _ _ ep hj
    rw[wV hn hj]
    exact aj.upd hp _ _ (hs12 _ _ this)
  ·rintro ys H2 hyl ⟨qs,pp,rfl,hpl,hq2,hp2,s2⟩ D hD
   rw[List.length_map,hnl,← hsl,List.take_length] at hq2 hp2
   rw[List.length_map,hnl,← hsl] at hpl
   have hnd:=AE hn
   refine⟨D,qs,bS (cA sp) pp,rfl,af,(hq2.mono λ_ _ e=>aj.upd hD _ _ e),by rw[c9 hpl];lia,λd' hd'=>?_⟩
   rw[pF hpl hnd]
   have s3:=(aj.upd hD (o:=.lst (qs.map V.ref))).trans (aj.upd hd' (o:=.dK (bS (cA sp) pp)))
   exact q d' _ ⟨pp,hpl,af,hp2.mono λ_ _ e=>s3 _ _ e⟩ ((s1.trans (s2.trans (aj.upd hD))).free hd') (s1.trans (s2.trans s3))
abbrev Ab1(t:fE)(vs:List V)(H:Hp)(Q:VK)(S:Addr->Prop)(x dx tt d ld lu dt a lg:Addr)(gs:List Addr)(ms:List aD)(Gs:List bQ)(G:bQ)(sp:List (Str×Nat×Nat))(n:Str)(i j:Nat):Prop:=DP (hid S H) d sp/\sp.length<64/\∀d' H',H' x=some (.ins t.aG dx (sf tt d' ld lu))->DP (hid S H') d' (qE sp n (i,j))->gw H H' x->Q .cW H'
abbrev ab2(t:fE)(vs:List V)(H:Hp)(Q:VK)(S:Addr->Prop)(x dx tt d ld lu dt a lg:Addr)(gs:List Addr)(ms:List aD)(Gs:List bQ)(G:bQ)(sp:List (Str×Nat×Nat))(n:Str)(i j:Nat):Prop:=Gs[i]?=some G/\j<=G.row.length/\G.row.length<=1000/\Ab1 t vs H Q S x dx tt d ld lu dt a lg gs ms Gs G sp n i j
abbrev Ab2(t:fE)(vs:List V)(H:Hp)(Q:VK)(S:Addr->Prop)(x dx tt d ld lu dt a lg:Addr)(gs:List Addr)(ms:List aD)(Gs:List bQ)(G:bQ)(sp:List (Str×Nat×Nat))(n:Str)(i j:Nat):Prop:=H x=some (.ins t.aG dx (sf tt d ld lu))/\isName n=true/\b8 t (hid S H) tt dt a lg gs ms Gs/\ab2 t vs H Q S x dx tt d ld lu dt a lg gs ms Gs G sp n i j
abbrev ab1(t:fE)(vs:List V)(H:Hp)(Q:VK)(S:Addr->Prop)(x dx tt d ld lu dt a lg:Addr)(gs:List Addr)(ms:List aD)(Gs:List bQ)(G:bQ)(sp:List (Str×Nat×Nat))(n:Str)(i j:Nat):Prop:=vs=[.ref x,.str n,.int i,.int j]/\S x/\Ex S H/\Ab2 t vs H Q S x dx tt d ld lu dt a lg gs ms Gs G sp n i j
noncomputable def NQ(t:fE):Sp:=λvs H Q _=>∃S x dx tt d ld lu dt a lg gs ms Gs G sp n i j,ab1 t vs H Q S x dx tt d ld lu dt a lg gs ms Gs G sp n i j
theorem Pr (T:Txt K mg t):bD P w K mg base dw 4 t.GC t.Kx ["self","name","row","at"] (NQ t):=by
 refine T.Jr.m Er λvs H Q E h=>?_
 ·obtain⟨S,x,dx,tt,d,ld,lu,dt,a,lg,gs,ms,Gs,G,sp,n,i,j,rfl,hSx,hE,hx,hn,I,hG,hj,hl,⟨ps,hd⟩,h64,q⟩:=h
  walk_at "i"
  have sz:=sizeLine_eq
  have nl:n.length<=8:=by
   unfold isName at hn
   simp only[Bool.and_eq_true,decide_eq_true_eq] at hn
   exact hn.1.2
  refine ao (bK (jb (iB (aW (D6 T) hr.m rfl T.BA T.vm.kp (T.vm.binds (by walk_at "1")) .nil aF (aa (pv 1) ai)))) aA aA) ⟨_,rfl,n,rfl,by lia,λH1 s1=>?_⟩
  rw[hn]
  refine⟨_,rfl,lQ (bG ?_)⟩
  have I1:=(I.same (aO s1)).same aB
  refine ao (bx (bF (aK (pv 0) rfl) T.aQ T.zL (uc T) hr.m (T.vq.binds (by walk_at "3")) .nil aF (aa (pv 2) (aa (pv 3) ai)))) (⟨_,rfl,_,_,_,_,_,rfl,(s1 _ _ hx),T.aY,T.cF,rfl,⟨tt,dt,_,rfl,I1.ob,rfl,_,rfl,_,rfl,tt,dt,a,lg,gs,ms,Gs,G,i,j,rfl,I1,hG,hj,hl,?_⟩⟩)
  have hd1:=hd.same (aO s1)
  refine ao (cS 4 Er (cJ qM (by rfl) T.nP (by decide +kernel) (aa (aK (pv 0) rfl) ai))) (⟨_,rfl,_,_,_,_,_,rfl,(s1 _ _ hx),T.aY,T.bA,rfl,⟨d,_,rfl,aB _ _ hd1.ob,λd' hd'=>?_⟩⟩)
  have s2:aj H1 (upd H1 d' (.dK (bS sp ps))):=aj.upd hd'
  have e2:upd H1 d' (.dK (bS sp ps)) d'=some (.dK (bS sp ps)):=af
  generalize upd H1 d' (.dK (bS sp ps))=H2 at s2 e2
  refine ao (iG (cK hr) (pv 4) (pv 1) (bC (aa (pv 2) (aa (pv 3) ai))) rfl) ⟨_,rfl,_,rfl,by show 2<=sizeLine;decide,λp hp=>⟨_,rfl,_,rfl,d',_,rfl,nF.k (k:=Sum.inr n) (aj.upd hp _ _ e2) (by rw[c9 hd.len];lia),?_⟩⟩
  have s12:=s1.trans s2
  have hE2:=hE.same s12
  have ndp:d'≠p:=au e2 hp
  have hd0:H d'=none:=s1.free hd'
  have nS:¬ S d':=hE.new hd0
  have nSp:¬ S p:=hE2.new hp
  have ndx:d'≠x:=λz=>by rw[z,hx] at hd0;cases hd0
  have hpx:rT (hid S (upd H2 p (.tup [bE i,bE j]))) p (i,j):=bf af nSp
  have D2:Iz (hid S (upd H2 p (.tup [bE i,bE j]))) d sp ps:=(hd1.same (aO s2)).same (aO (aj.upd hp))
  obtain⟨ps',l',k',a'⟩:=Et (n:=n) D2 hpx
  rw[k']
  have hx3:=aj.upd hp (o:=.tup [bE i,bE j]) _ _ (s12 _ _ hx)
  have s13:aj H (upd H2 p (.tup [bE i,bE j])):=s12.trans (aj.upd hp)
  have hd3:upd H2 p (.tup [bE i,bE j]) d'=some (.dK (bS sp ps)):=aj.upd hp _ _ e2
  show At _ _ _ _ (upd (upd H2 p (.tup [bE i,bE j])) d' (.dK (bS (qE sp n (i,j)) ps')))
  generalize upd H2 p (.tup [bE i,bE j])=H3 at a' hx3 s13 hd3
  refine ay (bW (pv 0) (pv 4) rfl) ⟨_,rfl,_,rfl,x,_,dx,_,rfl,(by rw[ak (Ne.symm ndx)];exact hx3),T.aY,T.bA,by show 4<1000;decide,?_⟩
  refine q d' _ af ⟨ps',l',bf (by rw[ak ndx,af]) nS,a'.mono λb y e=>bf ?_ (bY e)⟩ λb o hb nb=>?_
  ·have e:=aB _ _ e
   rw[ak (bL e hx3 (by intro z;cases z)),ak (bL e hd3 (by intro z;cases z))]
   exact e
  ·rw[ak nb,ak (au hb hd0)]
   exact s13 _ _ hb
noncomputable def HN(t:fE):Sp:=λvs H Q _=>∃(S:Addr->Prop) (x dx tt d ld lu:Addr) (sp:List (Str×Nat×Nat)) (n:Str),vs=[.ref x,.str n]/\S x/\Ex S H/\H x=some (.ins t.aG dx (sf tt d ld lu))/\n∈bB sp/\(bB sp).Nodup/\DP (hid S H) d sp/\
 ∀d' H',H' x=some (.ins t.aG dx (sf tt d' ld lu))->DP (hid S H') d' (jr sp n)->gw H H' x->Q .cW H'
theorem NR (T:Txt K mg t):bD P w K mg base dw 1 t.B7 t.Kp ["self","name"] (HN t):=by
 refine T.Lj.m Fz λvs H Q E h=>?_
 ·obtain⟨S,x,dx,tt,d,ld,lu,sp,n,rfl,hSx,hE,hx,hn,hnd,⟨ps,hd⟩,q⟩:=h
  walk_at "i"
  obtain⟨j,y,hj,rfl⟩:=jx hn
  have lj:=(List.getElem?_eq_some_iff.mp hj).1
  obtain⟨pj,ep⟩:∃pj,ps[j]?=some pj:=⟨_,List.getElem?_eq_getElem (by rw[hd.len];exact lj)⟩
  have hv:=jJ hnd hj ep
  have hob:=aB _ _ hd.ob
  refine ao (bK (xH (sV (cK hr) (pv 1) (aK (pv 0) rfl))) aA aA) ⟨_,rfl,_,rfl,x,t.aG,dx,_,_,rfl,hx,T.aY,T.bA,rfl,d,_,rfl,k9.k (k:=Sum.inr y.1) hob,_,rfl,?_⟩
  rw[hv]
  refine lQ (bG ?_)
  refine ao (cS 2 Fz (cJ qM (by rfl) T.nP (by decide +kernel) (aa (aK (pv 0) rfl) ai))) (⟨_,rfl,_,_,_,_,_,rfl,hx,T.aY,T.bA,rfl,⟨d,_,rfl,hob,λd' hd'=>?_⟩⟩)
  have s2:aj H (upd H d' (.dK (bS sp ps))):=aj.upd hd'
  have e2:upd H d' (.dK (bS sp ps)) d'=some (.dK (bS sp ps)):=af
  generalize upd H d' (.dK (bS sp ps))=H2 at s2 e2
  refine ao (bx (wO (pv 2) (pv 1) ⟨rfl,rfl,rfl,rfl⟩)) ⟨_,rfl,d',rfl,.inl ⟨_,.inl e2⟩,_,rfl,_,Sum.inr y.1,_,e2,rfl,hv,?_⟩
  have nS:¬ S d':=hE.new hd'
  have ndx:d'≠x:=λz=>by rw[z,hx] at hd';cases hd'
  obtain⟨ps',l',k',a'⟩:=ud (n:=y.1) (hd.same (aO s2)).pl
  rw[k']
  refine ay (bW (pv 0) (pv 2) rfl) ⟨_,rfl,_,rfl,x,_,dx,_,rfl,(by rw[ak (Ne.symm ndx)];exact s2 _ _ hx),T.aY,T.bA,by show 4<1000;decide,?_⟩
  refine q d' _ af ⟨ps',l',bf (by rw[ak ndx,af]) nS,a'.mono λb z e=>bf ?_ (bY e)⟩ λb o hb nb=>?_
  ·have e:=aB _ _ e
   rw[ak (bL e (s2 _ _ hx) (by intro z;cases z)),ak (bL e e2 (by intro z;cases z))]
   exact e
  ·rw[ak nb,ak (au hb hd')]
   exact s2 _ _ hb
abbrev Ab3(t:fE)(vs:List V)(H:Hp)(Q:VK)(S:Addr->Prop)(x dx tt d ld lu dt a lg lt:Addr)(gs:List Addr)(ms:List aD)(Gs:List bQ)(ds:List V)(i:Nat)(m:Int):Prop:=b8 t (hid S H) tt dt a lg gs ms Gs/\Gs.length<=100000/\H ld=some (.lst ds)/\ds.length<=100000/\∀dd ddx lv lu' H',H' x=some (.ins t.aG dx (sf tt d ld lu'))->H' ld=some (.lst (ds++[.ref dd]))->H' lu'=some (.lst [])->H' dd=some (.ins t.fu ddx (df i lt lv d .cW))->H' lv=some (.lst (cz ((Gs.map (·.row)).map V.str) (some (i:Int)) (some ((i:Int)+m))))->H dd=none->H lv=none->(∀b o,H b=some o->b≠x->b≠ld->H' b=some o)->Q .cW H'
abbrev aa4(t:fE)(vs:List V)(H:Hp)(Q:VK)(S:Addr->Prop)(x dx tt d ld lu dt a lg lt:Addr)(gs:List Addr)(ms:List aD)(Gs:List bQ)(ds:List V)(i:Nat)(m:Int):Prop:=vs=[.ref x,.int i,.ref lt,.int m]/\S x/\S ld/\Ex S H/\H x=some (.ins t.aG dx (sf tt d ld lu))/\Ab3 t vs H Q S x dx tt d ld lu dt a lg lt gs ms Gs ds i m
noncomputable def Mu(t:fE):Sp:=λvs H Q _=>∃S x dx tt d ld lu dt a lg lt gs ms Gs ds i m,aa4 t vs H Q S x dx tt d ld lu dt a lg lt gs ms Gs ds i m
theorem CP (T:Txt K mg t):bD P w K mg base dw 3 t.DE t.JT ["self","row","taken","many"] (Mu t):=by
 refine T.EW.m GG λvs H Q E h=>?_
 ·obtain⟨S,x,dx,tt,d,ld,lu,dt,a,lg,lt,gs,ms,Gs,ds,i,m,rfl,hSx,hSl,hE,hx,I,hgl,hld,hdl,q⟩:=h
  walk_at "i"
  have I0:=I.same aB
  refine ao (cS 4 GG (cT gS (bN (aK (pv 0) rfl) T.aQ T.tS (nE T) hr.m (T.qX.binds (by walk_at "1")) .nil aF) (cM (pv 1)) (cM (aM bO (pv 1) (pv 3))))) (⟨_,rfl,_,_,_,_,_,rfl,hx,T.aY,T.cF,rfl,⟨tt,dt,_,rfl,I0.ob,rfl,tt,dt,a,lg,gs,ms,Gs,rfl,I0,hgl,λl1 H1 h1 f1 s1=>?_⟩⟩)
  refine⟨_,rfl,_,rfl,_,rfl,_,rfl,_,_,rfl,rfl,_,rfl,l1,_,rfl,bg.of h1,λlv flv=>?_⟩
  have hv2:upd H1 lv (.lst (cz ((Gs.map (·.row)).map V.str) (some (i:Int)) (some ((i:Int)+m)))) lv=some (.lst (cz ((Gs.map (·.row)).map V.str) (some (i:Int)) (some ((i:Int)+m)))):=af
  have s2:aj H (upd H1 lv (.lst (cz ((Gs.map (·.row)).map V.str) (some (i:Int)) (some ((i:Int)+m))))):=s1.trans (aj.upd flv)
  have flv0:H lv=none:=s1.free flv
  generalize upd H1 lv (.lst (cz ((Gs.map (·.row)).map V.str) (some (i:Int)) (some ((i:Int)+m))))=H2 at hv2 s2
  have hld2:=s2 _ _ hld
  refine ao (bx (dG F.plainAttrs_list F.slot_list_append F.type_list_append c8 (aK (pv 0) rfl) (aa (dI T.IV (Oz T) hr.m rfl T.Eh (T.Kw.binds (by walk_at "5")) .nil aF (aa (pv 1) (aa (pv 2) (aa (pv 4) (aa (aK (pv 0) rfl) ai))))) ai))) (⟨_,rfl,_,_,_,_,_,rfl,(s2 _ _ hx),T.aY,T.lH,rfl,⟨.inl ⟨rfl,_,bg.of hld2⟩,_,rfl,_,rfl,_,rfl,_,rfl,x,t.aG,dx,_,_,rfl,s2 _ _ hx,T.aY,T.bA,rfl,λdd ddx ndd nddx ne=>⟨dd,ddx,lt,lv,d,i,rfl,af,rfl,?_⟩⟩⟩)
  rw[eE]
  have s3:aj H2 (upd (upd H2 ddx (.own dd)) dd (.ins t.fu ddx (df i lt lv d .cW))):=bZ ndd nddx
  have hdd3:upd (upd H2 ddx (.own dd)) dd (.ins t.fu ddx (df i lt lv d .cW)) dd=some (.ins t.fu ddx (df i lt lv d .cW)):=af
  generalize upd (upd H2 ddx (.own dd)) dd (.ins t.fu ddx (df i lt lv d .cW))=H3 at s3 hdd3
  have s23:=s2.trans s3
  refine⟨ld,_,_,rfl,rfl,s3 _ _ hld2,dQ (by lia),?_⟩
  have nlx:ld≠x:=bL hld hx (by intro z;cases z)
  have hx4:upd H3 ld (.lst (ds++[.ref dd])) x=some (.ins t.aG dx (sf tt d ld lu)):=by rw[ak (Ne.symm nlx)];exact s23 _ _ hx
  refine ay (bW (pv 0) (bP ai) rfl) ⟨by show 0<=sizeLine;decide,λlu' hlu=>⟨_,rfl,x,_,dx,_,rfl,aj.upd hlu _ _ hx4,T.aY,T.jS,by show 4<1000;decide,?_⟩⟩
  have nux:lu'≠x:=λz=>by rw[z,hx4] at hlu;cases hlu
  have ku:∀{b o},upd H3 ld (.lst (ds++[.ref dd])) b=some o->b≠x->upd (upd (upd H3 ld (.lst (ds++[.ref dd]))) lu' (.lst [])) x (.ins t.aG dx (cX "undone" (.ref lu') (sf tt d ld lu))) b=some o:=λ{b o} e n=>by rw[ak n];exact aj.upd hlu _ _ e
  have n1:dd≠x:=λz=>by rw[z,s2 _ _ hx] at ndd;cases ndd
  have n2:lv≠ld:=λz=>by rw[z,hld] at flv0;cases flv0
  have n3:lv≠x:=λz=>by rw[z,hx] at flv0;cases flv0
  exact q dd ddx lv lu' _ af (ku af nlx) (by rw[ak nux,af]) (ku (by rw[ak (bL hdd3 (s3 _ _ hld2) (by intro z;cases z))];exact hdd3) n1) (ku (by rw[ak n2];exact s3 _ _ hv2) n3) (s2.free ndd) flv0 (λb o hb n1 n2=>ku (by rw[ak n2];exact s23 _ _ hb) n1)
structure SDone(t:fE)(S:Addr->Prop)(H H':Hp)(x dx tt dt a ld:Addr)(ms:List aD)(Gs Gs':List bQ)(ds:List V)(sp':List (Str×Nat×Nat))(d:Addr)(i:Nat)(taken given:List V):Prop where
 ti:∃lg gs,b8 t (hid S H') tt dt a lg gs ms Gs'
 ob:∃d' lu,H' x=some (.ins t.aG dx (sf tt d' ld lu))/\DP (hid S H') d' sp'/\H' lu=some (.lst [])/\H d'=none
 dn:∃dd ddx lt lv,H' ld=some (.lst (ds++[.ref dd]))/\H' dd=some (.ins t.fu ddx (df i lt lv d .cW))/\H' lt=some (.lst taken)/\H' lv=some (.lst given)/\H dd=none/\H lt=none/\H lv=none
 keep:∀b o,H b=some o->b≠x->b≠tt->b≠ld->H' b=some o
abbrev Ab4(t:fE)(vs:List V)(H:Hp)(Q:VK)(S:Addr->Prop)(x dx tt d ld lu dt a lg:Addr)(gs:List Addr)(ms:List aD)(Gs:List bQ)(G:bQ)(sp:List (Str×Nat×Nat))(ds:List V)(i j:Nat)(z:Str)(fs:List Str)(ah bk:Nat)(Gm:List bQ)(c:Nat)(Gs':List bQ):Prop:=Gs.length<=50000/\Gs'.length<=100000/\fs.length<=50000/\fs≠[]/\i9 ms Gs i 1 fs ah bk Gm c Gs'/\∀H',SDone t S H H' x dx tt dt a ld ms Gs Gs' ds (sp.map λy=>(y.1,oX y.2 (i,j) z)) d i (cz ((Gs.map (·.row)).map V.str) (some (i:Int)) (some ((i:Int)+1))) (cz ((Gs'.map (·.row)).map V.str) (some (i:Int)) (some ((i:Int)+((Rw z (Str.ofString "\n"):Int)+1))))->Q (.int ((Gm.length+c:Nat):Int)) H'
abbrev aa3(t:fE)(vs:List V)(H:Hp)(Q:VK)(S:Addr->Prop)(x dx tt d ld lu dt a lg:Addr)(gs:List Addr)(ms:List aD)(Gs:List bQ)(G:bQ)(sp:List (Str×Nat×Nat))(ds:List V)(i j:Nat)(z:Str)(fs:List Str)(ah bk:Nat)(Gm:List bQ)(c:Nat)(Gs':List bQ):Prop:=dz ms/\Gs[i]?=some G/\j<=G.row.length/\G.row.length<=1000/\z.length<=1000/\PySem.Txt.split (mZ G.row j z) (Str.ofString "\n")=fs/\Ab4 t vs H Q S x dx tt d ld lu dt a lg gs ms Gs G sp ds i j z fs ah bk Gm c Gs'
abbrev Ab5(t:fE)(vs:List V)(H:Hp)(Q:VK)(S:Addr->Prop)(x dx tt d ld lu dt a lg:Addr)(gs:List Addr)(ms:List aD)(Gs:List bQ)(G:bQ)(sp:List (Str×Nat×Nat))(ds:List V)(i j:Nat)(z:Str)(fs:List Str)(ah bk:Nat)(Gm:List bQ)(c:Nat)(Gs':List bQ):Prop:=DP (hid S H) d sp/\(bB sp).Nodup/\sp.length<64/\(∀y∈sp,y.2.1<=100000/\y.2.2<=100000)/\H ld=some (.lst ds)/\ds.length<=100000/\aa3 t vs H Q S x dx tt d ld lu dt a lg gs ms Gs G sp ds i j z fs ah bk Gm c Gs'
abbrev aa2(t:fE)(vs:List V)(H:Hp)(Q:VK)(S:Addr->Prop)(x dx tt d ld lu dt a lg:Addr)(gs:List Addr)(ms:List aD)(Gs:List bQ)(G:bQ)(sp:List (Str×Nat×Nat))(ds:List V)(i j:Nat)(z:Str)(fs:List Str)(ah bk:Nat)(Gm:List bQ)(c:Nat)(Gs':List bQ):Prop:=vs=[.ref x,.int i,.int j,.str z]/\S x/\S ld/\Ex S H/\H x=some (.ins t.aG dx (sf tt d ld lu))/\b8 t (hid S H) tt dt a lg gs ms Gs/\Ab5 t vs H Q S x dx tt d ld lu dt a lg gs ms Gs G sp ds i j z fs ah bk Gm c Gs'
noncomputable def Ny(t:fE):Sp:=λvs H Q _=>∃S x dx tt d ld lu dt a lg gs ms Gs G sp ds i j z fs ah bk Gm c Gs',aa2 t vs H Q S x dx tt d ld lu dt a lg gs ms Gs G sp ds i j z fs ah bk Gm c Gs'
theorem gF(sp:List (Str×Nat×Nat))(f:Str×Nat×Nat->Nat×Nat):bB (sp.map λy=>(y.1,f y))=bB sp:=by
 show List.map _ (List.map _ _)=_
 rw[List.map_map]
 rfl
theorem rX{H1 H2:Hp}{d:Addr}{o:Obj}{kvs:List (Key×V)}(h:H1 d=some (.dK kvs))(s:aj (upd H1 d (.jy o (.dK kvs))) H2):aj H1 (upd H2 d (.dK kvs)):=λb u e=>by
 by_cases z:b=d
 ·rw[z,h] at e
  cases e
  rw[z,af]
 ·rw[ak z]
  exact s _ _ (by rw[ak z];exact e)
theorem zh{S:Addr->Prop}{H1:Hp}{d p:Addr}{o:Obj}{kvs:List (Key×V)}{xs:List V}(h:H1 d=some (.dK kvs))(e:hid S H1 p=some (.tup xs)):hid S (upd H1 d (.jy o (.dK kvs))) p=some (.tup xs) :=
 bf (by rw[ak (bL (aB _ _ e) h (by intro z;cases z))];exact aB _ _ e) (bY e)
theorem Cm{S:Addr->Prop}{H1:Hp}{d:Addr}{u:HO}(h:Ex S H1):Ex S (upd H1 d u):=λb z=>by
 by_cases e:b=d
 ·exact⟨u,by rw[e,af]⟩
 ·obtain⟨o,ho⟩:=h b z
  exact⟨o,by rw[ak e];exact ho⟩
theorem Qy (T:Txt K mg t):bD P w K mg base dw 10 t.Gk t.Ly ["self","row","at","text"] (Ny t):=by
 refine T.Lz.m yQ λvs H Q E h=>?_
 ·obtain⟨S,x,dx,tt,d,ld,lu,dt,a,lg,gs,ms,Gs,G,sp,ds,i,j,z,fs,ah,bk,Gm,c,Gs',rfl,hSx,hSl,hE,hx,I,⟨ps,hd⟩,hn,h64,hb,hld,hdl,GM_,hG,hj,hl,hz,hfs,hl1,hl1',hl2,hne,C,q⟩:=h
  walk_at "i"
  have sz:=sizeLine_eq
  have I0:=I.same aB
  have hi:i<=50000:=by have:=(List.getElem?_eq_some_iff.mp hG).1;lia
  refine ao (cS 4 yQ (bN (aK (pv 0) rfl) T.aQ T.tS (nE T) hr.m (T.qX.binds (by walk_at "1")) .nil aF)) (⟨_,rfl,_,_,_,_,_,rfl,hx,T.aY,T.cF,rfl,⟨tt,dt,_,rfl,I0.ob,rfl,tt,dt,a,lg,gs,ms,Gs,rfl,I0,by lia,λla H1 h1 f1 s1=>?_⟩⟩)
  have I1:=I.same (aO s1)
  refine ao (cS 5 yQ (bF (aK (pv 0) rfl) T.aQ T.Rx (MW T) hr.m (T.J8.binds (by walk_at "4")) .nil aF (aa (pv 1) (aa (pv 2) (aa (pv 3) ai))))) (⟨_,rfl,_,_,_,_,_,rfl,(s1 _ _ hx),T.aY,T.cF,rfl,⟨tt,dt,_,rfl,aB _ _ I1.ob,rfl,_,rfl,_,rfl,_,rfl,S,tt,dt,a,lg,gs,ms,Gs,G,i,j,z,fs,ah,bk,Gm,c,Gs',rfl,hE.same s1,I1,GM_,hG,hj,hl,hz,hfs,hl1,hl2,hne,C,λlg' gs' H2 I2 f2 a2=>?_⟩⟩)
  have htt:=aB _ _ I.ob
  have nS:¬ S tt:=bY I.ob
  have k2:∀{b o},H b=some o->b≠tt->H2 b=some o:=λ{b o} e n=>a2 b o (s1 _ _ e) n
  have nx:x≠tt:=λy=>nS (by rw[← y];exact hSx)
  have nl:ld≠tt:=λy=>nS (by rw[← y];exact hSl)
  have hx2:=k2 hx nx
  have hld2:=k2 hld nl
  have nla:la≠tt:=bL h1 (s1 _ _ htt) (by intro y;cases y)
  have hla2:=a2 _ _ h1 nla
  have hE2:Ex S H2:=λb y=>let ⟨o,ho⟩:=hE b y;⟨o,k2 ho (λe=>nS (by rw[← e];exact y))⟩
  have hd2:Iz (hid S H2) d sp ps:=by
   refine⟨hd.len,bf (k2 (aB _ _ hd.ob) (bL (aB _ _ hd.ob) htt (by intro y;cases y))) (bY hd.ob),hd.pl.mono λp y e=>bf (k2 (aB _ _ e) (bL (aB _ _ e) htt (by intro y;cases y))) (bY e)⟩
  have fla:∀{b},H2 b=none->b≠tt->H b=none:=λ{b} e n=>by
   cases g:H b with
   |none=>rfl
   |some o=>rw[k2 g n] at e;cases e
  have tt2:=aB _ _ I2.ob
  refine ao (bx (bF (pv 0) T.aY T.J4 (CP T) hr.m (T.EW.binds (by walk_at "4")) .nil aF (aa (pv 1) (aa (cT gS (pv 4) (cM (pv 1)) (cM (aM bO (pv 1) aq))) (aa (aM bO (dG F.plainAttrs_str F.slot_str_count F.type_str_count Dq (pv 3) (aa az ai)) aq) ai))))) ⟨_,rfl,x,dx,_,rfl,hx2,rfl,_,rfl,_,rfl,_,rfl,_,rfl,_,rfl,_,_,rfl,rfl,_,rfl,la,_,rfl,bg.of hla2,λlt wJ=>⟨_,rfl,rfl,z,Str.ofString "\n",rfl,rfl,_,_,rfl,rfl,?_⟩⟩
  have s3:aj H2 (upd H2 lt (.lst (cz ((Gs.map (·.row)).map V.str) (some (i:Int)) (some ((i:Int)+1))))):=aj.upd wJ
  have hlt3:upd H2 lt (.lst (cz ((Gs.map (·.row)).map V.str) (some (i:Int)) (some ((i:Int)+1)))) lt=some (.lst (cz ((Gs.map (·.row)).map V.str) (some (i:Int)) (some ((i:Int)+1)))):=af
  generalize upd H2 lt (.lst (cz ((Gs.map (·.row)).map V.str) (some (i:Int)) (some ((i:Int)+1))))=H3 at s3 hlt3
  have flt0:H lt=none:=fla wJ (λy=>by rw[y,tt2] at wJ;cases wJ)
  refine⟨S,x,dx,tt,d,ld,lu,dt,a,lg',lt,gs',ms,Gs',ds,i,_,rfl,hSx,hSl,hE2.same s3,s3 _ _ hx2,I2.same (aO s3),hl1',s3 _ _ hld2,hdl,λdd ddx lv lu' H4 e1 e2 e3 e4 e5 e6 e7 e8=>?_⟩
  have s34:∀{b o},H2 b=some o->b≠x->b≠ld->H4 b=some o:=λ{b o} e n1 n2=>e8 b o (s3 _ _ e) n1 n2
  have sh:aj (hid S H2) (hid S H4):=λb o e=>bf (s34 (aB _ _ e) (λy=>bY e (by rw[y];exact hSx)) (λy=>bY e (by rw[y];exact hSl))) (bY e)
  have I4:=I2.same sh
  have hd4:=hd2.same sh
  have hE4:Ex S H4:=λb y=>by
   by_cases z1:b=x
   ·exact⟨_,by rw[z1];exact e1⟩
   ·by_cases z2:b=ld
    ·exact⟨_,by rw[z2];exact e2⟩
    ·obtain⟨o,ho⟩:=hE2 b y
     exact⟨o,s34 ho z1 z2⟩
  have hlt4:H4 lt=some (.lst (cz ((Gs.map (·.row)).map V.str) (some (i:Int)) (some ((i:Int)+1)))):=e8 _ _ hlt3 (bL hlt3 (s3 _ _ hx2) (by intro y;cases y)) (λy=>by rw[y,hld] at flt0;cases flt0)
  have hob4:=aB _ _ hd4.ob
  have fdd:H dd=none:=fla (s3.free e6) (λy=>by rw[y,s3 _ _ tt2] at e6;cases e6)
  have flv:H lv=none:=fla (s3.free e7) (λy=>by rw[y,s3 _ _ tt2] at e7;cases e7)
  have k4:∀b o,H b=some o->b≠x->b≠tt->b≠ld->H4 b=some o:=λb o e n1 n2 n3=>s34 (k2 e n2) n1 n3
  have tt4:=aB _ _ I4.ob
  clear s34 sh e8 e6 e7 s3 hlt3 I2 hd2 hE2 fla I1 I0 hla2 hx2 hld2
  refine ao (@bW _ _ _ _ _ _ _ _ (pv 0) (@cJ _ _ _ _ _ _ _ _ _ (@mD _ rfl) (by rfl) T.nP (by decide +kernel) (aa (@zw _ _ _ (@gi _ (av (ac1 45 6)) _ ["self","row","at","text","ahead","count"] _ _ ("name") _ _ [("text",3),("row",1),("at",2),("self",0)] _ _ (by walk_at "ck") (@uu _ _ _ _ (@aK _ _ _ _ _ (pv 0) rfl)) (λ_ _ _ _=>by exact(@bC _ _ _ _ _ (aa (pv 4) (aa (@aW _ _ _ _ _ _ _ _ _ _ _ _ _ _ _ _ (M0 T) hr.m rfl T.OV T.FL.kp (T.FL.binds (by walk_at "3")) .nil aF (aa (@dS _ _ _ _ _ _ (cK hr) (@jE _ K _ _ _ _ (pv 3) rfl (by left)) (pv 4) (λ_ _=>rfl)) (aa (@bC _ _ _ _ _ (aa (pv 1) (aa (pv 2) ai (by left)) (by left))) (aa (pv 0) ai (by left)) (by left)) (by left)) (by left) (by left) (by left)) ai (by left)) (by left)))) (by left) (by left) (by left) (by left))) ai (by left)) (by left) (by left) (by left) (by left)) rfl) (⟨_,rfl,_,_,_,_,_,rfl,e1,T.aY,T.bA,rfl,⟨d,_,rfl,hob4,λo nf=>?_⟩⟩)
  have hsl:(sp.map λy=>(y.1,oX y.2 (i,j) z)).length=sp.length:=List.length_map ..
  refine r9 (λk ys H5=>∃qs pp:List Addr,ys=qs.map V.ref/\pp.length=k/\bI (λ(q:Addr) (kv:Key×V)=>H5 q=some (.tup [kV kv.1,kv.2])) qs (bS ((sp.map λy=>(y.1,oX y.2 (i,j) z)).take k) pp)/\bI (λp (y:Str×Nat×Nat)=>hid S H5 p=some (.tup [bE y.2.1,bE y.2.2])) pp ((sp.map λy=>(y.1,oX y.2 (i,j) z)).take k)/\aj (upd H4 d (.jy o (.dK (bS sp ps)))) H5) ⟨[],[],rfl,rfl,bI.nil,bI.nil,aj.refl _⟩ (dQ (by rw[c9 hd.len];lia)) ?_ ?_ ?_
  ·rintro k ys H5 _ ⟨qs,pp,_,_,_,_,s5⟩
   exact s5 _ _ af
  ·rintro k kv ys H5 hkv hyl ⟨qs,pp,rfl,hpl,hq5,hp5,s5⟩
   have hk:k<sp.length:=by rw[← c9 hd.len];exact(List.getElem?_eq_some_iff.mp hkv).1
   have hy:sp[k]?=some sp[k]:=List.getElem?_eq_getElem hk
   obtain⟨pk,ep⟩:∃pk,ps[k]?=some pk:=⟨_,List.getElem?_eq_getElem (by rw[hd.len];exact hk)⟩
   generalize sp[k]=y at hy
   rw[z7 hy ep] at hkv
   cases hkv
   have hyk:(sp.map λy=>(y.1,oX y.2 (i,j) z))[k]?=some (y.1,oX y.2 (i,j) z):=by rw[List.getElem?_map,hy];rfl
   obtain⟨y1,y2⟩:=hb y (List.mem_of_getElem? hy)
   have hE5:Ex S H5:=(Cm hE4).same s5
   have hx5:H5 x=some (.ins t.aG dx (sf tt d ld lu')):=s5 _ _ (by rw[ak (bL e1 hob4 (by intro y;cases y))];exact e1)
   have hpk:=(aO s5) _ _ (zh (o:=o) hob4 (hd4.pl.2 k _ _ ep hy))
   refine⟨_,rfl,_,rfl,x,t.aG,dx,_,_,rfl,hx5,T.aY,T.bA,rfl,_,rfl,d,_,rfl,.inl ⟨_,Sum.inr y.1,.inr ⟨o,s5 _ _ af⟩,rfl,(jJ hn hy ep).symm⟩,_,rfl,_,rfl,by show 2<=sizeLine;decide,λf hf=>⟨_,rfl,S,pk,f,y.2,(i,j),z,rfl,hE5.same (aj.upd hf),(aO (aj.upd hf)) _ _ hpk,bf af (hE5.new hf),hz,y1,y2,(by show i<=_;lia),(by show j<=_;lia),λp' H6 hp' s6=>⟨by show 2<=sizeLine;decide,λr hr'=>cP (by rw[c9 hd.len];exact hk) hyl ⟨qs++[r],pp++[p'],by rw[List.map_append];rfl,by rw[List.length_append,hpl];rfl,?_,?_,s5.trans ((aj.upd hf).trans (s6.trans (aj.upd hr')))⟩⟩⟩⟩
   ·rw[o6 hyk hpl]
    exact bI.snoc (hq5.mono λ_ _ e=>aj.upd hr' _ _ (s6 _ _ (aj.upd hf _ _ e))) af
   ·rw[take_snoc hyk]
    exact bI.snoc (hp5.mono λ_ _ e=>(aO ((aj.upd hf).trans (s6.trans (aj.upd hr')))) _ _ e) ((aO (aj.upd hr')) _ _ hp')
  ·rintro ys H5 hyl ⟨qs,pp,rfl,hpl,hq5,hp5,s5⟩ D hD
   rw[c9 hd.len,← hsl,List.take_length] at hq5 hp5
   rw[c9 hd.len,← hsl] at hpl
   have hnd:(bB (sp.map λy=>(y.1,oX y.2 (i,j) z))).Nodup:=by rw[gF];exact hn
   have hd5:H5 d=some (.jy o (.dK (bS sp ps))):=s5 _ _ af
   have ndD:d≠D:=au hd5 hD
   refine⟨d,o,_,by rw[ak ndD];exact hd5,nf,D,qs,bS (sp.map λy=>(y.1,oX y.2 (i,j) z)) pp,rfl,by rw[ak (Ne.symm ndD),af],⟨hq5.1,λk b kv g1 g2=>?_⟩,by rw[c9 hpl,hsl];lia,λd' hd'=>?_⟩
   ·have e:=hq5.2 k b kv g1 g2
    rw[ak (bL e hd5 (by intro y;cases y))]
    exact aj.upd hD _ _ e
   rw[pF hpl hnd]
   have s6:aj H4 (upd (upd H5 D (.lst (qs.map V.ref))) d (.dK (bS sp ps))):=rX hob4 (s5.trans (aj.upd hD))
   have hpp:bI (λp (y:Str×Nat×Nat)=>hid S (upd (upd H5 D (.lst (qs.map V.ref))) d (.dK (bS sp ps))) p=some (.tup [bE y.2.1,bE y.2.2])) pp (sp.map λy=>(y.1,oX y.2 (i,j) z)):=hp5.mono λp y e=>bf (by rw[ak (bL (aB _ _ e) hd5 (by intro y;cases y))];exact aj.upd hD _ _ (aB _ _ e)) (bY e)
   generalize upd (upd H5 D (.lst (qs.map V.ref))) d (.dK (bS sp ps))=H6 at s6 hpp hd'
   have s7:aj H6 (upd H6 d' (.dK (bS (sp.map λy=>(y.1,oX y.2 (i,j) z)) pp))):=aj.upd hd'
   have hd7:upd H6 d' (.dK (bS (sp.map λy=>(y.1,oX y.2 (i,j) z)) pp)) d'=some (.dK (bS (sp.map λy=>(y.1,oX y.2 (i,j) z)) pp)):=af
   have hd4':H4 d'=none:=s6.free hd'
   generalize upd H6 d' (.dK (bS (sp.map λy=>(y.1,oX y.2 (i,j) z)) pp))=H7 at s7 hd7
   have s47:=s6.trans s7
   refine⟨_,rfl,x,_,dx,_,rfl,s47 _ _ e1,T.aY,T.bA,by show 4<1000;decide,?_⟩
   have ndx:d'≠x:=λy=>by rw[y,e1] at hd4';cases hd4'
   have nSd:¬ S d':=hE4.new hd4'
   have ku:∀{b u},H4 b=some u->b≠x->upd H7 x (.ins t.aG dx (cX "places" (.ref d') (sf tt d ld lu'))) b=some u:=λ{b u} e n=>by rw[ak n];exact s47 _ _ e
   have su:aj (hid S H7) (hid S (upd H7 x (.ins t.aG dx (cX "places" (.ref d') (sf tt d ld lu'))))):=nR hSx
   refine ay (aJ (pv 5)) ⟨_,rfl,q _ ⟨⟨lg',gs',(I4.same (aO s47)).same su⟩,⟨d',lu',af,⟨pp,hpl,su _ _ (bf hd7 nSd),hpp.mono λp y e=>su _ _ ((aO s7) _ _ e)⟩,ku e3 (λy=>by rw[y,e1] at e3;cases e3),?_⟩,⟨dd,ddx,lt,lv,ku e2 (λy=>by rw[y,e1] at e2;cases e2),ku e4 (λy=>?_),ku hlt4 (λy=>by rw[y,e1] at hlt4;cases hlt4),ku e5 (λy=>by rw[y,e1] at e5;cases e5),fdd,flt0,flv⟩,λb u e n1 n2 n3=>ku (k4 b u e n1 n2 n3) n1⟩⟩
   ·cases g:H d' with
    |none=>rfl
    |some u=>
     have:=k4 d' u g ndx (λy=>by rw[y,tt4] at hd4';cases hd4') (λy=>by rw[y,e2] at hd4';cases hd4')
     rw[hd4'] at this;cases this
   ·rw[y,hx] at fdd;cases fdd
abbrev Ab6(t:fE)(vs:List V)(H:Hp)(Q:VK)(S:Addr->Prop)(x dx tt d ld lu dt a lg:Addr)(gs:List Addr)(ms:List aD)(Gs:List bQ)(G:bQ)(sp:List (Str×Nat×Nat))(ds:List V)(G2:bQ)(i j i2 j2:Nat)(ah bk:Nat)(Gm:List bQ)(c:Nat)(Gs':List bQ):Prop:=G2.row.length<=1000/\HT.dH [(i:Int),j] [(i2:Int),j2]=false/\i<=i2/\Gs.length<=50000/\Gs'.length<=100000/\i9 ms Gs i (i2-i+1) [oM G.row j G2.row j2] ah bk Gm c Gs'/\∀H',SDone t S H H' x dx tt dt a ld ms Gs Gs' ds (sp.map λy=>(y.1,mW y.2 (i,j) (i2,j2))) d i (cz ((Gs.map (·.row)).map V.str) (some (i:Int)) (some ((i2:Int)+1))) (cz ((Gs'.map (·.row)).map V.str) (some (i:Int)) (some ((i:Int)+1)))->Q (.int ((Gm.length+c:Nat):Int)) H'
abbrev aa1(t:fE)(vs:List V)(H:Hp)(Q:VK)(S:Addr->Prop)(x dx tt d ld lu dt a lg:Addr)(gs:List Addr)(ms:List aD)(Gs:List bQ)(G:bQ)(sp:List (Str×Nat×Nat))(ds:List V)(G2:bQ)(i j i2 j2:Nat)(ah bk:Nat)(Gm:List bQ)(c:Nat)(Gs':List bQ):Prop:=dz ms/\Gs[i]?=some G/\j<=G.row.length/\G.row.length<=1000/\Gs[i2]?=some G2/\j2<=G2.row.length/\Ab6 t vs H Q S x dx tt d ld lu dt a lg gs ms Gs G sp ds G2 i j i2 j2 ah bk Gm c Gs'
abbrev Ab7(t:fE)(vs:List V)(H:Hp)(Q:VK)(S:Addr->Prop)(x dx tt d ld lu dt a lg:Addr)(gs:List Addr)(ms:List aD)(Gs:List bQ)(G:bQ)(sp:List (Str×Nat×Nat))(ds:List V)(G2:bQ)(i j i2 j2:Nat)(ah bk:Nat)(Gm:List bQ)(c:Nat)(Gs':List bQ):Prop:=DP (hid S H) d sp/\(bB sp).Nodup/\sp.length<64/\(∀y∈sp,y.2.1<=100000/\y.2.2<=100000)/\H ld=some (.lst ds)/\ds.length<=100000/\aa1 t vs H Q S x dx tt d ld lu dt a lg gs ms Gs G sp ds G2 i j i2 j2 ah bk Gm c Gs'
abbrev aa0(t:fE)(vs:List V)(H:Hp)(Q:VK)(S:Addr->Prop)(x dx tt d ld lu dt a lg:Addr)(gs:List Addr)(ms:List aD)(Gs:List bQ)(G:bQ)(sp:List (Str×Nat×Nat))(ds:List V)(G2:bQ)(i j i2 j2:Nat)(ah bk:Nat)(Gm:List bQ)(c:Nat)(Gs':List bQ):Prop:=vs=[.ref x,.int i,.int j,.int i2,.int j2]/\S x/\S ld/\Ex S H/\H x=some (.ins t.aG dx (sf tt d ld lu))/\b8 t (hid S H) tt dt a lg gs ms Gs/\Ab7 t vs H Q S x dx tt d ld lu dt a lg gs ms Gs G sp ds G2 i j i2 j2 ah bk Gm c Gs'
noncomputable def O0(t:fE):Sp:=λvs H Q _=>∃S x dx tt d ld lu dt a lg gs ms Gs G sp ds G2 i j i2 j2 ah bk Gm c Gs',aa0 t vs H Q S x dx tt d ld lu dt a lg gs ms Gs G sp ds G2 i j i2 j2 ah bk Gm c Gs'
theorem M6 (T:Txt K mg t):bD P w K mg base dw 10 t.DT t.Mm ["self","row","at","row2","at2"] (O0 t):=by
 refine T.K6.m xE λvs H Q E h=>?_
 ·obtain⟨S,x,dx,tt,d,ld,lu,dt,a,lg,gs,ms,Gs,G,sp,ds,G2,i,j,i2,j2,ah,bk,Gm,c,Gs',rfl,hSx,hSl,hE,hx,I,⟨ps,hd⟩,hn,h64,hb,hld,hdl,GM_,hG,hj,hl,hG2,hj2,hlb,hxx,hii,hl1,hl1',C,q⟩:=h
  walk_at "i"
  have sz:=sizeLine_eq
  have I0:=I.same aB
  have hi:i<=50000:=by have:=(List.getElem?_eq_some_iff.mp hG).1;lia
  refine ao (cS 5 xE (bN (aK (pv 0) rfl) T.aQ T.tS (nE T) hr.m (T.qX.binds (by walk_at "1")) .nil aF)) (⟨_,rfl,_,_,_,_,_,rfl,hx,T.aY,T.cF,rfl,⟨tt,dt,_,rfl,I0.ob,rfl,tt,dt,a,lg,gs,ms,Gs,rfl,I0,by lia,λla H1 h1 f1 s1=>?_⟩⟩)
  have I1:=I.same (aO s1)
  refine ao (cS 6 xE (bF (aK (pv 0) rfl) T.aQ T.Rk (Ng T) hr.m (T.LR.binds (by walk_at "5")) .nil aF (aa (pv 1) (aa (pv 2) (aa (pv 3) (aa (pv 4) ai)))))) (⟨_,rfl,_,_,_,_,_,rfl,(s1 _ _ hx),T.aY,T.cF,rfl,⟨tt,dt,_,rfl,aB _ _ I1.ob,rfl,_,rfl,_,rfl,_,rfl,_,rfl,S,tt,dt,a,lg,gs,ms,Gs,G,G2,i,j,i2,j2,ah,bk,Gm,c,Gs',rfl,hE.same s1,I1,GM_,hG,hj,hl,hG2,hj2,hlb,hxx,hii,hl1,C,λlg' gs' H2 I2 f2 a2=>?_⟩⟩)
  have htt:=aB _ _ I.ob
  have nS:¬ S tt:=bY I.ob
  have k2:∀{b o},H b=some o->b≠tt->H2 b=some o:=λ{b o} e n=>a2 b o (s1 _ _ e) n
  have nx:x≠tt:=λy=>nS (by rw[← y];exact hSx)
  have nl:ld≠tt:=λy=>nS (by rw[← y];exact hSl)
  have hx2:=k2 hx nx
  have hld2:=k2 hld nl
  have nla:la≠tt:=bL h1 (s1 _ _ htt) (by intro y;cases y)
  have hla2:=a2 _ _ h1 nla
  have hE2:Ex S H2:=λb y=>let ⟨o,ho⟩:=hE b y;⟨o,k2 ho (λe=>nS (by rw[← e];exact y))⟩
  have hd2:Iz (hid S H2) d sp ps:=by
   refine⟨hd.len,bf (k2 (aB _ _ hd.ob) (bL (aB _ _ hd.ob) htt (by intro y;cases y))) (bY hd.ob),hd.pl.mono λp y e=>bf (k2 (aB _ _ e) (bL (aB _ _ e) htt (by intro y;cases y))) (bY e)⟩
  have fla:∀{b},H2 b=none->b≠tt->H b=none:=λ{b} e n=>by
   cases g:H b with
   |none=>rfl
   |some o=>rw[k2 g n] at e;cases e
  have tt2:=aB _ _ I2.ob
  refine ao (bx (bF (pv 0) T.aY T.J4 (CP T) hr.m (T.EW.binds (by walk_at "4")) .nil aF (aa (pv 1) (aa (cT gS (pv 5) (cM (pv 1)) (cM (aM bO (pv 3) aq))) (aa aq ai))))) ⟨_,rfl,x,dx,_,rfl,hx2,rfl,_,rfl,_,rfl,_,rfl,_,rfl,_,rfl,_,_,rfl,rfl,_,rfl,la,_,rfl,bg.of hla2,λlt wJ=>?_⟩
  have s3:aj H2 (upd H2 lt (.lst (cz ((Gs.map (·.row)).map V.str) (some (i:Int)) (some ((i2:Int)+1))))):=aj.upd wJ
  have hlt3:upd H2 lt (.lst (cz ((Gs.map (·.row)).map V.str) (some (i:Int)) (some ((i2:Int)+1)))) lt=some (.lst (cz ((Gs.map (·.row)).map V.str) (some (i:Int)) (some ((i2:Int)+1)))):=af
  generalize upd H2 lt (.lst (cz ((Gs.map (·.row)).map V.str) (some (i:Int)) (some ((i2:Int)+1))))=H3 at s3 hlt3
  have flt0:H lt=none:=fla wJ (λy=>by rw[y,tt2] at wJ;cases wJ)
  refine⟨S,x,dx,tt,d,ld,lu,dt,a,lg',lt,gs',ms,Gs',ds,i,_,rfl,hSx,hSl,hE2.same s3,s3 _ _ hx2,I2.same (aO s3),hl1',s3 _ _ hld2,hdl,λdd ddx lv lu' H4 e1 e2 e3 e4 e5 e6 e7 e8=>?_⟩
  have s34:∀{b o},H2 b=some o->b≠x->b≠ld->H4 b=some o:=λ{b o} e n1 n2=>e8 b o (s3 _ _ e) n1 n2
  have sh:aj (hid S H2) (hid S H4):=λb o e=>bf (s34 (aB _ _ e) (λy=>bY e (by rw[y];exact hSx)) (λy=>bY e (by rw[y];exact hSl))) (bY e)
  have I4:=I2.same sh
  have hd4:=hd2.same sh
  have hE4:Ex S H4:=λb y=>by
   by_cases z1:b=x
   ·exact⟨_,by rw[z1];exact e1⟩
   ·by_cases z2:b=ld
    ·exact⟨_,by rw[z2];exact e2⟩
    ·obtain⟨o,ho⟩:=hE2 b y
     exact⟨o,s34 ho z1 z2⟩
  have hlt4:H4 lt=some (.lst (cz ((Gs.map (·.row)).map V.str) (some (i:Int)) (some ((i2:Int)+1)))):=e8 _ _ hlt3 (bL hlt3 (s3 _ _ hx2) (by intro y;cases y)) (λy=>by rw[y,hld] at flt0;cases flt0)
  have hob4:=aB _ _ hd4.ob
  have fdd:H dd=none:=fla (s3.free e6) (λy=>by rw[y,s3 _ _ tt2] at e6;cases e6)
  have flv:H lv=none:=fla (s3.free e7) (λy=>by rw[y,s3 _ _ tt2] at e7;cases e7)
  have k4:∀b o,H b=some o->b≠x->b≠tt->b≠ld->H4 b=some o:=λb o e n1 n2 n3=>s34 (k2 e n2) n1 n3
  have tt4:=aB _ _ I4.ob
  clear s34 sh e8 e6 e7 s3 hlt3 I2 hd2 hE2 fla I1 I0 hla2 hx2 hld2
  refine ao (@bW _ _ _ _ _ _ _ _ (pv 0) (@cJ _ _ _ _ _ _ _ _ _ (@mD _ rfl) (by rfl) T.nP (by decide +kernel) (aa (@zw _ _ _ (@gi _ (av (ac1 45 7)) _ ["self","row","at","row2","at2","ahead","count"] _ _ ("name") _ _ [("row",1),("at",2),("row2",3),("at2",4),("self",0)] _ _ (by walk_at "ck") (@uu _ _ _ _ (@aK _ _ _ _ _ (pv 0) rfl)) (λ_ _ _ _=>by exact(@bC _ _ _ _ _ (aa (pv 5) (aa (@aW _ _ _ _ _ _ _ _ _ _ _ _ _ _ _ _ (Np T) hr.m rfl T.PF T.EE.kp (T.EE.binds (by walk_at "3")) .nil aF (aa (@dS _ _ _ _ _ _ (cK hr) (@jE _ K _ _ _ _ (pv 4) rfl (by left)) (pv 5) (λ_ _=>rfl)) (aa (@bC _ _ _ _ _ (aa (pv 0) (aa (pv 1) ai (by left)) (by left))) (aa (@bC _ _ _ _ _ (aa (pv 2) (aa (pv 3) ai (by left)) (by left))) ai (by left)) (by left)) (by left)) (by left) (by left) (by left)) ai (by left)) (by left)))) (by left) (by left) (by left) (by left))) ai (by left)) (by left) (by left) (by left) (by left)) rfl) (⟨_,rfl,_,_,_,_,_,rfl,e1,T.aY,T.bA,rfl,⟨d,_,rfl,hob4,λo nf=>?_⟩⟩)
  have hsl:(sp.map λy=>(y.1,mW y.2 (i,j) (i2,j2))).length=sp.length:=List.length_map ..
  refine r9 (λk ys H5=>∃qs pp:List Addr,ys=qs.map V.ref/\pp.length=k/\bI (λ(q:Addr) (kv:Key×V)=>H5 q=some (.tup [kV kv.1,kv.2])) qs (bS ((sp.map λy=>(y.1,mW y.2 (i,j) (i2,j2))).take k) pp)/\bI (λp (y:Str×Nat×Nat)=>hid S H5 p=some (.tup [bE y.2.1,bE y.2.2])) pp ((sp.map λy=>(y.1,mW y.2 (i,j) (i2,j2))).take k)/\aj (upd H4 d (.jy o (.dK (bS sp ps)))) H5) ⟨[],[],rfl,rfl,bI.nil,bI.nil,aj.refl _⟩ (dQ (by rw[c9 hd.len];lia)) ?_ ?_ ?_
  ·rintro k ys H5 _ ⟨qs,pp,_,_,_,_,s5⟩
   exact s5 _ _ af
  ·rintro k kv ys H5 hkv hyl ⟨qs,pp,rfl,hpl,hq5,hp5,s5⟩
   have hk:k<sp.length:=by rw[← c9 hd.len];exact(List.getElem?_eq_some_iff.mp hkv).1
   have hy:sp[k]?=some sp[k]:=List.getElem?_eq_getElem hk
   obtain⟨pk,ep⟩:∃pk,ps[k]?=some pk:=⟨_,List.getElem?_eq_getElem (by rw[hd.len];exact hk)⟩
   generalize sp[k]=y at hy
   rw[z7 hy ep] at hkv
   cases hkv
   have hyk:(sp.map λy=>(y.1,mW y.2 (i,j) (i2,j2)))[k]?=some (y.1,mW y.2 (i,j) (i2,j2)):=by rw[List.getElem?_map,hy];rfl
   have hE5:Ex S H5:=(Cm hE4).same s5
   have hx5:H5 x=some (.ins t.aG dx (sf tt d ld lu')):=s5 _ _ (by rw[ak (bL e1 hob4 (by intro y;cases y))];exact e1)
   have hpk:=(aO s5) _ _ (zh (o:=o) hob4 (hd4.pl.2 k _ _ ep hy))
   refine⟨_,rfl,_,rfl,x,t.aG,dx,_,_,rfl,hx5,T.aY,T.bA,rfl,_,rfl,d,_,rfl,.inl ⟨_,Sum.inr y.1,.inr ⟨o,s5 _ _ af⟩,rfl,(jJ hn hy ep).symm⟩,_,rfl,_,rfl,by show 2<=sizeLine;decide,λf hf=>⟨_,rfl,_,rfl,by show 2<=sizeLine;decide,λg hg=>⟨S,pk,f,g,y.2,(i,j),(i2,j2),rfl,(hE5.same (aj.upd hf)).same (aj.upd hg),(aO (aj.upd hg)) _ _ ((aO (aj.upd hf)) _ _ hpk),(aO (aj.upd hg)) _ _ (bf af (hE5.new hf)),bf af ((hE5.same (aj.upd hf)).new hg),λp' H6 hp' s6=>⟨by show 2<=sizeLine;decide,λr hr'=>cP (by rw[c9 hd.len];exact hk) hyl ⟨qs++[r],pp++[p'],by rw[List.map_append];rfl,by rw[List.length_append,hpl];rfl,?_,?_,s5.trans ((aj.upd hf).trans ((aj.upd hg).trans (s6.trans (aj.upd hr'))))⟩⟩⟩⟩⟩
   ·rw[o6 hyk hpl]
    exact bI.snoc (hq5.mono λ_ _ e=>aj.upd hr' _ _ (s6 _ _ (aj.upd hg _ _ (aj.upd hf _ _ e)))) af
   ·rw[take_snoc hyk]
    exact bI.snoc (hp5.mono λ_ _ e=>(aO ((aj.upd hf).trans ((aj.upd hg).trans (s6.trans (aj.upd hr'))))) _ _ e) ((aO (aj.upd hr')) _ _ hp')
  ·rintro ys H5 hyl ⟨qs,pp,rfl,hpl,hq5,hp5,s5⟩ D hD
   rw[c9 hd.len,← hsl,List.take_length] at hq5 hp5
   rw[c9 hd.len,← hsl] at hpl
   have hnd:(bB (sp.map λy=>(y.1,mW y.2 (i,j) (i2,j2)))).Nodup:=by rw[gF];exact hn
   have hd5:H5 d=some (.jy o (.dK (bS sp ps))):=s5 _ _ af
   have ndD:d≠D:=au hd5 hD
   refine⟨d,o,_,by rw[ak ndD];exact hd5,nf,D,qs,bS (sp.map λy=>(y.1,mW y.2 (i,j) (i2,j2))) pp,rfl,by rw[ak (Ne.symm ndD),af],⟨hq5.1,λk b kv g1 g2=>?_⟩,by rw[c9 hpl,hsl];lia,λd' hd'=>?_⟩
   ·have e:=hq5.2 k b kv g1 g2
    rw[ak (bL e hd5 (by intro y;cases y))]
    exact aj.upd hD _ _ e
   rw[pF hpl hnd]
   have s6:aj H4 (upd (upd H5 D (.lst (qs.map V.ref))) d (.dK (bS sp ps))):=rX hob4 (s5.trans (aj.upd hD))
   have hpp:bI (λp (y:Str×Nat×Nat)=>hid S (upd (upd H5 D (.lst (qs.map V.ref))) d (.dK (bS sp ps))) p=some (.tup [bE y.2.1,bE y.2.2])) pp (sp.map λy=>(y.1,mW y.2 (i,j) (i2,j2))):=hp5.mono λp y e=>bf (by rw[ak (bL (aB _ _ e) hd5 (by intro y;cases y))];exact aj.upd hD _ _ (aB _ _ e)) (bY e)
   generalize upd (upd H5 D (.lst (qs.map V.ref))) d (.dK (bS sp ps))=H6 at s6 hpp hd'
   have s7:aj H6 (upd H6 d' (.dK (bS (sp.map λy=>(y.1,mW y.2 (i,j) (i2,j2))) pp))):=aj.upd hd'
   have hd7:upd H6 d' (.dK (bS (sp.map λy=>(y.1,mW y.2 (i,j) (i2,j2))) pp)) d'=some (.dK (bS (sp.map λy=>(y.1,mW y.2 (i,j) (i2,j2))) pp)):=af
   have hd4':H4 d'=none:=s6.free hd'
   generalize upd H6 d' (.dK (bS (sp.map λy=>(y.1,mW y.2 (i,j) (i2,j2))) pp))=H7 at s7 hd7
   have s47:=s6.trans s7
   refine⟨_,rfl,x,_,dx,_,rfl,s47 _ _ e1,T.aY,T.bA,by show 4<1000;decide,?_⟩
   have ndx:d'≠x:=λy=>by rw[y,e1] at hd4';cases hd4'
   have nSd:¬ S d':=hE4.new hd4'
   have ku:∀{b u},H4 b=some u->b≠x->upd H7 x (.ins t.aG dx (cX "places" (.ref d') (sf tt d ld lu'))) b=some u:=λ{b u} e n=>by rw[ak n];exact s47 _ _ e
   have su:aj (hid S H7) (hid S (upd H7 x (.ins t.aG dx (cX "places" (.ref d') (sf tt d ld lu'))))):=nR hSx
   refine ay (aJ (pv 6)) ⟨_,rfl,q _ ⟨⟨lg',gs',(I4.same (aO s47)).same su⟩,⟨d',lu',af,⟨pp,hpl,su _ _ (bf hd7 nSd),hpp.mono λp y e=>su _ _ ((aO s7) _ _ e)⟩,ku e3 (λy=>by rw[y,e1] at e3;cases e3),?_⟩,⟨dd,ddx,lt,lv,ku e2 (λy=>by rw[y,e1] at e2;cases e2),ku e4 (λy=>?_),ku hlt4 (λy=>by rw[y,e1] at hlt4;cases hlt4),ku e5 (λy=>by rw[y,e1] at e5;cases e5),fdd,flt0,flv⟩,λb u e n1 n2 n3=>ku (k4 b u e n1 n2 n3) n1⟩⟩
   ·cases g:H d' with
    |none=>rfl
    |some u=>
     have:=k4 d' u g ndx (λy=>by rw[y,tt4] at hd4';cases hd4') (λy=>by rw[y,e2] at hd4';cases hd4')
     rw[hd4'] at this;cases this
   ·rw[y,hx] at fdd;cases fdd
def Ic:List Nat:=[97,98,40,41,34,35,32]
theorem Nc:∀c∈Ic,c∈kY.cps.toList:=by decide +kernel
theorem rF:10∉Ic:=by decide
theorem Ak {d:Int} (h0:0<=d) (h1:d<9):∃c,c∈Ic/\rO (Str.ofString "ab()\"# (a").cps.toList d=some c:=by
 obtain⟨n,rfl⟩:∃n:Nat,d=n:=⟨d.toNat,by lia⟩
 have hn:n<9:=by lia
 have key:∀n:Nat,n<9->∃c,c∈Ic/\rO (Str.ofString "ab()\"# (a").cps.toList (n:Int)=some c:=by
  intro n hn
  have:n=0∨n=1∨n=2∨n=3∨n=4∨n=5∨n=6∨n=7∨n=8:=by lia
  rcases this with rfl|rfl|rfl|rfl|rfl|rfl|rfl|rfl|rfl
  ·exact⟨97,by decide,by decide +kernel⟩
  ·exact⟨98,by decide,by decide +kernel⟩
  ·exact⟨40,by decide,by decide +kernel⟩
  ·exact⟨41,by decide,by decide +kernel⟩
  ·exact⟨34,by decide,by decide +kernel⟩
  ·exact⟨35,by decide,by decide +kernel⟩
  ·exact⟨32,by decide,by decide +kernel⟩
  ·exact⟨40,by decide,by decide +kernel⟩
  ·exact⟨97,by decide,by decide +kernel⟩
 exact key n hn
theorem qZ:∀(cs:List Nat),(Str.join "" (cs.map λc=>(⟨#[c]⟩:Str))).cps.toList=cs
 | []=>rfl
 | [c]=>rfl
 |c::d::r=>by
  have ih:=qZ (d::r)
  show ((⟨#[c]⟩:Str) ++ "" ++ Str.join "" ((d::r).map λc=>(⟨#[c]⟩:Str))).cps.toList=_
  rw[dX,ih,dX]
  rfl
theorem sj:∀(cs:List Nat),((cs.map λc=>(⟨#[c]⟩:Str)).map (·.length)).sum=cs.length
 | []=>rfl
 |c::r=>by
  rw[List.map_cons,List.map_cons,List.sum_cons,sj r,List.length_cons]
  show 1+r.length=_
  lia
theorem zI:∀(l:List Str),(∀x∈l,x.length<=6)->(l.map (·.length)).sum<=l.length*6
 | [],_=>by simp
 |a::r,h=>by
  have h1:=h a (by simp)
  have h2:=zI r (λx hx=>h x (by simp[hx]))
  rw[List.map_cons,List.sum_cons,List.length_cons]
  lia
structure lK(z:Str):Prop where
 le:z.length<=6
 ch:∀c∈z.cps.toList,c∈Ic
noncomputable def Pg(K:PySem.W.Frag):Sp:=λvs H Q _=>∃(a:Addr) (ns:List Int) (k:Int),vs=[.ref a,.int k]/\bg K H a (ns.map V.int)/\ns.length<=63/\0<=k/\k<=90000/\∀z H',lK z->aj H H'->Q (.str z) H'
theorem Fq (T:Txt K mg t):bD P w K mg base dw 2 t.FN t.L7 ["_law_script","_law_k"] (Pg K):=by
 refine T.wA.m Gz λvs H Q E h=>?_
 ·obtain⟨a,ns,k,rfl,hS,hl,hk0,hk1,q⟩:=h
  walk_at "i"
  refine ao (uz (i:=2) Gz.nd rfl (Or.inr rfl) az) ?_
  refine ay (@aJ _ _ _ _ (@dG _ _ _ _ _ _ _ _ _ _ _ _ F.plainAttrs_str F.slot_str_join F.type_str_join mG az (aa (@gi _ (av (top 69)) _ ["_law_script","_law_k","_law_signs"] _ _ ("_law_n") _ _ [("_law_signs",2),("_law_script",0),("_law_k",1)] _ _ (by walk_at "ck") (@iI _ _ _ _ _ _ rfl T.kW (aa (@aW _ _ _ _ _ _ _ _ _ _ _ _ _ _ _ _ (iA T) hr.m rfl T.iy T.dZ.kp (T.dZ.binds (by walk_at "3")) .nil aF (aa (pv 0) (aa (pv 1) (aa aq ai (by left)) (by left)) (by left)) (by left) (by left) (by left)) ai (by left)) (by left)) (λ_ _ _ _=>by exact(@aR _ _ _ _ _ _ _ uE (pv 0) (@aW _ _ _ _ _ _ _ _ _ _ _ _ _ _ _ _ (iA T) hr.m rfl T.iy T.dZ.kp (T.dZ.binds (by walk_at "3")) .nil aF (aa (pv 1) (aa (@aM _ _ _ _ _ _ _ _ bO (@aM _ _ _ _ _ _ _ _ bO (pv 2) aq) (pv 3)) (aa aq ai (by left)) (by left)) (by left)) (by left) (by left) (by left)) (λ_ _=>rfl))) (by left) (by left) (by left) (by left)) ai (by left)) (by left) (by left) (by left) (by left) (by left))) ⟨rfl,_,rfl,_,rfl,a,ns,_,_,rfl,hS,hk0,(by lia),(by decide),(by decide),hl,λd H1 h0 h1 s1=>⟨d,rfl,by lia,by lia,jN (n:=d.toNat) (λi ys H'=>∃cs:List Nat,ys=(cs.map λc=>(⟨#[c]⟩:Str)).map V.str/\cs.length=i/\(∀c∈cs,c∈Ic)/\aj H H') ⟨[],rfl,rfl,(λc h=>by cases h),s1⟩ (dQ (by lia)) ?_ ?_⟩⟩
  ·rintro i ys H2 hi hyl ⟨cs,rfl,hcl,hcs,s2⟩
   refine⟨_,rfl,_,rfl,_,rfl,_,_,rfl,rfl,_,rfl,_,_,rfl,rfl,a,ns,_,_,rfl,hS.same s2,(by lia),(by lia),(by decide),(by decide),hl,λe H3 g0 g1 s3=>?_⟩
   obtain⟨c,hc,hat⟩:=Ak g0 g1
   refine⟨_,_,c,rfl,rfl,by decide,hat,cP hi hyl ⟨cs++[c],by rw[List.map_append,List.map_append];rfl,by rw[List.length_append,hcl];rfl,λy hy=>?_,s2.trans s3⟩⟩
   rcases List.mem_append.mp hy with z|z
   ·exact hcs y z
   ·rw[List.mem_singleton.mp z];exact hc
  ·rintro ys H2 hyl ⟨cs,rfl,hcl,hcs,s2⟩ D hD
   refine⟨_,D,_,rfl,rfl,bg.of af,?_,?_⟩
   ·rw[sj,show (Str.ofString "").length=0 by decide +kernel]
    exact b9 (by lia)
   ·rw[join_eq]
    have ejs:=qZ cs
    refine q _ _ ⟨by rw[← br,ejs];lia,λc hc=>?_⟩ (s2.to hD)
    rw[ejs] at hc
    exact hcs c hc
structure uN(z:Str):Prop where
 le:z.length<=18+z.cps.toList.count 10
 few:z.cps.toList.count 10<=2
 ch:∀c∈z.cps.toList,c=10∨c∈Ic
theorem lK.nl{z:Str}(h:lK z):10∉z.cps.toList:=λy=>rF (h.ch 10 y)
theorem w9{rs:List Str}(hr:∀r∈rs,lK r)(hn:rs≠[])(hl:rs.length<=3):uN (Str.join ⟨#[10]⟩ rs)/\(Str.join ⟨#[10]⟩ rs).length<=20:=by
 have hc:(Str.join ⟨#[10]⟩ rs).cps.toList=bM 10 (rs.map λp=>p.cps.toList):=eN 10 rs
 have key:∀(rs:List Str),(∀r∈rs,lK r)->rs≠[]->(bM 10 (rs.map λp=>p.cps.toList)).count 10+1=rs.length/\(bM 10 (rs.map λp=>p.cps.toList)).length+1<=7*rs.length/\∀c∈bM 10 (rs.map λp=>p.cps.toList),c=10∨c∈Ic:=by
  intro rs
  induction rs with
  |nil=>intro _ h;exact absurd rfl h
  |cons r t ih=>
   intro h _
   have h1:=h r (by simp)
   have l1:=br r
   have l2:=h1.le
   cases t with
   |nil=>
    refine⟨?_,?_,λc hc=>.inr (h1.ch c hc)⟩
    ·show r.cps.toList.count 10+1=1
     rw[List.count_eq_zero.mpr h1.nl]
    ·show r.cps.toList.length+1<=7
     lia
   |cons u v=>
    obtain⟨i1,i2,i3⟩:=ih (λx hx=>h x (List.mem_cons_of_mem _ hx)) (by simp)
    have e:bM 10 ((r::u::v).map λp=>p.cps.toList)=r.cps.toList++10::bM 10 ((u::v).map λp=>p.cps.toList):=eS (by simp)
    rw[e]
    refine⟨?_,?_,λc hc=>?_⟩
    ·rw[List.count_append,List.count_eq_zero.mpr h1.nl,List.count_cons_self,List.length_cons];lia
    ·rw[List.length_append,List.length_cons,List.length_cons];lia
    ·rcases List.mem_append.mp hc with z|z
     ·exact .inr (h1.ch c z)
     ·rcases List.mem_cons.mp z with z|z
      ·exact .inl z
      ·exact i3 c z
 obtain⟨k1,k2,k3⟩:=key rs hr hn
 have l0:=br (Str.join ⟨#[10]⟩ rs)
 rw[hc] at l0
 refine⟨⟨?_,?_,?_⟩,?_⟩
 ·rw[hc];lia
 ·rw[hc];lia
 ·rw[hc];exact k3
 ·lia
noncomputable def CY(K:PySem.W.Frag):Sp:=λvs H Q _=>∃(a:Addr) (ns:List Int) (k:Int),vs=[.ref a,.int k]/\bg K H a (ns.map V.int)/\ns.length<=63/\0<=k/\k<=80000/\∀z H',uN z->z.length<=20->aj H H'->Q (.str z) H'
theorem NP (T:Txt K mg t):bD P w K mg base dw 3 t.Cq t.Kg ["_law_script","_law_k"] (CY K):=by
 refine T.Dm.m DY λvs H Q E h=>?_
 ·obtain⟨a,ns,k,rfl,hS,hl,hk0,hk1,q⟩:=h
  walk_at "i"
  refine aS (λZ' H'=>∃(rs:List Str) (lr:Addr),rs≠[]/\rs.length<=3/\(∀r∈rs,lK r)/\H' lr=some (.lst (rs.map V.str))/\Z'=[some (.ref a),some (.int k),some (.ref lr)]/\aj H H') (@ue _ 2 _ (av (top 70)) _ ["_law_script","_law_k","_law_rows"] _ _ ("_law_n") _ _ _ _ [("_law_script",0),("_law_k",1)] _ _ DY.nd rfl (Or.inl rfl) (by walk_at "ck") (@iI _ _ _ _ _ _ rfl T.kW (aa (@aM _ _ _ _ _ _ _ _ bO aq (@aW _ _ _ _ _ _ _ _ _ _ _ _ _ _ _ _ (iA T) hr.m rfl T.iy T.dZ.kp (T.dZ.binds (by walk_at "3")) .nil aF (aa (pv 0) (aa (pv 1) (aa aq ai (by left)) (by left)) (by left)) (by left) (by left) (by left))) ai (by left)) (by left)) (λ_ _ _ _=>by exact(@aW _ _ _ _ _ _ _ _ _ _ _ _ _ _ _ _ (Fq T) hr.m rfl T.DW T.wA.kp (T.wA.binds (by walk_at "2")) .nil aF (aa (pv 0) (aa (@aM _ _ _ _ _ _ _ _ bO (@aM _ _ _ _ _ _ _ _ bO (pv 1) aq) (@aM _ _ _ _ _ _ _ _ kr aq (pv 2))) ai (by left)) (by left)) (by left) (by left) (by left))) (by left) (by left) (by left) (by left) (by left) (by left)) ?_ ?_
  ·refine⟨_,rfl,_,rfl,a,ns,_,_,rfl,hS,hk0,(by lia),(by decide),(by decide),hl,λd H1 h0 h1 s1=>⟨_,_,rfl,rfl,1+d,rfl,by lia,by lia,jN (n:=(1+d).toNat) (λi ys H'=>∃rs:List Str,ys=rs.map V.str/\(∀r∈rs,lK r)/\aj H H') ⟨[],rfl,(λc h=>by cases h),s1⟩ (dQ (by lia)) ?_ ?_⟩⟩
   ·rintro i ys H2 hi hyl ⟨rs,rfl,hrs,s2⟩
    refine⟨_,rfl,_,rfl,_,_,rfl,rfl,_,rfl,_,_,rfl,rfl,.inl ⟨by decide,by decide⟩,_,_,rfl,rfl,a,ns,_,rfl,hS.same s2,hl,(by lia),(by lia),λz H3 hz s3=>cP hi hyl ⟨rs++[z],by rw[List.map_append];rfl,λy hy=>?_,s2.trans s3⟩⟩
    rcases List.mem_append.mp hy with e|e
    ·exact hrs y e
    ·rw[List.mem_singleton.mp e];exact hz
   ·rintro ys H2 hyl ⟨rs,rfl,hrs,s2⟩ D hD
    rw[List.length_map] at hyl
    exact⟨rs,D,(λz=>by rw[z] at hyl;simp at hyl;lia),by lia,hrs,af,rfl,s2.to hD⟩
  rintro Z' H1 ⟨rs,lr,hne,hrl,hrs,hlr,rfl,s1⟩
  obtain⟨p1,p2⟩:=w9 hrs hne hrl
  refine ay (aJ (cN (aE ez (aW (iA T) hr.m rfl T.iy T.dZ.kp (T.dZ.binds (by walk_at "3")) .nil aF (aa (pv 0) (aa (aM bO (pv 1) aq) (aa aq ai)))) aq (aI _)) az (dG F.plainAttrs_str F.slot_str_join F.type_str_join mG az (aa (pv 2) ai)))) ⟨_,rfl,_,rfl,_,_,rfl,rfl,a,ns,_,_,rfl,hS.same s1,(by lia),(by lia),(by decide),(by decide),hl,λd H2 h0 h2 s2=>⟨rfl,_,rfl,fq (λ_=>?_) (λ_=>?_)⟩⟩
  ·exact q _ _ ⟨by decide +kernel,by decide +kernel,λc hc=>by rw[show (Str.ofString "").cps.toList=[] by decide +kernel] at hc;cases hc⟩ (by decide +kernel) (s1.trans s2)
  ·refine⟨rfl,_,rfl,_,lr,_,rfl,rfl,bg.of (s2 _ _ hlr),?_,?_⟩
   ·have h5:=zI rs (λy hy=>(hrs y hy).le)
    rw[show ("\n":Str).length=1 from by decide +kernel]
    exact b9 (by lia)
   ·rw[join_eq,show ((("\n":Str)))=⟨#[10]⟩ from by decide +kernel]
    exact q _ _ p1 p2 (s1.trans s2)
noncomputable def FZ(K:PySem.W.Frag):Sp:=λvs H Q _=>∃(a lr:Addr) (ns:List Int) (b:Int) (rs:List Str),vs=[.ref a,.int b,.ref lr]/\bg K H a (ns.map V.int)/\ns.length<=63/\0<=b/\b<=90000/\H lr=some (.lst (rs.map V.str))/\rs≠[]/\rs.length<=1000/\(∀x∈rs,x.length<=1000)/\
 ∀p v H',VP rs v->rT H' p v->H p=none->aj H H'->Q (.ref p) H'
theorem Eu (T:Txt K mg t):bD P w K mg base dw 2 t.Fw t.JI ["_law_script","_law_k","_law_rows"] (FZ K):=by
 refine T.wH.m Fy λvs H Q E h=>?_
 ·obtain⟨a,lr,ns,b,rs,rfl,hS,hl,hb0,hb1,hlr,hne,hrl,hrs,q⟩:=h
  walk_at "i"
  have hpos:=List.length_pos_iff.mpr hne
  refine aS (λZ' H'=>∃i:Nat,i<rs.length/\aj H H'/\Z'=[some (.ref a),some (.int b),some (.ref lr),some (.int i)]) (cS 3 Fy (aW (iA T) hr.m rfl T.iy T.dZ.kp (T.dZ.binds (by walk_at "3")) .nil aF (aa (pv 0) (aa (pv 1) (aa (aN bh (by rfl) T.cy (by decide +kernel) (aa (pv 2) ai)) ai))))) ⟨_,rfl,_,rfl,_,rfl,_,_,rfl,.inl (bg.of hlr),a,ns,_,_,rfl,hS,hb0,by lia,by rw[List.length_map];lia,by rw[List.length_map];lia,hl,λd H1 h0 h1 s1=>⟨d.toNat,by rw[List.length_map] at h1;lia,s1,by rw[show (d.toNat:Int)=d by lia];rfl⟩⟩ ?_
  rintro Z' H1 ⟨i,hi,s1,rfl⟩
  obtain⟨r,hri⟩:∃r,rs[i]?=some r:=⟨rs[i],List.getElem?_eq_getElem hi⟩
  have hrl1:=hrs r (List.mem_of_getElem? hri)
  have hat:rO (rs.map V.str) (i:Int)=some (.str r):=aH (by rw[List.getElem?_map,hri];rfl)
  refine ay (aJ (bC (aa (pv 3) (aa (aW (iA T) hr.m rfl T.iy T.dZ.kp (T.dZ.binds (by walk_at "3")) .nil aF (aa (pv 0) (aa (aM bO (pv 1) aq) (aa (aM bO (aN bz (by rfl) T.cy (by decide +kernel) (aa (aR aL (pv 2) (pv 3) (λ_ _=>rfl)) ai)) aq) ai)))) ai)))) ⟨_,rfl,_,rfl,_,rfl,_,_,rfl,rfl,_,rfl,_,rfl,_,_,_,_,rfl,rfl,bg.of (s1 _ _ hlr),hat,_,rfl,b9 (by lia),_,_,rfl,rfl,a,ns,_,_,rfl,hS.same s1,by lia,by lia,by lia,by lia,hl,λd H2 h0 h2 s2=>⟨by show 2<=sizeLine;decide,λp hp=>?_⟩⟩
  obtain⟨j,rfl⟩:∃j:Nat,d=j:=⟨d.toNat,by lia⟩
  exact q p (i,j) _ ⟨r,hri,by show j<=_;lia⟩ af ((s1.trans s2).free hp) ((s1.trans s2).to hp)
theorem E1:∀(l:List Str),(l.map λr=>((r.length+1:Nat):Int)).sum=(((l.map λr=>r.length+1).sum:Nat):Int)
 | []=>rfl
 |a::l=>by rw[List.map_cons,List.sum_cons,E1 l,List.map_cons,List.sum_cons,Int.natCast_add];rfl
noncomputable def IL:Sp:=λvs H Q _=>∃(lr p:Addr) (rs:List Str) (v:Nat×Nat),vs=[.ref lr,.ref p]/\H lr=some (.lst (rs.map V.str))/\rT H p v/\v.1<=rs.length/\rs.length<=1000/\(∀x∈rs,x.length<=1000)/\∀H',aj H H'->Q (.int (bH rs v.1 v.2:Nat)) H'
theorem xB (T:Txt K mg t):bD P w K mg base dw 1 t.Gd t.KA ["_law_rows","_law_spot_here"] IL:=by
 refine T.p9.m Px λvs H Q E h=>?_
 ·obtain⟨lr,p,rs,v,rfl,hlr,hp,hi,hrl,hrs,q⟩:=h
  walk_at "i"
  have c1:cz (rs.map V.str) none (some (v.1:Int))=(rs.take v.1).map V.str:=by rw[Bw (by rw[List.length_map];exact hi),List.map_take]
  refine ay (@aJ _ _ _ _ (@aM _ _ _ _ _ _ _ _ bO (@aN _ _ _ _ _ _ _ _ _ (De rfl) (by rfl) T.RJ (by decide +kernel) (aa (@gi _ (av (top 66)) _ ["_law_rows","_law_spot_here"] _ _ ("_law_one") _ _ [] _ _ (by walk_at "ck") (@fF _ _ _ _ (@cT _ _ _ _ _ _ _ _ _ _ gS (pv 0) gj (@cM _ _ _ (@aR _ _ _ _ _ _ _ cu (pv 1) aq (λ_ _=>rfl))))) (λ_ _ _ _=>by exact(@aM _ _ _ _ _ _ _ _ bO (@aN _ _ _ _ _ _ _ _ _ bz (by rfl) T.cy (by decide +kernel) (aa (pv 0) ai (by left)) (by left) (by left) (by left) (by left)) aq)) (by left) (by left) (by left) (by left)) ai (by left)) (by left) (by left) (by left) (by left)) (@aR _ _ _ _ _ _ _ cu (pv 1) aq (λ_ _=>rfl)))) ⟨_,rfl,_,rfl,_,_,_,_,rfl,rfl,dO.of hp,aH (j:=0) rfl,_,rfl,lr,_,rfl,bg.of hlr,λl1 g1=>?_⟩
  have s1:aj H (upd H l1 (.lst (cz (rs.map V.str) none (some (v.1:Int))))):=aj.upd g1
  have h1:upd H l1 (.lst (cz (rs.map V.str) none (some (v.1:Int)))) l1=some (.lst ((rs.take v.1).map V.str)):=by rw[af,c1]
  generalize upd H l1 (.lst (cz (rs.map V.str) none (some (v.1:Int))))=H1 at s1 h1
  refine⟨l1,rfl,⟨_,bg.of h1⟩,gD (xs:=(rs.take v.1).map V.str) (λk ys H'=>ys=(((rs.take v.1).take k).map λr=>((r.length+1:Nat):Int)).map V.int/\H'=H1) ⟨rfl,rfl⟩ (dQ (by rw[List.length_map,List.length_take];lia)) ?_ ?_ ?_⟩
  ·rintro k ys H' _ ⟨_,e⟩
   rw[e];exact bg.of h1
  ·rintro k v' ys H' hv hyl ⟨rfl,e⟩
   have hkl:=(List.getElem?_eq_some_iff.mp hv).1
   rw[List.getElem?_map] at hv
   obtain⟨r,hr,rfl⟩:=Option.map_eq_some_iff.mp hv
   have hrm:=List.mem_of_mem_take (List.mem_of_getElem? hr)
   have:=hrs r hrm
   refine⟨_,rfl,_,rfl,b9 (by lia),_,_,rfl,rfl,cP hkl hyl ⟨?_,e⟩⟩
   rw[take_snoc hr,List.map_append,List.map_append,List.map_singleton,List.map_singleton,Int.natCast_add]
   rfl
  ·rintro ys H' hyl ⟨rfl,e⟩ D hD
   rw[List.length_map,List.take_length]
   refine⟨D,((rs.take v.1).map λr=>((r.length+1:Nat):Int)),rfl,bg.of af,_,rfl,_,_,_,_,rfl,rfl,dO.of (by rw[e];exact(s1.to (by rw[e] at hD;exact hD)) _ _ hp),aH (j:=1) rfl,_,_,rfl,rfl,?_⟩
   have es:(((rs.take v.1).map λr=>((r.length+1:Nat):Int)).sum+(v.2:Int))=((bH rs v.1 v.2:Nat):Int):=by
    unfold bH
    rw[Int.natCast_add,E1]
   show Q (V.int (((rs.take v.1).map λr=>((r.length+1:Nat):Int)).sum+(v.2:Int))) _
   rw[es]
   exact q _ (by rw[e];exact s1.to (by rw[e] at hD;exact hD))
theorem sd{rs:List Str}{i r c:Nat}{x:Str}(hx:rs[i]?=some x)(h:i<r):bH (rs.drop i) (r-i) c=x.length+1+bH (rs.drop (i+1)) (r-(i+1)) c:=by
 unfold bH
 rw[gr hx]
 obtain⟨d,rfl⟩:∃d,r=i+1+d:=Nat.exists_eq_add_of_le h
 rw[show i+1+d-i=d+1 by lia,show i+1+d-(i+1)=d by lia,List.take_succ_cons,List.map_cons,List.sum_cons]
 lia
noncomputable def G4:Sp:=λvs H Q _=>∃(lr:Addr) (rs:List Str) (v:Nat×Nat),vs=[.ref lr,.int (bH rs v.1 v.2:Nat)]/\H lr=some (.lst (rs.map V.str))/\VP rs v/\(∀x∈rs,x.length<=100000)/\∀p H',rT H' p v->H p=none->aj H H'->Q (.ref p) H'
theorem O1 (T:Txt K mg t):bD P w K mg base dw 1 t.C8 t.Jf ["_law_rows","_law_flat_here"] G4:=by
 refine T.DX.m uq λvs H Q E h=>?_
 ·obtain⟨lr,rs,⟨r,c⟩,rfl,hlr,⟨x0,hx0,hc0⟩,hrs,q⟩:=h
  walk_at "i"
  have hrl:=(List.getElem?_eq_some_iff.mp hx0).1
  have hrl:r<rs.length:=hrl
  have hx0:rs[r]?=some x0:=hx0
  have hc0:c<=x0.length:=hc0
  refine ao (cS 2 uq aq) ?_
  refine aS (λZ' H'=>Z'=[some (.ref lr),some (.int c),some (.int r)]/\H'=H) (jZ PassesOwn.never (aE gZ (pv 1) (aN bz (by rfl) T.cy (by decide +kernel) (aa (aR aL (pv 0) (pv 2) (λ_ _=>rfl)) ai)) (aI _)) aA) ?_ ?_
  ·refine⟨λm Z' H'=>∃i:Nat,Z'=[some (.ref lr),some (.int (bH (rs.drop i) (r-i) c:Nat)),some (.int i)]/\i<=r/\m=r-i/\H'=H,⟨r,0,rfl,Nat.zero_le _,rfl,rfl⟩,?_⟩
   rintro m Z' H1 ⟨i,rfl,hi,rfl,hH⟩
   subst hH
   obtain⟨x,hx⟩:∃x,rs[i]?=some x:=⟨rs[i]'(by lia),List.getElem?_eq_getElem _⟩
   have hxl:=hrs x (List.mem_of_getElem? hx)
   have hat:rO (rs.map V.str) (i:Int)=some (.str x):=aH (by rw[List.getElem?_map,hx];rfl)
   have two:i<r∨i=r/\x=x0/\bH (rs.drop i) (r-i) c=c:=by
    by_cases hir:i<r
    ·exact .inl hir
    ·have e:i=r:=by lia
     subst e
     rw[hx0] at hx
     exact .inr ⟨rfl,(Option.some.inj hx).symm,by unfold bH;rw[Nat.sub_self];simp⟩
   refine⟨_,rfl,_,rfl,_,rfl,_,_,_,_,rfl,rfl,bg.of hlr,hat,_,rfl,b9 (by lia),_,_,rfl,rfl,_,rfl,fq (λh=>?_) (λh=>?_)⟩
   ·have hir:i<r:=by
     rcases two with z|⟨z1,z2,z3⟩
     ·exact z
     ·rw[z2,z3] at h;lia
    have e:=sd (c:=c) hx hir
    refine⟨_,λZ' H' z=>z,ao (cS 1 uq (aM eu (aM eu (pv 1) (aN bz (by rfl) T.cy (by decide +kernel) (aa (aR aL (pv 0) (pv 2) (λ_ _=>rfl)) ai))) aq)) ⟨_,rfl,_,rfl,_,rfl,_,_,_,_,rfl,rfl,bg.of hlr,hat,_,rfl,b9 (by lia),_,_,rfl,rfl,_,_,rfl,rfl,?_⟩⟩
    refine ay (cS 2 uq (aM bO (pv 2) aq)) ⟨_,rfl,_,_,rfl,rfl,r-(i+1),by lia,i+1,?_,hir,rfl,rfl⟩
    have e1:((bH (rs.drop i) (r-i) c:Nat):Int)-(x.length:Int)-1=((bH (rs.drop (i+1)) (r-(i+1)) c:Nat):Int):=by lia
    show [some (V.ref lr),some (.int (((bH (rs.drop i) (r-i) c:Nat):Int)-(x.length:Int)-1)),some (.int ((i:Int)+1))]=_
    rw[e1]
    rfl
   ·rcases two with z|⟨z1,z2,z3⟩
    ·have e:=sd (c:=c) hx z
     exact absurd (by lia) h
    ·subst z1
     rw[z3]
     exact⟨rfl,rfl⟩
  rintro Z' H1 ⟨rfl,hH⟩
  subst hH
  exact ay (aJ (bC (aa (pv 2) (aa (pv 1) ai)))) ⟨_,rfl,_,rfl,by show 2<=sizeLine;decide,λp hp=>q p _ af hp (aj.upd hp)⟩
def gu(f b e n:Nat):Nat:=if f ≥ e/\(f>b∨n≠0∨e>b) then f-(e-b)+n else if f>b then b else f
abbrev Ab8(vs:List V)(H:Hp)(Q:VK)(lr ds pf pl:Addr)(rs now:List Str)(sp:List (Str×Nat×Nat))(w u:Nat×Nat)(z:Str)(g:Nat×Nat->Nat×Nat):Prop:=rs≠[]/\(∀x:Str,x.cps.toList=bM 10 (oA rs)->PySem.Txt.split (PySem.Txt.slice x none (some (bH rs w.1 w.2:Int))++z++PySem.Txt.slice x (some (bH rs u.1 u.2:Int)) none) (Str.ofString "\n")=now)/\(bH rs w.1 w.2<=bH rs u.1 u.2)/\(∀y∈sp,VP now (g y.2)/\bH now (g y.2).1 (g y.2).2=gu (bH rs y.2.1 y.2.2) (bH rs w.1 w.2) (bH rs u.1 u.2) z.length)/\∀tp ln df H',H' tp=some (.tup [.ref ln,.ref df])->H' ln=some (.lst (now.map V.str))->DP H' df (sp.map λy=>(y.1,g y.2))->H ln=none->H df=none->aj H H'->Q (.ref tp) H'
abbrev aa6(vs:List V)(H:Hp)(Q:VK)(lr ds pf pl:Addr)(rs now:List Str)(sp:List (Str×Nat×Nat))(w u:Nat×Nat)(z:Str)(g:Nat×Nat->Nat×Nat):Prop:=rs.length<=1000/\tot rs<=1000/\z.length<=1000/\now.length<=3000/\tot now<=3000/\Ab8 vs H Q lr ds pf pl rs now sp w u z g
abbrev Ab9(vs:List V)(H:Hp)(Q:VK)(lr ds pf pl:Addr)(rs now:List Str)(sp:List (Str×Nat×Nat))(w u:Nat×Nat)(z:Str)(g:Nat×Nat->Nat×Nat):Prop:=(bB sp).Nodup/\sp.length<64/\VP rs w/\VP rs u/\(∀y∈sp,VP rs y.2)/\aa6 vs H Q lr ds pf pl rs now sp w u z g
abbrev aa5(vs:List V)(H:Hp)(Q:VK)(lr ds pf pl:Addr)(rs now:List Str)(sp:List (Str×Nat×Nat))(w u:Nat×Nat)(z:Str)(g:Nat×Nat->Nat×Nat):Prop:=vs=[.ref lr,.ref ds,.ref pf,.ref pl,.str z]/\H lr=some (.lst (rs.map V.str))/\DP H ds sp/\rT H pf w/\rT H pl u/\Ab9 vs H Q lr ds pf pl rs now sp w u z g
noncomputable def IU:Sp:=λvs H Q _=>∃lr ds pf pl rs now sp w u z g,aa5 vs H Q lr ds pf pl rs now sp w u z g
theorem VP.lt{rs:List Str}{v:Nat×Nat}(h:VP rs v):v.1<=rs.length:=by
 obtain⟨r,h1,_⟩:=h
 have:=(List.getElem?_eq_some_iff.mp h1).1
 lia
theorem wo{rs:List Str}{v:Nat×Nat}(h:VP rs v):bH rs v.1 v.2<=tot rs+rs.length:=by
 obtain⟨r,h1,h2⟩:=h
 have hl:=oU h1 h2
 have hne:oA rs≠[]:=λz=>by
  have:rs=[]:=List.map_eq_nil_iff.mp z
  rw[this] at h1;simp at h1
 have key:∀F:List (List Nat),F≠[]->(bM 10 F).length+1=(F.map List.length).sum+F.length:=by
  intro F
  induction F with
  |nil=>intro h;exact absurd rfl h
  |cons x t ih=>
   intro _
   cases t with
   |nil=>show x.length+1=_;simp
   |cons y r=>
    have:=ih (by simp)
    rw[eS (by simp),List.length_append,List.length_cons,List.map_cons,List.sum_cons,List.length_cons]
    lia
 have k:=key _ hne
 rw[← nA,List.length_map] at k
 lia
theorem Cn {z:Str}:(z ≠ "")↔z.length≠0:=by
 constructor
 ·intro h e
  refine h (jL ?_)
  have:z.cps.toList=[]:=List.length_eq_zero_iff.mp (by rw[br];exact e)
  rw[this]
  decide +kernel
 ·intro h e
  rw[e] at h
  exact h (by decide +kernel)
theorem BE{sp:List (Str×Nat×Nat)}{ps:List Addr}{n:Str}{v:V}(h:n∉bB sp):putK (bS sp ps) (Sum.inr n) v=bS sp ps++[(Sum.inr n,v)]:=vS v (oV h)
theorem Fx (T:Txt K mg t):bD P w K mg base dw 2 t.F9 t.Jx ["_law_rows","_law_spots","_law_first","_law_last","_law_text"] IU:=by
 refine T.v8.m gM λvs H Q E h=>?_
 ·obtain⟨lr,ds,pf,pl,rs,now,sp,w,u,z,g,rfl,hlr,⟨ps,hd⟩,hpf,hpl,hn,h64,hw,hu,hv,hrl,htot,hz,hnl,hnt,hne,hnow,hle,hg,q⟩:=h
  walk_at "i"
  have sz:=sizeLine_eq
  have hr1:∀x∈rs,x.length<=1000:=λx hx=>by have:=jA hx;lia
  have bw:=wo hw
  have bu:=wo hu
  refine ao (cS 5 gM (aW (xB T) hr.m rfl T.yj T.p9.kp (T.p9.binds (by walk_at "2")) .nil aF (aa (pv 0) (aa (pv 2) ai)))) ⟨_,rfl,_,rfl,lr,pf,rs,w,rfl,hlr,hpf,hw.lt,hrl,hr1,λH1 s1=>?_⟩
  refine ao (cS 6 gM (aW (xB T) hr.m rfl T.yj T.p9.kp (T.p9.binds (by walk_at "2")) .nil aF (aa (pv 0) (aa (pv 3) ai)))) ⟨_,rfl,_,rfl,lr,pl,rs,u,rfl,s1 _ _ hlr,s1 _ _ hpl,hu.lt,hrl,hr1,λH2 s2=>?_⟩
  have s2:=s1.trans s2
  obtain⟨b,eb⟩:∃b,b=bH rs w.1 w.2:=⟨_,rfl⟩
  obtain⟨e,ee⟩:∃e,e=bH rs u.1 u.2:=⟨_,rfl⟩
  rw[← eb] at bw hle hg hnow ⊢
  rw[← ee] at bu hle hg hnow ⊢
  obtain⟨x,ex⟩:∃x,x=Str.join ⟨#[10]⟩ rs:=⟨_,rfl⟩
  have hxc:x.cps.toList=bM 10 (oA rs):=by rw[ex];exact eN 10 rs
  have hxl:x.length<=2000:=by
   have key:∀F:List (List Nat),(bM 10 F).length<=(F.map List.length).sum+F.length:=by
    intro F
    induction F with
    |nil=>exact Nat.zero_le _
    |cons y t ih=>
     cases t with
     |nil=>show y.length<=_;simp
     |cons y' r=>
      rw[eS (by simp),List.length_append,List.length_cons,List.map_cons,List.sum_cons,List.length_cons]
      lia
   have k:=key (oA rs)
   rw[← nA,List.length_map] at k
   rw[← br,hxc]
   lia
  have hlr2:=s2 _ _ hlr
  refine aS (λZ' H'=>Z'=[some (.ref lr),some (.ref ds),some (.ref pf),some (.ref pl),some (.str z),some (.int b),some (.int e),some (.str x),none,none,none,none]/\H'=H2) (cS 7 gM (dG F.plainAttrs_str F.slot_str_join F.type_str_join mG az (aa (pv 0) ai))) ⟨rfl,_,rfl,_,lr,_,rfl,rfl,bg.of hlr2,?_,?_⟩ ?_
  ·have:(rs.map (·.length)).sum=tot rs:=rfl
   rw[this,show (Str.ofString "\n").length=1 by decide +kernel]
   exact b9 (by lia)
  ·rw[join_eq,show ((Str.ofString "\n"))=⟨#[10]⟩ from by decide +kernel,← ex]
   exact⟨rfl,rfl⟩
  rintro Z' H' ⟨rfl,hH⟩
  subst hH
  have b1:=PySem.Txt.slice_le x none (some (b:Int))
  have b2:=PySem.Txt.slice_le x (some (e:Int)) none
  have l1:(PySem.Txt.slice x none (some (b:Int))++z).length<=3000:=by rw[PySem.strLen_append];lia
  refine ao (cS 8 gM (dG F.plainAttrs_str F.slot_str_split F.type_str_split jq (aM eU (aM eU (cT mj (pv 7) gj (cM (pv 5))) (pv 4)) (cT mj (pv 7) (cM (pv 6)) gj)) (aa az ai))) ⟨_,rfl,_,rfl,_,rfl,_,rfl,(by lia),_,rfl,_,_,rfl,rfl,(by lia),_,rfl,_,rfl,_,rfl,_,rfl,(by lia),_,_,rfl,rfl,(by lia),rfl,_,Str.ofString "\n",rfl,rfl,rfl,(by rw[PySem.strLen_append];lia),λln hln=>?_⟩
  rw[hnow x hxc]
  have s3:aj H (upd H' ln (.lst (now.map V.str))):=s2.trans (aj.upd hln)
  have hln3:upd H' ln (.lst (now.map V.str)) ln=some (.lst (now.map V.str)):=af
  have fln:H ln=none:=s2.free hln
  generalize upd H' ln (.lst (now.map V.str))=H3 at s3 hln3
  refine ao (cS 9 gM m5) (λdf hdf=>?_)
  have s4:aj H3 (upd H3 df (.dK [])):=aj.upd hdf
  have hd4:upd H3 df (.dK []) df=some (.dK []):=af
  have fdf:H df=none:=s3.free hdf
  generalize upd H3 df (.dK [])=H4 at s4 hd4
  have s04:=s3.trans s4
  have hln4:=s4 _ _ hln3
  have hds4:=s04 _ _ hd.ob
  have ndd:df≠ds:=λy=>by rw[y,hd.ob] at fdf;cases fdf
  have nnd:∀x∈now,x.length<=100000:=λx hx=>by have:=jA hx;lia
  have hsl:(sp.map λy=>(y.1,g y.2)).length=sp.length:=List.length_map ..
  show At _ _ _ [some (.ref lr),some (.ref ds),some (.ref pf),some (.ref pl),some (.str z),some (.int b),some (.int e),some (.str x),some (.ref ln),some (.ref df),none,none] H4
  refine aS (λZ' H'=>∃y10 y11,Z'=[some (.ref lr),some (.ref ds),some (.ref pf),some (.ref pl),some (.str z),some (.int b),some (.int e),some (.str x),some (.ref ln),some (.ref df),y10,y11]/\DP H' df (sp.map λy=>(y.1,g y.2))/\H' ln=some (.lst (now.map V.str))/\aj H H') (Ie (gn PassesOwn.never rfl (uu (pv 1)) (oO 10 gM) aA)) ?_ ?_
  ·refine⟨_,rfl,ds,_,rfl,hds4,λo nf=>?_⟩
   have hf:∀{b u},H b=some u->b≠ds->upd H4 ds (.jy o (.dK (bS sp ps))) b=some u:=λ{b u} y n=>by rw[ak n];exact s04 _ _ y
   refine AA (λk Z' H'=>∃(y10 y11:Option V) (pp:List Addr),Z'=[some (.ref lr),some (.ref ds),some (.ref pf),some (.ref pl),some (.str z),some (.int b),some (.int e),some (.str x),some (.ref ln),some (.ref df),y10,y11]/\pp.length=k/\H' df=some (.dK (bS ((sp.map λy=>(y.1,g y.2)).take k) pp))/\bI (λp (y:Str×Nat×Nat)=>H' p=some (.tup [bE y.2.1,bE y.2.2])) pp ((sp.map λy=>(y.1,g y.2)).take k)/\gw (upd H4 ds (.jy o (.dK (bS sp ps)))) H' df) ⟨_,_,[],rfl,rfl,by rw[ak ndd];exact hd4,bI.nil,gw.refl _ _⟩ ?_ ?_ ?_
   ·rintro k Z' H' _ ⟨_,_,pp,_,_,_,_,a⟩
    exact a _ _ af (Ne.symm ndd)
   ·rintro k kv Z' H5 hkv ⟨y10,y11,pp,rfl,hpp,hd5,hA5,a5⟩
    have hk:k<sp.length:=by rw[← c9 hd.len];exact(List.getElem?_eq_some_iff.mp hkv).1
    have hy:sp[k]?=some sp[k]:=List.getElem?_eq_getElem hk
    obtain⟨pk,ep⟩:∃pk,ps[k]?=some pk:=⟨_,List.getElem?_eq_getElem (by rw[hd.len];exact hk)⟩
    generalize sp[k]=y at hy
    rw[z7 hy ep] at hkv
    cases hkv
    have hym:=List.mem_of_getElem? hy
    have hyv:=hv y hym
    obtain⟨g1,g2⟩:=hg y hym
    have hyk:(sp.map λy=>(y.1,g y.2))[k]?=some (y.1,g y.2):=by rw[List.getElem?_map,hy];rfl
    have k5:∀{b u},H b=some u->b≠ds->H5 b=some u:=λ{b u} c n=>a5 _ _ (hf c n) (λd=>by rw[d,fdf] at c;cases c)
    have hds5:H5 ds=some (.jy o (.dK (bS sp ps))):=a5 _ _ af (Ne.symm ndd)
    have hpk:rT H5 pk y.2:=by
     have c:=hd.pl.2 k _ _ ep hy
     exact k5 c (bL c hd.ob (by intro d;cases d))
    have hlr5:=k5 hlr (bL hlr hd.ob (by intro d;cases d))
    have hln5:H5 ln=some (.lst (now.map V.str)):=a5 _ _ (by rw[ak (bL hln4 hds4 (by intro d;cases d))];exact hln4) (bL hln4 hd4 (by intro d;cases d))
    obtain⟨f,ef⟩:∃f,f=bH rs y.2.1 y.2.2:=⟨_,rfl⟩
    rw[← ef] at g2
    refine ao (cS 11 gM (aW (xB T) hr.m rfl T.yj T.p9.kp (T.p9.binds (by walk_at "2")) .nil aF (aa (pv 0) (aa (dS (cK hr) (pv 1) (pv 10) (λ_ _=>rfl)) ai)))) ⟨_,rfl,_,rfl,_,rfl,ds,_,rfl,.inl ⟨_,Sum.inr y.1,.inr ⟨o,hds5⟩,rfl,(jJ hn hy ep).symm⟩,lr,pk,rs,y.2,rfl,hlr5,hpk,hyv.lt,hrl,hr1,λH6 s6=>?_⟩
    rw[← ef]
    refine aS (λZ' H'=>Z'=[some (.ref lr),some (.ref ds),some (.ref pf),some (.ref pl),some (.str z),some (.int b),some (.int e),some (.str x),some (.ref ln),some (.ref df),some (.str y.1),some (.int (gu f b e z.length:Nat))]/\H'=H6) (bK (PW.pt (iz (aE Jo (pv 11) (pv 6) (aI _)) (fV (PW.pt (jV (aE gZ (pv 11) (pv 5) (aI _)) (jV (aE oG (pv 4) az (aI _)) (jF (aE gZ (pv 6) (pv 5) (aI _))))))))) aA aA) ?_ ?_
    ·refine⟨_,rfl,_,rfl,_,_,rfl,rfl,_,rfl,fq (λh1=>⟨_,rfl,_,rfl,_,_,rfl,rfl,_,rfl,fq (λh2=>?_) (λh2=>⟨_,rfl,rfl,_,rfl,qS (λh3=>?_) (λh3=>⟨_,rfl,_,rfl,_,_,rfl,rfl,_,rfl,fq (λh4=>?_) (λh4=>?_)⟩)⟩)⟩) (λh1=>?_)⟩
     ·have hyes:f ≥ e/\(f>b∨z.length≠0∨e>b):=⟨by lia,.inl (by lia)⟩
      refine ay (cS 11 gM (aM bO (aM eu (pv 11) (aM eu (pv 6) (pv 5))) (aN bz (by rfl) T.cy (by decide +kernel) (aa (pv 4) ai)))) ⟨_,rfl,_,rfl,_,rfl,_,_,rfl,rfl,_,_,rfl,rfl,_,rfl,_,rfl,b9 (by lia),_,_,rfl,rfl,?_,rfl⟩
      have ec:((f:Int)-((e:Int)-(b:Int))+(z.length:Int))=((gu f b e z.length:Nat):Int):=by rw[gu,if_pos hyes];lia
      show [some (V.ref lr),some (.ref ds),some (.ref pf),some (.ref pl),some (.str z),some (.int b),some (.int e),some (.str x),some (.ref ln),some (.ref df),some (.str y.1),some (.int ((f:Int)-((e:Int)-(b:Int))+(z.length:Int)))]=_
      rw[ec]
     ·have hyes:f ≥ e/\(f>b∨z.length≠0∨e>b):=⟨by lia,.inr (.inl (Cn.mp λy=>h3 (by rw[y])))⟩
      refine ay (cS 11 gM (aM bO (aM eu (pv 11) (aM eu (pv 6) (pv 5))) (aN bz (by rfl) T.cy (by decide +kernel) (aa (pv 4) ai)))) ⟨_,rfl,_,rfl,_,rfl,_,_,rfl,rfl,_,_,rfl,rfl,_,rfl,_,rfl,b9 (by lia),_,_,rfl,rfl,?_,rfl⟩
      have ec:((f:Int)-((e:Int)-(b:Int))+(z.length:Int))=((gu f b e z.length:Nat):Int):=by rw[gu,if_pos hyes];lia
      show [some (V.ref lr),some (.ref ds),some (.ref pf),some (.ref pl),some (.str z),some (.int b),some (.int e),some (.str x),some (.ref ln),some (.ref df),some (.str y.1),some (.int ((f:Int)-((e:Int)-(b:Int))+(z.length:Int)))]=_
      rw[ec]
     ·have hyes:f ≥ e/\(f>b∨z.length≠0∨e>b):=⟨by lia,.inr (.inr (by lia))⟩
      refine ay (cS 11 gM (aM bO (aM eu (pv 11) (aM eu (pv 6) (pv 5))) (aN bz (by rfl) T.cy (by decide +kernel) (aa (pv 4) ai)))) ⟨_,rfl,_,rfl,_,rfl,_,_,rfl,rfl,_,_,rfl,rfl,_,rfl,_,rfl,b9 (by lia),_,_,rfl,rfl,?_,rfl⟩
      have ec:((f:Int)-((e:Int)-(b:Int))+(z.length:Int))=((gu f b e z.length:Nat):Int):=by rw[gu,if_pos hyes];lia
      show [some (V.ref lr),some (.ref ds),some (.ref pf),some (.ref pl),some (.str z),some (.int b),some (.int e),some (.str x),some (.ref ln),some (.ref df),some (.str y.1),some (.int ((f:Int)-((e:Int)-(b:Int))+(z.length:Int)))]=_
      rw[ec]
     ·have hno:¬ (f ≥ e/\(f>b∨z.length≠0∨e>b)):=λy=>y.2.elim (λy=>by lia) λy=>y.elim (λy=>Cn.mpr y (V.str.inj h3)) λy=>by lia
      refine ay (bK (aE gZ (pv 11) (pv 5) (aI _)) aA aA) ⟨_,rfl,_,rfl,_,_,rfl,rfl,_,rfl,fq (λh=>?_) (λh=>?_)⟩
      ·refine ay (cS 11 gM (pv 5)) ⟨_,rfl,?_,rfl⟩
       rw[gu,if_neg hno,if_pos (by lia)]
       rfl
      ·refine bG ⟨?_,rfl⟩
       rw[gu,if_neg hno,if_neg (by lia)]
       rfl
     ·have hno:¬ (f ≥ e/\(f>b∨z.length≠0∨e>b)):=λy=>h1 (by lia)
      refine ay (bK (aE gZ (pv 11) (pv 5) (aI _)) aA aA) ⟨_,rfl,_,rfl,_,_,rfl,rfl,_,rfl,fq (λh=>?_) (λh=>?_)⟩
      ·refine ay (cS 11 gM (pv 5)) ⟨_,rfl,?_,rfl⟩
       rw[gu,if_neg hno,if_pos (by lia)]
       rfl
      ·refine bG ⟨?_,rfl⟩
       rw[gu,if_neg hno,if_neg (by lia)]
       rfl
    rintro Z' H' ⟨rfl,hH⟩
    subst hH
    rw[← g2]
    refine ay (iG (cK hr) (pv 9) (pv 10) (aW (O1 T) hr.m rfl T.NS T.DX.kp (T.DX.binds (by walk_at "2")) .nil aF (aa (pv 8) (aa (pv 11) ai))) rfl) ⟨_,rfl,_,rfl,ln,now,g y.2,rfl,s6 _ _ hln5,g1,nnd,λp H7 hp fp s7=>⟨_,rfl,_,rfl,df,_,rfl,nF.k (k:=Sum.inr y.1) (s7 _ _ (s6 _ _ hd5)) (by rw[c9 (by rw[List.length_take,hsl,hpp];lia),List.length_take,hsl];lia),?_⟩⟩
    have hnk:y.1∉bB ((sp.map λy=>(y.1,g y.2)).take k):=λc=>by
     have e1:bB ((sp.map λy=>(y.1,g y.2)).take k)=(bB sp).take k:=by
      show List.map _ _=_
      rw[List.map_take]
      show List.take k (bB (sp.map λy=>(y.1,g y.2)))=_
      rw[gF]
     rw[e1] at c
     obtain⟨i',hi'⟩:=List.mem_iff_getElem?.mp c
     have hlt:i'<k:=by
      have:=(List.getElem?_eq_some_iff.mp hi').1
      rw[List.length_take] at this;lia
     rw[List.getElem?_take_of_lt hlt] at hi'
     have hyn:(bB sp)[k]?=some y.1:=by rw[List.getElem?_map,hy];rfl
     have hl':=(List.getElem?_eq_some_iff.mp hi').1
     have:=(List.getElem?_inj hl' hn).mp (hi'.trans hyn.symm)
     lia
    rw[BE hnk]
    refine⟨_,_,pp++[p],rfl,by rw[List.length_append,hpp];rfl,by rw[af,o6 hyk hpp],?_,λc u d nd=>?_⟩
    ·rw[take_snoc hyk]
     have kk:∀{c xs},H7 c=some (HO.tup xs)->upd H7 df (.dK (bS ((sp.map λy=>(y.1,g y.2)).take k) pp++[(Sum.inr y.1,V.ref p)])) c=some (.tup xs):=λ{c xs} d=>by rw[ak (bL d (s7 _ _ (s6 _ _ hd5)) (by intro d;cases d))];exact d
     exact bI.snoc (hA5.mono λ_ _ d=>kk (s7 _ _ (s6 _ _ d))) (kk hp)
    ·rw[ak nd]
     exact s7 _ _ (s6 _ _ (a5 c u d nd))
   ·rintro Z' H5 ⟨y10,y11,pp,rfl,hpp,hd5,hA5,a5⟩
    rw[c9 hd.len,← hsl,List.take_length] at hd5 hA5
    rw[c9 hd.len,← hsl] at hpp
    have hds5:H5 ds=some (.jy o (.dK (bS sp ps))):=a5 _ _ af (Ne.symm ndd)
    refine⟨ds,o,_,hds5,nf,y10,y11,rfl,⟨pp,hpp,by rw[ak ndd];exact hd5,hA5.mono λc y d=>by rw[ak (bL d hds5 (by intro d;cases d))];exact d⟩,?_,λc u d=>?_⟩
    ·rw[ak (bL hln4 hds4 (by intro d;cases d))]
     exact a5 _ _ (by rw[ak (bL hln4 hds4 (by intro d;cases d))];exact hln4) (bL hln4 hd4 (by intro d;cases d))
    ·by_cases c1:c=ds
     ·rw[c1,hd.ob] at d
      cases d
      rw[c1,af]
     ·rw[ak c1]
      exact a5 _ _ (hf d c1) (λy=>by rw[y,fdf] at d;cases d)
  rintro Z' H5 ⟨y10,y11,rfl,hD5,hln5,s5⟩
  exact ay (aJ (bC (aa (pv 8) (aa (pv 9) ai)))) ⟨_,rfl,_,rfl,by show 2<=sizeLine;decide,λtp htp=>q tp ln df _ af (aj.upd htp _ _ hln5) (hD5.same (aj.upd htp)) fln fdf (s5.to htp)⟩
def yJ (R:aZ):aZ:={ R with aU:="" }
def uW (m:aD):aD:={ m with aU:="",rules:=m.rules.map yJ }
theorem pH{row:Str}{i:Nat}:∀(rs:List aZ) (k:Nat),f6 row i k (rs.map yJ)=f6 row i k rs
 | [],_=>rfl
 |R::r,k=>by
  rw[List.map_cons,f6,f6,pH r (k+1)]
  rfl
theorem A5(rs:List aZ)(row:Str)(i:Nat):eO (rs.map yJ) row i=(eO rs row i).map yJ:=by
 unfold eO
 have e:firstM (rs.map yJ) row i=firstM rs row i:=pH rs 0
 rw[e]
 cases firstM rs row i with
 |none=>rfl
 |some n=>exact List.getElem?_map
theorem Cp(ms:List aD)(k:Nat)(row:Str):cR (ms.map uW) k row=(cR ms k row).map yJ:=by
 unfold cR
 rw[List.getElem?_map]
 cases ms[k]? with
 |none=>rfl
 |some m=>
  show fN (m.rules.map yJ) row=(fN m.rules row).map yJ
  unfold fN
  rw[A5]
  cases eO m.rules row 0 with
  |none=>rfl
  |some R=>
   show (if bJ R.sort=true then none else some (yJ R))=Option.map yJ (if bJ R.sort=true then none else some R)
   split <;> rfl
theorem sX(ms:List aD)(row:Str)(first:Nat):∀(f:Nat) (on ring:List Nat),dj (ms.map uW) row first f on ring=dj ms row first f on ring
 |0,_,_=>rfl
 |f+1,on,ring=>by
  rw[dj,dj,Cp]
  cases cR ms (bU on) row with
  |none=>rfl
  |some R=>
   show (if R.bq = "pop" /\ on.length=1/\first≠0 then none else if bU (bR on R.bq R.goal)=first then some (ring++[bU on]) else dj (ms.map uW) row first f (bR on R.bq R.goal) (ring++[bU on]))=_
   rw[sX ms row first f]
theorem AX(ms:List aD):jU (ms.map uW)=jU ms:=by
 have h1:∀row n k,fH (ms.map uW) row n k=fH ms row n k:=by
  intro row n
  induction n with
  |zero=>intro k;rfl
  |succ n ih=>
   intro k
   rw[fH,fH,ih]
   have:cI (ms.map uW) k row=cI ms k row:=by unfold cI;rw[List.length_map];exact sX ms row k _ _ _
   rw[this]
 have h2:∀rows,fB (ms.map uW) rows=fB ms rows:=by
  intro rows
  induction rows with
  |nil=>rfl
  |cons row r ih=>rw[fB,fB,List.length_map,h1,ih]
 exact h2 _
def jT (c:Str):Prop:=c∈(["red","blue","green","plain","redder"]:List Str)
theorem jT.nm{c:Str}(h:jT c):isName c=true:=by
 have key:∀c∈(["red","blue","green","plain","redder"]:List Str),isName c=true:=by decide +kernel
 exact key c h
structure nI where
 c0:Str
 c1:Str
 c2:Str
 c3:Str
 c4:Str
structure nI.Ok(c:nI):Prop where
 h0:jT c.c0
 h1:jT c.c1
 h2:jT c.c2
 h3:jT c.c3
 h4:jT c.c4
abbrev q1 (c:Str):aZ:=⟨"one","(",c,"push",some 1,"open"⟩
abbrev q2 (c:Str):aZ:=⟨"word","\"",c,"push",some 2,""⟩
abbrev q3 (c:Str):aZ:=⟨"many","ab",c,"stay",none,""⟩
abbrev q4 (c:Str):aZ:=⟨"word","#",c,"into",some 3,""⟩
abbrev q5 (c:Str):aZ:=⟨"one",")",c,"pop",none,"close"⟩
abbrev q6 (c:Str):aZ:=⟨"word","\"",c,"pop",none,""⟩
abbrev q7:aZ:=⟨"end","","","pop",none,""⟩
abbrev q8:aZ:=⟨"end","","","into",some 0,""⟩
abbrev q9:aZ:=⟨"still","","","push",some 1,"open"⟩
abbrev qa (c:Str):aZ:=⟨"many","ab",c,"pop",none,"close"⟩
abbrev qb (c:Str):aZ:=⟨"any","",c,"pop",none,""⟩
abbrev qc (c:Str):aZ:=⟨"word","((",c,"push",some 1,"open"⟩
abbrev qd (c:Str):aZ:=⟨"none","ab(\" ",c,"stay",none,""⟩
abbrev qe (c:Str):aZ:=⟨"word"," (",c,"push",some 0,""⟩
abbrev qf (c:Str):aZ:=⟨"one","\"",c,"into",some 1,"open"⟩
abbrev qg (c:Str):aZ:=⟨"word","))",c,"pop",none,"close"⟩
abbrev qh (c:Str):aZ:=⟨"word","#",c,"into",some 0,"close"⟩
abbrev qi (c:Str):aZ:=⟨"one","\"",c,"pop",none,""⟩
def make(w:Nat)(c:nI):List aD :=
 if w=0 then [⟨"base",c.c0,[q1 c.c1,q2 c.c2,q3 c.c3,q4 c.c1]⟩,⟨"deep",c.c4,[q1 c.c1,q5 c.c1,q2 c.c2]⟩,⟨"text",c.c2,[q6 c.c2,q7]⟩,⟨"note",c.c4,[q8]⟩]
 else if w=1 then [⟨"base",c.c0,[q9]⟩,⟨"word",c.c1,[qa c.c3,qb c.c2]⟩]
 else [⟨"base",c.c0,[qc c.c1,qd c.c2,qe c.c4,qf c.c3]⟩,⟨"deep",c.c1,[qg c.c1,qh c.c4,qi c.c0]⟩]
def c00:nI:=⟨"","","","",""⟩
theorem EX(w:Nat)(c:nI):(make w c).map uW=make w c00:=by
 unfold make
 split
 ·rfl
 ·split
  ·rfl
  ·rfl
theorem sL(w:Nat)(c:nI):jU (make w c)=none:=by
 rw[← AX,EX]
 unfold make
 split
 ·decide +kernel
 ·split
  ·decide +kernel
  ·decide +kernel
def Rg (s z:Str):Bool:=decide (s∈sorts) && (if bare s then decide (z = "") else decide (1<=z.length/\z.length<=200/\95∉z.cps.toList/\10∉z.cps.toList))
def iE(n:Nat)(R:aZ):Bool:=Rg R.sort R.signs && decide (R.bq∈sJ) && (match R.goal with
 |some g=>decide (i6 R.bq/\g<n)
 |none=>decide (¬ i6 R.bq)) && decide (R.fold = "" ∨ R.fold = "open" ∨ R.fold = "close")
theorem sZ {names:List Str} {R:aZ} (h:iE names.length (yJ R)=true) (hc:bJ R.sort=true->jT R.aU) (h0:bJ R.sort=false->R.aU = ""):fc names R:=by
 unfold iE at h
 rw[Bool.and_eq_true,Bool.and_eq_true,Bool.and_eq_true] at h
 obtain⟨⟨⟨h1,h3⟩,h4⟩,h5⟩:=h
 unfold Rg at h1
 rw[Bool.and_eq_true] at h1
 have h4:(match R.goal with
  |some g=>decide (i6 R.bq/\g<names.length)
  |none=>decide (¬ i6 R.bq))=true:=h4
 refine⟨⟨of_decide_eq_true h1.1,λhb=>?_,λhb=>?_⟩,λhb=>(hc hb).nm,h0,of_decide_eq_true h3,λhg=>?_,λhg=>?_,of_decide_eq_true h5⟩
 ·have h2:=h1.2
  rw[if_pos (show bare (yJ R).sort from hb)] at h2;exact of_decide_eq_true h2
 ·have h2:=h1.2
  rw[if_neg (show ¬ bare (yJ R).sort from hb)] at h2;exact of_decide_eq_true h2
 ·cases e:R.goal with
  |some g=>rw[e] at h4;exact⟨g,rfl,(of_decide_eq_true h4).2⟩
  |none=>rw[e] at h4;exact absurd hg (of_decide_eq_true h4)
 ·cases e:R.goal with
  |some g=>rw[e] at h4;exact absurd (of_decide_eq_true h4).1 hg
  |none=>rfl
theorem ig(w:Nat){c:nI}(O:c.Ok):DH (make w c):=by
 have g:∀{names:List Str} {R:aZ} (k:Nat),names.length=k->iE k (yJ R)=true->bJ R.sort=true->jT R.aU->fc names R:=λk hk h1 h2 h3=>sZ (by rw[hk];exact h1) (λ_=>h3) (λz=>by rw[h2] at z;cases z)
 have g0:∀{names:List Str} {R:aZ} (k:Nat),names.length=k->iE k (yJ R)=true->bJ R.sort=false->R.aU = "" -> fc names R:=λk hk h1 h2 h3=>sZ (by rw[hk];exact h1) (λz=>by rw[h2] at z;cases z) (λ_=>h3)
 unfold make
 split
 ·refine⟨by show 0<4;decide,by show 4<=12;decide,by show (["base","deep","text","note"]:List Str).Nodup;decide +kernel,?_,?_,?_⟩
  ·intro m hm
   simp only[List.mem_cons,List.not_mem_nil,or_false] at hm
   rcases hm with rfl|rfl|rfl|rfl
   ·exact⟨show isName "base" = true by decide +kernel,O.h0.nm⟩
   ·exact⟨show isName "deep" = true by decide +kernel,O.h4.nm⟩
   ·exact⟨show isName "text" = true by decide +kernel,O.h2.nm⟩
   ·exact⟨show isName "note" = true by decide +kernel,O.h4.nm⟩
  ·intro m hm
   simp only[List.mem_cons,List.not_mem_nil,or_false] at hm
   rcases hm with rfl|rfl|rfl|rfl <;> simp
  ·intro m hm R hR
   simp only[List.mem_cons,List.not_mem_nil,or_false] at hm
   rcases hm with rfl|rfl|rfl|rfl
   ·simp only[List.mem_cons,List.not_mem_nil,or_false] at hR
    rcases hR with rfl|rfl|rfl|rfl
    ·exact g 4 rfl (show iE 4 (q1 "")=true by decide +kernel) (show bJ "one" = true by decide +kernel) O.h1
    ·exact g 4 rfl (show iE 4 (q2 "")=true by decide +kernel) (show bJ "word" = true by decide +kernel) O.h2
    ·exact g 4 rfl (show iE 4 (q3 "")=true by decide +kernel) (show bJ "many" = true by decide +kernel) O.h3
    ·exact g 4 rfl (show iE 4 (q4 "")=true by decide +kernel) (show bJ "word" = true by decide +kernel) O.h1
   ·simp only[List.mem_cons,List.not_mem_nil,or_false] at hR
    rcases hR with rfl|rfl|rfl
    ·exact g 4 rfl (show iE 4 (q1 "")=true by decide +kernel) (show bJ "one" = true by decide +kernel) O.h1
    ·exact g 4 rfl (show iE 4 (q5 "")=true by decide +kernel) (show bJ "one" = true by decide +kernel) O.h1
    ·exact g 4 rfl (show iE 4 (q2 "")=true by decide +kernel) (show bJ "word" = true by decide +kernel) O.h2
   ·simp only[List.mem_cons,List.not_mem_nil,or_false] at hR
    rcases hR with rfl|rfl
    ·exact g 4 rfl (show iE 4 (q6 "")=true by decide +kernel) (show bJ "word" = true by decide +kernel) O.h2
    ·exact g0 4 rfl (show iE 4 q7=true by decide +kernel) (show bJ "end" = false by decide +kernel) rfl
   ·simp only[List.mem_cons,List.not_mem_nil,or_false] at hR
    rcases hR with rfl
    ·exact g0 4 rfl (show iE 4 q8=true by decide +kernel) (show bJ "end" = false by decide +kernel) rfl
 ·split
  ·refine⟨by show 0<2;decide,by show 2<=12;decide,by show (["base","word"]:List Str).Nodup;decide +kernel,?_,?_,?_⟩
   ·intro m hm
    simp only[List.mem_cons,List.not_mem_nil,or_false] at hm
    rcases hm with rfl|rfl
    ·exact⟨show isName "base" = true by decide +kernel,O.h0.nm⟩
    ·exact⟨show isName "word" = true by decide +kernel,O.h1.nm⟩
   ·intro m hm
    simp only[List.mem_cons,List.not_mem_nil,or_false] at hm
    rcases hm with rfl|rfl <;> simp
   ·intro m hm R hR
    simp only[List.mem_cons,List.not_mem_nil,or_false] at hm
    rcases hm with rfl|rfl
    ·simp only[List.mem_cons,List.not_mem_nil,or_false] at hR
     rcases hR with rfl
     ·exact g0 2 rfl (show iE 2 q9=true by decide +kernel) (show bJ "still" = false by decide +kernel) rfl
    ·simp only[List.mem_cons,List.not_mem_nil,or_false] at hR
     rcases hR with rfl|rfl
     ·exact g 2 rfl (show iE 2 (qa "")=true by decide +kernel) (show bJ "many" = true by decide +kernel) O.h3
     ·exact g 2 rfl (show iE 2 (qb "")=true by decide +kernel) (show bJ "any" = true by decide +kernel) O.h2
  ·refine⟨by show 0<2;decide,by show 2<=12;decide,by show (["base","deep"]:List Str).Nodup;decide +kernel,?_,?_,?_⟩
   ·intro m hm
    simp only[List.mem_cons,List.not_mem_nil,or_false] at hm
    rcases hm with rfl|rfl
    ·exact⟨show isName "base" = true by decide +kernel,O.h0.nm⟩
    ·exact⟨show isName "deep" = true by decide +kernel,O.h1.nm⟩
   ·intro m hm
    simp only[List.mem_cons,List.not_mem_nil,or_false] at hm
    rcases hm with rfl|rfl <;> simp
   ·intro m hm R hR
    simp only[List.mem_cons,List.not_mem_nil,or_false] at hm
    rcases hm with rfl|rfl
    ·simp only[List.mem_cons,List.not_mem_nil,or_false] at hR
     rcases hR with rfl|rfl|rfl|rfl
     ·exact g 2 rfl (show iE 2 (qc "")=true by decide +kernel) (show bJ "word" = true by decide +kernel) O.h1
     ·exact g 2 rfl (show iE 2 (qd "")=true by decide +kernel) (show bJ "none" = true by decide +kernel) O.h2
     ·exact g 2 rfl (show iE 2 (qe "")=true by decide +kernel) (show bJ "word" = true by decide +kernel) O.h4
     ·exact g 2 rfl (show iE 2 (qf "")=true by decide +kernel) (show bJ "one" = true by decide +kernel) O.h3
    ·simp only[List.mem_cons,List.not_mem_nil,or_false] at hR
     rcases hR with rfl|rfl|rfl
     ·exact g 2 rfl (show iE 2 (qg "")=true by decide +kernel) (show bJ "word" = true by decide +kernel) O.h1
     ·exact g 2 rfl (show iE 2 (qh "")=true by decide +kernel) (show bJ "word" = true by decide +kernel) O.h4
     ·exact g 2 rfl (show iE 2 (qi "")=true by decide +kernel) (show bJ "one" = true by decide +kernel) O.h0
theorem EO(w:Nat)(c:nI):(make w c).length<=4:=by
 unfold make
 split
 ·exact Nat.le_refl _
 ·split
  ·show 2<=4;decide
  ·show 2<=4;decide
theorem AJ(w:Nat){c:nI}(O:c.Ok)(r:Str)(hr:∀c∈r.cps.toList,c∈kY.cps.toList):nh (make w c) r :=
 ⟨(ig w O).good,EO w c,λm hm R hR hb=>(((ig w O).rule m hm R hR).pat.sg hb).1,yO (sL w c),hr⟩
theorem bI.dF{α β:Type}{R:α->β->Prop}{a:α}{b:β}{as:List α}{bs:List β}(h:R a b)(t:bI R as bs):bI R (a::as) (b::bs):=by
 refine⟨by rw[List.length_cons,List.length_cons,t.1],λi x y hx hy=>?_⟩
 cases i with
 |zero=>cases hx;cases hy;exact h
 |succ i=>exact t.2 i x y hx hy
def tupQ(R:aZ):List V:=[.str R.sort,.str R.signs,.str R.aU,.str R.bq,jw R.goal,.str R.fold]
def TR(H:Hp)(p:Addr)(R:aZ):Prop:=H p=some (.tup (tupQ R))
def TM(H:Hp)(tm:Addr)(m:aD):Prop:=∃lr ps,H tm=some (.tup [.str m.name,.str m.aU,.ref lr])/\H lr=some (.lst (ps.map V.ref))/\bI (TR H) ps m.rules
def TMs(H:Hp)(lm:Addr)(ms:List aD):Prop:=∃ts,H lm=some (.lst (ts.map V.ref))/\bI (TM H) ts ms
theorem TR.same{H H':Hp}{p:Addr}{R:aZ}(h:TR H p R)(s:aj H H'):TR H' p R:=s _ _ h
theorem TM.of{H H':Hp}{tm lr:Addr}{ps:List Addr}{m:aD}(h:H' tm=some (.tup [.str m.name,.str m.aU,.ref lr]))(hl:H lr=some (.lst (ps.map V.ref)))(hr:bI (TR H) ps m.rules)(s:aj H H'):TM H' tm m :=
 ⟨lr,ps,h,s _ _ hl,hr.mono λ_ _ z=>z.same s⟩
theorem PY {d:Int} (h0:0<=d) (h1:d<5):∃c,jT c/\rO ((["red","blue","green","plain","redder"]:List Str).map V.str) d=some (.str c):=by
 obtain⟨n,rfl⟩:∃n:Nat,d=n:=⟨d.toNat,by lia⟩
 have:n=0∨n=1∨n=2∨n=3∨n=4:=by lia
 unfold jT
 rcases this with rfl|rfl|rfl|rfl|rfl
 ·exact⟨"red",by simp,rfl⟩
 ·exact⟨"blue",by simp,rfl⟩
 ·exact⟨"green",by simp,rfl⟩
 ·exact⟨"plain",by simp,rfl⟩
 ·exact⟨"redder",by simp,rfl⟩
abbrev zc(c:nI):List V:=[.str c.c0,.str c.c1,.str c.c2,.str c.c3,.str c.c4]
noncomputable def Hw(K:PySem.W.Frag):Sp:=λvs H Q _=>∃(a:Addr) (ns:List Int),vs=[.ref a]/\bg K H a (ns.map V.int)/\ns.length<=63/\∀w c lm H',c.Ok->TMs H' lm (make w c)->aj H H'->Q (.ref lm) H'
theorem N9 (T:Txt K mg t):bD P w K mg base dw 2 t.Cf t.LD ["_law_script"] (Hw K):=by
 refine T.Fb.m gB λvs H Q E h=>?_
 ·obtain⟨a,ns,rfl,hS,hl,q⟩:=h
  walk_at "i"
  refine ao (@uz _ _ 1 _ _ _ _ gB.nd rfl (Or.inr rfl) (@bP _ _ _ _ (@ug _ _ ["red","blue","green","plain","redder"] rfl)) (by left) (by left)) ⟨by show 5<=sizeLine;decide,λlo g0=>?_⟩
  refine aS (λZ' H'=>∃c lc,nI.Ok c/\H' lc=some (.lst (zc c))/\aj H H'/\Z'=[some (.ref a),some (.ref lo),some (.ref lc),none,none,none,none,none,none]) (@ue _ 2 _ (av (top 64)) _ ["_law_script","_law_some","_law_c","_law_way","_law_base","_law_deep","_law_quoted","_law_modes_here","_law_word"] _ _ ("_law_k") _ _ _ _ [("_law_some",1),("_law_script",0)] _ _ gB.nd rfl (Or.inl rfl) (by walk_at "ck") (@iI _ _ _ _ _ _ rfl T.kW (aa aq ai (by left)) (by left)) (λ_ _ _ _=>by exact(@aR _ _ _ _ _ _ _ (wK (K:=K) rfl) (pv 0) (@aW _ _ _ _ _ _ _ _ _ _ _ _ _ _ _ _ (iA T) hr.m rfl T.iy T.dZ.kp (T.dZ.binds (by walk_at "3")) .nil aF (aa (pv 1) (aa (@aM _ _ _ _ _ _ _ _ bO aq (pv 2)) (aa aq ai (by left)) (by left)) (by left)) (by left) (by left) (by left)) (λ_ _=>rfl))) (by left) (by left) (by left) (by left) (by left) (by left)) ?_ ?_
  ·refine⟨5,rfl,by lia,by lia,jN (n:=5) (λi ys H'=>∃cs:List Str,ys=cs.map V.str/\cs.length=i/\(∀c∈cs,jT c)/\H' lo=some (.lst ((["red","blue","green","plain","redder"]:List Str).map V.str))/\aj H H') ⟨[],rfl,rfl,(λc h=>by cases h),af,aj.upd g0⟩ (by show 5<sizeLine;decide) ?_ ?_⟩
   ·rintro i ys H2 hi hyl ⟨cs,rfl,hcl,hcs,hlo,s2⟩
    refine⟨_,rfl,_,rfl,_,rfl,_,_,rfl,rfl,a,ns,_,_,rfl,hS.same s2,(by lia),(by lia),(by decide),(by decide),hl,λe H3 g0 g1 s3=>?_⟩
    obtain⟨c,hc,hat⟩:=PY g0 g1
    refine⟨_,_,_,_,rfl,rfl,bg.of (s3 _ _ hlo),hat,cP hi hyl ⟨cs++[c],by rw[List.map_append];rfl,by rw[List.length_append,hcl];rfl,λy hy=>?_,s3 _ _ hlo,s2.trans s3⟩⟩
    rcases List.mem_append.mp hy with z|z
    ·exact hcs y z
    ·rw[List.mem_singleton.mp z];exact hc
   ·rintro ys H2 hyl ⟨cs,rfl,hcl,hcs,hlo,s2⟩ D hD
    match cs,hcl,hcs with
    | [a0,a1,a2,a3,a4],_,hcs=>exact⟨⟨a0,a1,a2,a3,a4⟩,D,⟨hcs _ (by simp),hcs _ (by simp),hcs _ (by simp),hcs _ (by simp),hcs _ (by simp)⟩,af,s2.to hD,rfl⟩
  rintro Z' H1 ⟨c,lc,O,hc,s1,rfl⟩
  refine aS (λZ' H'=>∃d:Nat,H' lc=some (.lst (zc c))/\aj H H'/\Z'=[some (.ref a),some (.ref lo),some (.ref lc),some (.int d),none,none,none,none,none]) (cS 3 gB (aW (iA T) hr.m rfl T.iy T.dZ.kp (T.dZ.binds (by walk_at "3")) .nil aF (aa (pv 0) (aa aq (aa aq ai))))) ⟨_,rfl,a,ns,_,_,rfl,hS.same s1,(by lia),(by lia),(by decide),(by decide),hl,λd H2 g0 g1 s2=>⟨d.toNat,s2 _ _ hc,s1.trans s2,by rw[show (d.toNat:Int)=d by lia];rfl⟩⟩ ?_
  rintro Z' H2 ⟨d,hc,s2,rfl⟩
  refine aS (λZ' H'=>H' lc=some (.lst (zc c))/\aj H H'/\Z'=[some (.ref a),some (.ref lo),some (.ref lc),some (.int d),none,none,none,none,none]) (bK (aE ez (pv 3) aq (aI _)) aA aA) ?_ ?_
  ·refine⟨_,rfl,rfl,_,rfl,fq (λh=>?_) (λh=>bG ⟨hc,s2,rfl⟩)⟩
   refine aS (λZ' H'=>∃p0 p1 l0,TR H' p0 (q1 c.c1)/\TR H' p1 (q2 c.c2)/\H' l0=some (.lst [.ref p0,.ref p1])/\aj H2 H'/\Z'=[some (.ref a),some (.ref lo),some (.ref lc),some (.int d),some (.ref l0),none,none,none,none]) (cS 4 gB (bP (aa (bC (aa az (aa az (aa (aR aL (pv 2) aq (λ_ _=>rfl)) (aa az (aa aq (aa az ai))))))) (aa (bC (aa az (aa az (aa (aR aL (pv 2) aq (λ_ _=>rfl)) (aa az (aa aq (aa az ai))))))) ai)))) ⟨_,rfl,_,_,_,_,rfl,rfl,bg.of (hc),aH (j:=1) rfl,by show 6<=sizeLine;decide,λp0 g0=>⟨_,rfl,_,_,_,_,rfl,rfl,bg.of (aj.upd g0 _ _ (hc)),aH (j:=2) rfl,by show 6<=sizeLine;decide,λp1 g1=>⟨by show 2<=sizeLine;decide,λl0 g2=>⟨p0,p1,l0,aj.upd g2 _ _ (aj.upd g1 _ _ (af)),aj.upd g2 _ _ (af),af,((aj.upd g0).to g1).to g2,rfl⟩⟩⟩⟩ ?_
   rintro Z' H3 ⟨a0,a1,b0,ra0,ra1,hb0,sH3,rfl⟩
   have hc3:=sH3 _ _ hc
   refine aS (λZ' H'=>∃p0 p1 l0,TR H' p0 (q3 c.c3)/\TR H' p1 (q4 c.c1)/\H' l0=some (.lst [.ref a0,.ref a1,.ref p0,.ref p1])/\aj H3 H'/\Z'=[some (.ref a),some (.ref lo),some (.ref lc),some (.int d),some (.ref l0),none,none,none,none]) (cS 4 gB (aM gE (pv 4) (bP (aa (bC (aa az (aa az (aa (aR aL (pv 2) aq (λ_ _=>rfl)) (aa az (aa bX (aa az ai))))))) (aa (bC (aa az (aa az (aa (aR aL (pv 2) aq (λ_ _=>rfl)) (aa az (aa aq (aa az ai))))))) ai))))) ⟨_,rfl,_,rfl,_,_,_,_,rfl,rfl,bg.of (hc3),aH (j:=3) rfl,by show 6<=sizeLine;decide,λp0 g0=>⟨_,rfl,_,_,_,_,rfl,rfl,bg.of (aj.upd g0 _ _ (hc3)),aH (j:=1) rfl,by show 6<=sizeLine;decide,λp1 g1=>⟨by show 2<=sizeLine;decide,λl1 g2=>⟨b0,l1,_,_,rfl,rfl,aj.upd g2 _ _ (aj.upd g1 _ _ (aj.upd g0 _ _ (hb0))),af,by show 4<=sizeLine;decide,λl0 g3=>⟨p0,p1,l0,aj.upd g3 _ _ (aj.upd g2 _ _ (aj.upd g1 _ _ (af))),aj.upd g3 _ _ (aj.upd g2 _ _ (af)),af,(((aj.upd g0).to g1).to g2).to g3,rfl⟩⟩⟩⟩⟩ ?_
   rintro Z' H4 ⟨a2,a3,b1,ra2,ra3,hb1,sH4,rfl⟩
   have hc4:=sH4 _ _ hc3
   refine aS (λZ' H'=>∃p0 p1 l0,TR H' p0 (q1 c.c1)/\TR H' p1 (q5 c.c1)/\H' l0=some (.lst [.ref p0,.ref p1])/\aj H4 H'/\Z'=[some (.ref a),some (.ref lo),some (.ref lc),some (.int d),some (.ref b1),some (.ref l0),none,none,none]) (cS 5 gB (bP (aa (bC (aa az (aa az (aa (aR aL (pv 2) aq (λ_ _=>rfl)) (aa az (aa aq (aa az ai))))))) (aa (bC (aa az (aa az (aa (aR aL (pv 2) aq (λ_ _=>rfl)) (aa az (aa bX (aa az ai))))))) ai)))) ⟨_,rfl,_,_,_,_,rfl,rfl,bg.of (hc4),aH (j:=1) rfl,by show 6<=sizeLine;decide,λp0 g0=>⟨_,rfl,_,_,_,_,rfl,rfl,bg.of (aj.upd g0 _ _ (hc4)),aH (j:=1) rfl,by show 6<=sizeLine;decide,λp1 g1=>⟨by show 2<=sizeLine;decide,λl0 g2=>⟨p0,p1,l0,aj.upd g2 _ _ (aj.upd g1 _ _ (af)),aj.upd g2 _ _ (af),af,((aj.upd g0).to g1).to g2,rfl⟩⟩⟩⟩ ?_
   rintro Z' H5 ⟨d0,d1,b2,rd0,rd1,hb2,sH5,rfl⟩
   have hc5:=sH5 _ _ hc4
   refine aS (λZ' H'=>∃p0 p1 l0,TR H' p0 (q6 c.c2)/\TR H' p1 (q7)/\H' l0=some (.lst [.ref p0,.ref p1])/\aj H5 H'/\Z'=[some (.ref a),some (.ref lo),some (.ref lc),some (.int d),some (.ref b1),some (.ref b2),some (.ref l0),none,none]) (cS 6 gB (bP (aa (bC (aa az (aa az (aa (aR aL (pv 2) aq (λ_ _=>rfl)) (aa az (aa bX (aa az ai))))))) (aa (bC (aa az (aa az (aa az (aa az (aa bX (aa az ai))))))) ai)))) ⟨_,rfl,_,_,_,_,rfl,rfl,bg.of (hc5),aH (j:=2) rfl,by show 6<=sizeLine;decide,λp0 g0=>⟨by show 6<=sizeLine;decide,λp1 g1=>⟨by show 2<=sizeLine;decide,λl0 g2=>⟨p0,p1,l0,aj.upd g2 _ _ (aj.upd g1 _ _ (af)),aj.upd g2 _ _ (af),af,((aj.upd g0).to g1).to g2,rfl⟩⟩⟩⟩ ?_
   rintro Z' H6 ⟨e0,e1,b3,re0,re1,hb3,sH6,rfl⟩
   have hc6:=sH6 _ _ hc5
   have hb1:=sH6 _ _ (sH5 _ _ hb1)
   have hb2:=sH6 _ _ hb2
   refine aS (λZ' H'=>∃t0 t1 t2 dl l0,H' t0=some (.tup [.str "base",.str c.c0,.ref b1])/\H' t1=some (.tup [.str "deep",.str c.c4,.ref dl])/\H' t2=some (.tup [.str "text",.str c.c2,.ref b3])/\H' dl=some (.lst [.ref d0,.ref d1,.ref a1])/\H' l0=some (.lst [.ref t0,.ref t1,.ref t2])/\aj H6 H'/\Z'=[some (.ref a),some (.ref lo),some (.ref lc),some (.int d),some (.ref b1),some (.ref b2),some (.ref b3),some (.ref l0),none]) (cS 7 gB (bP (aa (bC (aa az (aa (aR aL (pv 2) aq (λ_ _=>rfl)) (aa (pv 4) ai)))) (aa (bC (aa az (aa (aR aL (pv 2) aq (λ_ _=>rfl)) (aa (aM gE (pv 5) (bP (aa (aR aL (pv 4) aq (λ_ _=>rfl)) ai))) ai)))) (aa (bC (aa az (aa (aR aL (pv 2) aq (λ_ _=>rfl)) (aa (pv 6) ai)))) ai))))) ⟨_,rfl,_,_,_,_,rfl,rfl,bg.of (hc6),aH (j:=0) rfl,_,rfl,by show 3<=sizeLine;decide,λt0 g0=>⟨_,rfl,_,_,_,_,rfl,rfl,bg.of (aj.upd g0 _ _ (hc6)),aH (j:=4) rfl,_,rfl,_,rfl,_,_,_,_,rfl,rfl,bg.of (aj.upd g0 _ _ (hb1)),aH (j:=1) rfl,by show 1<=sizeLine;decide,λl1 g1=>⟨b2,l1,_,_,rfl,rfl,aj.upd g1 _ _ (aj.upd g0 _ _ (hb2)),af,by show 3<=sizeLine;decide,λdl g2=>⟨by show 3<=sizeLine;decide,λt1 g3=>⟨_,rfl,_,_,_,_,rfl,rfl,bg.of (aj.upd g3 _ _ (aj.upd g2 _ _ (aj.upd g1 _ _ (aj.upd g0 _ _ (hc6))))),aH (j:=2) rfl,_,rfl,by show 3<=sizeLine;decide,λt2 g4=>⟨by show 3<=sizeLine;decide,λl0 g5=>⟨t0,t1,t2,dl,l0,aj.upd g5 _ _ (aj.upd g4 _ _ (aj.upd g3 _ _ (aj.upd g2 _ _ (aj.upd g1 _ _ (af))))),aj.upd g5 _ _ (aj.upd g4 _ _ (af)),aj.upd g5 _ _ (af),aj.upd g5 _ _ (aj.upd g4 _ _ (aj.upd g3 _ _ (af))),af,(((((aj.upd g0).to g1).to g2).to g3).to g4).to g5,rfl⟩⟩⟩⟩⟩⟩⟩ ?_
   rintro Z' H7 ⟨t0,t1,t2,dl,l0,ht0,ht1,ht2,hdl,hl0,s7,rfl⟩
   have hc7:=s7 _ _ hc6
   refine ay (aJ (aM gE (pv 7) (bP (aa (bC (aa az (aa (aR aL (pv 2) aq (λ_ _=>rfl)) (aa (bP (aa (bC (aa az (aa az (aa az (aa az (aa aq (aa az ai))))))) ai)) ai)))) ai)))) ⟨_,rfl,_,rfl,_,_,_,_,rfl,rfl,bg.of (hc7),aH (j:=4) rfl,by show 6<=sizeLine;decide,λf0 g0=>⟨by show 1<=sizeLine;decide,λl1 g1=>⟨by show 3<=sizeLine;decide,λt3 g2=>⟨by show 1<=sizeLine;decide,λl2 g3=>⟨l0,l2,_,_,rfl,rfl,aj.upd g3 _ _ (aj.upd g2 _ _ (aj.upd g1 _ _ (aj.upd g0 _ _ (hl0)))),af,by show 4<=sizeLine;decide,λlm g4=>?_⟩⟩⟩⟩⟩
   have z:aj H7 _:=((((aj.upd g0).to g1).to g2).to g3).to (o:=.lst [.ref t0,.ref t1,.ref t2,.ref t3]) g4
   have s67:=s7.trans z
   have s57:=sH6.trans s67
   have s47:=sH5.trans s57
   have s37:=sH4.trans s47
   refine q 0 c lm _ O ⟨[t0,t1,t2,t3],af,.dF (.of (z _ _ ht0) hb1 (.dF (ra0.same (sH4.trans (sH5.trans sH6))) (.dF (ra1.same (sH4.trans (sH5.trans sH6))) (.dF (ra2.same (sH5.trans sH6)) (.dF (ra3.same (sH5.trans sH6)) .nil)))) s67) (.dF (.of (z _ _ ht1) hdl (.dF (rd0.same (sH6.trans s7)) (.dF (rd1.same (sH6.trans s7)) (.dF (ra1.same ((sH4.trans (sH5.trans sH6)).trans s7)) .nil))) z) (.dF (.of (z _ _ ht2) hb3 (.dF re0 (.dF re1 .nil)) s67) (.dF (.of (H:=upd (upd H7 f0 (.tup (tupQ q8))) l1 (.lst [.ref f0])) (aj.upd g4 _ _ (aj.upd g3 _ _ (af))) af (.dF (aj.upd g1 _ _ (af)) .nil) (((aj.upd g2).to g3).to g4)) .nil)))⟩ (s2.trans (sH3.trans s37))
  rintro Z' H2 ⟨hc,s2,rfl⟩
  refine aS (λZ' H'=>H' lc=some (.lst (zc c))/\aj H H'/\Z'=[some (.ref a),some (.ref lo),some (.ref lc),some (.int d),none,none,none,none,none]) (bK (aE ez (pv 3) aq (aI _)) aA aA) ?_ ?_
  ·refine⟨_,rfl,rfl,_,rfl,fq (λh=>?_) (λh=>bG ⟨hc,s2,rfl⟩)⟩
   refine aS (λZ' H'=>∃p0 p1 l0,TR H' p0 (qa c.c3)/\TR H' p1 (qb c.c2)/\H' l0=some (.lst [.ref p0,.ref p1])/\aj H2 H'/\Z'=[some (.ref a),some (.ref lo),some (.ref lc),some (.int d),none,none,none,none,some (.ref l0)]) (cS 8 gB (bP (aa (bC (aa az (aa az (aa (aR aL (pv 2) aq (λ_ _=>rfl)) (aa az (aa bX (aa az ai))))))) (aa (bC (aa az (aa az (aa (aR aL (pv 2) aq (λ_ _=>rfl)) (aa az (aa bX (aa az ai))))))) ai)))) ⟨_,rfl,_,_,_,_,rfl,rfl,bg.of (hc),aH (j:=3) rfl,by show 6<=sizeLine;decide,λp0 g0=>⟨_,rfl,_,_,_,_,rfl,rfl,bg.of (aj.upd g0 _ _ (hc)),aH (j:=2) rfl,by show 6<=sizeLine;decide,λp1 g1=>⟨by show 2<=sizeLine;decide,λl0 g2=>⟨p0,p1,l0,aj.upd g2 _ _ (aj.upd g1 _ _ (af)),aj.upd g2 _ _ (af),af,((aj.upd g0).to g1).to g2,rfl⟩⟩⟩⟩ ?_
   rintro Z' H3 ⟨a0,a1,b0,ra0,ra1,hb0,sH3,rfl⟩
   have hc3:=sH3 _ _ hc
   refine ay (aJ (bP (aa (bC (aa az (aa (aR aL (pv 2) aq (λ_ _=>rfl)) (aa (bP (aa (bC (aa az (aa az (aa az (aa az (aa aq (aa az ai))))))) ai)) ai)))) (aa (bC (aa az (aa (aR aL (pv 2) aq (λ_ _=>rfl)) (aa (pv 8) ai)))) ai)))) ⟨_,rfl,_,_,_,_,rfl,rfl,bg.of (hc3),aH (j:=0) rfl,by show 6<=sizeLine;decide,λf0 g0=>⟨by show 1<=sizeLine;decide,λl1 g1=>⟨by show 3<=sizeLine;decide,λt0 g2=>⟨_,rfl,_,_,_,_,rfl,rfl,bg.of (aj.upd g2 _ _ (aj.upd g1 _ _ (aj.upd g0 _ _ (hc3)))),aH (j:=1) rfl,_,rfl,by show 3<=sizeLine;decide,λt1 g3=>⟨by show 2<=sizeLine;decide,λlm g4=>?_⟩⟩⟩⟩⟩
   have z:aj H3 _:=((((aj.upd g0).to g1).to g2).to g3).to (o:=.lst [.ref t0,.ref t1]) g4
   refine q 1 c lm _ O ⟨[t0,t1],af,.dF (.of (H:=upd (upd H3 f0 (.tup (tupQ q9))) l1 (.lst [.ref f0])) (aj.upd g4 _ _ (aj.upd g3 _ _ (af))) af (.dF (aj.upd g1 _ _ (af)) .nil) (((aj.upd g2).to g3).to g4)) (.dF (.of (aj.upd g4 _ _ (af)) hb0 (.dF ra0 (.dF ra1 .nil)) z) .nil)⟩ (s2.trans (sH3.trans z))
  rintro Z' H2 ⟨hc,s2,rfl⟩
  refine aS (λZ' H'=>∃p0 p1 l0,TR H' p0 (qc c.c1)/\TR H' p1 (qd c.c2)/\H' l0=some (.lst [.ref p0,.ref p1])/\aj H2 H'/\Z'=[some (.ref a),some (.ref lo),some (.ref lc),some (.int d),some (.ref l0),none,none,none,none]) (cS 4 gB (bP (aa (bC (aa az (aa az (aa (aR aL (pv 2) aq (λ_ _=>rfl)) (aa az (aa aq (aa az ai))))))) (aa (bC (aa az (aa az (aa (aR aL (pv 2) aq (λ_ _=>rfl)) (aa az (aa bX (aa az ai))))))) ai)))) ⟨_,rfl,_,_,_,_,rfl,rfl,bg.of (hc),aH (j:=1) rfl,by show 6<=sizeLine;decide,λp0 g0=>⟨_,rfl,_,_,_,_,rfl,rfl,bg.of (aj.upd g0 _ _ (hc)),aH (j:=2) rfl,by show 6<=sizeLine;decide,λp1 g1=>⟨by show 2<=sizeLine;decide,λl0 g2=>⟨p0,p1,l0,aj.upd g2 _ _ (aj.upd g1 _ _ (af)),aj.upd g2 _ _ (af),af,((aj.upd g0).to g1).to g2,rfl⟩⟩⟩⟩ ?_
  rintro Z' H3 ⟨a0,a1,b0,ra0,ra1,hb0,sH3,rfl⟩
  have hc3:=sH3 _ _ hc
  refine aS (λZ' H'=>∃p0 p1 l0,TR H' p0 (qe c.c4)/\TR H' p1 (qf c.c3)/\H' l0=some (.lst [.ref a0,.ref a1,.ref p0,.ref p1])/\aj H3 H'/\Z'=[some (.ref a),some (.ref lo),some (.ref lc),some (.int d),some (.ref l0),none,none,none,none]) (cS 4 gB (aM gE (pv 4) (bP (aa (bC (aa az (aa az (aa (aR aL (pv 2) aq (λ_ _=>rfl)) (aa az (aa aq (aa az ai))))))) (aa (bC (aa az (aa az (aa (aR aL (pv 2) aq (λ_ _=>rfl)) (aa az (aa aq (aa az ai))))))) ai))))) ⟨_,rfl,_,rfl,_,_,_,_,rfl,rfl,bg.of (hc3),aH (j:=4) rfl,by show 6<=sizeLine;decide,λp0 g0=>⟨_,rfl,_,_,_,_,rfl,rfl,bg.of (aj.upd g0 _ _ (hc3)),aH (j:=3) rfl,by show 6<=sizeLine;decide,λp1 g1=>⟨by show 2<=sizeLine;decide,λl1 g2=>⟨b0,l1,_,_,rfl,rfl,aj.upd g2 _ _ (aj.upd g1 _ _ (aj.upd g0 _ _ (hb0))),af,by show 4<=sizeLine;decide,λl0 g3=>⟨p0,p1,l0,aj.upd g3 _ _ (aj.upd g2 _ _ (aj.upd g1 _ _ (af))),aj.upd g3 _ _ (aj.upd g2 _ _ (af)),af,(((aj.upd g0).to g1).to g2).to g3,rfl⟩⟩⟩⟩⟩ ?_
  rintro Z' H4 ⟨a2,a3,b1,ra2,ra3,hb1,sH4,rfl⟩
  have hc4:=sH4 _ _ hc3
  refine aS (λZ' H'=>∃p0 p1 l0,TR H' p0 (qg c.c1)/\TR H' p1 (qh c.c4)/\H' l0=some (.lst [.ref p0,.ref p1])/\aj H4 H'/\Z'=[some (.ref a),some (.ref lo),some (.ref lc),some (.int d),some (.ref b1),some (.ref l0),none,none,none]) (cS 5 gB (bP (aa (bC (aa az (aa az (aa (aR aL (pv 2) aq (λ_ _=>rfl)) (aa az (aa bX (aa az ai))))))) (aa (bC (aa az (aa az (aa (aR aL (pv 2) aq (λ_ _=>rfl)) (aa az (aa aq (aa az ai))))))) ai)))) ⟨_,rfl,_,_,_,_,rfl,rfl,bg.of (hc4),aH (j:=1) rfl,by show 6<=sizeLine;decide,λp0 g0=>⟨_,rfl,_,_,_,_,rfl,rfl,bg.of (aj.upd g0 _ _ (hc4)),aH (j:=4) rfl,by show 6<=sizeLine;decide,λp1 g1=>⟨by show 2<=sizeLine;decide,λl0 g2=>⟨p0,p1,l0,aj.upd g2 _ _ (aj.upd g1 _ _ (af)),aj.upd g2 _ _ (af),af,((aj.upd g0).to g1).to g2,rfl⟩⟩⟩⟩ ?_
  rintro Z' H5 ⟨d0,d1,b2,rd0,rd1,hb2,sH5,rfl⟩
  have hc5:=sH5 _ _ hc4
  have hb1:=sH5 _ _ hb1
  refine ay (aJ (bP (aa (bC (aa az (aa (aR aL (pv 2) aq (λ_ _=>rfl)) (aa (pv 4) ai)))) (aa (bC (aa az (aa (aR aL (pv 2) aq (λ_ _=>rfl)) (aa (aM gE (pv 5) (bP (aa (bC (aa az (aa az (aa (aR aL (pv 2) aq (λ_ _=>rfl)) (aa az (aa bX (aa az ai))))))) ai))) ai)))) ai)))) ⟨_,rfl,_,_,_,_,rfl,rfl,bg.of (hc5),aH (j:=0) rfl,_,rfl,by show 3<=sizeLine;decide,λt0 g0=>⟨_,rfl,_,_,_,_,rfl,rfl,bg.of (aj.upd g0 _ _ (hc5)),aH (j:=1) rfl,_,rfl,_,rfl,_,_,_,_,rfl,rfl,bg.of (aj.upd g0 _ _ (hc5)),aH (j:=0) rfl,by show 6<=sizeLine;decide,λf0 g1=>⟨by show 1<=sizeLine;decide,λl1 g2=>⟨b2,l1,_,_,rfl,rfl,aj.upd g2 _ _ (aj.upd g1 _ _ (aj.upd g0 _ _ (hb2))),af,by show 3<=sizeLine;decide,λdl g3=>⟨by show 3<=sizeLine;decide,λt1 g4=>⟨by show 2<=sizeLine;decide,λlm g5=>?_⟩⟩⟩⟩⟩⟩
  have z:aj H5 _:=(((((aj.upd g0).to g1).to g2).to g3).to g4).to (o:=.lst [.ref t0,.ref t1]) g5
  refine q 2 c lm _ O ⟨[t0,t1],af,.dF (.of (aj.upd g5 _ _ (aj.upd g4 _ _ (aj.upd g3 _ _ (aj.upd g2 _ _ (aj.upd g1 _ _ (af)))))) hb1 (.dF (ra0.same (sH4.trans sH5)) (.dF (ra1.same (sH4.trans sH5)) (.dF (ra2.same sH5) (.dF (ra3.same sH5) .nil)))) z) (.dF ⟨dl,[d0,d1,f0],aj.upd g5 _ _ (af),aj.upd g5 _ _ (aj.upd g4 _ _ (af)),.dF (rd0.same z) (.dF (rd1.same z) (.dF (aj.upd g5 _ _ (aj.upd g4 _ _ (aj.upd g3 _ _ (aj.upd g2 _ _ (af))))) .nil))⟩ .nil)⟩ (s2.trans (sH3.trans (sH4.trans (sH5.trans z))))
structure GN(H0 H:Hp)(l:Addr)(ws:List Str):Prop where
 at_:H l=some (.lst (ws.map V.str))
 new:H0 l=none
 same:aj H0 H
theorem GN.add{H0 H:Hp}{l:Addr}{ws:List Str}{x:Str}(W:GN H0 H l ws):GN H0 (upd H l (.lst (ws.map V.str++[.str x]))) l (ws++[x]) :=
 ⟨by rw[af,List.map_append];rfl,W.new,λb o hb=>by rw[ak (au hb W.new)];exact W.same _ _ hb⟩
theorem GN.to{H0 H H':Hp}{l:Addr}{ws:List Str}(W:GN H0 H l ws)(s:aj H H'):GN H0 H' l ws:=⟨s _ _ W.at_,W.new,W.same.trans s⟩
theorem xW{m:Nat}:∀(ys:List Str),(∀y∈ys,y.length<=m)->(ys.map (·.length)).sum<=ys.length*m
 | [],_=>by simp
 |x::r,h=>by
  have h1:=h x (by simp)
  have h2:=xW r (λz hz=>h z (List.mem_cons_of_mem _ hz))
  rw[List.map_cons,List.sum_cons,List.length_cons,Nat.succ_mul]
  lia
theorem Fd (z:Str):(PySem.Txt.replace z " " "_").length=z.length:=by
 have:=congrArg List.length (kF z 32 95)
 rw[br,kH,List.length_map,br] at this
 rw[show ((" ":Str))=⟨#[32]⟩ from by decide +kernel,show (("_":Str))=⟨#[95]⟩ from by decide +kernel]
 exact this
theorem qt {x:Str} (h:isName x=true):x.length<=8/\x ≠ "" := by
 unfold isName at h
 simp only[Bool.and_eq_true,decide_eq_true_eq] at h
 refine⟨h.1.2,λz=>?_⟩
 rw[z] at h
 exact absurd h.1.1 (by decide)
theorem rep1{b:Bool}{x:V}:(List.replicate (if b=true then (1:Int) else 0).toNat [x]).flatten=if b=true then [x] else []:=by cases b <;> rfl
theorem Bg{b:Bool}:-2 ^ 63<=(if b=true then (1:Int) else 0)/\(if b=true then (1:Int) else 0)<2 ^ 63/\1*(if b=true then (1:Int) else 0).toNat<=sizeLine:=by cases b <;> decide
theorem Ld{b:Bool}{x:V}:(if b=true then [x] else []).length<=1:=by cases b <;> simp
theorem ne_iff{x y:Str}:(!decide (V.str x=V.str y))=true↔x≠y:=by
 by_cases e:x=y
 ·subst e;simp
 ·have:V.str x≠V.str y:=λz=>e (V.str.inj z)
  simp[e,this]
theorem HV {names:List Str} {R:aZ} (GR:fc names R):(([V.str R.sort]++(if (!decide (V.str R.signs=V.str (Str.ofString "")))=true then [V.str (Str.ofString "'" ++ PySem.Txt.replace R.signs (Str.ofString " ") (Str.ofString "_"))] else []))++(if (!decide (V.str R.aU=V.str (Str.ofString "")))=true then [V.str R.aU] else []))++[V.str R.bq]=(cE R.sort R.signs++((if bJ R.sort=true then [R.aU] else [])++[R.bq])).map V.str:=by
 have e2:(if (!decide (V.str R.aU=V.str (Str.ofString "")))=true then [V.str R.aU] else [])=(if bJ R.sort=true then [R.aU] else []).map V.str:=by
  by_cases he:bJ R.sort=true
  ·rw[if_pos he,if_pos (ne_iff.mpr (qt (GR.col he)).2)];rfl
  ·rw[if_neg he,if_neg (λz=>ne_iff.mp z (GR.Sd (by simpa using he)))];rfl
 have e1:([V.str R.sort]++(if (!decide (V.str R.signs=V.str (Str.ofString "")))=true then [V.str (Str.ofString "'" ++ PySem.Txt.replace R.signs (Str.ofString " ") (Str.ofString "_"))] else []))=(cE R.sort R.signs).map V.str:=by
  unfold cE
  by_cases hb:bare R.sort
  ·rw[if_pos hb,if_neg (λz=>ne_iff.mp z (GR.pat.OF hb))];rfl
  ·have h1:=(GR.pat.sg hb).1
   rw[if_neg hb,if_pos (ne_iff.mpr (λz=>by rw[z,show (Str.ofString "").length=0 by decide +kernel] at h1;lia))];rfl
 rw[e1,e2,List.map_append,List.map_append,List.append_assoc]
 rfl
noncomputable def HP:Sp:=λvs H Q _=>∃(lm:Addr) (ms:List aD),vs=[.ref lm]/\TMs H lm ms/\DH ms/\∀H',aj H H'->Q (.str (Str.join ⟨#[10]⟩ (rowsOf (itemsOf ms)))) H'
theorem Nr (T:Txt K mg t):bD P w K mg base dw 1 t.Bj t.L3 ["_law_modes_here"] HP:=by
 refine T.Ge.m gx λvs H Q E h=>?_
 ·obtain⟨lm,ms,rfl,⟨ts,hlm,hA⟩,B,q⟩:=h
  walk_at "i"
  obtain⟨names,hnames⟩:∃names,names=ms.map (·.name):=⟨_,rfl⟩
  have hnl:names.length=ms.length:=by rw[hnames,List.length_map]
  have hnm:∀x∈names,isName x=true:=λx hx=>by
   rw[hnames] at hx
   obtain⟨m,hm,rfl⟩:=List.mem_map.mp hx
   exact(B.nm m hm).1
  have hitems:=B.Cv
  have h4:=B.uQ
  have hpos:=B.pos
  refine ao (cS 1 gx (bP ai)) ⟨by show 0<=sizeLine;decide,λlr hlr=>?_⟩
  have W0:GN H (upd H lr (.lst [])) lr []:=⟨af,hlr,aj.upd hlr⟩
  generalize upd H lr (.lst [])=H0 at W0
  refine aS (λZ' H'=>(∃x2 x3 x4 x5 x6 x7 x8 x9 x10 x11,Z'=[some (.ref lm),some (.ref lr),x2,x3,x4,x5,x6,x7,x8,x9,x10,x11])/\GN H H' lr ((itemsOf ms).map (rowOf names))) (gn PassesOwn.never rfl (fF (pv 0)) (lX rfl (cB (oO 2 gx) (cB (oO 3 gx) (cB (oO 4 gx) jK)))) aA) ?_ ?_
  ·refine⟨_,rfl,lm,rfl,⟨_,bg.of (W0.same _ _ hlm)⟩,jn (xs:=ts.map V.ref) (λi Z' H'=>(∃x2 x3 x4 x5 x6 x7 x8 x9 x10 x11,Z'=[some (.ref lm),some (.ref lr),x2,x3,x4,x5,x6,x7,x8,x9,x10,x11])/\GN H H' lr ((itemsOf (ms.take i)).map (rowOf names))) ⟨⟨_,_,_,_,_,_,_,_,_,_,rfl⟩,W0⟩ ?_ ?_ ?_⟩
   ·rintro i Z' H' _ ⟨_,W⟩
    exact bg.of (W.same _ _ hlm)
   ·rintro i xv Z' H1 hx ⟨⟨x2,x3,x4,x5,x6,x7,x8,x9,x10,x11,rfl⟩,W1⟩
    rw[List.getElem?_map] at hx
    obtain⟨tm,htm,rfl⟩:=Option.map_eq_some_iff.mp hx
    have hi:i<ms.length:=by rw[← hA.1];exact(List.getElem?_eq_some_iff.mp htm).1
    have hm:ms[i]?=some ms[i]:=List.getElem?_eq_getElem hi
    generalize hmd:ms[i]=m at hm
    obtain⟨lu,rs,t1,t2,t3⟩:=hA.2 i tm m htm hm
    obtain⟨n1,n2⟩:=B.nm m (List.mem_of_getElem? hm)
    have r6:=B.six m (List.mem_of_getElem? hm)
    have l1:=(qt n1).1
    have l2:=(qt n2).1
    have hil:=B.len i (by lia)
    refine⟨tm,[.str m.name,.str m.aU,.ref lu],rfl,dO.of (W1.same _ _ t1),rfl,_,_,rfl,_,_,rfl,_,_,rfl,rfl,?_⟩
    have e5:(Str.ofString "mode ").length=5:=by decide +kernel
    have e1:(Str.ofString " ").length=1:=by decide +kernel
    refine ao (bx (dG F.plainAttrs_list F.slot_list_append F.type_list_append c8 (pv 1) (aa (aM eU (aM eU (aM eU az (pv 2)) az) (pv 3)) ai))) ⟨_,rfl,.inl ⟨rfl,_,bg.of W1.at_⟩,_,rfl,_,_,rfl,rfl,b9 (by show (Str.ofString "mode ").length+_<=_;lia),_,_,rfl,rfl,b9 (by rw[Str.length_append];show (Str.ofString "mode ").length+_+(Str.ofString " ").length<=_;lia),_,rfl,_,_,rfl,rfl,b9 (by rw[Str.length_append,Str.length_append];show (Str.ofString "mode ").length+_+(Str.ofString " ").length+_<=_;lia),lr,_,_,rfl,rfl,W1.at_,dQ (by rw[List.length_map,List.length_map];lia),?_⟩
    rw[show (Str.ofString "mode " ++ m.name++Str.ofString " " ++ m.aU:Str)=rowOf names (.mode m.name m.aU) from BS]
    have W2:=W1.add (x:=rowOf names (.mode m.name m.aU))
    generalize upd H1 lr _=H2 at W2
    refine ay (gn PassesOwn.never rfl (fF (pv 4)) (lX rfl (cB (oO 5 gx) (cB (oO 6 gx) (cB (oO 7 gx) (cB (oO 8 gx) (cB (oO 9 gx) (cB (oO 10 gx) jK))))))) aA) ⟨_,rfl,lu,rfl,⟨_,bg.of (W2.same _ _ t2)⟩,jn (xs:=rs.map V.ref) (λj Z' H'=>(∃x2 x3 x4 x5 x6 x7 x8 x9 x10 x11,Z'=[some (.ref lm),some (.ref lr),x2,x3,x4,x5,x6,x7,x8,x9,x10,x11])/\GN H H' lr ((itemsOf (ms.take i)).map (rowOf names)++[rowOf names (.mode m.name m.aU)]++(m.rules.take j).map λR=>rowOf names (.rule R))) ⟨⟨_,_,_,_,_,_,_,_,_,_,rfl⟩,by rw[List.take_zero,List.map_nil,List.append_nil];exact W2⟩ ?_ ?_ ?_⟩
    ·rintro j Z' H' _ ⟨_,W⟩
     exact bg.of (W.same _ _ t2)
    ·rintro j xv Z' H3 hx ⟨⟨y2,y3,y4,y5,y6,y7,y8,y9,y10,y11,rfl⟩,W3⟩
     rw[List.getElem?_map] at hx
     obtain⟨tr,htr,rfl⟩:=Option.map_eq_some_iff.mp hx
     have hj:j<m.rules.length:=by rw[← t3.1];exact(List.getElem?_eq_some_iff.mp htr).1
     have hRj:m.rules[j]?=some m.rules[j]:=List.getElem?_eq_getElem hj
     generalize hRd:m.rules[j]=R at hRj
     have u1:H tr=some (.tup (tupQ R)):=t3.2 j tr R htr hRj
     have hRm:=List.mem_of_getElem? hRj
     have GR:fc names R:=by rw[hnames];exact B.rule m (List.mem_of_getElem? hm) R hRm
     refine⟨tr,tupQ R,rfl,dO.of (W3.same _ _ u1),rfl,_,_,rfl,_,_,rfl,_,_,rfl,_,_,rfl,_,_,rfl,_,_,rfl,rfl,?_⟩
     show At _ _ _ [some (.ref lm),some (.ref lr),y2,y3,y4,some (.str R.sort),some (.str R.signs),some (.str R.aU),some (.str R.bq),some (jw R.goal),some (.str R.fold),y11] H3
     have hsg:R.signs.length<=200:=by
      by_cases hb:bare R.sort
      ·rw[GR.pat.OF hb];decide +kernel
      ·exact(GR.pat.sg hb).2.1
     refine aS (λZ' H'=>∃l,H' l=some (.lst ((cE R.sort R.signs++((if bJ R.sort=true then [R.aU] else [])++[R.bq])).map V.str))/\aj H3 H'/\Z'=[some (.ref lm),some (.ref lr),y2,y3,y4,some (.str R.sort),some (.str R.signs),some (.str R.aU),some (.str R.bq),some (jw R.goal),some (.str R.fold),some (.ref l)]) (cS 11 gx (aM gE (aM gE (aM gE (bP (aa (pv 5) ai)) (aM qR (bP (aa (vN (by decide +kernel) (pv 6)) ai)) (cJ kU (by rfl) T.za (by decide +kernel) (aa (fj oG (pv 6) az (aI _)) ai)))) (aM qR (bP (aa (pv 7) ai)) (cJ kU (by rfl) T.za (by decide +kernel) (aa (fj oG (pv 7) az (aI _)) ai)))) (bP (aa (pv 8) ai)))) ?_ ?_
     ·refine⟨_,rfl,by show 1<=sizeLine;decide,λl1 g1=>?_⟩
      have k1:upd H3 l1 (.lst [.str R.sort]) l1=some (.lst [.str R.sort]):=af
      have s1:aj H3 (upd H3 l1 (.lst [.str R.sort])):=aj.upd g1
      generalize upd H3 l1 (.lst [.str R.sort])=H4 at k1 s1
      have eq1:(Str.ofString "_").length=1:=by decide +kernel
      have eq2:(Str.ofString "'").length=1:=by decide +kernel
      have eq3:=Fd R.signs
      refine⟨_,rfl,_,rfl,by rw[eq1];lia,_,rfl,b9 (by rw[eq2,eq3];lia),by show 1<=sizeLine;decide,λl2 g2=>⟨_,rfl,rfl,.inr ⟨_,rfl,l2,_,_,rfl,rfl,af,Bg.1,Bg.2.1,Bg.2.2,λl3 g3=>?_⟩⟩⟩
      obtain⟨X,eX⟩:∃X,X=if (!decide (V.str R.signs=V.str (Str.ofString "")))=true then [V.str (Str.ofString "'" ++ PySem.Txt.replace R.signs (Str.ofString " ") (Str.ofString "_"))] else []:=⟨_,rfl⟩
      have hX:X.length<=1:=by rw[eX];exact Ld
      rw[rep1,← eX]
      refine⟨l1,l3,_,_,rfl,rfl,aj.upd g3 _ _ (aj.upd g2 _ _ k1),af,b9 (by rw[List.length_cons,List.length_nil];lia),λl4 g4=>?_⟩
      have sk:=((s1.to g2).to g3).to2 (o:=.lst ([V.str R.sort]++X)) g4
      generalize upd (upd (upd H4 l2 _) l3 _) l4 (.lst ([V.str R.sort]++X))=H5 at sk ⊢
      obtain⟨s4,k4⟩:=sk
      refine⟨_,rfl,by show 1<=sizeLine;decide,λl5 g5=>⟨_,rfl,rfl,.inr ⟨_,rfl,l5,_,_,rfl,rfl,af,Bg.1,Bg.2.1,Bg.2.2,λl6 g6=>?_⟩⟩⟩
      obtain⟨Y,eY⟩:∃Y,Y=if (!decide (V.str R.aU=V.str (Str.ofString "")))=true then [V.str R.aU] else []:=⟨_,rfl⟩
      have hY:Y.length<=1:=by rw[eY];exact Ld
      rw[rep1,← eY]
      refine⟨l4,l6,_,_,rfl,rfl,aj.upd g6 _ _ (aj.upd g5 _ _ k4),af,b9 (by rw[List.length_append,List.length_cons,List.length_nil];lia),λl7 g7=>?_⟩
      have sk:=((s4.to g5).to g6).to2 (o:=.lst (([V.str R.sort]++X)++Y)) g7
      generalize upd (upd (upd H5 l5 _) l6 _) l7 (.lst (([V.str R.sort]++X)++Y))=H6 at sk ⊢
      obtain⟨s7,k7⟩:=sk
      refine⟨_,rfl,by show 1<=sizeLine;decide,λl8 g8=>⟨l7,l8,_,_,rfl,rfl,aj.upd g8 _ _ k7,af,b9 (by simp only[List.length_append,List.length_cons,List.length_nil];lia),λl9 g9=>⟨l9,by rw[af,eX,eY,HV GR],(s7.to g8).to g9,rfl⟩⟩⟩
     rintro Z' H4 ⟨l,kl,s4,rfl⟩
     obtain⟨W,eW⟩:∃W,W=cE R.sort R.signs++((if bJ R.sort=true then [R.aU] else [])++[R.bq]):=⟨_,rfl⟩
     have hW:W.length<=4:=by
      rw[eW,List.length_append,List.length_append]
      have:=yY (s:=R.sort) (z:=R.signs)
      have:(if bJ R.sort=true then [R.aU] else []).length<=1:=by split <;> simp
      rw[List.length_cons,List.length_nil]
      lia
     rw[← eW] at kl
     refine aS (λZ' H'=>∃l,H' l=some (.lst ((cO names R).map V.str))/\aj H3 H'/\Z'=[some (.ref lm),some (.ref lr),y2,y3,y4,some (.str R.sort),some (.str R.signs),some (.str R.aU),some (.str R.bq),some (jw R.goal),some (.str R.fold),some (.ref l)]) (cS 11 gx (aM gE (aM gE (pv 11) (aM qR (bP (aa (aR cu (aR aL (pv 0) (Pj (pv 9) (yK aq)) (λ_ _=>rfl)) aq (λ_ _=>rfl)) ai)) (cJ kU (by rfl) T.za (by decide +kernel) (aa (fj jC (pv 9) bX (aI _)) ai)))) (aM qR (bP (aa (pv 10) ai)) (cJ kU (by rfl) T.za (by decide +kernel) (aa (fj oG (pv 10) az (aI _)) ai))))) ?_ ?_
     ·have hz:∃g0,g0<ms.length/\(∃k,Hz K (jw R.goal) H4 k/\V.int ((g0:Nat):Int)=if k=true then jw R.goal else .int 0)/\(if (!decide (jw R.goal=V.cW))=true then [V.str (names.getD g0 "")] else [])=(oh names R.goal).map V.str:=by
       cases hg:R.goal with
       |none=>exact⟨0,hpos,⟨false,rfl,rfl⟩,rfl⟩
       |some g=>
        have hgl:g<ms.length:=by
         by_cases hgo:i6 R.bq
         ·obtain⟨g',e,hg'⟩:=GR.goal hgo
          rw[hg] at e;cases e;lia
         ·rw[GR.Dd hgo] at hg;cases hg
        refine⟨g,hgl,⟨((g:Int) != 0),rfl,?_⟩,rfl⟩
        by_cases e:g=0
        ·subst e;rfl
        ·rw[if_pos (by simpa using e)];rfl
      obtain⟨g0,hg0,hT,eG⟩:=hz
      have hmg:ms[g0]?=some ms[g0]:=List.getElem?_eq_getElem hg0
      obtain⟨tg,htg,lg,rg,v1,_,_⟩:=hA.at hmg
      have hng:names.getD g0 "" = ms[g0].name:=by rw[hnames];simp[hg0]
      rw[hng] at eG
      have s34:=W3.same.trans s4
      refine⟨_,rfl,_,rfl,_,rfl,_,hT,_,_,_,_,rfl,rfl,bg.of (s34 _ _ hlm),fU htg,_,_,_,_,rfl,rfl,dO.of (s34 _ _ v1),aH (j:=0) rfl,by show 1<=sizeLine;decide,λl5 g5=>⟨_,rfl,rfl,.inr ⟨_,rfl,l5,_,_,rfl,rfl,af,Bg.1,Bg.2.1,Bg.2.2,λl6 g6=>?_⟩⟩⟩
      rw[rep1,eG]
      have hY:((oh names R.goal).map V.str).length<=1:=by rw[List.length_map];exact tL
      refine⟨l,l6,_,_,rfl,rfl,aj.upd g6 _ _ (aj.upd g5 _ _ kl),af,b9 (by rw[List.length_map];lia),λl7 g7=>?_⟩
      have sk:=((s4.to g5).to g6).to2 (o:=.lst (W.map V.str++(oh names R.goal).map V.str)) g7
      generalize upd (upd (upd H4 l5 _) l6 _) l7 (.lst (W.map V.str++(oh names R.goal).map V.str))=H6 at sk ⊢
      obtain⟨s7,k7⟩:=sk
      refine⟨_,rfl,by show 1<=sizeLine;decide,λl8 g8=>⟨_,rfl,rfl,.inr ⟨_,rfl,l8,_,_,rfl,rfl,af,Bg.1,Bg.2.1,Bg.2.2,λl9 g9=>?_⟩⟩⟩
      have eF:(if (!decide (V.str R.fold=V.str (Str.ofString "")))=true then [V.str R.fold] else [])=(if R.fold = "" then [] else [R.fold]).map V.str:=by
       by_cases e:R.fold = ""
       ·rw[if_pos e,if_neg (λz=>ne_iff.mp z e)];rfl
       ·rw[if_neg e,if_pos (ne_iff.mpr e)];rfl
      rw[rep1,eF]
      have hF:((if R.fold = "" then [] else [R.fold]).map V.str).length<=1:=by rw[List.length_map];split <;> simp
      refine⟨l7,l9,_,_,rfl,rfl,aj.upd g9 _ _ (aj.upd g8 _ _ k7),af,b9 (by rw[List.length_append,List.length_map];lia),λla ga=>⟨la,?_,((s7.to g8).to g9).to ga,rfl⟩⟩
      rw[af,eW,cO,← List.map_append,← List.map_append]
      simp only[List.append_assoc]
     rintro Z' H9 ⟨l,V9,s9,rfl⟩
     have rl:=wm (names:=names) (R:=R)
     have W9:=W3.to s9
     refine ay (bx (dG F.plainAttrs_list F.slot_list_append F.type_list_append c8 (pv 1) (aa (dG F.plainAttrs_str F.slot_str_join F.type_str_join mG az (aa (pv 11) ai)) ai))) ⟨_,rfl,.inl ⟨rfl,_,bg.of W9.at_⟩,rfl,_,rfl,_,l,_,rfl,rfl,bg.of V9,?_,?_⟩
     ·have h1:=xW (m:=202) (cO names R) (λy hy=>(qP hnm GR y hy).l)
      rw[show (" ":Str).length=1 from by decide +kernel]
      have h2:(cO names R).length*202<=7*202:=Nat.mul_le_mul_right _ rl.2
      exact b9 (by lia)
     ·rw[join_eq,show ((" ":Str))=⟨#[32]⟩ from by decide +kernel]
      refine⟨lr,_,_,rfl,rfl,W9.at_,dQ (by simp only[List.length_map,List.length_append,List.length_cons,List.length_nil,List.length_take];lia),⟨_,_,_,_,_,_,_,_,_,_,rfl⟩,?_⟩
      have e:(m.rules.take (j+1)).map (λR=>rowOf names (.rule R))=(m.rules.take j).map (λR=>rowOf names (.rule R))++[rowOf names (.rule R)]:=by rw[take_snoc hRj,List.map_append];rfl
      rw[e,← List.append_assoc]
      exact W9.add (x:=rowOf names (.rule R))
    ·rintro Z' H3 ⟨hZ,W3⟩
     refine⟨hZ,?_⟩
     rw[List.length_map,t3.1,List.take_length] at W3
     rw[take_snoc hm,gX,gY,List.map_append,fZ,List.map_cons,List.map_map]
     rw[List.append_assoc] at W3
     exact W3
   ·rintro Z' H1 ⟨hZ,W1⟩
    rw[List.length_map,hA.1,List.take_length] at W1
    exact⟨hZ,W1⟩
  rintro Z' H1 ⟨⟨x2,x3,x4,x5,x6,x7,x8,x9,x10,x11,rfl⟩,W1⟩
  have hGI:=B.items
  have hrows:rowsOf (itemsOf ms)=(itemsOf ms).map (rowOf names):=by rw[rowsOf,iu,hnames]
  refine ay (aJ (dG F.plainAttrs_str F.slot_str_join F.type_str_join mG az (aa (pv 1) ai))) ⟨rfl,_,rfl,_,lr,_,rfl,rfl,bg.of W1.at_,?_,?_⟩
  ·have h5:=xW (m:=1421) ((itemsOf ms).map (rowOf names)) (λy hy=>by
    obtain⟨it,hi,rfl⟩:=List.mem_map.mp hy
    obtain⟨i,e⟩:=List.mem_iff_getElem?.mp hi
    have:=(kK hGI e).2.1
    rw[iu,← hnames] at this
    exact this)
   rw[show ("\n":Str).length=1 from by decide +kernel]
   rw[List.length_map] at h5 ⊢
   have h6:(itemsOf ms).length*1421<=200*1421:=Nat.mul_le_mul_right _ hitems
   exact b9 (by lia)
  ·rw[join_eq,show ((("\n":Str)))=⟨#[10]⟩ from by decide +kernel,← hrows]
   exact q _ W1.same
def iO(rs:List Str):Prop:=∀r∈rs,∀c∈r.cps.toList,c∈Ic
theorem iO.nl{rs:List Str}(h:iO rs):HY rs:=λx hx y=>rF (h x hx 10 y)
theorem Cg{rs:List Str}{i j:Nat}{r z:Str}(hr:rs[i]?=some r)(hj:j<=r.length)(hS:iO rs)(hz:uN z) :
  iO (gq rs i j r z)/\tot (gq rs i j r z)<=tot rs+18/\(gq rs i j r z).length<=rs.length+2/\gq rs i j r z≠[]:=by
 have hi:i<rs.length:=(List.getElem?_eq_some_iff.mp hr).1
 have hc:=uH (x:=r) (z:=z) hj
 have hrm:=hS r (List.mem_of_getElem? hr)
 have h0:r.cps.toList.count 10=0:=List.count_eq_zero.mpr (λy=>rF (hrm 10 y))
 have h1:(r.cps.toList.take j).count 10=0:=List.count_eq_zero.mpr (λy=>rF (hrm 10 (List.mem_of_mem_take y)))
 have h2:(r.cps.toList.drop j).count 10=0:=List.count_eq_zero.mpr (λy=>rF (hrm 10 (List.mem_of_mem_drop y)))
 have hcount:(mZ r j z).cps.toList.count 10=z.cps.toList.count 10:=by
  rw[hc,List.count_append,List.count_append,h1,h2];lia
 have hlen:(mZ r j z).length=r.length+z.length:=by
  rw[← br,hc,List.length_append,List.length_append,List.length_take,List.length_drop,br,br]
  lia
 have hs:=uo (mZ r j z)
 have hle:=hz.le
 have hfew:=hz.few
 unfold gq
 refine⟨λx hx c hcx=>?_,?_,?_,λe=>?_⟩
 ·rcases List.mem_append.mp hx with hx|hx
  ·rcases List.mem_append.mp hx with hx|hx
   ·exact hS x (List.mem_of_mem_take hx) c hcx
   ·obtain⟨m,hm⟩:=t9 hx c hcx
    rw[hc] at m
    rcases List.mem_append.mp m with m|m
    ·rcases List.mem_append.mp m with m|m
     ·exact hrm c (List.mem_of_mem_take m)
     ·exact(hz.ch c m).elim (λy=>absurd y hm) id
    ·exact hrm c (List.mem_of_mem_drop m)
  ·exact hS x (List.mem_of_mem_drop hx) c hcx
 ·rw[jM,jM,yC hr]
  lia
 ·rw[List.length_append,List.length_append,List.length_take,List.length_drop]
  lia
 ·have:=lP (mZ r j z)
  simp only[List.append_eq_nil_iff] at e
  exact this e.1.2
theorem Es{rs:List Str}{i j i2 j2:Nat}{r r2:Str}(hr:rs[i]?=some r)(hj:j<=r.length)(hr2:rs[i2]?=some r2)(hj2:j2<=r2.length)(hx:i<i2∨i=i2/\j<=j2)(hS:iO rs) :
  iO (gg rs i j i2 j2 r r2)/\tot (gg rs i j i2 j2 r r2)<=tot rs/\(gg rs i j i2 j2 r r2).length<=rs.length/\gg rs i j i2 j2 r r2≠[]:=by
 have hi:i<rs.length:=(List.getElem?_eq_some_iff.mp hr).1
 have hi2:i2<rs.length:=(List.getElem?_eq_some_iff.mp hr2).1
 have hc:=t8 (x:=r) (y:=r2) (j:=j) hj2
 have el:=zd (x:=r) (y:=r2) hj hj2
 unfold gg
 refine⟨λx hx c hcx=>?_,?_,?_,λe=>?_⟩
 ·rcases List.mem_append.mp hx with hx|hx
  ·rcases List.mem_append.mp hx with hx|hx
   ·exact hS x (List.mem_of_mem_take hx) c hcx
   ·rw[List.mem_singleton.mp hx,hc] at hcx
    rcases List.mem_append.mp hcx with m|m
    ·exact hS r (List.mem_of_getElem? hr) c (List.mem_of_mem_take m)
    ·exact hS r2 (List.mem_of_getElem? hr2) c (List.mem_of_mem_drop m)
  ·exact hS x (List.mem_of_mem_drop hx) c hcx
 ·have h1:=yC hr
  have h2:=yC hr2
  rw[jM,jM,j7,el,show tot []=0 from rfl]
  rcases hx with hx|⟨rfl,hx⟩
  ·have e:rs.drop (i+1)=(rs.drop (i+1)).take (i2-(i+1))++rs.drop i2:=by
    conv=>lhs;rw[← List.take_append_drop (i2-(i+1)) (rs.drop (i+1))]
    rw[List.drop_drop]
    congr 2
    lia
   have e2:rs.drop i2=r2::rs.drop (i2+1):=by
    obtain⟨h,e⟩:=List.getElem?_eq_some_iff.mp hr2
    rw[List.drop_eq_getElem_cons h,e]
   rw[e,jM,e2,j7] at h1
   lia
  ·rw[hr] at hr2
   cases hr2
   lia
 ·rw[List.length_append,List.length_append,List.length_take,List.length_drop]
  simp only[List.length_cons,List.length_nil]
  lia
 ·simp at e
theorem FG{f b n:Nat}:(if f<b then f else f+n)=gu f b b n:=by
 unfold gu
 by_cases h:f<b
 ·rw[if_pos h,if_neg (λy=>by lia),if_neg (by lia)]
 ·rw[if_neg h]
  by_cases h2:f ≥ b/\(f>b∨n≠0∨b>b)
  ·rw[if_pos h2];lia
  ·rw[if_neg h2]
   by_cases h3:f>b
   ·exact absurd ⟨by lia,.inl h3⟩ h2
   ·rw[if_neg h3]
    have:n=0:=Decidable.byContradiction λy=>h2 ⟨by lia,.inr (.inl y)⟩
    lia
theorem DR{f b e:Nat}(h:b<=e):(if f<=b then f else if f<=e then b else f-(e-b))=gu f b e 0:=by
 unfold gu
 by_cases h1:f<=b
 ·rw[if_pos h1]
  by_cases h2:f ≥ e/\(f>b∨(0:Nat)≠0∨e>b)
  ·rw[if_pos h2];lia
  ·rw[if_neg h2,if_neg (by lia)]
 ·rw[if_neg h1]
  by_cases h3:f<=e
  ·rw[if_pos h3]
   by_cases h2:f ≥ e/\(f>b∨(0:Nat)≠0∨e>b)
   ·rw[if_pos h2];lia
   ·rw[if_neg h2,if_pos (by lia)]
  ·rw[if_neg h3,if_pos ⟨by lia,.inl (by lia)⟩];lia
def J2:List Str:=["a","ab","abc","b","mark","abcdefgh"]
theorem Fl:∀n∈J2,isName n=true:=by decide +kernel
theorem MQ{d:Int}(h0:0<=d)(h1:d<6):∃n,n∈J2/\rO (J2.map V.str) d=some (.str n):=by
 obtain⟨k,rfl⟩:∃k:Nat,d=k:=⟨d.toNat,by lia⟩
 have:k=0∨k=1∨k=2∨k=3∨k=4∨k=5:=by lia
 unfold J2
 rcases this with rfl|rfl|rfl|rfl|rfl|rfl
 ·exact⟨"a",by simp,rfl⟩
 ·exact⟨"ab",by simp,rfl⟩
 ·exact⟨"abc",by simp,rfl⟩
 ·exact⟨"b",by simp,rfl⟩
 ·exact⟨"mark",by simp,rfl⟩
 ·exact⟨"abcdefgh",by simp,rfl⟩
theorem sub_len{as bs:List Str}(hn:as.Nodup)(h:∀x∈as,x∈bs):as.length<=bs.length:=List.Nodup.length_le_of_subset hn h
theorem Ej{sp:List (Str×Nat×Nat)}{n:Str}{v:Nat×Nat}{y:Str×Nat×Nat}(h:y∈qE sp n v):y∈sp∨y=(n,v):=by
 unfold qE at h
 split at h
 ·obtain⟨x,hx,e⟩:=List.mem_map.mp h
  split at e
  ·exact .inr e.symm
  ·exact .inl (e ▸ hx)
 ·rcases List.mem_append.mp h with h|h
  ·exact .inl h
  ·exact .inr (List.mem_singleton.mp h)
theorem r8{sp:List (Str×Nat×Nat)}{n:Str}{y:Str×Nat×Nat}(h:y∈jr sp n):y∈sp:=(List.mem_filter.mp h).1
def SS(x ld kd ds:Addr):Addr->Prop:=λc=>c=x∨c=ld∨c=kd∨c=ds
structure KS(K:PySem.W.Frag)(t:fE)(H:Hp)(sc:Addr)(ns:List Int)(x dx tt dt a kd ld ds:Addr)(ms:List aD)(rs:List Str)(sp:List (Str×Nat×Nat))(n:Nat):Prop where
 al:bg K (hid (λc=>SS x ld kd ds c∨c=tt) H) sc (ns.map V.int)
 sb:∃d lu,H x=some (.ins t.aG dx (sf tt d ld lu))/\DP (hid (SS x ld kd ds) H) d sp
 ti:∃lg gs Gs,b8 t (hid (SS x ld kd ds) H) tt dt a lg gs ms Gs/\Chain ms [0] rs Gs
 kp:∃lr,H kd=some (.dK [(Sum.inr "rows",.ref lr),(Sum.inr "spots",.ref ds)])/\H lr=some (.lst (rs.map V.str))/\lr≠ld
 ds_:DP H ds sp
 ne:kd≠ds
 dn:∃dl,H ld=some (.lst dl)/\dl.length<=n
 nd:(bB sp).Nodup
 nm:∀y∈bB sp,y∈J2
 vp:∀y∈sp,VP rs y.2
 sg:iO rs
 zY:rs≠[]
 tl:tot rs<=24+18*n
 ll:rs.length<=4+2*n
theorem KS.few{H:Hp}{sc:Addr}{ns:List Int}{x dx tt dt a kd ld ds:Addr}{ms:List aD}{rs:List Str}{sp:List (Str×Nat×Nat)}{n:Nat}(h:KS K t H sc ns x dx tt dt a kd ld ds ms rs sp n):sp.length<=6:=by
 have:=sub_len h.nd h.nm
 rw[List.length_map] at this
 exact this
theorem KS.ex{H:Hp}{sc:Addr}{ns:List Int}{x dx tt dt a kd ld ds:Addr}{ms:List aD}{rs:List Str}{sp:List (Str×Nat×Nat)}{n:Nat}(h:KS K t H sc ns x dx tt dt a kd ld ds ms rs sp n):Ex (SS x ld kd ds) H:=λb hb=>by
 obtain⟨d,lu,e1,_⟩:=h.sb
 obtain⟨dl,e2,_⟩:=h.dn
 obtain⟨lr,e3,_⟩:=h.kp
 obtain⟨ps,e4⟩:=h.ds_
 rcases hb with rfl|rfl|rfl|rfl
 ·exact⟨_,e1⟩
 ·exact⟨_,e2⟩
 ·exact⟨_,e3⟩
 ·exact⟨_,e4.ob⟩
theorem none_of{H H':Hp}{p:Addr}(s:aj H H')(h:H' p=none):H p=none:=by
 cases e:H p with
 |none=>rfl
 |some o=>rw[s _ _ e] at h;cases h
theorem cY{H:Hp}{a b:Addr}{o u:HO}(h:H a=some o)(g:H b=some u)(n:o≠u):a≠b:=λe=>n (by subst e;rw[h] at g;exact Option.some.inj g)
theorem j0{H:Hp}{a b:Addr}{o:HO}(h:H a=some o)(g:H b=none):a≠b:=λe=>by subst e;rw[h] at g;cases g
theorem DP.keep{H H':Hp}{d x tt ld c1 c2 d1 d2:Addr}{f1 f2:List (Str×V)}{zs:List V}{sp:List (Str×Nat×Nat)}(h:DP H d sp)(k:∀b o,H b=some o->b≠x->b≠tt->b≠ld->H' b=some o)(hx:H x=some (.ins c1 d1 f1))(ht:H tt=some (.ins c2 d2 f2))(hl:H ld=some (.lst zs)):DP H' d sp:=by
 obtain⟨ps,e⟩:=h
 exact⟨ps,e.len,k _ _ e.ob (cY e.ob hx (by intro y;cases y)) (cY e.ob ht (by intro y;cases y)) (cY e.ob hl (by intro y;cases y)),e.pl.mono λp y z=>k _ _ z (cY z hx (by intro y;cases y)) (cY z ht (by intro y;cases y)) (cY z hl (by intro y;cases y))⟩
theorem KS.done{H4 H5 H6:Hp}{sc:Addr}{ns:List Int}{x dx tt dt a kd ld ds d lu ln df i lr:Addr}{ms:List aD}{now:List Str}{Gs Gs':List bQ}{dl tk gv:List V}{sp':List (Str×Nat×Nat)}{n:Nat}{ct dtt:Addr}{ft:List (Str×V)}
  (al:bg K (hid (λc=>SS x ld kd ds c∨c=tt) H4) sc (ns.map V.int)) (hx:H4 x=some (.ins t.aG dx (sf tt d ld lu))) (ht:H4 tt=some (.ins ct dtt ft)) (hkd:H4 kd=some (.dK [(Sum.inr "rows",.ref lr),(Sum.inr "spots",.ref ds)])) (hld:H4 ld=some (.lst dl)) (hdl:dl.length<=n)
  (D:SDone t (SS x ld kd ds) H4 H5 x dx tt dt a ld ms Gs Gs' dl sp' d i tk gv) (s6:aj H5 H6) (hln:H6 ln=some (.lst (now.map V.str))) (hdf:DP H6 df sp') (fln:H5 ln=none) (fdf:H5 df=none) (hC:Chain ms [0] now Gs')
  (nd:(bB sp').Nodup) (nm:∀y∈bB sp',y∈J2) (vp:∀y∈sp',VP now y.2) (sg:iO now) (zY:now≠[]) (tl:tot now<=24+18*(n+1)) (ll:now.length<=4+2*(n+1)) {o1:HO} :
  KS K t (upd (upd H6 kd o1) kd (.dK [(Sum.inr "rows",.ref ln),(Sum.inr "spots",.ref df)])) sc ns x dx tt dt a kd ld df ms now sp' (n+1):=by
 obtain⟨⟨lg,gs,I⟩,⟨d',lu',ex,hd',_,_⟩,⟨dd,ddx,lt,lv,eld,_⟩,keep⟩:=D
 have ekd:H5 kd=some (.dK [(Sum.inr "rows",.ref lr),(Sum.inr "spots",.ref ds)]):=keep _ _ hkd (cY hkd hx (by intro y;cases y)) (cY hkd ht (by intro y;cases y)) (cY hkd hld (by intro y;cases y))
 have nf:∀b,b≠kd->(upd (upd H6 kd o1) kd (.dK [(Sum.inr "rows",.ref ln),(Sum.inr "spots",.ref df)])) b=H6 b:=λb h=>by rw[ak h,ak h]
 have e0:(upd (upd H6 kd o1) kd (.dK [(Sum.inr "rows",.ref ln),(Sum.inr "spots",.ref df)])) kd=some (.dK [(Sum.inr "rows",.ref ln),(Sum.inr "spots",.ref df)]):=af
 generalize upd (upd H6 kd o1) kd (.dK [(Sum.inr "rows",.ref ln),(Sum.inr "spots",.ref df)])=H7 at nf e0
 have up:∀b o,H5 b=some o->b≠kd->H7 b=some o:=λb o h n=>by rw[nf b n];exact s6 _ _ h
 have sS:aj (hid (SS x ld kd ds) H5) (hid (SS x ld kd df) H7):=λb o h=>by
  have h1:=bY h
  have h2:=aB _ _ h
  have nk:b≠kd:=λy=>h1 (.inr (.inr (.inl y)))
  refine bf (up b o h2 nk) ?_
  rintro (y|y|y|y)
  ·exact h1 (.inl y)
  ·exact h1 (.inr (.inl y))
  ·exact nk y
  ·exact j0 h2 fdf y
 have nkf:df≠kd:=λy=>by subst y;rw[ekd] at fdf;cases fdf
 refine⟨al.same λb o h=>?_,⟨d',lu',up _ _ ex (cY ex ekd (by intro y;cases y)),hd'.same sS⟩,⟨lg,gs,Gs',I.same sS,hC⟩,⟨ln,e0,by rw[nf ln (λy=>by subst y;rw[ekd] at fln;cases fln)];exact hln,λy=>by subst y;rw[eld] at fln;cases fln⟩,?_,Ne.symm nkf,⟨_,up _ _ eld (cY eld ekd (by intro y;cases y)),by rw[List.length_append];simp only[List.length_cons,List.length_nil];lia⟩,nd,nm,vp,sg,zY,tl,ll⟩
 ·have h1:=bY h
  have h2:=aB _ _ h
  have nk:b≠kd:=λy=>h1 (.inl (.inr (.inr (.inl y))))
  have h5:=keep b o h2 (λy=>h1 (.inl (.inl y))) (λy=>h1 (.inr y)) (λy=>h1 (.inl (.inr (.inl y))))
  refine bf (up b o h5 nk) ?_
  rintro ((y|y|y|y)|y)
  ·exact h1 (.inl (.inl y))
  ·exact h1 (.inl (.inr (.inl y)))
  ·exact nk y
  ·exact j0 h5 fdf y
  ·exact h1 (.inr y)
 ·obtain⟨ps,e⟩:=hdf
  exact⟨ps,e.len,by rw[nf df nkf];exact e.ob,e.pl.mono λp y z=>by
   show H7 p=_
   rw[nf p (cY z (s6 _ _ ekd) (by intro y;cases y))];exact z⟩
theorem kk1 {a b c:V}:putK [(Sum.inr (Str.ofString "rows"),a),(Sum.inr (Str.ofString "spots"),b)] (Sum.inr (Str.ofString "rows"):Key) c=[(Sum.inr (Str.ofString "rows"),c),(Sum.inr (Str.ofString "spots"),b)]:=rfl
theorem kk2 {a b c:V}:putK [(Sum.inr (Str.ofString "rows"),a),(Sum.inr (Str.ofString "spots"),b)] (Sum.inr (Str.ofString "spots"):Key) c=[(Sum.inr (Str.ofString "rows"),a),(Sum.inr (Str.ofString "spots"),c)]:=rfl
theorem nB{w n:Nat}{c:nI}{now:List Str}(O:c.Ok)(hn:n<16)(sg:iO now)(tl:tot now<=24+18*(n+1))(ll:now.length<=4+2*(n+1)):∃Gs,Chain (make w c) [0] now Gs:=by
 refine sU (λr hr=>AJ w O r hr) now [0] ⟨by simp,λy hy=>by rw[List.mem_singleton.mp hy];exact(ig w O).pos⟩ (λr hr=>⟨by have:=jA hr;lia,λy hy=>Nc y (sg r hr y hy)⟩) ?_
 simp only[List.length_cons,List.length_nil]
 lia
theorem Pw{i j i2 j2:Nat}(h:HT.dH [(i:Int),j] [(i2:Int),j2]=false):i<i2∨i=i2/\j<=j2:=by
 simp only[HT.dH] at h
 by_cases h1:(i:Int)=i2
 ·rw[if_pos h1] at h
  by_cases h2:(j:Int)=j2
  ·exact .inr ⟨by lia,by lia⟩
  ·rw[if_neg h2] at h
   have:=of_decide_eq_false h
   exact .inr ⟨by lia,by lia⟩
 ·rw[if_neg h1] at h
  have:=of_decide_eq_false h
  exact .inl (by lia)
theorem EU{x1 y1 x2 y2:Int}(h:HT.dH [x1,y1] [x2,y2]=true):HT.dH [x2,y2] [x1,y1]=false:=by
 simp only[HT.dH] at h ⊢
 by_cases h1:x1=x2
 ·rw[if_pos h1] at h
  rw[if_pos h1.symm]
  by_cases h2:y1=y2
  ·rw[if_pos h2] at h;cases h
  ·rw[if_neg h2] at h
   have:=of_decide_eq_true h
   rw[if_neg (λz=>h2 z.symm)]
   exact decide_eq_false (by lia)
 ·rw[if_neg h1] at h
  have:=of_decide_eq_true h
  rw[if_neg (λz=>h1 z.symm)]
  exact decide_eq_false (by lia)
theorem SX (x:Str):x++(Str.ofString "":Str)=x:=by
 refine jL ?_
 rw[dX,show (Str.ofString "").cps.toList=[] by decide +kernel,List.append_nil]
theorem D8{rs:List Str}{v u:Nat×Nat}(hv:VP rs v)(hu:VP rs u)(h:v.1<u.1∨v.1=u.1/\v.2<=u.2):bH rs v.1 v.2<=bH rs u.1 u.2:=by
 rw[fh,fh]
 exact(Aa (nK.mp hv) (nK.mp hu)).mpr h
theorem OO{p c:Bool}{X A Y:Prop}(hX:(if c=true then A else Y)->X)(hA:p=true->c=true->A)(hY:¬ (p=true/\c=true)->Y):if p=true then X else Y:=by
 cases p with
 |false=>exact hY (by simp)
 |true=>
  refine hX ?_
  cases c with
  |false=>exact hY (by simp)
  |true=>exact hA rfl rfl
theorem IC{sp:List (Str×Nat×Nat)}{ps:List Addr}{n:Str}(hl:ps.length=sp.length)(hn:(bB sp).Nodup):(dU (bS sp ps) (Sum.inr n)).isSome=decide (n∈bB sp):=by
 by_cases h:n∈bB sp
 ·obtain⟨i,y,hi,rfl⟩:=jx h
  have li:=(List.getElem?_eq_some_iff.mp hi).1
  rw[jJ hn hi (List.getElem?_eq_getElem (by lia))]
  simp[h]
 ·rw[oV h]
  simp[h]
theorem KS.mark{H3 H4:Hp}{sc:Addr}{ns:List Int}{x dx tt dt a kd ld ds d d' lu lu' lr lg:Addr}{gs:List Addr}{ms:List aD}{rs:List Str}{Gs:List bQ}{dl:List V}{sp sp':List (Str×Nat×Nat)}{n:Nat}{o:HO}
  (al:bg K (hid (λc=>SS x ld kd ds c∨c=tt) H3) sc (ns.map V.int)) (hx:H3 x=some (.ins t.aG dx (sf tt d ld lu))) (I:b8 t (hid (SS x ld kd ds) H3) tt dt a lg gs ms Gs) (hC:Chain ms [0] rs Gs) (hkd:H3 kd=some (.dK [(Sum.inr "rows",.ref lr),(Sum.inr "spots",.ref ds)])) (hlr:H3 lr=some (.lst (rs.map V.str))) (nlr:lr≠ld) (hds:DP H3 ds sp) (nkd:kd≠ds) (hld:H3 ld=some (.lst dl)) (hdl:dl.length<=n)
  (hx4:H4 x=some (.ins t.aG dx (sf tt d' ld lu'))) (hd':DP (hid (SS x ld kd ds) H4) d' sp') (ad:gw H3 H4 x) (hds':DP (upd H4 ds o) ds sp')
  (nd:(bB sp').Nodup) (nm:∀y∈bB sp',y∈J2) (vp:∀y∈sp',VP rs y.2) (sg:iO rs) (zY:rs≠[]) (tl:tot rs<=24+18*n) (ll:rs.length<=4+2*n) :
  KS K t (upd H4 ds o) sc ns x dx tt dt a kd ld ds ms rs sp' (n+1):=by
 obtain⟨ps0,e0⟩:=hds
 have hob:=e0.ob
 have up:∀b u,H3 b=some u->b≠x->b≠ds->upd H4 ds o b=some u:=λb u h n1 n2=>by rw[ak n2];exact ad b u h n1
 have sS:aj (hid (SS x ld kd ds) H3) (hid (SS x ld kd ds) (upd H4 ds o)):=λb u h=>by
  have h1:=bY h
  exact bf (up b u (aB _ _ h) (λy=>h1 (.inl y)) (λy=>h1 (.inr (.inr (.inr y))))) h1
 refine⟨al.same λb u h=>?_,⟨d',lu',by rw[ak (cY hx hob (by intro y;cases y))];exact hx4,by rw[jG (.inr (.inr (.inr rfl)))];exact hd'⟩,⟨lg,gs,Gs,I.same sS,hC⟩,⟨lr,up _ _ hkd (cY hkd hx (by intro y;cases y)) nkd,up _ _ hlr (cY hlr hx (by intro y;cases y)) (cY hlr hob (by intro y;cases y)),nlr⟩,hds',nkd,⟨dl,up _ _ hld (cY hld hx (by intro y;cases y)) (cY hld hob (by intro y;cases y)),by lia⟩,nd,nm,vp,sg,zY,by lia,by lia⟩
 have h1:=bY h
 exact bf (up b u (aB _ _ h) (λy=>h1 (.inl (.inl y))) (λy=>h1 (.inl (.inr (.inr (.inr y)))))) h1
abbrev Ac0(K:PySem.W.Frag)(t:fE)(vs:List V)(H:Hp)(Q:VK)(sc:Addr)(ns:List Int)(k:Int)(x dx tt dt a kd ld ds:Addr)(w:Nat)(c:nI)(rs:List Str)(sp:List (Str×Nat×Nat))(n:Nat):Prop:=c.Ok/\n<16/\KS K t H sc ns x dx tt dt a kd ld ds (make w c) rs sp n/\∀H' ds' rs' sp',KS K t H' sc ns x dx tt dt a kd ld ds' (make w c) rs' sp' (n+1)->Q .cW H'
abbrev ab6(K:PySem.W.Frag)(t:fE)(vs:List V)(H:Hp)(Q:VK)(sc:Addr)(ns:List Int)(k:Int)(x dx tt dt a kd ld ds:Addr)(w:Nat)(c:nI)(rs:List Str)(sp:List (Str×Nat×Nat))(n:Nat):Prop:=vs=[.ref sc,.int k,.ref x,.ref kd]/\ns.length<=63/\0<=k/\k<=60000/\Ac0 K t vs H Q sc ns k x dx tt dt a kd ld ds w c rs sp n
noncomputable def MP(K:PySem.W.Frag)(t:fE):Sp:=λvs H Q _=>∃sc ns k x dx tt dt a kd ld ds w c rs sp n,ab6 K t vs H Q sc ns k x dx tt dt a kd ld ds w c rs sp n
theorem MS (T:Txt K mg t):bD P w K mg base dw 11 t.B8 t.KU ["_law_script","_law_k","_law_scribe","_law_kept"] (MP K t):=by
 refine T.CA.m iK λvs H Q E h=>?_
 ·obtain⟨sc,ns,k,x,dx,tt,dt,a,kd,ld,ds,w,c,rs,sp,n,rfl,hl,hk0,hk1,O,hn,kz,q⟩:=h
  walk_at "i"
  have few:=kz.few
  have hE:=kz.ex
  obtain⟨al,⟨d,lu,hx,hd⟩,⟨lg,gs,Gs,I,hC⟩,⟨lr,hkd,hlr,nlr⟩,hds,nkd,⟨dl,hld,hdl⟩,nd,nm,vp,sg,zY,tl,ll⟩:=kz
  have hS:bg K H sc (ns.map V.int):=al.same aB
  have hr6:∀y∈rs,y.length<=1000:=λy hy=>by have:=jA hy;lia
  refine ao (cS 4 iK (dS (cK hr) (pv 3) az (λ_ _=>rfl))) ⟨_,rfl,kd,_,rfl,.inl ⟨_,Sum.inr "rows",.inl hkd,rfl,rfl⟩,?_⟩
  refine aS (λZ' H'=>∃way:Nat,aj H H'/\Z'=[some (.ref sc),some (.int k),some (.ref x),some (.ref kd),some (.ref lr),some (.int way),none,none,none,none,none,none]) (cS 5 iK (aW (iA T) hr.m rfl T.iy T.dZ.kp (T.dZ.binds (by walk_at "3")) .nil aF (aa (pv 0) (aa (pv 1) (aa aq ai))))) ⟨_,rfl,_,rfl,sc,ns,_,_,rfl,hS,(by lia),(by lia),(by decide),(by decide),hl,λd1 H1 h0 h1 s1=>⟨d1.toNat,s1,by rw[show (d1.toNat:Int)=d1 by lia];rfl⟩⟩ ?_
  rintro Z' H1 ⟨way,s1,rfl⟩
  refine aS (λZ' H'=>∃pf v,VP rs v/\rT H' pf v/\aj H H'/\H pf=none/\Z'=[some (.ref sc),some (.int k),some (.ref x),some (.ref kd),some (.ref lr),some (.int way),some (.ref pf),none,none,none,none,none]) (cS 6 iK (aW (Eu T) hr.m rfl T.BZ T.wH.kp (T.wH.binds (by walk_at "3")) .nil aF (aa (pv 0) (aa (aM bO (pv 1) aq) (aa (pv 4) ai))))) ⟨_,rfl,_,rfl,_,_,rfl,rfl,_,rfl,sc,lr,ns,_,rs,rfl,hS.same s1,hl,(by lia),(by lia),s1 _ _ hlr,zY,(by lia),hr6,λp v H2 hv hp fp s2=>⟨p,v,hv,hp,s1.trans s2,none_of s1 fp,rfl⟩⟩ ?_
  rintro Z' H2 ⟨pf,v,hv,hpf,s2,fpf,rfl⟩
  refine aS (λZ' H'=>∃nam,nam∈J2/\rT H' pf v/\aj H H'/\Z'=[some (.ref sc),some (.int k),some (.ref x),some (.ref kd),some (.ref lr),some (.int way),some (.ref pf),some (.str nam),none,none,none,none]) (@uz _ _ 7 _ _ _ _ iK.nd rfl (Or.inl rfl) (@aR _ _ _ _ _ _ _ aL (@bP _ _ _ _ (@ug _ _ ["a","ab","abc","b","mark","abcdefgh"] rfl)) (@aW _ _ _ _ _ _ _ _ _ _ _ _ _ _ _ _ (iA T) hr.m rfl T.iy T.dZ.kp (T.dZ.binds (by walk_at "3")) .nil aF (aa (pv 0) (aa (@aM _ _ _ _ _ _ _ _ bO (pv 1) aq) (aa aq ai (by left)) (by left)) (by left)) (by left) (by left) (by left)) (λ_ _=>rfl)) (by left) (by left)) ⟨by show 6<=sizeLine;decide,λl0 g0=>⟨_,rfl,_,rfl,_,_,rfl,rfl,sc,ns,_,_,rfl,(hS.same s2).same (aj.upd g0),(by lia),(by lia),(by decide),(by decide),hl,λd1 H3 h0 h1 s3=>?_⟩⟩ ?_
  ·obtain⟨nam,hnm,hat⟩:=MQ h0 h1
   exact⟨_,_,_,_,rfl,rfl,bg.of (s3 _ _ af),hat,nam,hnm,s3 _ _ (aj.upd g0 _ _ hpf),(s2.to g0).trans s3,rfl⟩
  clear hpf
  rintro Z' H3 ⟨nam,hnam,hpf,s3,rfl⟩
  clear s1 s2
  obtain⟨lr0,elr⟩:∃r,rs[v.1]?=some r/\v.2<=r.length:=hv
  have hGl:=hC.len
  have hrw:=hC.rows
  have GGd:=(ig w O).good
  have row_at:∀{i:Nat} {r:Str},rs[i]?=some r->∃G,Gs[i]?=some G/\G.row=r:=λ{i r} e=>by
   rw[← hrw,List.getElem?_map] at e
   exact Option.map_eq_some_iff.mp e
  have hx3:=s3 _ _ hx
  have hlr3:=s3 _ _ hlr
  have hkd3:=s3 _ _ hkd
  have hld3:=s3 _ _ hld
  have hds3:=hds.same s3
  have hd3:=hd.same (aO s3)
  have I3:=I.same (aO s3)
  have al3:=al.same (aO s3)
  have hS3:=hS.same s3
  have hE3:Ex (SS x ld kd ds) H3:=λb hb=>by obtain⟨o,e⟩:=hE b hb;exact⟨o,s3 _ _ e⟩
  have htt3:=aB _ _ I3.ob
  have hi1:v.1<rs.length:=(List.getElem?_eq_some_iff.mp elr.1).1
  have vp5:∀y∈sp,y.2.1<=100000/\y.2.2<=100000:=λy hy=>by
   obtain⟨r,e1,e2⟩:=vp y hy
   have h1:=(List.getElem?_eq_some_iff.mp e1).1
   have h2:=jA (List.mem_of_getElem? e1)
   lia
  refine ay (bK (aE ie (pv 5) aq (aI _)) aA aA) ⟨_,rfl,_,_,rfl,rfl,_,rfl,fq (λh=>?_) (λh=>?_)⟩
  ·refine ao (cS 8 iK (aW (NP T) hr.m rfl T.MT T.Dm.kp (T.Dm.binds (by walk_at "2")) .nil aF (aa (pv 0) (aa (aM bO (pv 1) aq) ai)))) ⟨_,rfl,_,rfl,_,_,rfl,rfl,sc,ns,_,rfl,hS3,hl,by lia,by lia,λz H4 hz hz20 s4=>?_⟩
   obtain⟨G,hG,eG⟩:=row_at elr.1
   obtain⟨sg',tl',ll',ne'⟩:=Cg elr.1 elr.2 sg hz
   obtain⟨now,enow⟩:∃now,now=gq rs v.1 v.2 lr0 z:=⟨_,rfl⟩
   rw[← enow] at sg' tl' ll' ne'
   obtain⟨Gs',hC'⟩:=nB (w:=w) (n:=n) O hn sg' (by lia) (by lia)
   have hC2:=hC'
   rw[enow] at hC2
   obtain⟨ah,bk,Gm,cn,hCh,_⟩:=qN (k:=1) hC (by lia) hC2
   have hfl:(lG (mZ lr0 v.2 z)).length<=now.length:=by rw[enow];unfold gq;simp only[List.length_append];lia
   have hnl:=hC'.len
   have hpl:∀y∈sp,VP now (oX y.2 v z)/\bH now (oX y.2 v z).1 (oX y.2 v z).2=gu (bH rs y.2.1 y.2.2) (bH rs v.1 v.2) (bH rs v.1 v.2) z.length:=λy hy=>by
    have:=AF (z:=z) elr.1 elr.2 sg.nl (vp y hy)
    rw[FG,← enow] at this
    exact this
   have hE4:Ex (SS x ld kd ds) H4:=λb hb=>by obtain⟨o,e⟩:=hE3 b hb;exact⟨o,s4 _ _ e⟩
   refine ao (bx (bF (pv 2) T.aY T.Ss (Qy T) hr.m (T.Lz.binds (by walk_at "4")) .nil aF (aa (aR cu (pv 6) aq (λ_ _=>rfl)) (aa (aR cu (pv 6) aq (λ_ _=>rfl)) (aa (pv 8) ai))))) ⟨_,rfl,x,dx,_,rfl,s4 _ _ hx3,rfl,_,rfl,_,_,_,_,rfl,rfl,dO.of (s4 _ _ hpf),aH (j:=0) rfl,_,rfl,_,_,_,_,rfl,rfl,dO.of (s4 _ _ hpf),aH (j:=1) rfl,_,rfl,SS x ld kd ds,x,dx,tt,d,ld,lu,dt,a,lg,gs,make w c,Gs,G,sp,dl,v.1,v.2,z,lG (mZ lr0 v.2 z),ah,bk,Gm,cn,Gs',rfl,.inl rfl,.inr (.inl rfl),hE4,s4 _ _ hx3,I3.same (aO s4),hd3.same (aO s4),nd,by lia,vp5,s4 _ _ hld3,by lia,GGd,hG,by rw[eG];exact elr.2,by rw[eG];exact hr6 _ (List.mem_of_getElem? elr.1),by lia,by rw[eG];exact tR _,by lia,by lia,by lia,lP _,hCh,λH5 D=>?_⟩
   have hx4:=s4 _ _ hx3
   have htt4:=s4 _ _ htt3
   have hld4:=s4 _ _ hld3
   have hkd4:=s4 _ _ hkd3
   have hlr5:=D.keep _ _ (s4 _ _ hlr3) (cY (s4 _ _ hlr3) hx4 (by intro y;cases y)) (cY (s4 _ _ hlr3) htt4 (by intro y;cases y)) nlr
   have hpf5:rT H5 pf v:=D.keep _ _ (s4 _ _ hpf) (cY (s4 _ _ hpf) hx4 (by intro y;cases y)) (cY (s4 _ _ hpf) htt4 (by intro y;cases y)) (cY (s4 _ _ hpf) hld4 (by intro y;cases y))
   have hkd5:=D.keep _ _ hkd4 (cY hkd4 hx4 (by intro y;cases y)) (cY hkd4 htt4 (by intro y;cases y)) (cY hkd4 hld4 (by intro y;cases y))
   have hds5:=(hds3.same s4).keep D.keep hx4 htt4 hld4
   have hvp:VP rs v:=⟨lr0,elr⟩
   refine ao (uF (aW (Fx T) hr.m rfl T.Ea T.v8.kp (T.v8.binds (by walk_at "5")) .nil aF (aa (pv 4) (aa (dS (cK hr) (pv 3) az (λ_ _=>rfl)) (aa (pv 6) (aa (pv 6) (aa (pv 8) ai)))))) (lX rfl (cB (oO 9 iK) (cB (oO 10 iK) jK)))) ⟨_,rfl,_,rfl,kd,_,rfl,.inl ⟨_,Sum.inr "spots",.inl hkd5,rfl,rfl⟩,_,rfl,_,rfl,_,rfl,lr,ds,pf,pf,rs,now,sp,v,v,z,(λy=>oX y v z),rfl,hlr5,hds5,hpf5,hpf5,nd,by lia,hvp,hvp,vp,by lia,by lia,by lia,by lia,by lia,zY,λx hx=>by rw[enow];exact Bb elr.1 elr.2 sg.nl hx,Nat.le_refl _,hpl,λtp ln df H6 h1 h2 h3 f1 f2 s6=>⟨tp,_,rfl,dO.of h1,rfl,_,_,rfl,_,_,rfl,rfl,?_⟩⟩
   have hkd6:=s6 _ _ hkd5
   refine ao (iG (cK hr) (pv 3) az (pv 9) rfl) ⟨_,rfl,_,rfl,kd,_,rfl,nF.k (k:=Sum.inr "rows") hkd6 (by show 2<sizeLine;decide),?_⟩
   rw[kk1]
   refine ay (iG (cK hr) (pv 3) az (pv 10) rfl) ⟨_,rfl,_,rfl,kd,_,rfl,nF.k (k:=Sum.inr "spots") af (by show 2<sizeLine;decide),?_⟩
   rw[kk2]
   exact q _ df now _ (KS.done (al3.same (aO s4)) hx4 htt4 hkd4 hld4 hdl D s6 h2 h3 f1 f2 hC' (by rw[gF];exact nd) (by rw[gF];exact nm) (λy hy=>by
    obtain⟨u,hu,rfl⟩:=List.mem_map.mp hy
    exact(hpl u hu).1) sg' ne' (by lia) (by lia))
  ·refine ay (bK (aE ez (pv 5) aq (aI _)) aA aA) ⟨_,rfl,rfl,_,rfl,fq (λh=>?_) (λh=>?_)⟩
   ·refine aS (λZ' H'=>∃l a1 a2 v1 v2,H' l=some (.lst [.ref a1,.ref a2])/\rT H' a1 v1/\rT H' a2 v2/\VP rs v1/\VP rs v2/\HT.dH [(v1.1:Int),v1.2] [(v2.1:Int),v2.2]=false/\aj H3 H'/\H3 l=none/\Z'=[some (.ref sc),some (.int k),some (.ref x),some (.ref kd),some (.ref lr),some (.int way),some (.ref pf),some (.str nam),none,none,none,some (.ref l)]) (cS 11 iK (aN uL (by rfl) T.pX (by decide +kernel) (aa (bP (aa (pv 6) (aa (aW (Eu T) hr.m rfl T.BZ T.wH.kp (T.wH.binds (by walk_at "3")) .nil aF (aa (pv 0) (aa (aM bO (pv 1) aq) (aa (pv 4) ai)))) ai))) ai))) ⟨_,rfl,_,rfl,_,rfl,_,_,rfl,rfl,_,rfl,sc,lr,ns,_,rs,rfl,hS3,hl,by lia,by lia,hlr3,zY,by lia,hr6,λp2 u H4 hu hp2 fp2 s4=>⟨by show 2<=sizeLine;decide,λl0 g0=>⟨l0,pf,p2,v.1,v.2,u.1,u.2,rfl,bg.of af,dO.of (aj.upd g0 _ _ (s4 _ _ hpf)),dO.of (aj.upd g0 _ _ hp2),λl g=>?_⟩⟩⟩ ?_
    ·have fl:=none_of (s4.to g0) g
     by_cases hx:HT.dH [(v.1:Int),v.2] [(u.1:Int),u.2]=true
     ·rw[if_pos hx]
      exact⟨l,p2,pf,u,v,af,aj.upd g _ _ (aj.upd g0 _ _ hp2),aj.upd g _ _ (aj.upd g0 _ _ (s4 _ _ hpf)),hu,⟨lr0,elr⟩,EU hx,(s4.to g0).to g,fl,rfl⟩
     ·rw[if_neg hx]
      exact⟨l,pf,p2,v,u,af,aj.upd g _ _ (aj.upd g0 _ _ (s4 _ _ hpf)),aj.upd g _ _ (aj.upd g0 _ _ hp2),⟨lr0,elr⟩,hu,by simpa using hx,(s4.to g0).to g,fl,rfl⟩
    rintro Z' H4 ⟨lp,a1,a2,v1,v2,hlp,ha1,ha2,hv1,hv2,hlex,s4,flp,rfl⟩
    have hxx:=Pw hlex
    obtain⟨r1,er1,hj1⟩:∃r,rs[v1.1]?=some r/\v1.2<=r.length:=hv1
    obtain⟨r2,er2,hj2⟩:∃r,rs[v2.1]?=some r/\v2.2<=r.length:=hv2
    obtain⟨G,hG,eG⟩:=row_at er1
    obtain⟨G2,hG2,eG2⟩:=row_at er2
    obtain⟨sg',tl',ll',ne'⟩:=Es er1 hj1 er2 hj2 hxx sg
    obtain⟨now,enow⟩:∃now,now=gg rs v1.1 v1.2 v2.1 v2.2 r1 r2:=⟨_,rfl⟩
    rw[← enow] at sg' tl' ll' ne'
    obtain⟨Gs',hC'⟩:=nB (w:=w) (n:=n) O hn sg' (by lia) (by lia)
    have hC2:=hC'
    have hi2:v2.1<rs.length:=(List.getElem?_eq_some_iff.mp er2).1
    rw[enow,gg,show v2.1+1=v1.1+(v2.1-v1.1+1) by lia] at hC2
    obtain⟨ah,bk,Gm,cn,hCh,_⟩:=qN (k:=v2.1-v1.1+1) hC (by lia) hC2
    have hnl:=hC'.len
    have hord:=D8 ⟨r1,er1,hj1⟩ ⟨r2,er2,hj2⟩ hxx
    have hpl:∀y∈sp,VP now (mW y.2 v1 v2)/\bH now (mW y.2 v1 v2).1 (mW y.2 v1 v2).2=gu (bH rs y.2.1 y.2.2) (bH rs v1.1 v1.2) (bH rs v2.1 v2.2) 0:=λy hy=>by
     have:=Ad er1 hj1 er2 hj2 hxx (vp y hy)
     rw[DR hord,← enow] at this
     exact this
    have hE4:Ex (SS x ld kd ds) H4:=λb hb=>by obtain⟨o,e⟩:=hE3 b hb;exact⟨o,s4 _ _ e⟩
    have q0:∀{H':Hp},H' lp=some (.lst [.ref a1,.ref a2])->bg K H' lp [.ref a1,.ref a2]:=λe=>bg.of e
    refine ao (bx (bF (pv 2) T.aY T.RG (M6 T) hr.m (T.K6.binds (by walk_at "5")) .nil aF (aa (aR cu (aR aL (pv 11) aq (λ_ _=>rfl)) aq (λ_ _=>rfl)) (aa (aR cu (aR aL (pv 11) aq (λ_ _=>rfl)) aq (λ_ _=>rfl)) (aa (aR cu (aR aL (pv 11) aq (λ_ _=>rfl)) aq (λ_ _=>rfl)) (aa (aR cu (aR aL (pv 11) aq (λ_ _=>rfl)) aq (λ_ _=>rfl)) ai)))))) ⟨_,rfl,x,dx,_,rfl,s4 _ _ hx3,rfl,_,rfl,_,_,_,_,rfl,rfl,q0 hlp,aH (j:=0) rfl,_,_,_,_,rfl,rfl,dO.of ha1,aH (j:=0) rfl,_,rfl,_,_,_,_,rfl,rfl,q0 hlp,aH (j:=0) rfl,_,_,_,_,rfl,rfl,dO.of ha1,aH (j:=1) rfl,_,rfl,_,_,_,_,rfl,rfl,q0 hlp,aH (j:=1) rfl,_,_,_,_,rfl,rfl,dO.of ha2,aH (j:=0) rfl,_,rfl,_,_,_,_,rfl,rfl,q0 hlp,aH (j:=1) rfl,_,_,_,_,rfl,rfl,dO.of ha2,aH (j:=1) rfl,SS x ld kd ds,x,dx,tt,d,ld,lu,dt,a,lg,gs,make w c,Gs,G,sp,dl,G2,v1.1,v1.2,v2.1,v2.2,ah,bk,Gm,cn,Gs',rfl,.inl rfl,.inr (.inl rfl),hE4,s4 _ _ hx3,I3.same (aO s4),hd3.same (aO s4),nd,by lia,vp5,s4 _ _ hld3,by lia,GGd,hG,by rw[eG];exact hj1,by rw[eG];exact hr6 _ (List.mem_of_getElem? er1),hG2,by rw[eG2];exact hj2,by rw[eG2];exact hr6 _ (List.mem_of_getElem? er2),hlex,by lia,by lia,by lia,by rw[eG,eG2];exact hCh,λH5 D=>?_⟩
    have hx4:=s4 _ _ hx3
    have htt4:=s4 _ _ htt3
    have hld4:=s4 _ _ hld3
    have hkd4:=s4 _ _ hkd3
    have hlr5:=D.keep _ _ (s4 _ _ hlr3) (cY (s4 _ _ hlr3) hx4 (by intro y;cases y)) (cY (s4 _ _ hlr3) htt4 (by intro y;cases y)) nlr
    have hlp5:=D.keep _ _ hlp (cY hlp hx4 (by intro y;cases y)) (cY hlp htt4 (by intro y;cases y)) (Ne.symm (j0 hld3 flp))
    have ha15:rT H5 a1 v1:=D.keep _ _ ha1 (cY ha1 hx4 (by intro y;cases y)) (cY ha1 htt4 (by intro y;cases y)) (cY ha1 hld4 (by intro y;cases y))
    have ha25:rT H5 a2 v2:=D.keep _ _ ha2 (cY ha2 hx4 (by intro y;cases y)) (cY ha2 htt4 (by intro y;cases y)) (cY ha2 hld4 (by intro y;cases y))
    have hkd5:=D.keep _ _ hkd4 (cY hkd4 hx4 (by intro y;cases y)) (cY hkd4 htt4 (by intro y;cases y)) (cY hkd4 hld4 (by intro y;cases y))
    have hds5:=(hds3.same s4).keep D.keep hx4 htt4 hld4
    refine ao (uF (aW (Fx T) hr.m rfl T.Ea T.v8.kp (T.v8.binds (by walk_at "5")) .nil aF (aa (pv 4) (aa (dS (cK hr) (pv 3) az (λ_ _=>rfl)) (aa (aR aL (pv 11) aq (λ_ _=>rfl)) (aa (aR aL (pv 11) aq (λ_ _=>rfl)) (aa az ai)))))) (lX rfl (cB (oO 9 iK) (cB (oO 10 iK) jK)))) ⟨_,rfl,_,rfl,kd,_,rfl,.inl ⟨_,Sum.inr "spots",.inl hkd5,rfl,rfl⟩,_,rfl,_,_,_,_,rfl,rfl,q0 hlp5,aH (j:=0) rfl,_,rfl,_,_,_,_,rfl,rfl,q0 hlp5,aH (j:=1) rfl,lr,ds,a1,a2,rs,now,sp,v1,v2,"",(λy=>mW y v1 v2),rfl,hlr5,hds5,ha15,ha25,nd,by lia,⟨r1,er1,hj1⟩,⟨r2,er2,hj2⟩,vp,by lia,by lia,by decide +kernel,by lia,by lia,zY,λx hx=>by rw[SX,enow];exact Am er1 hj1 er2 hj2 sg.nl hx,hord,hpl,λtp ln df H6 h1 h2 h3 f1 f2 s6=>⟨tp,_,rfl,dO.of h1,rfl,_,_,rfl,_,_,rfl,rfl,?_⟩⟩
    have hkd6:=s6 _ _ hkd5
    refine ao (iG (cK hr) (pv 3) az (pv 9) rfl) ⟨_,rfl,_,rfl,kd,_,rfl,nF.k (k:=Sum.inr "rows") hkd6 (by show 2<sizeLine;decide),?_⟩
    rw[kk1]
    refine ay (iG (cK hr) (pv 3) az (pv 10) rfl) ⟨_,rfl,_,rfl,kd,_,rfl,nF.k (k:=Sum.inr "spots") af (by show 2<sizeLine;decide),?_⟩
    rw[kk2]
    exact q _ df now _ (KS.done (al3.same (aO s4)) hx4 htt4 hkd4 hld4 hdl D s6 h2 h3 f1 f2 hC' (by rw[gF];exact nd) (by rw[gF];exact nm) (λy hy=>by
     obtain⟨u,hu,rfl⟩:=List.mem_map.mp hy
     exact(hpl u hu).1) sg' ne' (by lia) (by lia))
   ·obtain⟨ps,hdp⟩:=hds3
    have hob3:=hdp.ob
    have nxd:ds≠x:=cY hob3 hx3 (by intro y;cases y)
    have nxk:kd≠x:=cY hkd3 hx3 (by intro y;cases y)
    refine ay (bK (PW.pt (iz (aE ez (pv 5) aq (aI _)) (fV (xH (Nf (cK hr) (pv 7) (dS (cK hr) (pv 3) az (λ_ _=>rfl))))))) aA aA) ⟨_,rfl,rfl,_,rfl,OO (c:=decide (nam∈bB sp)) (λz=>⟨_,rfl,_,rfl,kd,_,rfl,.inl ⟨_,Sum.inr "spots",.inl hkd3,rfl,rfl⟩,ds,_,rfl,k9.k (k:=Sum.inr nam) hob3,_,rfl,(by rw[IC hdp.len nd];exact z)⟩) (λh3 hm=>?_) (λhno=>?_)⟩
    ·have hm:nam∈bB sp:=of_decide_eq_true hm
     refine ao (bx (bF (pv 2) T.aY T.QW (NR T) hr.m (T.Lj.binds (by walk_at "2")) .nil aF (aa (pv 7) ai))) ⟨_,rfl,x,dx,_,rfl,hx3,rfl,_,rfl,SS x ld kd ds,x,dx,tt,d,ld,lu,sp,nam,rfl,.inl rfl,hE3,hx3,hm,nd,hd3,λd' H4 ex hd' ad=>?_⟩
     have hkd4:=ad _ _ hkd3 nxk
     have hob4:=ad _ _ hob3 nxd
     obtain⟨j,y,hj,ey⟩:=jx hm
     have lj:=(List.getElem?_eq_some_iff.mp hj).1
     obtain⟨pj,ep⟩:∃pj,ps[j]?=some pj:=⟨_,List.getElem?_eq_getElem (by rw[hdp.len];exact lj)⟩
     have hv:=jJ nd hj ep
     rw[ey] at hv
     obtain⟨ps',l',k',a'⟩:=ud (n:=nam) hdp.pl
     refine ay (bx (wO (dS (cK hr) (pv 3) az (λ_ _=>rfl)) (pv 7) ⟨rfl,rfl,rfl,rfl⟩)) ⟨_,rfl,kd,_,rfl,.inl ⟨_,Sum.inr "spots",.inl hkd4,rfl,rfl⟩,ds,rfl,.inl ⟨_,.inl hob4⟩,_,rfl,_,Sum.inr nam,_,hob4,rfl,hv,?_⟩
     rw[k']
     exact q _ ds rs _ (KS.mark al3 hx3 I3 hC hkd3 hlr3 nlr ⟨ps,hdp⟩ nkd hld3 hdl ex hd' ad ⟨ps',l',af,a'.mono λb z e=>by
      show upd H4 ds _ b=_
      rw[ak (cY e hob3 (by intro z;cases z))]
      exact ad _ _ e (cY e hx3 (by intro z;cases z))⟩ (Fi nd) (λu hu=>by
      obtain⟨w,hw,rfl⟩:=List.mem_map.mp hu
      exact nm _ (List.mem_map.mpr ⟨w,r8 hw,rfl⟩)) (λu hu=>vp u (r8 hu)) sg zY tl ll)
    ·obtain⟨G,hG,eG⟩:=row_at elr.1
     refine ao (bx (bF (pv 2) T.aY T.Q3 (Pr T) hr.m (T.Jr.binds (by walk_at "4")) .nil aF (aa (pv 7) (aa (aR cu (pv 6) aq (λ_ _=>rfl)) (aa (aR cu (pv 6) aq (λ_ _=>rfl)) ai))))) ⟨_,rfl,x,dx,_,rfl,hx3,rfl,_,rfl,_,rfl,_,_,_,_,rfl,rfl,dO.of hpf,aH (j:=0) rfl,_,rfl,_,_,_,_,rfl,rfl,dO.of hpf,aH (j:=1) rfl,SS x ld kd ds,x,dx,tt,d,ld,lu,dt,a,lg,gs,make w c,Gs,G,sp,nam,v.1,v.2,rfl,.inl rfl,hE3,hx3,Fl nam hnam,I3,hG,by rw[eG];exact elr.2,by rw[eG];exact hr6 _ (List.mem_of_getElem? elr.1),hd3,by lia,λd' H4 ex hd' ad=>?_⟩
     have hkd4:=ad _ _ hkd3 nxk
     have hob4:=ad _ _ hob3 nxd
     have hpf4:=ad _ _ hpf (cY hpf hx3 (by intro y;cases y))
     have hdp4:Iz H4 ds sp ps:=⟨hdp.len,hob4,hdp.pl.mono λb z e=>ad _ _ e (cY e hx3 (by intro y;cases y))⟩
     refine ay (iG (cK hr) (dS (cK hr) (pv 3) az (λ_ _=>rfl)) (pv 7) (pv 6) rfl) ⟨_,rfl,_,rfl,kd,_,rfl,.inl ⟨_,Sum.inr "spots",.inl hkd4,rfl,rfl⟩,_,rfl,ds,_,rfl,nF.k (k:=Sum.inr nam) hob4 (by rw[c9 hdp.len];exact dQ (by lia)),?_⟩
     obtain⟨ps',l',k',a'⟩:=Et (n:=nam) hdp4 hpf4
     rw[k']
     exact q _ ds rs _ (KS.mark al3 hx3 I3 hC hkd3 hlr3 nlr ⟨ps,hdp⟩ nkd hld3 hdl ex hd' ad ⟨ps',l',af,a'.mono λb z e=>by
      show upd H4 ds _ b=_
      rw[ak (cY e hob4 (by intro z;cases z))]
      exact e⟩ (IP nd) (λu hu=>by
      rw[pU] at hu
      split at hu
      ·exact nm u hu
      ·rcases List.mem_append.mp hu with hu|hu
       ·exact nm u hu
       ·rw[List.mem_singleton.mp hu];exact hnam) (λu hu=>by
      rcases Ej hu with hu|hu
      ·exact vp u hu
      ·rw[hu];exact⟨lr0,elr⟩) sg zY tl ll)
theorem KS.same{H H':Hp}{sc:Addr}{ns:List Int}{x dx tt dt a kd ld ds:Addr}{ms:List aD}{rs:List Str}{sp:List (Str×Nat×Nat)}{n:Nat}(h:KS K t H sc ns x dx tt dt a kd ld ds ms rs sp n)(s:aj H H'):KS K t H' sc ns x dx tt dt a kd ld ds ms rs sp n:=by
 obtain⟨al,⟨d,lu,hx,hd⟩,⟨lg,gs,Gs,I,hC⟩,⟨lr,hkd,hlr,nlr⟩,hds,nkd,⟨dl,hld,hdl⟩,nd,nm,vp,sg,zY,tl,ll⟩:=h
 exact⟨al.same (aO s),⟨d,lu,s _ _ hx,hd.same (aO s)⟩,⟨lg,gs,Gs,I.same (aO s),hC⟩,⟨lr,s _ _ hkd,s _ _ hlr,nlr⟩,hds.same s,nkd,⟨dl,s _ _ hld,hdl⟩,nd,nm,vp,sg,zY,tl,ll⟩
theorem Dj{sp:List (Str×Nat×Nat)}{ps:List Addr}(h:ps.length=sp.length):((bS sp ps).map λkv=>kV kv.1)=(bB sp).map V.str:=by
 have:=congrArg (List.map kV) (kT h)
 rw[List.map_map,List.map_map] at this
 exact this
noncomputable def NF(K:PySem.W.Frag)(t:fE):Sp:=λvs H Q _=>∃(sc:Addr) (ns:List Int) (x dx tt dt a kd ld ds:Addr) (ms:List aD) (rs:List Str) (sp:List (Str×Nat×Nat)) (n:Nat),vs=[.ref x,.ref kd]/\n<=16/\KS K t H sc ns x dx tt dt a kd ld ds ms rs sp n/\∀H',aj H H'->Q (.bl true) H'
theorem Gv (T:Txt K mg t):bD P w K mg base dw 11 t.E5 t.Kq ["_law_scribe","_law_kept"] (NF K t):=by
 refine T.vn.m xU λvs H Q E h=>?_
 ·obtain⟨sc,ns,x,dx,tt,dt,a,kd,ld,ds,ms,rs,sp,n,rfl,hn,kz,q⟩:=h
  walk_at "i"
  have few:=kz.few
  obtain⟨al,⟨d,lu,hx,hd⟩,⟨lg,gs,Gs,I,hC⟩,⟨lr,hkd,hlr,nlr⟩,hds,nkd,⟨dl,hld,hdl⟩,nd,nm,vp,sg,zY,tl,ll⟩:=kz
  have hd:=hd.same aB
  have I:=I.same aB
  have hrw:=hC.rows
  refine ao (cS 2 xU (bN (pv 0) T.aY T.KQ (Eg T) hr.m (T.DM.binds (by walk_at "1")) .nil aF)) ⟨_,rfl,x,dx,_,rfl,hx,rfl,x,dx,tt,d,ld,lu,sp,rfl,hx,hd,nd,by lia,λdm H1 hm fm s1=>?_⟩
  have hnl:=hC.len
  refine ao (cS 3 xU (bN (bN (pv 0) T.aY T.Ja (Dn T) hr.m (T.Dc.binds (by walk_at "1")) .nil aF) T.aQ T.tS (nE T) hr.m (T.qX.binds (by walk_at "1")) .nil aF)) ⟨_,rfl,x,dx,_,rfl,s1 _ _ hx,rfl,x,dx,tt,d,ld,lu,rfl,s1 _ _ hx,tt,dt,_,rfl,(I.same s1).ob,rfl,tt,dt,a,lg,gs,ms,Gs,rfl,I.same s1,by lia,λlw H2 hw fw s2=>?_⟩
  rw[hrw] at hw
  have hm2:=hm.same s2
  obtain⟨pm,em⟩:=hm2
  obtain⟨ps,ed⟩:=hds.same (s1.trans s2)
  have hkd2:=(s1.trans s2) _ _ hkd
  have hlr2:=(s1.trans s2) _ _ hlr
  refine ao (bK (PW.pt (jV (jb (iB (aN wk (by rfl) T.mP (by decide +kernel) (aa (pv 2) (aa (zF (v:=V.ty "dict") (u:=Value.type "dict") rfl T.nP (by decide +kernel) rfl) ai))))) (jV (aE (t6 (Nat.lt_of_succ_lt (cK hr))) (cJ (xy rfl) (by rfl) T.jI (by decide +kernel) (aa (pv 2) ai)) (aN (ni rfl) (by rfl) T.pX (by decide +kernel) (aa (dS (cK hr) (pv 1) az (λ_ _=>rfl)) ai)) (aI _)) (jF (aE (HS (hu4 hr)) (pv 2) (dS (cK hr) (pv 1) az (λ_ _=>rfl)) (aI _)))))) aA aA) ⟨_,rfl,_,_,"dict",_,true,rfl,.inl rfl,.dK em.ob,rfl,_,rfl,lQ ⟨_,rfl,dm,_,rfl,em.ob,λl1 g1=>?_⟩⟩
  rw[Dj em.len,jz]
  refine⟨_,rfl,kd,_,rfl,.inl ⟨_,Sum.inr "spots",.inl (aj.upd g1 _ _ hkd2),rfl,rfl⟩,ds,_,bB sp,rfl,aj.upd g1 _ _ ed.ob,kT ed.len,by rw[List.length_map];lia,λl2 g2=>⟨l1,l2,_,_,rfl,rfl,bg.of (aj.upd g2 _ _ af),bg.of af,lW _ _,_,rfl,?_⟩⟩
  have s4:=(aj.upd (H:=H2) (o:=.lst ((dD (bB sp)).map V.str)) g1).to2 (o:=.lst ((dD (bB sp)).map V.str)) g2
  generalize upd (upd H2 l1 _) l2 _=H4 at s4 ⊢
  have s4:=s4.1
  refine yP (show (!decide ((dD (bB sp)).map V.str=(dD (bB sp)).map V.str))=false by simp) (lQ ⟨_,rfl,_,rfl,kd,_,rfl,.inl ⟨_,Sum.inr "spots",.inl (s4 _ _ hkd2),rfl,rfl⟩,dm,ds,rfl,rfl,mL nd (DP.same ⟨pm,em⟩ s4) (DP.same ⟨ps,ed⟩ s4),_,rfl,lQ (bG ?_)⟩)
  have hw4:=s4 _ _ hw
  have hkd4:=s4 _ _ hkd2
  have hlr4:=s4 _ _ hlr2
  refine ao (bK (PW.pt (jV (jb (iB (aN wk (by rfl) T.mP (by decide +kernel) (aa (pv 3) (aa (zF (v:=V.ty "list") (u:=Value.type "list") rfl T.jI (by decide +kernel) rfl) ai))))) (jF (aE (t6 (Nat.lt_of_succ_lt (cK hr))) (pv 3) (dS (cK hr) (pv 1) az (λ_ _=>rfl)) (aI _))))) aA aA) ⟨_,rfl,_,_,"list",_,true,rfl,.inl rfl,.lst hw4,rfl,_,rfl,lQ ⟨_,rfl,_,rfl,kd,_,rfl,.inl ⟨_,Sum.inr "rows",.inl hkd4,rfl,rfl⟩,lw,lr,_,_,rfl,rfl,bg.of hw4,bg.of hlr4,lW _ _,_,rfl,?_⟩⟩
  refine yP (show (!decide (rs.map V.str=rs.map V.str))=false by simp) (lQ (bG ?_))
  have s24:aj H H4:=(s1.trans s2).trans s4
  have em4:=em.same s4
  have hsl:(cA sp).length=sp.length:=by
   have:=congrArg List.length (jz sp)
   rw[List.length_map,(dR _).length_eq,List.length_map] at this
   exact this
  refine ao (iG (cK hr) (pv 2) az (bC (aa aq (aa aq ai))) rfl) ⟨by show 2<=sizeLine;decide,λpz gz=>⟨_,rfl,dm,_,rfl,nF.k (k:=Sum.inr "zz") (aj.upd gz _ _ em4.ob) (by rw[c9 em4.len,hsl];exact dQ (by lia)),?_⟩⟩
  have ndl:lw≠dm:=cY hw4 em4.ob (by intro y;cases y)
  have s5:aj H (upd (upd H4 pz (.tup [.int 0,.int 0])) dm (.dK (putK (bS (cA sp) pm) (Sum.inr "zz") (.ref pz)))):=λb o hb=>by
   rw[ak (j0 hb fm)]
   exact aj.upd gz _ _ (s24 _ _ hb)
  have hw5:upd (upd H4 pz (.tup [.int 0,.int 0])) dm (.dK (putK (bS (cA sp) pm) (Sum.inr "zz") (.ref pz))) lw=some (.lst (rs.map V.str)):=by
   rw[ak ndl]
   exact aj.upd gz _ _ hw4
  generalize upd (upd H4 pz (.tup [.int 0,.int 0])) dm (.dK (putK (bS (cA sp) pm) (Sum.inr "zz") (.ref pz)))=H5 at s5 hw5 ⊢
  refine ao (bx (dG F.plainAttrs_list F.slot_list_append F.type_list_append c8 (pv 3) (aa az ai))) ⟨_,rfl,.inl ⟨rfl,_,bg.of hw5⟩,lw,_,_,rfl,rfl,hw5,dQ (by rw[List.length_map];lia),?_⟩
  have s6:aj H (upd H5 lw (.lst (rs.map V.str++[.str "a"]))):=λb o hb=>by
   rw[ak (j0 hb (none_of s1 fw))]
   exact s5 _ _ hb
  generalize upd H5 lw (.lst (rs.map V.str++[.str "a"]))=H6 at s6 ⊢
  refine ay (aJ (D3 (fj (II (hu4 hr)) (bN (pv 0) T.aY T.KQ (Eg T) hr.m (T.DM.binds (by walk_at "1")) .nil aF) (dS (cK hr) (pv 1) az (λ_ _=>rfl)) (aI _)) (yK (fj (Iv (Nat.lt_of_succ_lt (cK hr))) (bN (bN (pv 0) T.aY T.Ja (Dn T) hr.m (T.Dc.binds (by walk_at "1")) .nil aF) T.aQ T.tS (nE T) hr.m (T.qX.binds (by walk_at "1")) .nil aF) (dS (cK hr) (pv 1) az (λ_ _=>rfl)) (aI _))))) ⟨_,rfl,x,dx,_,rfl,s6 _ _ hx,rfl,x,dx,tt,d,ld,lu,sp,rfl,s6 _ _ hx,hd.same s6,nd,by lia,λd2 H7 h7 f7 s7=>⟨_,rfl,kd,_,rfl,.inl ⟨_,Sum.inr "spots",.inl (s7 _ _ (s6 _ _ hkd)),rfl,rfl⟩,d2,ds,rfl,rfl,mL nd h7 (hds.same (s6.trans s7)),_,rfl,By ⟨_,rfl,x,dx,_,rfl,s7 _ _ (s6 _ _ hx),rfl,x,dx,tt,d,ld,lu,rfl,s7 _ _ (s6 _ _ hx),tt,dt,_,rfl,(I.same (s6.trans s7)).ob,rfl,tt,dt,a,lg,gs,ms,Gs,rfl,I.same (s6.trans s7),by lia,λl8 H8 h8 f8 s8=>?_⟩⟩⟩
  rw[hrw] at h8
  have s9:=(s6.trans s7).trans s8
  refine⟨_,rfl,kd,_,rfl,.inl ⟨_,Sum.inr "rows",.inl (s9 _ _ hkd),rfl,rfl⟩,l8,lr,_,_,rfl,rfl,bg.of h8,bg.of (s9 _ _ hlr),lW _ _,?_⟩
  rw[show decide (rs.map V.str=rs.map V.str)=true by simp]
  exact q _ s9
theorem ko{H:Hp}{l b:Addr}{o:HO}{rs:List Str}(hl:H l=some (.lst (rs.map V.str)))(hb:H b=some o)(h:o≠.lst (rs.map V.str)){R:Addr->Prop}(hR:∀c,R c->c=l):hid R H b=some o :=
 bf hb λy=>cY hb hl h (hR b y)
theorem zj{ps:List Addr}{rs:List Str}(h:rs≠[]):HO.lst (ps.map V.ref)≠.lst (rs.map V.str):=λe=>by
 cases rs with
 |nil=>exact h rfl
 |cons r rs=>
  cases ps with
  |nil=>cases e
  |cons p ps=>cases e
theorem IsRules.ko{H:Hp}{l a:Addr}{ms:List aD}{rs:List Str}(h:IsRules t H a ms)(hl:H l=some (.lst (rs.map V.str)))(hr:rs≠[]):IsRules t (hid (λc=>c=l) H) a ms:=by
 obtain⟨d1,lm,as,ls,h1,h2,h3⟩:=h
 have hR:∀c,(λc=>c=l) c->c=l:=λc z=>z
 refine⟨d1,lm,as,ls,K62.ko hl h1 (by intro z;cases z) hR,K62.ko hl h2 (zj hr) hR,h3.la,h3.ll,h3.nd,λi a l m e1 e2 e3=>?_⟩
 obtain⟨d2,qs,k1,k2,k3⟩:=h3.ob i a l m e1 e2 e3
 refine⟨d2,qs,K62.ko hl k1 (by intro z;cases z) hR,K62.ko hl k2 (zj hr) hR,k3.mono λr R hq=>?_⟩
 obtain⟨d3,p,r1,d4,r2⟩:=hq
 exact⟨d3,p,K62.ko hl r1 (by intro z;cases z) hR,d4,K62.ko hl r2 (by intro z;cases z) hR⟩
theorem bg.only{H G:Hp}{a:Addr}{xs:List V}(h:bg K H a xs)(f:∀o,H a=some o->(∃ys,o=.lst ys∨∃u,o=.jy u (.lst ys))->G a=some o):bg K G a xs:=by
 rcases h with (h|⟨o,h⟩)|h
 ·exact .inl (.inl (f _ h ⟨_,.inl rfl⟩))
 ·exact .inl (.inr ⟨o,f _ h ⟨_,.inr ⟨_,rfl⟩⟩⟩)
 ·exact .inr h
theorem kk0 {a b:V}:iP [] [((Sum.inr (Str.ofString "rows"):Key),a),(Sum.inr (Str.ofString "spots"),b)]=[(Sum.inr (Str.ofString "rows"),a),(Sum.inr (Str.ofString "spots"),b)]:=rfl
noncomputable def zy(K:PySem.W.Frag):Sp:=λvs H Q _=>∃(a:Addr) (ns:List Int),vs=[.ref a]/\bg K H a (ns.map V.int)/\ns.length<=63/\∀H',Q (.bl true) H'
theorem MI {f:Addr} {fd:FuncData} (F:dh K "law" "law" (top 74) f fd) (T:Txt K mg t):bD P w K mg base dw 12 f fd ["_law_script"] (zy K):=by
 refine F.m n8 λvs H Q E h=>?_
 ·obtain⟨sc,ns,rfl,hS,hl,q⟩:=h
  walk_at "i"
  refine aS (λZ' H'=>∃(rs:List Str) (lr:Addr),rs≠[]/\rs.length<=4/\(∀r∈rs,lK r)/\H' lr=some (.lst (rs.map V.str))/\aj H H'/\Z'=[some (.ref sc),some (.ref lr),none,none,none,none]) (@ue _ 1 _ (av (top 74)) _ ["_law_script","_law_rows","_law_handed","_law_scribe","_law_kept","_law_k"] _ _ ("_law_k") _ _ _ _ [("_law_script",0)] _ _ n8.nd rfl (Or.inl rfl) (by walk_at "ck") (@iI _ _ _ _ _ _ rfl T.kW (aa (@aM _ _ _ _ _ _ _ _ bO aq (@aW _ _ _ _ _ _ _ _ _ _ _ _ _ _ _ _ (iA T) hr.m rfl T.iy T.dZ.kp (T.dZ.binds (by walk_at "3")) .nil aF (aa (pv 0) (aa aq (aa aq ai (by left)) (by left)) (by left)) (by left) (by left) (by left))) ai (by left)) (by left)) (λ_ _ _ _=>by exact(@aW _ _ _ _ _ _ _ _ _ _ _ _ _ _ _ _ (Fq T) hr.m rfl T.DW T.wA.kp (T.wA.binds (by walk_at "2")) .nil aF (aa (pv 0) (aa (@aM _ _ _ _ _ _ _ _ bO aq (@aM _ _ _ _ _ _ _ _ kr aq (pv 1))) ai (by left)) (by left)) (by left) (by left) (by left))) (by left) (by left) (by left) (by left) (by left) (by left)) ?_ ?_
  ·refine⟨_,rfl,sc,ns,_,_,rfl,hS,(by decide),(by decide),(by decide),(by decide),hl,λd H1 h0 h1 s1=>⟨_,_,rfl,rfl,1+d,rfl,by lia,by lia,jN (n:=(1+d).toNat) (λi ys H'=>∃rs:List Str,ys=rs.map V.str/\rs.length=i/\(∀r∈rs,lK r)/\aj H H') ⟨[],rfl,rfl,(λc h=>by cases h),s1⟩ (dQ (by lia)) ?_ ?_⟩⟩
   ·rintro i ys H2 hi hyl ⟨rs,rfl,hcl,hcs,s2⟩
    refine⟨_,rfl,_,rfl,_,_,rfl,rfl,.inl ⟨by decide,by decide⟩,_,_,rfl,rfl,sc,ns,_,rfl,hS.same s2,hl,(by lia),(by lia),λz H3 hz s3=>cP hi hyl ⟨rs++[z],by rw[List.map_append];rfl,by rw[List.length_append,hcl];rfl,λy hy=>?_,s2.trans s3⟩⟩
    rcases List.mem_append.mp hy with y'|y'
    ·exact hcs y y'
    ·rw[List.mem_singleton.mp y'];exact hz
   ·rintro ys H2 hyl ⟨rs,rfl,hcl,hcs,s2⟩ D hD
    exact⟨rs,D,λz=>by rw[z] at hcl;simp at hcl;lia,by lia,hcs,af,s2.to hD,rfl⟩
  rintro Z' H1 ⟨rs,lr,hne,hr4,hrs,hlr,s1,rfl⟩
  have sgr:iO rs:=λr hr=>(hrs r hr).ch
  have tl:tot rs<=24:=by
   have:∀l:List Str,(∀r∈l,lK r)->tot l<=6*l.length:=λl=>by
    induction l with
    |nil=>intro _;exact Nat.le_refl _
    |cons a l ih=>
     intro h
     have h1:=(h a (by simp)).le
     have h2:=ih (λr hr=>h r (by simp[hr]))
     rw[j7,List.length_cons]
     lia
   have:=this rs hrs
   lia
  refine ao (cS 2 n8 (cJ iF (by rfl) T.jI (by decide +kernel) (aa (pv 1) ai))) ⟨_,rfl,lr,_,rfl,.inl (bg.of hlr),λlh gh=>?_⟩
  have hlh:upd H1 lh (.lst (rs.map V.str)) lh=some (.lst (rs.map V.str)):=af
  have s2:aj H1 (upd H1 lh (.lst (rs.map V.str))):=aj.upd gh
  have nlh:lr≠lh:=j0 hlr gh
  generalize upd H1 lh (.lst (rs.map V.str))=H2 at hlh s2
  have s02:=s1.trans s2
  refine ao (cS 3 n8 (dI T.AH (MU T) hr.m rfl T.xP (T.LY.binds (by walk_at "3")) .nil aF (aa (aW (OA T) hr.m rfl T.P4 T.BU.kp (T.BU.binds (by walk_at "1")) .nil aF (aa (aW (Nr T) hr.m rfl T.Oc T.Ge.kp (T.Ge.binds (by walk_at "1")) .nil aF (aa (aW (N9 T) hr.m rfl T.PZ T.Fb.kp (T.Fb.binds (by walk_at "1")) .nil aF (aa (pv 0) ai)) ai)) ai)) (aa (pv 2) ai)))) ⟨_,rfl,sc,ns,rfl,hS.same s02,hl,λw c lm H3 O hM s3=>⟨lm,make w c,rfl,hM,ig w O,λH4 s4=>⟨itemsOf (make w c),rfl,(ig w O).items,(ig w O).Cv,λr H5 hR s5=>⟨_,rfl,λx dx nx ndx ne=>?_⟩⟩⟩⟩
  rw[xQ] at hR
  obtain⟨Gs,hC⟩:=nB (w:=w) (n:=0) O (by lia) sgr (by lia) (by lia)
  have s25:=(s3.trans s4).trans s5
  have hlh5:=s25 _ _ hlh
  have hlr5:=s25 _ _ (s2 _ _ hlr)
  have s6:aj H5 (upd (upd H5 dx (.own x)) x (.ins t.aG dx [])):=bZ nx ndx
  have hR2:IsRules t (hid (λc=>c=lh∨c=x) (upd (upd H5 dx (.own x)) x (.ins t.aG dx []))) r (make w c):=(hR.ko hlh5 hne).same (ux s6 nx)
  refine⟨x,dx,r,lh,(λc=>c=lh),make w c,rs,Gs,rfl,af,(λb z=>by rw[show b=lh from z];exact⟨_,s6 _ _ hlh5⟩),hR2,(ig w O).good,sL w c,s6 _ _ hlh5,by lia,hC,λtt dt a lg gs d ld lu H6 I6 hx6 hd6 hld6 hlu6 fld a6=>⟨rfl,?_⟩⟩
  have s56:aj H5 H6:=λb o hb=>a6 _ _ (s6 _ _ hb) (j0 hb nx)
  have fld5:H5 ld=none:=none_of s6 fld
  have hlh6:=s56 _ _ hlh5
  have hlr6:=s56 _ _ hlr5
  have s06:=(s02.trans s25).trans s56
  refine ao (bx (dG PySem.F.plainAttrs_list PySem.F.slot_list_append PySem.F.type_list_append c8 (pv 2) (aa az ai))) ⟨_,rfl,.inl ⟨rfl,_,bg.of hlh6⟩,lh,_,_,rfl,rfl,hlh6,dQ (by rw[List.length_map];lia),?_⟩
  have k7:∀b o,H6 b=some o->b≠lh->upd H6 lh (.lst (rs.map V.str++[.str "b"])) b=some o:=λb o hb nb=>by rw[ak nb];exact hb
  have e7:hid (λc=>(c=lh∨c=x)∨c=ld) (upd H6 lh (.lst (rs.map V.str++[.str "b"])))=hid (λc=>(c=lh∨c=x)∨c=ld) H6:=jG (.inl (.inl rfl))
  have I7:b8 t (hid (λc=>(c=lh∨c=x)∨c=ld) (upd H6 lh (.lst (rs.map V.str++[.str "b"])))) tt dt a lg gs (make w c) Gs:=by rw[e7];exact I6
  have hd7:DP (hid (λc=>(c=lh∨c=x)∨c=ld) (upd H6 lh (.lst (rs.map V.str++[.str "b"])))) d []:=by rw[e7];exact hd6
  generalize upd H6 lh (.lst (rs.map V.str++[.str "b"]))=H7 at k7 I7 hd7 ⊢
  clear e7
  refine ao (cS 4 n8 (HJ (vv az (pv 1) (vv az m5 Hf)) rfl rfl (by simp) (by decide))) (λkd gk=>⟨_,rfl,λds gd=>⟨?_,[(Sum.inr (Str.ofString "rows"),.ref lr),(Sum.inr (Str.ofString "spots"),.ref ds)],rfl,(by show 2<=15;decide),?_⟩⟩)
  ·exact aj.upd gd _ _ af
  rw[kk0]
  have nkd:kd≠ds:=λy=>by subst y;rw[af] at gd;cases gd
  have gd7:H7 ds=none:=by rw[ak (Ne.symm nkd)] at gd;exact gd
  have s8:aj H7 (upd (upd (upd H7 kd (.dK [])) ds (.dK [])) kd (.dK [(Sum.inr (Str.ofString "rows"),.ref lr),(Sum.inr (Str.ofString "spots"),.ref ds)])):=λb o hb=>by
   rw[ak (j0 hb gk),ak (j0 hb gd7),ak (j0 hb gk)]
   exact hb
  have hkd8:upd (upd (upd H7 kd (.dK [])) ds (.dK [])) kd (.dK [(Sum.inr (Str.ofString "rows"),.ref lr),(Sum.inr (Str.ofString "spots"),.ref ds)]) kd=some (.dK [(Sum.inr (Str.ofString "rows"),.ref lr),(Sum.inr (Str.ofString "spots"),.ref ds)]):=af
  have hds8:upd (upd (upd H7 kd (.dK [])) ds (.dK [])) kd (.dK [(Sum.inr (Str.ofString "rows"),.ref lr),(Sum.inr (Str.ofString "spots"),.ref ds)]) ds=some (.dK []):=by rw[ak (Ne.symm nkd),af]
  generalize upd (upd (upd H7 kd (.dK [])) ds (.dK [])) kd (.dK [(Sum.inr (Str.ofString "rows"),.ref lr),(Sum.inr (Str.ofString "spots"),.ref ds)])=H8 at s8 hkd8 hds8 ⊢
  have nxl:x≠lh:=cY hx6 hlh6 (by intro y;cases y)
  have nll:ld≠lh:=λy=>by subst y;rw[hlh5] at fld5;cases fld5
  have hx8:=s8 _ _ (k7 _ _ hx6 nxl)
  have hld8:=s8 _ _ (k7 _ _ hld6 nll)
  have hlr8:=s8 _ _ (k7 _ _ hlr6 nlh)
  have sS:aj (hid (λc=>(c=lh∨c=x)∨c=ld) H7) (hid (SS x ld kd ds) H8):=λb o h=>by
   have h1:=bY h
   have h2:=aB _ _ h
   refine bf (s8 _ _ h2) ?_
   rintro (y|y|y|y)
   ·exact h1 (.inl (.inr y))
   ·exact h1 (.inr y)
   ·exact j0 h2 gk y
   ·exact j0 h2 gd7 y
  have htt8:=aB _ _ (I7.same sS).ob
  have kz:KS K t H8 sc ns x dx tt dt a kd ld ds (make w c) rs [] 0:=by
   refine⟨bg.only hS λo e ho=>?_,⟨d,lu,hx8,hd7.same sS⟩,⟨lg,gs,Gs,I7.same sS,hC⟩,⟨lr,hkd8,hlr8,λy=>by subst y;rw[hlr5] at fld5;cases fld5⟩,⟨[],rfl,hds8,bI.nil⟩,nkd,⟨[],hld8,Nat.le_refl _⟩,List.nodup_nil,(λy hy=>by cases hy),(λy hy=>by cases hy),sgr,hne,by lia,by lia⟩
   have e1:=s1 _ _ e
   have nsl:sc≠lh:=j0 e1 gh
   have e6:=s06 _ _ e
   have e7:=k7 _ _ e6 nsl
   refine bf (s8 _ _ e7) ?_
   rintro ((y|y|y|y)|y)
   ·exact j0 ((s02.trans s25) _ _ e) nx y
   ·exact j0 ((s02.trans s25) _ _ e) fld5 y
   ·exact j0 e7 gk y
   ·exact j0 e7 gd7 y
   ·subst y
    rw[s8 _ _ e7] at htt8
    obtain⟨ys,rfl|⟨u,rfl⟩⟩:=ho
    ·cases htt8
    ·cases htt8
  clear I6 I7 hd6 hd7 hx6 hld6 hlr6 hlh6 sS s6 s56 s06 s02 s25 s1 s2 s3 s4 s5 hR hR2 a6 k7 s8 hx8 hld8 hlr8 hds8 hkd8 htt8 hM hlu6
  refine ao (bK (jb (iB (aW (Gv T) hr.m rfl T.ES T.vn.kp (T.vn.binds (by walk_at "2")) .nil aF (aa (pv 3) (aa (pv 4) ai))))) aA aA) ⟨_,rfl,_,rfl,sc,ns,x,dx,tt,dt,a,kd,ld,ds,make w c,rs,[],0,rfl,by lia,kz,λH9 s9=>⟨_,rfl,lQ (bG ?_)⟩⟩
  have kz:=kz.same s9
  have hS9:bg K H9 sc (ns.map V.int):=kz.al.same aB
  refine aS (λZ' H'=>True) (gn PassesOwn.never rfl (iI rfl T.kW (aa (aW (iA T) hr.m rfl T.iy T.dZ.kp (T.dZ.binds (by walk_at "3")) .nil aF (aa (pv 0) (aa aq (aa aq ai)))) ai)) (oO 5 n8) aA) ?_ ?_
  ·refine⟨_,rfl,sc,ns,_,_,rfl,hS9,(by decide),(by decide),(by decide),(by decide),hl,λn HA h0 h1 sA=>⟨n,rfl,by lia,by lia,ql (n:=n.toNat) (λi Z' H'=>∃ds rs sp y5,KS K t H' sc ns x dx tt dt a kd ld ds (make w c) rs sp i/\Z'=[some (.ref sc),some (.ref lr),some (.ref lh),some (.ref x),some (.ref kd),y5]) ⟨ds,rs,[],none,kz.same sA,rfl⟩ ?_ ?_⟩⟩
   ·rintro i Z' HB hi ⟨ds,rs,sp,y5,kb,rfl⟩
    refine ao (bx (aW (MS T) hr.m rfl T.MA T.CA.kp (T.CA.binds (by walk_at "4")) .nil aF (aa (pv 0) (aa (aM bO aq (aM kr aq (pv 5))) (aa (pv 3) (aa (pv 4) ai)))))) ⟨_,rfl,_,rfl,_,_,rfl,rfl,.inl ⟨by decide,by decide⟩,_,_,rfl,rfl,_,rfl,_,rfl,sc,ns,_,x,dx,tt,dt,a,kd,ld,ds,w,c,rs,sp,i,rfl,hl,by lia,by lia,O,by lia,kb,λHC ds' rs' sp' kc=>?_⟩
    refine ay (bK (jb (iB (aW (Gv T) hr.m rfl T.ES T.vn.kp (T.vn.binds (by walk_at "2")) .nil aF (aa (pv 3) (aa (pv 4) ai))))) aA aA) ⟨_,rfl,_,rfl,sc,ns,x,dx,tt,dt,a,kd,ld,ds',make w c,rs',sp',i+1,rfl,by lia,kc,λHD sD=>⟨_,rfl,lQ (bG ?_)⟩⟩
    exact⟨ds',rs',sp',_,kc.same sD,rfl⟩
   ·rintro Z' HB _
    trivial
  rintro Z' HB _
  exact ay (aJ lF) (q _)
end
theorem Q0{K:PySem.W.Frag}{h:Heap}{mg:Str->Option Value}{x:Str}{u:Value}{v:V}(X:K.In h)(G:h.Ns mainGlobals mg)(e:PySem.W.nsIn K mainGlobals x=some (some u))(r:RelV v u):∃u,mg x=some u/\RelV v u:=⟨u,PySem.W.mg_of X G e,r⟩
theorem Sk {K:PySem.W.Frag} {a:Addr} {xs:List V} {o:Obj} {its:Array Value} {n:Nat} (e:K.lookup a=some o) (h:o.cls=.type "tuple" /\ o.data=.seq its n/\its.size<=sizeLine/\Vals xs its.toList):∀H,dO K H a xs:=λ_=>.inr ⟨o,its,n,e,h⟩
theorem all_mk {l:W.OpenLaw} {w:World} {K:W.Frag} {h:Heap} {mg:Str->Option Value} {fa f:Addr} {d:FuncData} {t:fE} (X:K.In h) (G:h.Ns mainGlobals mg) (hfa:mg "law" = some (.ref fa)) (T:Txt K mg t) (a:W.nsIn K mainGlobals "law" = some (some (.ref f))) (F:dh K "law" "law" (top 74) f d)
  : ∃fd:FuncData,(∀(s:Shared) (v:Value),BindsTo s fd ⟨[v],[]⟩ [("_law_script",v)])/\∀base:Heap,K.In base->base.Ns mainGlobals mg->bD l.prog w K mg base dw 12 fa fd ["_law_script"] (zy K):=by
 have e:=hfa.symm.trans (W.mg_of X G a)
 cases e
 exact⟨d,(by obtain⟨_,_,_,_,_,_,_,_,_,e,_⟩:=F.ex;rw[e];exact λs v=>.of_eq rfl),λbase _ _=>MI F T⟩
theorem walk{l:W.OpenLaw}{q:Program}{loose:List Str}{XP:(Str->Option Value)->Heap->Prop}{YP:World->Heap->Prop}{d:DefRec}{K:Params->W.Frag}(hn:l.most=some 63)(hdf:d.params.defaults=[])
  (hY:∀(w:World) (h:Heap),YP w h->(K w.params).In h)
  (F:∀(w:World) (mg:Str->Option Value) (fa:Addr) (h:Heap),(K w.params).In h->h.Ns mainGlobals mg->mg d.name=some (.ref fa)->
   ∃fd:FuncData,(∀(s:Shared) (u:Value),BindsTo s fd ⟨[u],[]⟩ [("_law_script",u)])/\∀base:Heap,(K w.params).In base->base.Ns mainGlobals mg->bD l.prog w (K w.params) mg base dw 12 fa fd ["_law_script"] (zy (K w.params))) :
  W.WalkO q loose XP YP l.row.toRowW d [] (λf vs=>PySem.call f vs) :=
 L2.HZ (n:=63) (k:=12) (x:="_law_script") (CX:=λ_=>dw) (sp:=λw=>zy (K w.params)) hn (by decide) hdf ⟨rfl,by decide,by decide⟩ hY F (λ_ _ a ns hl _ hS=>⟨a,ns,rfl,hS,hl,λ_=>rfl⟩) λ_ _ _ _ _ z=>z
end K62
open PySem PySem.W PyProof.Rows
set_option maxRecDepth 100000 in
set_option maxHeartbeats 0 in
theorem PySem.Challenge.cw_tintrow_k62_marks_of_a_hand_holds : PySem.Challenge.rw_tintrow_k62_marks_of_a_hand.Holds := by
 w_on;o_law;k_head;(case hw=>w_witness2)
 k_fill
 refine K62.walk (l:=PySem.Challenge.rw_tintrow_k62_marks_of_a_hand) rfl rfl (λw h Y=>PySem.W.kIn_of Y) ?F
 case F=>
  intro w mg fa h KX G hmg
  apply K62.all_mk (t:=⟨_,_,_,_,_,_,_,_,_,_,_,_,_,_,_,_,_,_,_,_,_,_,_,_,_,_,_,_,_,_,_,_,_,_,_,_,_,_,_,_,_,_,_,_,_,_,_,_,_,_,_,_,_,_,_,_,_,_,_,_,_,_,_,_,_,_,_,_,_,_,_,_,_,_,_,_,_,_,_,_,_,_,_,_,_,_,_,_,_,_,_,_,_,_,_,_,_,_,_,_,_,_,_,_,_,_,_,_,_,_,_,_,_,_,_,_,_,_,_,_,_,_,_,_,_,_,_,_,_,_,_,_,_,_,_,_,_,_,_,_,_,_,_,_,_,_,_,_,_,_,_,_,_,_,_,_,_,_,_,_,_,_,_,_,_,_,_,_,_,_,_,_,_,_,_,_,_,_,_,_,_,_,_,_,_,_,_,_,_,_,_,_,_⟩) KX G hmg
  case a=>k_is
  case F=>apply L2.Ga <;> k_is
  case T=>
   constructor
   all_goals try (with_reducible refine PySem.W.mg_of KX G ?_;dsimp only;k_is)
   all_goals try (first | with_reducible apply L2.Meth.mk | with_reducible apply L2.Mk.mk | with_reducible apply L2.So.mk | with_reducible apply L2.mO.mk) <;> (try dsimp only) <;> k_is
   all_goals try (apply L2.Ga <;> (try dsimp only) <;> k_is)
   all_goals try (with_reducible refine PySem.W.mg_none_of KX G ?_;k_is)
   all_goals try (show PySem.W.findIn _ _ _=_;(try dsimp only);k_is)
   all_goals try (show PySem.W.kitOne _ _ _=_;(try dsimp only);kit_is)
   all_goals try (apply K62.Q0 KX G;k_is;exact⟨_,rfl⟩)
   all_goals try (apply K62.Sk;(dsimp only;k_is);exact⟨rfl,rfl,by show _<=sizeLine;decide,by repeat (first | exact .nil | refine .cons ⟨_,rfl⟩ ?_)⟩)
   all_goals (try dsimp only) <;> first | k_is | k_exc | kernel_rfl
